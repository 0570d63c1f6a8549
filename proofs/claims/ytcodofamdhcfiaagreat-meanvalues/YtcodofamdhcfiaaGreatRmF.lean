import Derived.Test.YtcodofamdhcfiaaGreatAb
import Derived.Test.YtcodofamdhcfiaaGreatLotP31
import Derived.Test.YtcodofamdhcfiaaGreatLotP13
import Derived.Test.YtcodofamdhcfiaaGreatLotP32
import Derived.Test.YtcodofamdhcfiaaGreatLotP6
namespace Go.Proofs.YtcodofamdhcfiaaGreat
open Go.RowKit
set_option maxRecDepth 100000
theorem in_alike {xs ys : List UInt8} {bits : Int} (hl : xs.length = ys.length) (h4 : ys.length = 4 ∨ ys.length = 16) (h0 : 0 ≤ bits) (h1 : bits ≤ 8 * (ys.length : Int)) (hm : maskV bits.toNat ys = ys) : inV xs ys bits = decide (maskV bits.toNat xs = maskV bits.toNat ys) := by
 have hn : netE xs.length bits = 0 := by
  unfold netE
  rw [hl, if_neg (by omega), if_neg (by omega)]
 have he : inE xs ys bits = 0 := by
  unfold inE
  rw [if_neg (by omega), if_pos hn, if_pos hm]
 unfold inV
 rw [he, hm]
 simp
set_option maxRecDepth 100000 in
set_option maxHeartbeats 16000000 in
theorem refaddr_any (s : Sg) (a : Option Addr) (ca : Nat) (n : Ng) (bits : Int) (w : World) (hb : Cells w a s.b) (hk : MSgOk s) (hcap : s.b.length ≤ ca) (ho : n.of = 2 ∨ n.of = 3) (h0 : 0 ≤ bits) (h1 : bits ≤ 8 * (longM n.of : Int)) (hm : maskV bits.toNat (addrG n) = addrG n) :
  Calls Tryz.prog 45 #[.agg (sgA s a ca), .agg n.cells.toArray, .int .i64 bits] w fun e w' => e = .returned (.int .i64 (withinM s n bits)) ∧ w.grownBy w' none := by
 have HB1 := box_sg14 s a ca
 have HB2 := box_ng n
 have HV : Hid _ := blk2 w (sgA s a ca) n.cells.toArray 48 52
 have HWD : Hid (∀ W, Calls Tryz.prog 44 #[.agg (sgA s a ca), .int .i64 n.of] W fun e w' => e = .returned (.bool (wordR s.v n.of)) ∧ W.grownBy w' none) := fun W => refword_any s a ca n.of W
 have HLN : Hid (∀ W, Calls Tryz.prog 46 #[.int .i64 n.of] W fun e w' => e = .returned (.int .i64 (longM n.of : Int)) ∧ w' = W) := fun W => by
  have := long12_any n.of W
  rw [show (if n.of = 3 then (16 : Int) else 4) = (longM n.of : Int) by unfold longM; rcases ho with e | e <;> rw [e] <;> rfl] at this
  exact this
 have HSS := sg_size s a ca
 have hwb : baseM s.v n.of = (s.v.pos, wordM s.v n.of) := by
  unfold baseM
  rw [if_neg (by omega), if_neg (by omega)]
 have hww := wordR_eq s.v (show 2 ≤ n.of by omega) (show n.of ≤ 13 by omega)
 have hal : (addrG n).length = longM n.of := by
  unfold addrG longM
  rcases ho with e | e <;> rw [e] <;> rfl
 have hl4 : longM n.of = 4 ∨ longM n.of = 16 := by
  unfold longM
  rcases ho with e | e <;> rw [e] <;> simp
 have HIN : Hid (∀ (W : World) (q : Nat), w.grownBy W none → VAt W (w.heap.size + 1) 52 n.cells.toArray → q + longM n.of ≤ s.b.length → ∃ ab ao, a = some ⟨ab, ao, none⟩ ∧ Calls Tryz.prog 69 #[.slice (some ⟨ab, ao + q, none⟩) (longM n.of) (ca - q), .slice (some ⟨w.heap.size + 1, 7, none⟩) (longM n.of) 16, .int .i64 bits] W fun e w' => (∃ E, e = .returned (.tuple #[.bool (alikeM s.b q (addrG n) bits), .int .i64 E])) ∧ W.grownBy w' none) := fun W q K V hq => by
  obtain ⟨ab, ao, hao, C⟩ := (hb.keptNone K).part (p := q) (n := longM n.of) hq (by omega)
  refine ⟨ab, ao, hao, ?_⟩
  have hlx : ((s.b.drop q).take (longM n.of)).length = longM n.of := by
   rw [List.length_take, List.length_drop]; omega
  have CI := refin_any (some ⟨ab, ao + q, none⟩) (ca - q) ((s.b.drop q).take (longM n.of)) (some ⟨w.heap.size + 1, 7, none⟩) 16 (addrG n) bits W C (fun e => by cases e) (by omega) (NB.adr (x := n) V) (fun e => by cases e)
  rw [hlx, hal] at CI
  refine CI.mono ?_
  rintro e w' ⟨rfl, K'⟩
  refine ⟨⟨inE ((s.b.drop q).take (longM n.of)) (addrG n) bits, ?_⟩, K'⟩
  rw [in_alike (by rw [hlx, hal]) (by rw [hal]; exact hl4) h0 (by rw [hal]; exact h1) hm]
  unfold alikeM
  rw [hal]
 have HFT : Hid ((baseM s.v n.of).2 = true → (baseM s.v n.of).1 + srcM n.of + longM n.of ≤ s.b.length ∧ (baseM s.v n.of).1 + dstM n.of + longM n.of ≤ s.b.length) := fun hb => ends_fit hk ho hb
 obtain ⟨SA, hSA⟩ : ∃ A, sgA s a ca = A := ⟨_, rfl⟩
 obtain ⟨NA, hNA⟩ : ∃ A, n.cells.toArray = A := ⟨_, rfl⟩
 have HNX : Hid (sgA s a ca = SA ∧ n.cells.toArray = NA) := ⟨hSA, hNA⟩
 rw [hSA, hNA] at HV
 rw [hSA] at HB1 HWD HSS
 rw [hNA] at HB2 HIN
 rw [hSA, hNA]
 clear hSA hNA hb hm
 obtain ⟨R, hR⟩ : ∃ R, withinM s n bits = R := ⟨_, rfl⟩
 rw [hR]
 have HR : Hid (R = if wordM s.v n.of = false then 0 else sidedM n.side (jdg (alikeM s.b (s.v.pos + srcM n.of) (addrG n) bits)) (jdg (alikeM s.b (s.v.pos + dstM n.of) (addrG n) bits))) := by
  show R = _
  rw [← hR]
  unfold withinM
  rw [hwb]
 rw [hwb] at HFT
 simp only at HFT
 rw [hww] at HWD
 have HLK : Hid (s.v.pos ≤ s.b.length ∧ s.b.length ≤ 65535 ∧ s.b.length ≤ ca) := ⟨hk.pos, hk.len, hcap⟩
 clear hR hwb hww hal hk hcap h0 h1 hl4
 go_enter Tryz.func45, Tryz.ntmps45
 go_upto_region 1 with fail
 generalize (w.alloc (.cells SA 48)).alloc (.cells NA 52) = w1 at *
 generalize w.heap.size = B at *
 clear HB1 HB2
 obtain ⟨v1, v2, K1⟩ := HV.out
 have HV1 : Hid (VAt w1 B 48 SA ∧ VAt w1 (B + 1) 52 NA ∧ w.grownBy w1 none) := ⟨v1, v2, K1⟩
 have HC : Hid ((∀ W, VAt W B 48 SA → W.cell? ⟨B, 5, none⟩ = some (.int .i64 (s.v.pos : Int)) ∧ W.cell? ⟨B, 10, none⟩ = some (.slice a s.b.length ca)) ∧ (∀ W, VAt W (B + 1) 52 NA → W.cell? ⟨B + 1, 5, none⟩ = some (.int .i64 n.of) ∧ W.cell? ⟨B + 1, 6, none⟩ = some (.int .i64 n.side))) := by
  refine ⟨fun W h => ?_, fun W h => ?_⟩
  ·rw [← HNX.out.1] at h
   exact ⟨h.cell 5, h.cell 10⟩
  ·rw [← HNX.out.2] at h
   exact ⟨h.cell 5, h.cell 6⟩
 clear HV HNX v1 v2 K1
 have n5 := (HC.out.2 w1 HV1.out.2.1).1
 go_wp2_with (refine wpList_load_row rfl 48 (.tmp 3) rfl B rfl 48 SA (0, 0) _ HV1.out.1 Tryz.underlying48 rfl HSS ?_)
 refine (HWD.out w1).mono ?_
 rintro e w2 ⟨rfl, K2⟩
 have HV2 : Hid (VAt w2 B 48 SA ∧ VAt w2 (B + 1) 52 NA ∧ w.grownBy w2 none) := ⟨HV1.out.1.kept K2, HV1.out.2.1.kept K2, grown_trans HV1.out.2.2 K2⟩
 clear HV1 K2 HWD n5 w1
 cases hw : wordM s.v n.of with
 | false =>
  have HF : Hid (R = 0) := by
   show R = 0
   rw [HR.out, hw, if_pos rfl]
  clear HR hw HFT HIN HLN
  go_wp2
  go_ret
  exact ⟨by rw [HF.out]; rfl, HV2.out.2.2⟩
 | true =>
 obtain ⟨f1, f2⟩ := HFT.out hw
 have HF : Hid (R = sidedM n.side (jdg (alikeM s.b (s.v.pos + srcM n.of) (addrG n) bits)) (jdg (alikeM s.b (s.v.pos + dstM n.of) (addrG n) bits))) := by
  show R = _
  rw [HR.out, hw, if_neg (by simp)]
 clear HR hw HFT
 have n5 := (HC.out.2 w2 HV2.out.2.1).1
 have s5 := (HC.out.1 w2 HV2.out.1).1
 go_wp2_with fail
 refine (HLN.out w2).mono ?_
 rintro e w3 ⟨rfl, hw3⟩
 subst hw3
 obtain ⟨lk1, lk2, lk3⟩ := HLK.out
 obtain ⟨ab, ao, hao, -⟩ := HIN.out w3 (s.v.pos + srcM n.of) HV2.out.2.2 HV2.out.2.1 f1
 subst hao
 have HI : Hid (∀ (W : World) (q : Nat), w.grownBy W none → VAt W (B + 1) 52 NA → q + longM n.of ≤ s.b.length → Calls Tryz.prog 69 #[.slice (some ⟨ab, ao + q, none⟩) (longM n.of) (ca - q), .slice (some ⟨B + 1, 7, none⟩) (longM n.of) 16, .int .i64 bits] W fun e w' => (∃ E, e = .returned (.tuple #[.bool (alikeM s.b q (addrG n) bits), .int .i64 E])) ∧ W.grownBy w' none) := fun W q h1 h2 h3 => by
  obtain ⟨ab', ao', hh, C⟩ := HIN.out W q h1 h2 h3
  cases hh
  exact C
 clear HIN HLN
 have key : ∀ (x y L : Nat), srcM n.of = x → dstM n.of = y → longM n.of = L → Hid (srcM n.of = x ∧ dstM n.of = y ∧ longM n.of = L) := fun _ _ _ h1 h2 h3 => ⟨h1, h2, h3⟩
 have HKEY : Hid _ := key
 clear key
 rcases ho with ho | ho
 ·rw [ho] at n5
  have e1 : srcM n.of = 12 := by unfold srcM; rw [ho]; rfl
  have e2 : dstM n.of = 16 := by unfold dstM; rw [ho]; rfl
  have e3 : longM n.of = 4 := by unfold longM; rw [ho]; rfl
  rw [e1, e2] at HF
  rw [e1, e3] at f1
  rw [e2, e3] at f2
  rw [e3] at HI
  rw [e3]
  have HNO : Hid (n.of = 2) := ho
  clear e1 e2 e3 ho HKEY
  go_upto_region 4 with fail
  go_quiet (fail)
  go_upto_region 8 with fail
  obtain ⟨w4, hw4, K4⟩ : ∃ W, w3.drewN nq = W ∧ w3.grownBy W none := ⟨_, rfl, grown_drewN w3 nq none⟩
  rw [hw4]
  have HV4 : Hid (VAt w4.drew B 48 SA ∧ VAt w4.drew (B + 1) 52 NA ∧ w.grownBy w4.drew none) := by
   have K5 := grown_trans K4 (grown_drewN w4 1 none)
   exact ⟨HV2.out.1.kept K5, HV2.out.2.1.kept K5, grown_trans HV2.out.2.2 K5⟩
  clear hw4 K4 n5 s5 HV2
  obtain ⟨P, hP⟩ : ∃ P, s.v.pos + 12 = P := ⟨_, rfl⟩
  obtain ⟨D, hD⟩ : ∃ D, s.v.pos + 16 = D := ⟨_, rfl⟩
  rw [hP] at HF f1
  rw [hD] at HF f2
  have hP2 : (s.v.pos : Int) + 12 = (P : Int) := by omega
  have hD2 : (s.v.pos : Int) + 16 = (D : Int) := by omega
  try rw [hP2]
  try rw [hD2]
  clear hP hD hP2 hD2
  obtain ⟨al, hal⟩ : ∃ x, alikeM s.b P (addrG n) bits = x := ⟨_, rfl⟩
  obtain ⟨bl, hbl⟩ : ∃ x, alikeM s.b D (addrG n) bits = x := ⟨_, rfl⟩
  have CP := fun W h1 h2 => HI.out W P h1 h2 f1
  have CD := fun W h1 h2 => HI.out W D h1 h2 f2
  rw [hal] at HF
  simp only [hal] at CP
  rw [hbl] at HF
  simp only [hbl] at CD
  have HCP : Hid _ := CP
  have HCD : Hid _ := CD
  have HSL := fun W => slice_arr (B + 1) 4 (by omega) W
  clear CP CD hal hbl HI
  have hsx : ((P : Nat) : Int) + 4 ≤ (ca : Int) := by omega
  have hsy : (P : Int) ≤ (P : Int) + 4 := by omega
  have hwr : IntKind.i64.wrap ((P : Int) + 4) = (P : Int) + 4 := by rw [IntKind.wrap_i64]; omega
  have h6a : ca = P → P = 0 := by omega
  have h6b : ((P : Int) + 4).toNat - P = 4 := by omega
  refine wp_region_held_drew (S := fun W => VAt W B 48 SA ∧ VAt W (B + 1) 52 NA ∧ w.grownBy W none) (by kernel_rfl) (HV4.out) (fun hHeld => ?_)
  refine wpT (i := 0) (v := .pointer (some ⟨B, 10, none⟩)) rfl (Or.inl ⟨by rfl, fun W hW => ?_⟩) hHeld ?_
  ·clear hW
   go_simp
  try simp only [Act.put, a0, a1, a3, a4, a5]
  refine wpT (i := 1) (v := .slice (some ⟨ab, ao, none⟩) s.b.length ca) rfl (Or.inl ⟨by rfl, fun W hW => ?_⟩) hHeld ?_
  ·have c10 := (HC.out.1 W hW.1).2
   clear hW
   go_simp
  try simp only [Act.put, a0, a1, a2, a3, a4, a5]
  refine wpT (i := 2) (v := .int .i64 (P : Int)) rfl (Or.inl ⟨by rfl, fun W hW => ?_⟩) hHeld ?_
  ·clear hW
   go_simp
  try simp only [Act.put, a0, a1, a2, a3, a4, a5]
  refine wpT (i := 3) (v := .int .i64 (P : Int)) rfl (Or.inl ⟨by rfl, fun W hW => ?_⟩) hHeld ?_
  ·clear hW
   go_simp
  try simp only [Act.put, a0, a1, a2, a3, a4, a5]
  refine wpT (i := 4) (v := .int .i64 4) rfl (Or.inl ⟨by rfl, fun W hW => ?_⟩) hHeld ?_
  ·clear hW
   go_simp
  try simp only [Act.put, a0, a1, a2, a3, a4, a5]
  refine wpT (i := 5) (v := .int .i64 ((P : Int) + 4)) rfl (Or.inl ⟨by rfl, fun W hW => ?_⟩) hHeld ?_
  ·clear hW
   go_simp
  try simp only [Act.put, a0, a1, a2, a3, a4, a5]
  refine wpT (i := 6) (v := .slice (some ⟨ab, ao + P, none⟩) 4 (ca - P)) rfl (Or.inl ⟨by rfl, fun W hW => ?_⟩) hHeld ?_
  ·clear hW
   go_simp
   exact h6a
  try simp only [Act.put, a0, a1, a2, a3, a4, a5]
  refine wpT (i := 7) (v := .pointer (some ⟨B + 1, 7, none⟩)) rfl (Or.inl ⟨by rfl, fun W hW => ?_⟩) hHeld ?_
  ·clear hW
   go_simp
  try simp only [Act.put, a0, a1, a2, a3, a4, a5]
  refine wpT (i := 8) (v := .int .i64 4) rfl (Or.inl ⟨by rfl, fun W hW => ?_⟩) hHeld ?_
  ·clear hW
   go_simp
  try simp only [Act.put, a0, a1, a2, a3, a4, a5]
  refine wpT (i := 9) (v := .slice (some ⟨B + 1, 7, none⟩) 4 16) rfl (Or.inl ⟨by rfl, fun W hW => ?_⟩) hHeld ?_
  ·clear hW
   go_simp
  try simp only [Act.put, a0, a1, a2, a3, a4, a5]
  refine wpT (i := 10) (v := .int .i64 bits) rfl (Or.inl ⟨by rfl, fun W hW => ?_⟩) hHeld ?_
  ·clear hW
   go_simp
  try simp only [Act.put, a0, a1, a2, a3, a4, a5]
  refine wpR (rs := [11]) (AllReadyH.cons rfl (fun K hK => ?_) AllReadyH.nil)
  go_simp
  refine (HCP.out _ hHeld.2.2 hHeld.2.1).mono ?_
  rintro e wk ⟨⟨EE, rfl⟩, Kk⟩
  go_wp2_with fail
  refine hK.out _ _ (⟨hHeld.1.kept Kk, hHeld.2.1.kept Kk, grown_trans hHeld.2.2 Kk⟩) (fun hHeld => ?_)
  clear hK K
  try simp only [Act.put, a0, a1, a2, a3, a4, a5]
  refine wpT (i := 12) (v := .tuple #[.bool al, .int .i64 EE]) rfl (Or.inl ⟨by rfl, fun W hW => ?_⟩) hHeld ?_
  ·clear hW
   go_simp
  try simp only [Act.put, a0, a1, a2, a3, a4, a5]
  refine wpT (i := 13) (v := .bool al) rfl (Or.inl ⟨by rfl, fun W hW => ?_⟩) hHeld ?_
  ·clear hW
   go_simp
  try simp only [Act.put, a0, a1, a2, a3, a4, a5]
  refine wpT (i := 14) (v := .int .i64 EE) rfl (Or.inl ⟨by rfl, fun W hW => ?_⟩) hHeld ?_
  ·clear hW
   go_simp
  try simp only [Act.put, a0, a1, a2, a3, a4, a5]
  refine wpT (i := 15) (v := .bool al) rfl (Or.inl ⟨by rfl, fun W hW => ?_⟩) hHeld ?_
  ·clear hW
   go_simp
  try simp only [Act.put, a0, a1, a2, a3, a4, a5]
  refine wpT (i := 16) (v := .int .i64 EE) rfl (Or.inl ⟨by rfl, fun W hW => ?_⟩) hHeld ?_
  ·clear hW
   go_simp
  try simp only [Act.put, a0, a1, a2, a3, a4, a5]
  refine wpAnyH_done (by kernel_rfl) ?_ _
  have HV5 : Hid (VAt _ B 48 SA ∧ VAt _ (B + 1) 52 NA ∧ w.grownBy _ none) := hHeld
  clear hHeld HV4 hsx hsy hwr h6a h6b Kk
  go_upto_region 9 with fail
  have HV6 : Hid (VAt wk.drew B 48 SA ∧ VAt wk.drew (B + 1) 52 NA ∧ w.grownBy wk.drew none) := by
   have K5 := grown_drewN wk 1 none
   exact ⟨HV5.out.1.kept K5, HV5.out.2.1.kept K5, grown_trans HV5.out.2.2 K5⟩
  obtain ⟨w6, hw6⟩ : ∃ W, wk = W := ⟨_, rfl⟩
  rw [hw6] at HV6 ⊢
  clear hw6 HV5 wk
  have hsx : ((D : Nat) : Int) + 4 ≤ (ca : Int) := by omega
  have hsy : (D : Int) ≤ (D : Int) + 4 := by omega
  have hwr : IntKind.i64.wrap ((D : Int) + 4) = (D : Int) + 4 := by rw [IntKind.wrap_i64]; omega
  have h6a : ca = D → D = 0 := by omega
  have h6b : ((D : Int) + 4).toNat - D = 4 := by omega
  refine wp_region_held_drew (S := fun W => VAt W B 48 SA ∧ VAt W (B + 1) 52 NA ∧ w.grownBy W none) (by kernel_rfl) (HV6.out) (fun hHeld => ?_)
  refine wpT (i := 0) (v := .pointer (some ⟨B, 10, none⟩)) rfl (Or.inl ⟨by rfl, fun W hW => ?_⟩) hHeld ?_
  ·clear hW
   go_simp
  try simp only [Act.put, a0, a1, a3, a4, a5]
  refine wpT (i := 1) (v := .slice (some ⟨ab, ao, none⟩) s.b.length ca) rfl (Or.inl ⟨by rfl, fun W hW => ?_⟩) hHeld ?_
  ·have c10 := (HC.out.1 W hW.1).2
   clear hW
   go_simp
  try simp only [Act.put, a0, a1, a2, a3, a4, a5]
  refine wpT (i := 2) (v := .int .i64 (D : Int)) rfl (Or.inl ⟨by rfl, fun W hW => ?_⟩) hHeld ?_
  ·clear hW
   go_simp
  try simp only [Act.put, a0, a1, a2, a3, a4, a5]
  refine wpT (i := 3) (v := .int .i64 (D : Int)) rfl (Or.inl ⟨by rfl, fun W hW => ?_⟩) hHeld ?_
  ·clear hW
   go_simp
  try simp only [Act.put, a0, a1, a2, a3, a4, a5]
  refine wpT (i := 4) (v := .int .i64 4) rfl (Or.inl ⟨by rfl, fun W hW => ?_⟩) hHeld ?_
  ·clear hW
   go_simp
  try simp only [Act.put, a0, a1, a2, a3, a4, a5]
  refine wpT (i := 5) (v := .int .i64 ((D : Int) + 4)) rfl (Or.inl ⟨by rfl, fun W hW => ?_⟩) hHeld ?_
  ·clear hW
   go_simp
  try simp only [Act.put, a0, a1, a2, a3, a4, a5]
  refine wpT (i := 6) (v := .slice (some ⟨ab, ao + D, none⟩) 4 (ca - D)) rfl (Or.inl ⟨by rfl, fun W hW => ?_⟩) hHeld ?_
  ·clear hW
   go_simp
   exact h6a
  try simp only [Act.put, a0, a1, a2, a3, a4, a5]
  refine wpT (i := 7) (v := .pointer (some ⟨B + 1, 7, none⟩)) rfl (Or.inl ⟨by rfl, fun W hW => ?_⟩) hHeld ?_
  ·clear hW
   go_simp
  try simp only [Act.put, a0, a1, a2, a3, a4, a5]
  refine wpT (i := 8) (v := .int .i64 4) rfl (Or.inl ⟨by rfl, fun W hW => ?_⟩) hHeld ?_
  ·clear hW
   go_simp
  try simp only [Act.put, a0, a1, a2, a3, a4, a5]
  refine wpT (i := 9) (v := .slice (some ⟨B + 1, 7, none⟩) 4 16) rfl (Or.inl ⟨by rfl, fun W hW => ?_⟩) hHeld ?_
  ·clear hW
   go_simp
  try simp only [Act.put, a0, a1, a2, a3, a4, a5]
  refine wpT (i := 10) (v := .int .i64 bits) rfl (Or.inl ⟨by rfl, fun W hW => ?_⟩) hHeld ?_
  ·clear hW
   go_simp
  try simp only [Act.put, a0, a1, a2, a3, a4, a5]
  refine wpR (rs := [11]) (AllReadyH.cons rfl (fun K hK => ?_) AllReadyH.nil)
  go_simp
  refine (HCD.out _ hHeld.2.2 hHeld.2.1).mono ?_
  rintro e wk ⟨⟨EE, rfl⟩, Kk⟩
  go_wp2_with fail
  refine hK.out _ _ (⟨hHeld.1.kept Kk, hHeld.2.1.kept Kk, grown_trans hHeld.2.2 Kk⟩) (fun hHeld => ?_)
  clear hK K
  try simp only [Act.put, a0, a1, a2, a3, a4, a5]
  refine wpT (i := 12) (v := .tuple #[.bool bl, .int .i64 EE]) rfl (Or.inl ⟨by rfl, fun W hW => ?_⟩) hHeld ?_
  ·clear hW
   go_simp
  try simp only [Act.put, a0, a1, a2, a3, a4, a5]
  refine wpT (i := 13) (v := .bool bl) rfl (Or.inl ⟨by rfl, fun W hW => ?_⟩) hHeld ?_
  ·clear hW
   go_simp
  try simp only [Act.put, a0, a1, a2, a3, a4, a5]
  refine wpT (i := 14) (v := .int .i64 EE) rfl (Or.inl ⟨by rfl, fun W hW => ?_⟩) hHeld ?_
  ·clear hW
   go_simp
  try simp only [Act.put, a0, a1, a2, a3, a4, a5]
  refine wpT (i := 15) (v := .bool bl) rfl (Or.inl ⟨by rfl, fun W hW => ?_⟩) hHeld ?_
  ·clear hW
   go_simp
  try simp only [Act.put, a0, a1, a2, a3, a4, a5]
  refine wpT (i := 16) (v := .int .i64 EE) rfl (Or.inl ⟨by rfl, fun W hW => ?_⟩) hHeld ?_
  ·clear hW
   go_simp
  try simp only [Act.put, a0, a1, a2, a3, a4, a5]
  refine wpAnyH_done (by kernel_rfl) ?_ _
  have HV7 : Hid (VAt _ B 48 SA ∧ VAt _ (B + 1) 52 NA ∧ w.grownBy _ none) := hHeld
  clear hHeld HV6 hsx hsy hwr h6a h6b HSL Kk
  have n6 := (HC.out.2 _ HV7.out.2.1).2
  have HG : Hid (w.grownBy _ none) := HV7.out.2.2
  clear HV7 HC
  generalize n.side = sd at *
  by_cases h1 : sd = 1
  ·subst h1
   cases al with
   | true =>
    cases bl with
    | true =>
     go_wp2_with fail
     refine (refjdg_any _ _).mono ?_
     rintro e w9 ⟨rfl, hw9⟩
     subst hw9
     go_wp2
     go_ret
     exact ⟨by rw [HF.out]; rfl, HG.out⟩
    | false =>
     go_wp2_with fail
     refine (refjdg_any _ _).mono ?_
     rintro e w9 ⟨rfl, hw9⟩
     subst hw9
     go_wp2
     go_ret
     exact ⟨by rw [HF.out]; rfl, HG.out⟩
   | false =>
    cases bl with
    | true =>
     go_wp2_with fail
     refine (refjdg_any _ _).mono ?_
     rintro e w9 ⟨rfl, hw9⟩
     subst hw9
     go_wp2
     go_ret
     exact ⟨by rw [HF.out]; rfl, HG.out⟩
    | false =>
     go_wp2_with fail
     refine (refjdg_any _ _).mono ?_
     rintro e w9 ⟨rfl, hw9⟩
     subst hw9
     go_wp2
     go_ret
     exact ⟨by rw [HF.out]; rfl, HG.out⟩
  by_cases h2 : sd = 2
  ·subst h2
   cases al with
   | true =>
    cases bl with
    | true =>
     go_wp2_with fail
     refine (refjdg_any _ _).mono ?_
     rintro e w9 ⟨rfl, hw9⟩
     subst hw9
     go_wp2
     go_ret
     exact ⟨by rw [HF.out]; rfl, HG.out⟩
    | false =>
     go_wp2_with fail
     refine (refjdg_any _ _).mono ?_
     rintro e w9 ⟨rfl, hw9⟩
     subst hw9
     go_wp2
     go_ret
     exact ⟨by rw [HF.out]; rfl, HG.out⟩
   | false =>
    cases bl with
    | true =>
     go_wp2_with fail
     refine (refjdg_any _ _).mono ?_
     rintro e w9 ⟨rfl, hw9⟩
     subst hw9
     go_wp2
     go_ret
     exact ⟨by rw [HF.out]; rfl, HG.out⟩
    | false =>
     go_wp2_with fail
     refine (refjdg_any _ _).mono ?_
     rintro e w9 ⟨rfl, hw9⟩
     subst hw9
     go_wp2
     go_ret
     exact ⟨by rw [HF.out]; rfl, HG.out⟩
  have b1 : (sd != 1) = true := by rw [bne_iff_ne]; exact h1
  have b2 : (sd != 2) = true := by rw [bne_iff_ne]; exact h2
  have HF2 : Hid (R = orM (jdg al) (jdg bl)) := by
   show R = _
   rw [HF.out]
   unfold sidedM
   rw [if_neg h1, if_neg h2]
  clear HF h1 h2
  cases al with
  | true =>
   cases bl with
   | true =>
    go_wp2_with fail
    refine (refjdg_any _ _).mono ?_
    rintro e w9 ⟨rfl, hw9⟩
    subst hw9
    go_wp2
    go_ret
    exact ⟨by rw [HF2.out]; rfl, HG.out⟩
   | false =>
    go_wp2_with fail
    refine (refjdg_any _ _).mono ?_
    rintro e w9 ⟨rfl, hw9⟩
    subst hw9
    go_wp2
    go_ret
    exact ⟨by rw [HF2.out]; rfl, HG.out⟩
  | false =>
   cases bl with
   | true =>
    go_wp2_with fail
    refine (refjdg_any _ _).mono ?_
    rintro e w9 ⟨rfl, hw9⟩
    subst hw9
    go_wp2
    go_ret
    exact ⟨by rw [HF2.out]; rfl, HG.out⟩
   | false =>
    go_wp2_with fail
    refine (refjdg_any _ _).mono ?_
    rintro e w9 ⟨rfl, hw9⟩
    subst hw9
    go_wp2
    go_ret
    exact ⟨by rw [HF2.out]; rfl, HG.out⟩
 ·rw [ho] at n5
  have e1 : srcM n.of = 8 := by unfold srcM; rw [ho]; rfl
  have e2 : dstM n.of = 24 := by unfold dstM; rw [ho]; rfl
  have e3 : longM n.of = 16 := by unfold longM; rw [ho]; rfl
  rw [e1, e2] at HF
  rw [e1, e3] at f1
  rw [e2, e3] at f2
  rw [e3] at HI
  rw [e3]
  have HNO : Hid (n.of = 3) := ho
  clear e1 e2 e3 ho HKEY
  go_upto_region 4 with fail
  go_quiet (fail)
  go_upto_region 8 with fail
  obtain ⟨w4, hw4, K4⟩ : ∃ W, w3.drewN nq = W ∧ w3.grownBy W none := ⟨_, rfl, grown_drewN w3 nq none⟩
  rw [hw4]
  have HV4 : Hid (VAt w4.drew B 48 SA ∧ VAt w4.drew (B + 1) 52 NA ∧ w.grownBy w4.drew none) := by
   have K5 := grown_trans K4 (grown_drewN w4 1 none)
   exact ⟨HV2.out.1.kept K5, HV2.out.2.1.kept K5, grown_trans HV2.out.2.2 K5⟩
  clear hw4 K4 n5 s5 HV2
  obtain ⟨P, hP⟩ : ∃ P, s.v.pos + 8 = P := ⟨_, rfl⟩
  obtain ⟨D, hD⟩ : ∃ D, s.v.pos + 24 = D := ⟨_, rfl⟩
  rw [hP] at HF f1
  rw [hD] at HF f2
  have hP2 : (s.v.pos : Int) + 8 = (P : Int) := by omega
  have hD2 : (s.v.pos : Int) + 24 = (D : Int) := by omega
  try rw [hP2]
  try rw [hD2]
  clear hP hD hP2 hD2
  obtain ⟨al, hal⟩ : ∃ x, alikeM s.b P (addrG n) bits = x := ⟨_, rfl⟩
  obtain ⟨bl, hbl⟩ : ∃ x, alikeM s.b D (addrG n) bits = x := ⟨_, rfl⟩
  have CP := fun W h1 h2 => HI.out W P h1 h2 f1
  have CD := fun W h1 h2 => HI.out W D h1 h2 f2
  rw [hal] at HF
  simp only [hal] at CP
  rw [hbl] at HF
  simp only [hbl] at CD
  have HCP : Hid _ := CP
  have HCD : Hid _ := CD
  have HSL := fun W => slice_arr (B + 1) 16 (by omega) W
  clear CP CD hal hbl HI
  have hsx : ((P : Nat) : Int) + 16 ≤ (ca : Int) := by omega
  have hsy : (P : Int) ≤ (P : Int) + 16 := by omega
  have hwr : IntKind.i64.wrap ((P : Int) + 16) = (P : Int) + 16 := by rw [IntKind.wrap_i64]; omega
  have h6a : ca = P → P = 0 := by omega
  have h6b : ((P : Int) + 16).toNat - P = 16 := by omega
  refine wp_region_held_drew (S := fun W => VAt W B 48 SA ∧ VAt W (B + 1) 52 NA ∧ w.grownBy W none) (by kernel_rfl) (HV4.out) (fun hHeld => ?_)
  refine wpT (i := 0) (v := .pointer (some ⟨B, 10, none⟩)) rfl (Or.inl ⟨by rfl, fun W hW => ?_⟩) hHeld ?_
  ·clear hW
   go_simp
  try simp only [Act.put, a0, a1, a3, a4, a5]
  refine wpT (i := 1) (v := .slice (some ⟨ab, ao, none⟩) s.b.length ca) rfl (Or.inl ⟨by rfl, fun W hW => ?_⟩) hHeld ?_
  ·have c10 := (HC.out.1 W hW.1).2
   clear hW
   go_simp
  try simp only [Act.put, a0, a1, a2, a3, a4, a5]
  refine wpT (i := 2) (v := .int .i64 (P : Int)) rfl (Or.inl ⟨by rfl, fun W hW => ?_⟩) hHeld ?_
  ·clear hW
   go_simp
  try simp only [Act.put, a0, a1, a2, a3, a4, a5]
  refine wpT (i := 3) (v := .int .i64 (P : Int)) rfl (Or.inl ⟨by rfl, fun W hW => ?_⟩) hHeld ?_
  ·clear hW
   go_simp
  try simp only [Act.put, a0, a1, a2, a3, a4, a5]
  refine wpT (i := 4) (v := .int .i64 16) rfl (Or.inl ⟨by rfl, fun W hW => ?_⟩) hHeld ?_
  ·clear hW
   go_simp
  try simp only [Act.put, a0, a1, a2, a3, a4, a5]
  refine wpT (i := 5) (v := .int .i64 ((P : Int) + 16)) rfl (Or.inl ⟨by rfl, fun W hW => ?_⟩) hHeld ?_
  ·clear hW
   go_simp
  try simp only [Act.put, a0, a1, a2, a3, a4, a5]
  refine wpT (i := 6) (v := .slice (some ⟨ab, ao + P, none⟩) 16 (ca - P)) rfl (Or.inl ⟨by rfl, fun W hW => ?_⟩) hHeld ?_
  ·clear hW
   go_simp
   exact h6a
  try simp only [Act.put, a0, a1, a2, a3, a4, a5]
  refine wpT (i := 7) (v := .pointer (some ⟨B + 1, 7, none⟩)) rfl (Or.inl ⟨by rfl, fun W hW => ?_⟩) hHeld ?_
  ·clear hW
   go_simp
  try simp only [Act.put, a0, a1, a2, a3, a4, a5]
  refine wpT (i := 8) (v := .int .i64 16) rfl (Or.inl ⟨by rfl, fun W hW => ?_⟩) hHeld ?_
  ·clear hW
   go_simp
  try simp only [Act.put, a0, a1, a2, a3, a4, a5]
  refine wpT (i := 9) (v := .slice (some ⟨B + 1, 7, none⟩) 16 16) rfl (Or.inl ⟨by rfl, fun W hW => ?_⟩) hHeld ?_
  ·clear hW
   go_simp
  try simp only [Act.put, a0, a1, a2, a3, a4, a5]
  refine wpT (i := 10) (v := .int .i64 bits) rfl (Or.inl ⟨by rfl, fun W hW => ?_⟩) hHeld ?_
  ·clear hW
   go_simp
  try simp only [Act.put, a0, a1, a2, a3, a4, a5]
  refine wpR (rs := [11]) (AllReadyH.cons rfl (fun K hK => ?_) AllReadyH.nil)
  go_simp
  refine (HCP.out _ hHeld.2.2 hHeld.2.1).mono ?_
  rintro e wk ⟨⟨EE, rfl⟩, Kk⟩
  go_wp2_with fail
  refine hK.out _ _ (⟨hHeld.1.kept Kk, hHeld.2.1.kept Kk, grown_trans hHeld.2.2 Kk⟩) (fun hHeld => ?_)
  clear hK K
  try simp only [Act.put, a0, a1, a2, a3, a4, a5]
  refine wpT (i := 12) (v := .tuple #[.bool al, .int .i64 EE]) rfl (Or.inl ⟨by rfl, fun W hW => ?_⟩) hHeld ?_
  ·clear hW
   go_simp
  try simp only [Act.put, a0, a1, a2, a3, a4, a5]
  refine wpT (i := 13) (v := .bool al) rfl (Or.inl ⟨by rfl, fun W hW => ?_⟩) hHeld ?_
  ·clear hW
   go_simp
  try simp only [Act.put, a0, a1, a2, a3, a4, a5]
  refine wpT (i := 14) (v := .int .i64 EE) rfl (Or.inl ⟨by rfl, fun W hW => ?_⟩) hHeld ?_
  ·clear hW
   go_simp
  try simp only [Act.put, a0, a1, a2, a3, a4, a5]
  refine wpT (i := 15) (v := .bool al) rfl (Or.inl ⟨by rfl, fun W hW => ?_⟩) hHeld ?_
  ·clear hW
   go_simp
  try simp only [Act.put, a0, a1, a2, a3, a4, a5]
  refine wpT (i := 16) (v := .int .i64 EE) rfl (Or.inl ⟨by rfl, fun W hW => ?_⟩) hHeld ?_
  ·clear hW
   go_simp
  try simp only [Act.put, a0, a1, a2, a3, a4, a5]
  refine wpAnyH_done (by kernel_rfl) ?_ _
  have HV5 : Hid (VAt _ B 48 SA ∧ VAt _ (B + 1) 52 NA ∧ w.grownBy _ none) := hHeld
  clear hHeld HV4 hsx hsy hwr h6a h6b Kk
  go_upto_region 9 with fail
  have HV6 : Hid (VAt wk.drew B 48 SA ∧ VAt wk.drew (B + 1) 52 NA ∧ w.grownBy wk.drew none) := by
   have K5 := grown_drewN wk 1 none
   exact ⟨HV5.out.1.kept K5, HV5.out.2.1.kept K5, grown_trans HV5.out.2.2 K5⟩
  obtain ⟨w6, hw6⟩ : ∃ W, wk = W := ⟨_, rfl⟩
  rw [hw6] at HV6 ⊢
  clear hw6 HV5 wk
  have hsx : ((D : Nat) : Int) + 16 ≤ (ca : Int) := by omega
  have hsy : (D : Int) ≤ (D : Int) + 16 := by omega
  have hwr : IntKind.i64.wrap ((D : Int) + 16) = (D : Int) + 16 := by rw [IntKind.wrap_i64]; omega
  have h6a : ca = D → D = 0 := by omega
  have h6b : ((D : Int) + 16).toNat - D = 16 := by omega
  refine wp_region_held_drew (S := fun W => VAt W B 48 SA ∧ VAt W (B + 1) 52 NA ∧ w.grownBy W none) (by kernel_rfl) (HV6.out) (fun hHeld => ?_)
  refine wpT (i := 0) (v := .pointer (some ⟨B, 10, none⟩)) rfl (Or.inl ⟨by rfl, fun W hW => ?_⟩) hHeld ?_
  ·clear hW
   go_simp
  try simp only [Act.put, a0, a1, a3, a4, a5]
  refine wpT (i := 1) (v := .slice (some ⟨ab, ao, none⟩) s.b.length ca) rfl (Or.inl ⟨by rfl, fun W hW => ?_⟩) hHeld ?_
  ·have c10 := (HC.out.1 W hW.1).2
   clear hW
   go_simp
  try simp only [Act.put, a0, a1, a2, a3, a4, a5]
  refine wpT (i := 2) (v := .int .i64 (D : Int)) rfl (Or.inl ⟨by rfl, fun W hW => ?_⟩) hHeld ?_
  ·clear hW
   go_simp
  try simp only [Act.put, a0, a1, a2, a3, a4, a5]
  refine wpT (i := 3) (v := .int .i64 (D : Int)) rfl (Or.inl ⟨by rfl, fun W hW => ?_⟩) hHeld ?_
  ·clear hW
   go_simp
  try simp only [Act.put, a0, a1, a2, a3, a4, a5]
  refine wpT (i := 4) (v := .int .i64 16) rfl (Or.inl ⟨by rfl, fun W hW => ?_⟩) hHeld ?_
  ·clear hW
   go_simp
  try simp only [Act.put, a0, a1, a2, a3, a4, a5]
  refine wpT (i := 5) (v := .int .i64 ((D : Int) + 16)) rfl (Or.inl ⟨by rfl, fun W hW => ?_⟩) hHeld ?_
  ·clear hW
   go_simp
  try simp only [Act.put, a0, a1, a2, a3, a4, a5]
  refine wpT (i := 6) (v := .slice (some ⟨ab, ao + D, none⟩) 16 (ca - D)) rfl (Or.inl ⟨by rfl, fun W hW => ?_⟩) hHeld ?_
  ·clear hW
   go_simp
   exact h6a
  try simp only [Act.put, a0, a1, a2, a3, a4, a5]
  refine wpT (i := 7) (v := .pointer (some ⟨B + 1, 7, none⟩)) rfl (Or.inl ⟨by rfl, fun W hW => ?_⟩) hHeld ?_
  ·clear hW
   go_simp
  try simp only [Act.put, a0, a1, a2, a3, a4, a5]
  refine wpT (i := 8) (v := .int .i64 16) rfl (Or.inl ⟨by rfl, fun W hW => ?_⟩) hHeld ?_
  ·clear hW
   go_simp
  try simp only [Act.put, a0, a1, a2, a3, a4, a5]
  refine wpT (i := 9) (v := .slice (some ⟨B + 1, 7, none⟩) 16 16) rfl (Or.inl ⟨by rfl, fun W hW => ?_⟩) hHeld ?_
  ·clear hW
   go_simp
  try simp only [Act.put, a0, a1, a2, a3, a4, a5]
  refine wpT (i := 10) (v := .int .i64 bits) rfl (Or.inl ⟨by rfl, fun W hW => ?_⟩) hHeld ?_
  ·clear hW
   go_simp
  try simp only [Act.put, a0, a1, a2, a3, a4, a5]
  refine wpR (rs := [11]) (AllReadyH.cons rfl (fun K hK => ?_) AllReadyH.nil)
  go_simp
  refine (HCD.out _ hHeld.2.2 hHeld.2.1).mono ?_
  rintro e wk ⟨⟨EE, rfl⟩, Kk⟩
  go_wp2_with fail
  refine hK.out _ _ (⟨hHeld.1.kept Kk, hHeld.2.1.kept Kk, grown_trans hHeld.2.2 Kk⟩) (fun hHeld => ?_)
  clear hK K
  try simp only [Act.put, a0, a1, a2, a3, a4, a5]
  refine wpT (i := 12) (v := .tuple #[.bool bl, .int .i64 EE]) rfl (Or.inl ⟨by rfl, fun W hW => ?_⟩) hHeld ?_
  ·clear hW
   go_simp
  try simp only [Act.put, a0, a1, a2, a3, a4, a5]
  refine wpT (i := 13) (v := .bool bl) rfl (Or.inl ⟨by rfl, fun W hW => ?_⟩) hHeld ?_
  ·clear hW
   go_simp
  try simp only [Act.put, a0, a1, a2, a3, a4, a5]
  refine wpT (i := 14) (v := .int .i64 EE) rfl (Or.inl ⟨by rfl, fun W hW => ?_⟩) hHeld ?_
  ·clear hW
   go_simp
  try simp only [Act.put, a0, a1, a2, a3, a4, a5]
  refine wpT (i := 15) (v := .bool bl) rfl (Or.inl ⟨by rfl, fun W hW => ?_⟩) hHeld ?_
  ·clear hW
   go_simp
  try simp only [Act.put, a0, a1, a2, a3, a4, a5]
  refine wpT (i := 16) (v := .int .i64 EE) rfl (Or.inl ⟨by rfl, fun W hW => ?_⟩) hHeld ?_
  ·clear hW
   go_simp
  try simp only [Act.put, a0, a1, a2, a3, a4, a5]
  refine wpAnyH_done (by kernel_rfl) ?_ _
  have HV7 : Hid (VAt _ B 48 SA ∧ VAt _ (B + 1) 52 NA ∧ w.grownBy _ none) := hHeld
  clear hHeld HV6 hsx hsy hwr h6a h6b HSL Kk
  have n6 := (HC.out.2 _ HV7.out.2.1).2
  have HG : Hid (w.grownBy _ none) := HV7.out.2.2
  clear HV7 HC
  generalize n.side = sd at *
  by_cases h1 : sd = 1
  ·subst h1
   cases al with
   | true =>
    cases bl with
    | true =>
     go_wp2_with fail
     refine (refjdg_any _ _).mono ?_
     rintro e w9 ⟨rfl, hw9⟩
     subst hw9
     go_wp2
     go_ret
     exact ⟨by rw [HF.out]; rfl, HG.out⟩
    | false =>
     go_wp2_with fail
     refine (refjdg_any _ _).mono ?_
     rintro e w9 ⟨rfl, hw9⟩
     subst hw9
     go_wp2
     go_ret
     exact ⟨by rw [HF.out]; rfl, HG.out⟩
   | false =>
    cases bl with
    | true =>
     go_wp2_with fail
     refine (refjdg_any _ _).mono ?_
     rintro e w9 ⟨rfl, hw9⟩
     subst hw9
     go_wp2
     go_ret
     exact ⟨by rw [HF.out]; rfl, HG.out⟩
    | false =>
     go_wp2_with fail
     refine (refjdg_any _ _).mono ?_
     rintro e w9 ⟨rfl, hw9⟩
     subst hw9
     go_wp2
     go_ret
     exact ⟨by rw [HF.out]; rfl, HG.out⟩
  by_cases h2 : sd = 2
  ·subst h2
   cases al with
   | true =>
    cases bl with
    | true =>
     go_wp2_with fail
     refine (refjdg_any _ _).mono ?_
     rintro e w9 ⟨rfl, hw9⟩
     subst hw9
     go_wp2
     go_ret
     exact ⟨by rw [HF.out]; rfl, HG.out⟩
    | false =>
     go_wp2_with fail
     refine (refjdg_any _ _).mono ?_
     rintro e w9 ⟨rfl, hw9⟩
     subst hw9
     go_wp2
     go_ret
     exact ⟨by rw [HF.out]; rfl, HG.out⟩
   | false =>
    cases bl with
    | true =>
     go_wp2_with fail
     refine (refjdg_any _ _).mono ?_
     rintro e w9 ⟨rfl, hw9⟩
     subst hw9
     go_wp2
     go_ret
     exact ⟨by rw [HF.out]; rfl, HG.out⟩
    | false =>
     go_wp2_with fail
     refine (refjdg_any _ _).mono ?_
     rintro e w9 ⟨rfl, hw9⟩
     subst hw9
     go_wp2
     go_ret
     exact ⟨by rw [HF.out]; rfl, HG.out⟩
  have b1 : (sd != 1) = true := by rw [bne_iff_ne]; exact h1
  have b2 : (sd != 2) = true := by rw [bne_iff_ne]; exact h2
  have HF2 : Hid (R = orM (jdg al) (jdg bl)) := by
   show R = _
   rw [HF.out]
   unfold sidedM
   rw [if_neg h1, if_neg h2]
  clear HF h1 h2
  cases al with
  | true =>
   cases bl with
   | true =>
    go_wp2_with fail
    refine (refjdg_any _ _).mono ?_
    rintro e w9 ⟨rfl, hw9⟩
    subst hw9
    go_wp2
    go_ret
    exact ⟨by rw [HF2.out]; rfl, HG.out⟩
   | false =>
    go_wp2_with fail
    refine (refjdg_any _ _).mono ?_
    rintro e w9 ⟨rfl, hw9⟩
    subst hw9
    go_wp2
    go_ret
    exact ⟨by rw [HF2.out]; rfl, HG.out⟩
  | false =>
   cases bl with
   | true =>
    go_wp2_with fail
    refine (refjdg_any _ _).mono ?_
    rintro e w9 ⟨rfl, hw9⟩
    subst hw9
    go_wp2
    go_ret
    exact ⟨by rw [HF2.out]; rfl, HG.out⟩
   | false =>
    go_wp2_with fail
    refine (refjdg_any _ _).mono ?_
    rintro e w9 ⟨rfl, hw9⟩
    subst hw9
    go_wp2
    go_ret
    exact ⟨by rw [HF2.out]; rfl, HG.out⟩
end Go.Proofs.YtcodofamdhcfiaaGreat
