import Derived.Test.YtklipelnjgpnjaaGreatDoorAb
import Derived.Test.YtklipelnjgpnjaaGreatDoorLotA16
import Derived.Test.YtklipelnjgpnjaaGreatDoorLotA19
import Derived.Test.YtklipelnjgpnjaaGreatDoorLotA20
import Derived.Test.YtklipelnjgpnjaaGreatDoorLotA21
import Derived.Test.YtklipelnjgpnjaaGreatDoorLotA24
import Derived.BigQuiet
namespace Go.Proofs.YtklipelnjgpnjaaGreatDoor
open Go.RowKit
set_option maxRecDepth 100000
theorem name_ne {k : Int} (h : 1 ≤ k ∧ k ≤ 13) : nameT k ≠ [] := by
 have key : ∀ j : Fin 14, 1 ≤ j.val → nameT (j.val : Int) ≠ [] := by decide
 have := key ⟨k.toNat, by omega⟩ (by show 1 ≤ k.toNat; omega)
 rw [show ((⟨k.toNat, by omega⟩ : Fin 14).val : Int) = k from Int.toNat_of_nonneg (by omega)] at this
 exact this
theorem side_w (k : Int) : sideT k = if sideW k = [] then [] else sideW k ++ [32] := by
 unfold sideT sideW
 by_cases h1 : k = 1
 ·rw [if_pos h1, if_pos h1]; rfl
 ·rw [if_neg h1, if_neg h1]
  by_cases h2 : k = 2
  ·rw [if_pos h2, if_pos h2]; rfl
  ·rw [if_neg h2, if_neg h2]; rfl
theorem sideW_len (k : Int) : (sideW k).length ≤ 3 := by
 unfold sideW
 repeat' split
 all_goals decide
theorem wv_nil (x : List UInt8) : wv [] x = x := by
 unfold wv
 split
 ·rename_i h; exact h.symm
 ·rfl
theorem wv_cons {a x : List UInt8} (ha : a ≠ []) (hx : x ≠ []) : wv a x = a ++ 32 :: x := by
 unfold wv
 rw [if_neg hx, if_neg ha]
theorem wv_skip (a : List UInt8) : wv a [] = a := by unfold wv; rw [if_pos rfl]
theorem words_three (a b c : List UInt8) : wordsV [a, b, c] = wv (wv a b) c := by
 show wv (wv (wv [] a) b) c = _
 rw [wv_nil]
theorem words_mid {a b c : List UInt8} (hb : b ≠ []) (hc : c ≠ []) : wordsV [a, b, c] = (if a = [] then [] else a ++ [32]) ++ b ++ [32] ++ c := by
 rw [words_three]
 by_cases ha : a = []
 ·rw [ha, wv_nil, wv_cons hb hc, if_pos rfl]; simp
 ·rw [wv_cons ha hb, wv_cons (by simp) hc, if_neg ha]; simp
theorem words_end {a b c : List UInt8} (hc : c ≠ []) : wordsV [a, b, c] = (if a = [] then [] else a ++ [32]) ++ (if b = [] then [] else b ++ [32]) ++ c := by
 rw [words_three]
 by_cases ha : a = []
 ·rw [ha, wv_nil, if_pos rfl]
  by_cases hb : b = []
  ·rw [hb, wv_nil, if_pos rfl]; simp
  ·rw [wv_cons hb hc, if_neg hb]; simp
 ·rw [if_neg ha]
  by_cases hb : b = []
  ·rw [hb, wv_skip, wv_cons ha hc, if_pos rfl]; simp
  ·rw [wv_cons ha hb, wv_cons (by simp) hc, if_neg hb]; simp
theorem ports_ne (n m : Nat) : portsT n m ≠ [] := by
 unfold portsT
 split <;> simp
theorem adr_ne (x : Ng) (h : (adgs x).length = 16) : adrT x ≠ [] := by
 unfold adrT
 split
 ·have := tok_ok (sptok_six (gs := pairsG (adgs x)) (pairs_len 8 _ h))
  exact this.1
 ·have := tok_ok (tok_four (a := (adgs x).take 4) (by rw [List.length_take, h]; rfl))
  exact this.1
theorem lit_w3 (a b c : ByteArray) (W : World) : (Instr.buildSlice 82 3 #[(0, .string a), (1, .string b), (2, .string c)]).run Tryz.prog W = .ok (.slice (some ⟨W.heap.size, 0, none⟩) 3 3) (W.alloc (.cells [Value.string a, Value.string b, Value.string c].toArray 9)) := by kernel_rfl
set_option maxRecDepth 100000 in
set_option maxHeartbeats 16000000 in
theorem shleaf_any (x : Ng) (w : World) (T : TabA w) (ha : arG x.kind = some 0) (hf : formG x = true) (hr : rangeE x = 0) (hn : x.n ≤ 4294967295) (hm : x.m ≤ 4294967295) :
  Calls Tryz.prog 103 #[.agg x.cells.toArray] w fun e w' => e = .returned (str (leafT x)) ∧ w.grownBy w' none := by
 have HT : Hid (TabA w) := T
 clear T
 have hk : x.kind = 1 ∨ x.kind = 2 ∨ x.kind = 10 ∨ x.kind = 11 ∨ x.kind = 12 ∨ x.kind = 13 ∨ x.kind = 14 ∨ x.kind = 15 ∨ x.kind = 16 := by
  rcases arG_cases ha with ⟨h1, -⟩ | ⟨h1, -⟩ | ⟨-, h1⟩
  ·cases h1
  ·cases h1
  ·exact h1
 obtain ⟨g1, g2, g3, g4, g5, g6, g10, -⟩ := form_node hf hr
 have h12 : x.kind = 12 → x.of = 0 := fun hk => by
  unfold formG at hf
  obtain ⟨hs, -⟩ := Bool.and_eq_true_iff.1 hf
  unfold sameG at hs
  simp only [Bool.and_eq_true, decide_eq_true_eq] at hs
  have := hs.1.1.1.2
  rw [this]
  unfold useG
  rw [hk]
  rfl
 have h13 : x.kind = 13 → 1 ≤ x.of ∧ x.of ≤ 13 := fun hk => by
  unfold formG at hf
  obtain ⟨-, hm⟩ := Bool.and_eq_true_iff.1 hf
  unfold mayG at hm
  rw [hk] at hm
  have := (show inG x.of 2 3 = true from hm)
  unfold inG at this
  have := Bool.and_eq_true_iff.1 this
  have h1 := of_decide_eq_true this.1
  have h2 := of_decide_eq_true this.2
  omega
 have HBX := box_ng x
 have h3 := World.grownBy_alloc w (.cells x.cells.toArray 43) none
 have V := NB.alloc w x
 have HAL : Hid ((adgs x).length = 16) := adgs_len x
 obtain ⟨X, hX⟩ : ∃ X, x.cells.toArray = X := ⟨_, rfl⟩
 have HZ : Hid ((Tryz.prog.info? 43).map (·.size) = some X.size) := by rw [← hX]; exact ng_size x
 have HXX : Hid (x.cells.toArray = X) := hX
 rw [hX] at HBX ⊢
 go_enter Tryz.func103, Tryz.ntmps103
 go_upto_region 1 with fail
 rw [← hX] at HBX ⊢
 rw [← hX] at hX
 have HNB : Hid (NB (w.alloc (.cells x.cells.toArray 43)) w.heap.size x ∧ w.grownBy (w.alloc (.cells x.cells.toArray 43)) none) := ⟨V, h3⟩
 generalize w.alloc (.cells x.cells.toArray 43) = w1 at *
 generalize w.heap.size = B at *
 have HV : Hid (∀ W, w1.grownBy W none → VAt W B 43 X) := fun W G => by rw [← HXX.out]; exact HNB.out.1.kept G
 have HC : Hid (∀ W, w1.grownBy W none → W.cell? ⟨B, 2, none⟩ = some (.int .u32 (x.n : Int)) ∧ W.cell? ⟨B, 3, none⟩ = some (.int .u32 (x.m : Int)) ∧ W.cell? ⟨B, 5, none⟩ = some (.int .i64 x.of) ∧ W.cell? ⟨B, 6, none⟩ = some (.int .i64 x.side) ∧ W.cell? ⟨B, 23, none⟩ = some (.int .i64 x.bits)) := fun W G => by
  have N := HNB.out.1.kept G
  exact ⟨N.n, N.m, N.of, N.side, N.bits⟩
 have HG1 : Hid (w.grownBy w1 none) := HNB.out.2
 have HT1 : Hid (∀ W, w1.grownBy W none → TabA W) := fun W G => HT.out.grown (grown_trans HG1.out G)
 have HDEC : Hid (∀ W : World, w1.grownBy W none → Calls Tryz.prog 134 #[.int .u32 (x.n : Int)] W fun e w' => e = .returned (str (dec x.n)) ∧ W.grownBy w' none) := fun W G => shdec_any x.n hn W (HT1.out W G)
 have HADR : Hid (∀ W : World, w1.grownBy W none → Calls Tryz.prog 138 #[.agg X] W fun e w' => e = .returned (str (adrT x)) ∧ W.grownBy w' none) := fun W G => by rw [← HXX.out]; exact shadr_any x W (HT1.out W G)
 have HPRT : Hid (∀ W : World, w1.grownBy W none → Calls Tryz.prog 139 #[.int .u32 (x.n : Int), .int .u32 (x.m : Int)] W fun e w' => e = .returned (str (portsT x.n x.m)) ∧ W.grownBy w' none) := fun W G => shports_any x.n x.m hn hm W (HT1.out W G)
 have HITO : Hid (∀ W : World, w1.grownBy W none → Calls Tryz.prog 130 #[.int .i64 x.bits] W fun e w' => e = .returned (str (dec x.bits.toNat)) ∧ W.grownBy w' none) := fun W G => by
  have := itoa_any x.bits.toNat (by omega) W (HT1.out W G)
  rw [show ((x.bits.toNat : Nat) : Int) = x.bits by omega] at this
  exact this
 have HWD : Hid (∀ (a b c : List UInt8), a.length ≤ 2000 → b.length ≤ 2000 → c.length ≤ 2000 → ∀ (ad : Addr) (W : World), CV W (some ad) [str a, str b, str c] → Calls Tryz.prog 136 #[.slice (some ad) 3 3] W fun e w' => e = .returned (str (wordsV [a, b, c])) ∧ W.grownBy w' none) := fun a b c h1 h2 h3 ad W C => words_any (some ad) 3 [a, b, c] W C (by simp) (fun y hy => by
  simp only [List.mem_cons, List.not_mem_nil, or_false] at hy
  rcases hy with rfl | rfl | rfl <;> omega)
 have hnl := dec_len x.n
 have hbl := dec_len x.bits.toNat
 have hal := adr_len x
 have hol := name_len x.of
 have hsl := sideW_len x.side
 have hpl := portsT_len x.n x.m
 have HLEN : Hid ((dec x.n).length ≤ 20 ∧ (dec x.bits.toNat).length ≤ 20 ∧ (adrT x).length ≤ 1000 ∧ (nameT x.of).length ≤ 5 ∧ (sideW x.side).length ≤ 3 ∧ (portsT x.n x.m).length ≤ 60) := ⟨hnl, hbl, hal, hol, hsl, hpl⟩
 have c0 := HNB.out.1.kind
 obtain ⟨kk, hkk⟩ : ∃ kk, x.kind = kk := ⟨_, rfl⟩
 have HK : Hid (x.kind = kk) := hkk
 rw [hkk] at c0 hk h12 h13 g10
 have HF : Hid ((1 : Int) ≤ x.side → x.side ≤ 2 → True) := fun _ _ => trivial
 have HOF : Hid ((kk = 12 → x.of = 0) ∧ (kk = 13 → 1 ≤ x.of ∧ x.of ≤ 13) ∧ 0 ≤ x.of ∧ x.of ≤ 13 ∧ x.n ≤ 4294967295 ∧ x.bits.toNat ≤ 128 ∧ 0 ≤ x.side ∧ x.side ≤ 2 ∧ (kk = 10 → x.side ≠ 0)) := ⟨h12, h13, g3, g4, hn, by omega, g1, g2, g10⟩
 clear hnl hbl hal hol hsl hpl hX h3 V HBX hkk h12 h13 g1 g2 g3 g4 g5 g6 g10 hf hr ha hn hm HF
 rcases hk with rfl | rfl | rfl | rfl | rfl | rfl | rfl | rfl | rfl
 ·skip
  have HE : Hid (leafT x = dec x.n) := by unfold Hid leafT; rw [HK.out]; rfl
  have c2 := (HC.out w1 (World.grownBy.refl _ _)).1
  go_wp2_with fail
  refine (HDEC.out w1 (World.grownBy.refl _ _)).mono ?_
  rintro e w3 ⟨rfl, K3⟩
  go_wp2
  go_ret
  exact ⟨by rw [HE.out]; rfl, grown_trans HG1.out K3⟩
 ·skip
  have HE : Hid (leafT x = [108, 101, 110]) := by unfold Hid leafT; rw [HK.out]; rfl
  go_wp2
  go_ret
  exact ⟨by rw [HE.out]; rfl, HG1.out⟩
 ·skip
  have HE : Hid (leafT x = wayW x.side) := by unfold Hid leafT wayW; rw [HK.out]; rfl
  have c6 := (HC.out w1 (World.grownBy.refl _ _)).2.2.2.1
  go_wp2_with fail
  refine (way_any x.side w1).mono ?_
  rintro e w3 ⟨rfl, rfl⟩
  go_wp2
  go_ret
  exact ⟨by rw [HE.out]; rfl, HG1.out⟩
 ·skip
  have HE : Hid (leafT x = nameT x.of) := by unfold Hid leafT; rw [HK.out]; rfl
  have c5 := (HC.out w1 (World.grownBy.refl _ _)).2.2.1
  go_wp2_with fail
  refine (shname_any x.of w1).mono ?_
  rintro e w3 ⟨rfl, rfl⟩
  go_wp2
  go_ret
  exact ⟨by rw [HE.out]; rfl, HG1.out⟩
 ·skip
  have HE : Hid (leafT x = wordsV [nameT x.of, [112, 114, 111, 116, 111], dec x.n]) := by
   show leafT x = _
   rw [words_mid (by simp) (dec_nil x.n HOF.out.2.2.2.2.1), HOF.out.1 rfl]
   unfold leafT
   rw [HK.out]
   rfl
  go_upto_region 12 with fail
  refine wp_region_held_drew (S := fun W' => w1.grownBy W' none) (by kernel_rfl) (grown_drewN w1 1 none) (fun hHeld => ?_)
  generalize w1.drew = wd at *
  refine wpT (i := 0) (v := .pointer (some ⟨B, 5, none⟩)) rfl (Or.inl ⟨by rfl, fun W hW => ?_⟩) hHeld ?_
  ·clear hW
   go_simp
  try simp only [Act.put, a0, a1, a3, a4, a5]
  refine wpT (i := 1) (v := .int .i64 x.of) rfl (Or.inl ⟨by rfl, fun W hW => ?_⟩) hHeld ?_
  ·have c1 := (HC.out W hW).2.2.1
   clear hW
   go_simp
  try simp only [Act.put, a0, a1, a2, a3, a4, a5]
  refine wpT (i := 3) (v := .pointer (some ⟨B, 2, none⟩)) rfl (Or.inl ⟨by rfl, fun W hW => ?_⟩) hHeld ?_
  ·clear hW
   go_simp
  try simp only [Act.put, a0, a1, a2, a3, a4, a5]
  refine wpT (i := 4) (v := .int .u32 (x.n : Int)) rfl (Or.inl ⟨by rfl, fun W hW => ?_⟩) hHeld ?_
  ·have c1 := (HC.out W hW).1
   clear hW
   go_simp
  try simp only [Act.put, a0, a1, a2, a3, a4, a5]
  refine wpR (rs := [2]) (AllReadyH.cons rfl (fun K hK => ?_) AllReadyH.nil)
  go_simp
  refine (shname_any x.of _).mono ?_
  rintro e _ ⟨rfl, rfl⟩
  go_wp2_with fail
  refine hK.out _ _ hHeld (fun hHeld => ?_)
  clear hK K
  try simp only [Act.put, a0, a1, a2, a3, a4, a5]
  refine wpR (rs := [5]) (AllReadyH.cons rfl (fun K hK => ?_) AllReadyH.nil)
  go_simp
  refine (HDEC.out _ hHeld).mono ?_
  rintro e wk ⟨rfl, Kk⟩
  go_wp2_with fail
  refine hK.out _ _ (grown_trans hHeld Kk) (fun hHeld => ?_)
  clear hK K Kk
  try simp only [Act.put, a0, a1, a2, a3, a4, a5]
  refine wpR (rs := [6]) (AllReadyH.cons rfl (fun K hK => ?_) AllReadyH.nil)
  refine step_litG (by rfl) 82 3 _ (by rfl) _ (by kernel_rfl) [str (nameT x.of), str ([112, 114, 111, 116, 111]), str (dec x.n)] 9 (lit_w3 _ _ _) ?_
  intro ad wl CL KL
  refine hK.out _ _ (grown_trans hHeld KL) (fun hHeld => ?_)
  clear hK K KL
  try simp only [Act.put, a0, a1, a2, a3, a4, a5]
  refine wpR (rs := [7]) (AllReadyH.cons rfl (fun K hK => ?_) AllReadyH.nil)
  go_simp
  refine (HWD.out (nameT x.of) ([112, 114, 111, 116, 111]) (dec x.n) (by have := HLEN.out; first | omega | simp) (by have := HLEN.out; first | omega | simp) (by have := HLEN.out; first | omega | (simp only [List.length_append, List.length_cons, List.length_nil]; omega)) _ _ CL).mono ?_
  rintro e wk ⟨rfl, Kk⟩
  go_wp2_with fail
  refine hK.out _ _ (grown_trans hHeld Kk) (fun hHeld => ?_)
  clear hK K Kk CL
  try simp only [Act.put, a0, a1, a2, a3, a4, a5]
  refine wpT (i := 8) (v := str (wordsV [nameT x.of, [112, 114, 111, 116, 111], dec x.n])) rfl (Or.inl ⟨by rfl, fun W hW => ?_⟩) hHeld ?_
  ·clear hW
   go_simp
  try simp only [Act.put, a0, a1, a2, a3, a4, a5]
  refine wpAnyH_done (by kernel_rfl) ?_ _
  have HGF := hHeld
  clear hHeld
  go_wp2
  go_ret
  exact ⟨by rw [HE.out]; rfl, grown_trans HG1.out HGF⟩
 ·skip
  have HE : Hid (leafT x = wordsV [nameT x.of, [112, 114, 111, 116, 111], dec x.n]) := by
   show leafT x = _
   rw [words_mid (by simp) (dec_nil x.n HOF.out.2.2.2.2.1), if_neg (name_ne (HOF.out.2.1 rfl))]
   unfold leafT
   rw [HK.out]
   show nameT x.of ++ [32, 112, 114, 111, 116, 111, 32] ++ dec x.n = _
   simp
  go_upto_region 12 with fail
  refine wp_region_held_drew (S := fun W' => w1.grownBy W' none) (by kernel_rfl) (grown_drewN w1 1 none) (fun hHeld => ?_)
  generalize w1.drew = wd at *
  refine wpT (i := 0) (v := .pointer (some ⟨B, 5, none⟩)) rfl (Or.inl ⟨by rfl, fun W hW => ?_⟩) hHeld ?_
  ·clear hW
   go_simp
  try simp only [Act.put, a0, a1, a3, a4, a5]
  refine wpT (i := 1) (v := .int .i64 x.of) rfl (Or.inl ⟨by rfl, fun W hW => ?_⟩) hHeld ?_
  ·have c1 := (HC.out W hW).2.2.1
   clear hW
   go_simp
  try simp only [Act.put, a0, a1, a2, a3, a4, a5]
  refine wpT (i := 3) (v := .pointer (some ⟨B, 2, none⟩)) rfl (Or.inl ⟨by rfl, fun W hW => ?_⟩) hHeld ?_
  ·clear hW
   go_simp
  try simp only [Act.put, a0, a1, a2, a3, a4, a5]
  refine wpT (i := 4) (v := .int .u32 (x.n : Int)) rfl (Or.inl ⟨by rfl, fun W hW => ?_⟩) hHeld ?_
  ·have c1 := (HC.out W hW).1
   clear hW
   go_simp
  try simp only [Act.put, a0, a1, a2, a3, a4, a5]
  refine wpR (rs := [2]) (AllReadyH.cons rfl (fun K hK => ?_) AllReadyH.nil)
  go_simp
  refine (shname_any x.of _).mono ?_
  rintro e _ ⟨rfl, rfl⟩
  go_wp2_with fail
  refine hK.out _ _ hHeld (fun hHeld => ?_)
  clear hK K
  try simp only [Act.put, a0, a1, a2, a3, a4, a5]
  refine wpR (rs := [5]) (AllReadyH.cons rfl (fun K hK => ?_) AllReadyH.nil)
  go_simp
  refine (HDEC.out _ hHeld).mono ?_
  rintro e wk ⟨rfl, Kk⟩
  go_wp2_with fail
  refine hK.out _ _ (grown_trans hHeld Kk) (fun hHeld => ?_)
  clear hK K Kk
  try simp only [Act.put, a0, a1, a2, a3, a4, a5]
  refine wpR (rs := [6]) (AllReadyH.cons rfl (fun K hK => ?_) AllReadyH.nil)
  refine step_litG (by rfl) 82 3 _ (by rfl) _ (by kernel_rfl) [str (nameT x.of), str ([112, 114, 111, 116, 111]), str (dec x.n)] 9 (lit_w3 _ _ _) ?_
  intro ad wl CL KL
  refine hK.out _ _ (grown_trans hHeld KL) (fun hHeld => ?_)
  clear hK K KL
  try simp only [Act.put, a0, a1, a2, a3, a4, a5]
  refine wpR (rs := [7]) (AllReadyH.cons rfl (fun K hK => ?_) AllReadyH.nil)
  go_simp
  refine (HWD.out (nameT x.of) ([112, 114, 111, 116, 111]) (dec x.n) (by have := HLEN.out; first | omega | simp) (by have := HLEN.out; first | omega | simp) (by have := HLEN.out; first | omega | (simp only [List.length_append, List.length_cons, List.length_nil]; omega)) _ _ CL).mono ?_
  rintro e wk ⟨rfl, Kk⟩
  go_wp2_with fail
  refine hK.out _ _ (grown_trans hHeld Kk) (fun hHeld => ?_)
  clear hK K Kk CL
  try simp only [Act.put, a0, a1, a2, a3, a4, a5]
  refine wpT (i := 8) (v := str (wordsV [nameT x.of, [112, 114, 111, 116, 111], dec x.n])) rfl (Or.inl ⟨by rfl, fun W hW => ?_⟩) hHeld ?_
  ·clear hW
   go_simp
  try simp only [Act.put, a0, a1, a2, a3, a4, a5]
  refine wpAnyH_done (by kernel_rfl) ?_ _
  have HGF := hHeld
  clear hHeld
  go_wp2
  go_ret
  exact ⟨by rw [HE.out]; rfl, grown_trans HG1.out HGF⟩
 ·skip
  have HE : Hid (leafT x = wordsV [sideW x.side, [104, 111, 115, 116], adrT x]) := by
   show leafT x = _
   rw [words_mid (by simp) (adr_ne x HAL.out)]
   unfold leafT
   rw [HK.out]
   show sideT x.side ++ [104, 111, 115, 116, 32] ++ adrT x = _
   rw [side_w]
   simp
  go_upto_region 14 with fail
  refine wp_region_held_drew (S := fun W' => w1.grownBy W' none) (by kernel_rfl) (grown_drewN w1 1 none) (fun hHeld => ?_)
  generalize w1.drew = wd at *
  refine wpT (i := 0) (v := .pointer (some ⟨B, 6, none⟩)) rfl (Or.inl ⟨by rfl, fun W hW => ?_⟩) hHeld ?_
  ·clear hW
   go_simp
  try simp only [Act.put, a0, a1, a3, a4, a5]
  refine wpT (i := 1) (v := .int .i64 x.side) rfl (Or.inl ⟨by rfl, fun W hW => ?_⟩) hHeld ?_
  ·have c1 := (HC.out W hW).2.2.2.1
   clear hW
   go_simp
  try simp only [Act.put, a0, a1, a2, a3, a4, a5]
  refine wpT (i := 3) (v := .agg (X)) rfl (yieldsIf_load_row (by rfl) _ _ rfl B rfl 43 (X) _ (fun W hW => HV.out W hW) Tryz.underlying43 rfl HZ.out) hHeld ?_
  try simp only [Act.put, a0, a1, a2, a3, a4, a5]
  refine wpR (rs := [2]) (AllReadyH.cons rfl (fun K hK => ?_) AllReadyH.nil)
  go_simp
  refine (shside_any x.side _).mono ?_
  rintro e _ ⟨rfl, rfl⟩
  go_wp2_with fail
  refine hK.out _ _ hHeld (fun hHeld => ?_)
  clear hK K
  try simp only [Act.put, a0, a1, a2, a3, a4, a5]
  refine wpR (rs := [4]) (AllReadyH.cons rfl (fun K hK => ?_) AllReadyH.nil)
  go_simp
  refine (HADR.out _ hHeld).mono ?_
  rintro e wk ⟨rfl, Kk⟩
  go_wp2_with fail
  refine hK.out _ _ (grown_trans hHeld Kk) (fun hHeld => ?_)
  clear hK K Kk
  try simp only [Act.put, a0, a1, a2, a3, a4, a5]
  refine wpR (rs := [5]) (AllReadyH.cons rfl (fun K hK => ?_) AllReadyH.nil)
  refine step_litG (by rfl) 82 3 _ (by rfl) _ (by kernel_rfl) [str (sideW x.side), str ([104, 111, 115, 116]), str (adrT x)] 9 (lit_w3 _ _ _) ?_
  intro ad wl CL KL
  refine hK.out _ _ (grown_trans hHeld KL) (fun hHeld => ?_)
  clear hK K KL
  try simp only [Act.put, a0, a1, a2, a3, a4, a5]
  refine wpR (rs := [6]) (AllReadyH.cons rfl (fun K hK => ?_) AllReadyH.nil)
  go_simp
  refine (HWD.out (sideW x.side) ([104, 111, 115, 116]) (adrT x) (by have := HLEN.out; first | omega | simp) (by have := HLEN.out; first | omega | simp) (by have := HLEN.out; first | omega | (simp only [List.length_append, List.length_cons, List.length_nil]; omega)) _ _ CL).mono ?_
  rintro e wk ⟨rfl, Kk⟩
  go_wp2_with fail
  refine hK.out _ _ (grown_trans hHeld Kk) (fun hHeld => ?_)
  clear hK K Kk CL
  try simp only [Act.put, a0, a1, a2, a3, a4, a5]
  refine wpT (i := 7) (v := str (wordsV [sideW x.side, [104, 111, 115, 116], adrT x])) rfl (Or.inl ⟨by rfl, fun W hW => ?_⟩) hHeld ?_
  ·clear hW
   go_simp
  try simp only [Act.put, a0, a1, a2, a3, a4, a5]
  refine wpAnyH_done (by kernel_rfl) ?_ _
  have HGF := hHeld
  clear hHeld
  go_wp2
  go_ret
  exact ⟨by rw [HE.out]; rfl, grown_trans HG1.out HGF⟩
 ·skip
  have HE : Hid (leafT x = wordsV [sideW x.side, [110, 101, 116], adrT x ++ [47] ++ dec x.bits.toNat]) := by
   show leafT x = _
   rw [words_mid (by simp) (by simp)]
   unfold leafT
   rw [HK.out]
   show sideT x.side ++ [110, 101, 116, 32] ++ adrT x ++ [47] ++ dec x.bits.toNat = _
   rw [side_w]
   simp
  go_upto_region 16 with fail
  refine wp_region_held_drew (S := fun W' => w1.grownBy W' none) (by kernel_rfl) (grown_drewN w1 1 none) (fun hHeld => ?_)
  generalize w1.drew = wd at *
  refine wpT (i := 0) (v := .pointer (some ⟨B, 6, none⟩)) rfl (Or.inl ⟨by rfl, fun W hW => ?_⟩) hHeld ?_
  ·clear hW
   go_simp
  try simp only [Act.put, a0, a1, a3, a4, a5]
  refine wpT (i := 1) (v := .int .i64 x.side) rfl (Or.inl ⟨by rfl, fun W hW => ?_⟩) hHeld ?_
  ·have c1 := (HC.out W hW).2.2.2.1
   clear hW
   go_simp
  try simp only [Act.put, a0, a1, a2, a3, a4, a5]
  refine wpT (i := 3) (v := .agg (X)) rfl (yieldsIf_load_row (by rfl) _ _ rfl B rfl 43 (X) _ (fun W hW => HV.out W hW) Tryz.underlying43 rfl HZ.out) hHeld ?_
  try simp only [Act.put, a0, a1, a2, a3, a4, a5]
  refine wpT (i := 6) (v := .pointer (some ⟨B, 23, none⟩)) rfl (Or.inl ⟨by rfl, fun W hW => ?_⟩) hHeld ?_
  ·clear hW
   go_simp
  try simp only [Act.put, a0, a1, a2, a3, a4, a5]
  refine wpT (i := 7) (v := .int .i64 x.bits) rfl (Or.inl ⟨by rfl, fun W hW => ?_⟩) hHeld ?_
  ·have c1 := (HC.out W hW).2.2.2.2
   clear hW
   go_simp
  try simp only [Act.put, a0, a1, a2, a3, a4, a5]
  refine wpR (rs := [2]) (AllReadyH.cons rfl (fun K hK => ?_) AllReadyH.nil)
  go_simp
  refine (shside_any x.side _).mono ?_
  rintro e _ ⟨rfl, rfl⟩
  go_wp2_with fail
  refine hK.out _ _ hHeld (fun hHeld => ?_)
  clear hK K
  try simp only [Act.put, a0, a1, a2, a3, a4, a5]
  refine wpR (rs := [4]) (AllReadyH.cons rfl (fun K hK => ?_) AllReadyH.nil)
  go_simp
  refine (HADR.out _ hHeld).mono ?_
  rintro e wk ⟨rfl, Kk⟩
  go_wp2_with fail
  refine hK.out _ _ (grown_trans hHeld Kk) (fun hHeld => ?_)
  clear hK K Kk
  try simp only [Act.put, a0, a1, a2, a3, a4, a5]
  refine wpT (i := 5) (v := str (adrT x ++ [47])) rfl (Or.inl ⟨by rfl, fun W hW => ?_⟩) hHeld ?_
  ·clear hW
   go_simp
   have hq := HLEN.out
   rw [if_neg (by omega), show (⟨#[47]⟩ : ByteArray) = ⟨([47] : List UInt8).toArray⟩ from rfl, str_cat]
  try simp only [Act.put, a0, a1, a2, a3, a4, a5]
  refine wpR (rs := [8]) (AllReadyH.cons rfl (fun K hK => ?_) AllReadyH.nil)
  go_simp
  refine (HITO.out _ hHeld).mono ?_
  rintro e wk ⟨rfl, Kk⟩
  go_wp2_with fail
  refine hK.out _ _ (grown_trans hHeld Kk) (fun hHeld => ?_)
  clear hK K Kk
  try simp only [Act.put, a0, a1, a2, a3, a4, a5]
  refine wpT (i := 9) (v := str (adrT x ++ [47] ++ dec x.bits.toNat)) rfl (Or.inl ⟨by rfl, fun W hW => ?_⟩) hHeld ?_
  ·clear hW
   go_simp
   have hq := HLEN.out
   (rw [if_neg (by omega), str_cat, List.append_assoc]; rfl)
  try simp only [Act.put, a0, a1, a2, a3, a4, a5]
  refine wpR (rs := [10]) (AllReadyH.cons rfl (fun K hK => ?_) AllReadyH.nil)
  refine step_litG (by rfl) 82 3 _ (by rfl) _ (by kernel_rfl) [str (sideW x.side), str ([110, 101, 116]), str (adrT x ++ [47] ++ dec x.bits.toNat)] 9 (lit_w3 _ _ _) ?_
  intro ad wl CL KL
  refine hK.out _ _ (grown_trans hHeld KL) (fun hHeld => ?_)
  clear hK K KL
  try simp only [Act.put, a0, a1, a2, a3, a4, a5]
  refine wpR (rs := [11]) (AllReadyH.cons rfl (fun K hK => ?_) AllReadyH.nil)
  go_simp
  refine (HWD.out (sideW x.side) ([110, 101, 116]) (adrT x ++ [47] ++ dec x.bits.toNat) (by have := HLEN.out; first | omega | simp) (by have := HLEN.out; first | omega | simp) (by have := HLEN.out; first | omega | (simp only [List.length_append, List.length_cons, List.length_nil]; omega)) _ _ CL).mono ?_
  rintro e wk ⟨rfl, Kk⟩
  go_wp2_with fail
  refine hK.out _ _ (grown_trans hHeld Kk) (fun hHeld => ?_)
  clear hK K Kk CL
  try simp only [Act.put, a0, a1, a2, a3, a4, a5]
  refine wpT (i := 12) (v := str (wordsV [sideW x.side, [110, 101, 116], adrT x ++ [47] ++ dec x.bits.toNat])) rfl (Or.inl ⟨by rfl, fun W hW => ?_⟩) hHeld ?_
  ·clear hW
   go_simp
  try simp only [Act.put, a0, a1, a2, a3, a4, a5]
  refine wpAnyH_done (by kernel_rfl) ?_ _
  have HGF := hHeld
  clear hHeld
  go_wp2
  go_ret
  exact ⟨by rw [HE.out]; rfl, grown_trans HG1.out HGF⟩
 ·skip
  have HE : Hid (leafT x = wordsV [nameT x.of, sideW x.side, portsT x.n x.m]) := by
   show leafT x = _
   rw [words_end (ports_ne _ _)]
   unfold leafT
   rw [HK.out]
   show (if x.of = 0 then [] else nameT x.of ++ [32]) ++ sideT x.side ++ (if x.n = x.m then _ else _) = _
   rw [side_w]
   congr 2
   by_cases h0 : x.of = 0
   ·rw [if_pos h0, h0]; rfl
   ·have := HOF.out
    rw [if_neg h0, if_neg (name_ne ⟨by omega, by omega⟩)]
  go_upto_region 17 with fail
  refine wp_region_held_drew (S := fun W' => w1.grownBy W' none) (by kernel_rfl) (grown_drewN w1 1 none) (fun hHeld => ?_)
  generalize w1.drew = wd at *
  refine wpT (i := 0) (v := .pointer (some ⟨B, 5, none⟩)) rfl (Or.inl ⟨by rfl, fun W hW => ?_⟩) hHeld ?_
  ·clear hW
   go_simp
  try simp only [Act.put, a0, a1, a3, a4, a5]
  refine wpT (i := 1) (v := .int .i64 x.of) rfl (Or.inl ⟨by rfl, fun W hW => ?_⟩) hHeld ?_
  ·have c1 := (HC.out W hW).2.2.1
   clear hW
   go_simp
  try simp only [Act.put, a0, a1, a2, a3, a4, a5]
  refine wpT (i := 3) (v := .pointer (some ⟨B, 6, none⟩)) rfl (Or.inl ⟨by rfl, fun W hW => ?_⟩) hHeld ?_
  ·clear hW
   go_simp
  try simp only [Act.put, a0, a1, a2, a3, a4, a5]
  refine wpT (i := 4) (v := .int .i64 x.side) rfl (Or.inl ⟨by rfl, fun W hW => ?_⟩) hHeld ?_
  ·have c1 := (HC.out W hW).2.2.2.1
   clear hW
   go_simp
  try simp only [Act.put, a0, a1, a2, a3, a4, a5]
  refine wpT (i := 6) (v := .pointer (some ⟨B, 2, none⟩)) rfl (Or.inl ⟨by rfl, fun W hW => ?_⟩) hHeld ?_
  ·clear hW
   go_simp
  try simp only [Act.put, a0, a1, a2, a3, a4, a5]
  refine wpT (i := 7) (v := .int .u32 (x.n : Int)) rfl (Or.inl ⟨by rfl, fun W hW => ?_⟩) hHeld ?_
  ·have c1 := (HC.out W hW).1
   clear hW
   go_simp
  try simp only [Act.put, a0, a1, a2, a3, a4, a5]
  refine wpT (i := 8) (v := .pointer (some ⟨B, 3, none⟩)) rfl (Or.inl ⟨by rfl, fun W hW => ?_⟩) hHeld ?_
  ·clear hW
   go_simp
  try simp only [Act.put, a0, a1, a2, a3, a4, a5]
  refine wpT (i := 9) (v := .int .u32 (x.m : Int)) rfl (Or.inl ⟨by rfl, fun W hW => ?_⟩) hHeld ?_
  ·have c1 := (HC.out W hW).2.1
   clear hW
   go_simp
  try simp only [Act.put, a0, a1, a2, a3, a4, a5]
  refine wpR (rs := [2]) (AllReadyH.cons rfl (fun K hK => ?_) AllReadyH.nil)
  go_simp
  refine (shname_any x.of _).mono ?_
  rintro e _ ⟨rfl, rfl⟩
  go_wp2_with fail
  refine hK.out _ _ hHeld (fun hHeld => ?_)
  clear hK K
  try simp only [Act.put, a0, a1, a2, a3, a4, a5]
  refine wpR (rs := [5]) (AllReadyH.cons rfl (fun K hK => ?_) AllReadyH.nil)
  go_simp
  refine (shside_any x.side _).mono ?_
  rintro e _ ⟨rfl, rfl⟩
  go_wp2_with fail
  refine hK.out _ _ hHeld (fun hHeld => ?_)
  clear hK K
  try simp only [Act.put, a0, a1, a2, a3, a4, a5]
  refine wpR (rs := [10]) (AllReadyH.cons rfl (fun K hK => ?_) AllReadyH.nil)
  go_simp
  refine (HPRT.out _ hHeld).mono ?_
  rintro e wk ⟨rfl, Kk⟩
  go_wp2_with fail
  refine hK.out _ _ (grown_trans hHeld Kk) (fun hHeld => ?_)
  clear hK K Kk
  try simp only [Act.put, a0, a1, a2, a3, a4, a5]
  refine wpR (rs := [11]) (AllReadyH.cons rfl (fun K hK => ?_) AllReadyH.nil)
  refine step_litG (by rfl) 82 3 _ (by rfl) _ (by kernel_rfl) [str (nameT x.of), str (sideW x.side), str (portsT x.n x.m)] 9 (lit_w3 _ _ _) ?_
  intro ad wl CL KL
  refine hK.out _ _ (grown_trans hHeld KL) (fun hHeld => ?_)
  clear hK K KL
  try simp only [Act.put, a0, a1, a2, a3, a4, a5]
  refine wpR (rs := [12]) (AllReadyH.cons rfl (fun K hK => ?_) AllReadyH.nil)
  go_simp
  refine (HWD.out (nameT x.of) (sideW x.side) (portsT x.n x.m) (by have := HLEN.out; first | omega | simp) (by have := HLEN.out; first | omega | simp) (by have := HLEN.out; first | omega | (simp only [List.length_append, List.length_cons, List.length_nil]; omega)) _ _ CL).mono ?_
  rintro e wk ⟨rfl, Kk⟩
  go_wp2_with fail
  refine hK.out _ _ (grown_trans hHeld Kk) (fun hHeld => ?_)
  clear hK K Kk CL
  try simp only [Act.put, a0, a1, a2, a3, a4, a5]
  refine wpT (i := 13) (v := str (wordsV [nameT x.of, sideW x.side, portsT x.n x.m])) rfl (Or.inl ⟨by rfl, fun W hW => ?_⟩) hHeld ?_
  ·clear hW
   go_simp
  try simp only [Act.put, a0, a1, a2, a3, a4, a5]
  refine wpAnyH_done (by kernel_rfl) ?_ _
  have HGF := hHeld
  clear hHeld
  go_wp2
  go_ret
  exact ⟨by rw [HE.out]; rfl, grown_trans HG1.out HGF⟩
set_option maxRecDepth 100000 in
set_option maxHeartbeats 8000000 in
theorem rowOf_any (x : Ng) (w : World) : Calls Tryz.prog 98 #[.agg x.cells.toArray] w fun e w' => e = .returned (.int .i64 (rowG x)) ∧ w.grownBy w' none := by
 have HBX := box_ng x
 have h3 := World.grownBy_alloc w (.cells x.cells.toArray 43) none
 have V := NB.alloc w x
 obtain ⟨E, hE⟩ : ∃ E, rowG x = E := ⟨_, rfl⟩
 rw [hE]
 have HE : Hid (rowG x = E) := hE
 obtain ⟨X, hX⟩ : ∃ X, x.cells.toArray = X := ⟨_, rfl⟩
 rw [hX] at HBX ⊢
 clear hE
 go_enter Tryz.func98, Tryz.ntmps98
 go_upto_region 1 with fail
 rw [← hX] at *
 generalize w.alloc (.cells x.cells.toArray 43) = w1 at *
 generalize w.heap.size = B at *
 have c0 := V.kind
 have c1 := V.op
 obtain ⟨kk, hkk⟩ : ∃ kk, x.kind = kk := ⟨_, rfl⟩
 have HK : Hid (x.kind = kk) := hkk
 rw [hkk] at c0
 clear HBX hX X V hkk
 have hc : kk = 8 ∨ kk = 7 ∨ kk = 9 ∨ kk = 6 ∨ kk = 5 ∨ kk = 4 ∨ ¬ (4 ≤ kk ∧ kk ≤ 9) := by omega
 rcases hc with rfl | rfl | rfl | rfl | rfl | rfl | hn
 ·obtain rfl : E = 1 := by rw [← HE.out]; unfold rowG; rw [HK.out]; rfl
  go_wp2
  go_ret
  exact ⟨rfl, h3⟩
 ·obtain rfl : E = 2 := by rw [← HE.out]; unfold rowG; rw [HK.out]; rfl
  go_wp2
  go_ret
  exact ⟨rfl, h3⟩
 ·obtain rfl : E = 3 := by rw [← HE.out]; unfold rowG; rw [HK.out]; rfl
  go_wp2
  go_ret
  exact ⟨rfl, h3⟩
 ·obtain rfl : E = 4 := by rw [← HE.out]; unfold rowG; rw [HK.out]; rfl
  go_wp2
  go_ret
  exact ⟨rfl, h3⟩
 ·obtain rfl : E = 11 := by rw [← HE.out]; unfold rowG; rw [HK.out]; rfl
  go_wp2
  go_ret
  exact ⟨rfl, h3⟩
 ·have CA := rowOfArith_any x.op
  obtain rfl : E = rowA x.op := by rw [← HE.out]; exact row_arith HK.out
  go_wp2_with fail
  refine (CA _).mono ?_
  rintro e w2 ⟨rfl, rfl⟩
  go_wp2
  go_ret
  exact ⟨rfl, h3⟩
 ·obtain rfl : E = 12 := by
   rw [← HE.out]
   unfold rowG
   rw [HK.out]
   rw [if_neg (by omega), if_neg (by omega), if_neg (by omega), if_neg (by omega), if_neg (by omega), if_pos (by omega)]
  have u4 : (kk == 4) = false := by rw [beq_eq_false_iff_ne]; omega
  have u5 : (kk == 5) = false := by rw [beq_eq_false_iff_ne]; omega
  have u6 : (kk == 6) = false := by rw [beq_eq_false_iff_ne]; omega
  have u7 : (kk == 7) = false := by rw [beq_eq_false_iff_ne]; omega
  have u8 : (kk == 8) = false := by rw [beq_eq_false_iff_ne]; omega
  have u9 : (kk == 9) = false := by rw [beq_eq_false_iff_ne]; omega
  clear hn
  go_wp2
  go_ret
  exact ⟨rfl, h3⟩
theorem cmp_rel {k : Int} (h : 1 ≤ k ∧ k ≤ 6) : cmpW k = relT k := by
 have : k = 1 ∨ k = 2 ∨ k = 3 ∨ k = 4 ∨ k = 5 ∨ k = 6 := by omega
 rcases this with rfl | rfl | rfl | rfl | rfl | rfl <;> rfl
theorem ari_op {k : Int} (h : 1 ≤ k ∧ k ≤ 10) : ariW k = opT13 k := by
 have : k = 1 ∨ k = 2 ∨ k = 3 ∨ k = 4 ∨ k = 5 ∨ k = 6 ∨ k = 7 ∨ k = 8 ∨ k = 9 ∨ k = 10 := by omega
 rcases this with rfl | rfl | rfl | rfl | rfl | rfl | rfl | rfl | rfl | rfl <;> rfl
set_option maxRecDepth 100000 in
set_option maxHeartbeats 8000000 in
theorem shsign_any (x : Ng) (w : World) (hx : x.kind = 7 ∨ x.kind = 8 ∨ (x.kind = 6 ∧ 1 ≤ x.op ∧ x.op ≤ 6) ∨ (x.kind = 4 ∧ 1 ≤ x.op ∧ x.op ≤ 10)) : Calls Tryz.prog 102 #[.agg x.cells.toArray] w fun e w' => e = .returned (str (signT x)) ∧ w.grownBy w' none := by
 have HBX := box_ng x
 have h3 := World.grownBy_alloc w (.cells x.cells.toArray 43) none
 have V := NB.alloc w x
 obtain ⟨E, hE⟩ : ∃ E, signT x = E := ⟨_, rfl⟩
 rw [hE]
 have HE : Hid (signT x = E) := hE
 obtain ⟨X, hX⟩ : ∃ X, x.cells.toArray = X := ⟨_, rfl⟩
 rw [hX] at HBX ⊢
 clear hE
 go_enter Tryz.func102, Tryz.ntmps102
 go_upto_region 1 with fail
 rw [← hX] at *
 generalize w.alloc (.cells x.cells.toArray 43) = w1 at *
 generalize w.heap.size = B at *
 have c0 := V.kind
 have c1 := V.op
 obtain ⟨kk, hkk⟩ : ∃ kk, x.kind = kk := ⟨_, rfl⟩
 have HK : Hid (x.kind = kk) := hkk
 rw [hkk] at c0
 rw [hkk] at hx
 clear HBX hX X V hkk
 rcases hx with rfl | rfl | ⟨rfl, h1, h2⟩ | ⟨rfl, h1, h2⟩
 ·obtain rfl : E = [97, 110, 100] := by rw [← HE.out]; unfold signT; rw [HK.out]; rfl
  go_wp2
  go_ret
  exact ⟨rfl, h3⟩
 ·obtain rfl : E = [111, 114] := by rw [← HE.out]; unfold signT; rw [HK.out]; rfl
  go_wp2
  go_ret
  exact ⟨rfl, h3⟩
 ·have CC := comparison_any x.op
  obtain rfl : E = cmpW x.op := by rw [← HE.out, cmp_rel ⟨h1, h2⟩]; unfold signT; rw [HK.out]; rfl
  clear h1 h2
  go_wp2_with fail
  refine (CC _).mono ?_
  rintro e w2 ⟨rfl, rfl⟩
  go_wp2
  go_ret
  exact ⟨rfl, h3⟩
 ·have CC := arithmetic_any x.op
  obtain rfl : E = ariW x.op := by rw [← HE.out, ari_op ⟨h1, h2⟩]; unfold signT; rw [HK.out]; rfl
  clear h1 h2
  go_wp2_with fail
  refine (CC _).mono ?_
  rintro e w2 ⟨rfl, rfl⟩
  go_wp2
  go_ret
  exact ⟨rfl, h3⟩
def Tr.Typed : Tr → Prop
 | .leaf _ => True
 | .one x p => p.Typed ∧ truthG p.root.kind = wantsG x.kind
 | .two x p q => p.Typed ∧ q.Typed ∧ truthG p.root.kind = wantsG x.kind ∧ truthG q.root.kind = wantsG x.kind
theorem join_truth (x : Ng) (ps : List Pt) : (joinG x ps).truth = truthG x.kind := by
 unfold joinG
 split
 ·split <;> rfl
 ·rfl
theorem step_parts {x : Ng} {st ps s : List Pt} (ha : arG x.kind = some ps.length) (h : stepG x (st ++ ps) = .ok s) : s = st ++ [joinG x ps] ∧ ∀ p ∈ ps, p.truth = wantsG x.kind := by
 unfold stepG at h
 rw [ha] at h
 simp only at h
 have hl : (st ++ ps).length - ps.length = st.length := by rw [List.length_append]; omega
 rw [hl, List.drop_left, List.take_left] at h
 split at h
 ·cases h
 ·split at h
  ·cases h
  ·rename_i hf
   cases h
   refine ⟨rfl, fun p hp => ?_⟩
   have hf0 : faultG x ps = 0 := Decidable.not_not.1 hf
   unfold faultG at hf0
   split at hf0
   ·cases hf0
   ·split at hf0
    ·rename_i hkE; exact absurd hf0 hkE
    ·rename_i hkE
     have hk0 : kindE x.kind ps = 0 := Decidable.not_not.1 hkE
     unfold kindE at hk0
     split at hk0
     ·rename_i hall
      simpa using List.all_eq_true.1 hall p hp
     ·split at hk0
      ·cases hk0
      ·cases hk0
theorem walk_one {x : Ng} {st s : List Pt} {k : Nat} (h : walkG st k [x] = .ok s) : stepG x st = .ok s := by
 simp only [walkG] at h
 cases hx : stepG x st with
 | error e => rw [hx] at h; cases h
 | ok s1 => rw [hx] at h; cases h; rfl
theorem walk_two {l m : List Ng} {st s : List Pt} {k : Nat} (h : walkG st k (l ++ m) = .ok s) : ∃ s1, walkG st k l = .ok s1 ∧ walkG s1 (k + l.length) m = .ok s := by
 rw [walkG_app] at h
 cases hl : walkG st k l with
 | error e => rw [hl] at h; cases h
 | ok s1 => rw [hl] at h; exact ⟨s1, rfl, h⟩
theorem walk_tree : ∀ (T : Tr), T.Wf → ∀ (st s : List Pt) (k : Nat), walkG st k T.flat = .ok s → ∃ pt, s = st ++ [pt] ∧ pt.truth = truthG T.root.kind ∧ T.Typed
 | .leaf x, hw, st, s, k, h => by
  have hw : arG x.kind = some 0 := hw
  obtain ⟨h1, -⟩ := step_parts (st := st) (ps := []) hw (by rw [List.append_nil]; exact walk_one h)
  exact ⟨_, h1, join_truth _ _, trivial⟩
 | .one x p, hw, st, s, k, h => by
  obtain ⟨ha, hp⟩ : arG x.kind = some 1 ∧ p.Wf := hw
  obtain ⟨s1, h1, h2⟩ := walk_two (l := p.flat) (m := [x]) h
  obtain ⟨a, rfl, ta, ya⟩ := walk_tree p hp _ _ _ h1
  obtain ⟨h3, h4⟩ := step_parts (st := st) (ps := [a]) ha (walk_one h2)
  exact ⟨_, h3, join_truth _ _, ya, by rw [← ta]; exact h4 a (by simp)⟩
 | .two x p q, hw, st, s, k, h => by
  obtain ⟨ha, hp, hq⟩ : arG x.kind = some 2 ∧ p.Wf ∧ q.Wf := hw
  obtain ⟨s2, h2, h3⟩ := walk_two (l := p.flat ++ q.flat) (m := [x]) h
  obtain ⟨s1, h1, h4⟩ := walk_two (l := p.flat) (m := q.flat) h2
  obtain ⟨a, rfl, ta, ya⟩ := walk_tree p hp _ _ _ h1
  obtain ⟨b, rfl, tb, yb⟩ := walk_tree q hq _ _ _ h4
  rw [List.append_assoc] at h3
  obtain ⟨h5, h6⟩ := step_parts (st := st) (ps := [a, b]) ha (walk_one h3)
  exact ⟨_, h5, join_truth _ _, ya, yb, by rw [← ta]; exact h6 a (by simp), by rw [← tb]; exact h6 b (by simp)⟩
theorem filt_typed {t : List Ng} (h : (checkG t).2 = 0) {T : Tr} (hT : T.Wf) (hf : T.flat = t) : T.Typed ∧ truthG T.root.kind = true := by
 obtain ⟨q, hq, ht, -⟩ := filt_iff.1 h
 rw [← hf] at hq
 obtain ⟨pt, h1, h2, h3⟩ := walk_tree T hT [] _ 0 hq
 have : q = pt := by simpa using h1
 exact ⟨h3, by rw [← h2, ← this]; exact ht⟩
def wantL (full : Bool) (row least : Int) : Bool := decide (row < if full = true then 12 else least)
theorem want_eq (full : Bool) {row least : Int} (h : least ≤ 12) : wantL full row least = wantT full row least := by
 unfold wantL wantT
 cases full with
 | false => simp
 | true =>
  simp only [if_true, Bool.true_and]
  by_cases h1 : row < 12
  ·simp [h1]
  ·rw [decide_eq_false h1, decide_eq_false (by omega)]
   rfl
theorem row_num {x : Ng} (h : truthG x.kind = false) : 5 ≤ rowG x := by
 unfold truthG at h
 have h6 : ¬ 6 ≤ x.kind := of_decide_eq_false h
 unfold rowG
 rw [if_neg (by omega), if_neg (by omega), if_neg (by omega), if_neg (by omega)]
 split
 ·omega
 ·split
  ·omega
  ·split
   ·omega
   ·split
    ·omega
    ·split
     ·omega
     ·split
      ·omega
      ·split
       ·omega
       ·omega
theorem want_rel (full : Bool) {x : Ng} (h : truthG x.kind = false) : wantL full (rowG x) 4 = wantT full (rowG x) 5 := by
 have h5 := row_num h
 rw [want_eq full (by decide)]
 unfold wantT
 rw [decide_eq_false (show ¬ rowG x < 4 by omega), decide_eq_false (show ¬ rowG x < 5 by omega)]

end Go.Proofs.YtklipelnjgpnjaaGreatDoor
