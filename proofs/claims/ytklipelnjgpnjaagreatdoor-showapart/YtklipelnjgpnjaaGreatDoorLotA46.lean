import Derived.Test.YtklipelnjgpnjaaGreatDoorAb
import Derived.Test.YtklipelnjgpnjaaGreatDoorLotA12
import Derived.Test.YtklipelnjgpnjaaGreatDoorLotA45
import Derived.Test.YtklipelnjgpnjaaGreatDoorLotA27
import Derived.Test.YtklipelnjgpnjaaGreatDoorLotA25
import Derived.Test.YtklipelnjgpnjaaGreatDoorLotA10
import Derived.Test.YtklipelnjgpnjaaGreatDoorLotA28
namespace Go.Proofs.YtklipelnjgpnjaaGreatDoor
open Go.RowKit
set_option maxRecDepth 100000
def SameL (xs ys : List Ng) : Prop := xs.length = ys.length ∧ ∀ i (h1 : i < xs.length) (h2 : i < ys.length), sameG xs[i] ys[i] = true
theorem sameG_eq {x y : Ng} (hx : x.addr.length = 16) (hy : y.addr.length = 16) : sameG x y = true ↔ x = y := by
 have key : ∀ z : Ng, z.addr.length = 16 → adgs z = z.addr := fun z hl => by
  unfold adgs
  generalize z.addr = l at *
  match l, hl with
  | [_, _, _, _, _, _, _, _, _, _, _, _, _, _, _, _], _ => rfl
 unfold sameG
 rw [key x hx, key y hy]
 cases x
 cases y
 simp
 constructor
 ·rintro ⟨⟨⟨⟨⟨⟨⟨⟨h1, h2⟩, h3⟩, h4⟩, h5⟩, h6⟩, h7⟩, h8⟩, h9⟩
  exact ⟨h1, h2, h3, h4, h5, h6, h7, h8, h9⟩
 ·rintro ⟨h1, h2, h3, h4, h5, h6, h7, h8, h9⟩
  exact ⟨⟨⟨⟨⟨⟨⟨⟨h1, h2⟩, h3⟩, h4⟩, h5⟩, h6⟩, h7⟩, h8⟩, h9⟩
theorem sameL_eq {xs ys : List Ng} (hx : ∀ x ∈ xs, x.addr.length = 16) (hy : ∀ x ∈ ys, x.addr.length = 16) : SameL xs ys ↔ xs = ys := by
 constructor
 ·rintro ⟨h1, h2⟩
  refine List.ext_getElem h1 fun i g1 g2 => ?_
  exact (sameG_eq (hx _ (List.getElem_mem g1)) (hy _ (List.getElem_mem g2))).1 (h2 i g1 g2)
 ·rintro rfl
  exact ⟨rfl, fun i g1 g2 => (sameG_eq (hx _ (List.getElem_mem g1)) (hx _ (List.getElem_mem g1))).2 rfl⟩
def SmE (xs ys : List Ng) (w : World) (e : Ending) (w' : World) : Prop := ∃ r : Bool, ((r = true) ↔ SameL xs ys) ∧ e = .returned (.bool r) ∧ ∃ n, w' = w.drewN n
set_option maxRecDepth 100000 in
set_option maxHeartbeats 2000000 in
theorem gsameL_any (a b : Option Addr) (ca cb : Nat) (xs ys : List Ng) (w : World) (ha : CV w a (flatG xs)) (hb : CV w b (flatG ys)) (hm : xs.length ≤ 9223372036854775807) :
  Calls Tryz.prog 18 #[.slice a xs.length ca, .slice b ys.length cb] w fun e w' => SmE xs ys w e w' := by
 by_cases hlen : xs.length = ys.length
 rotate_left
 ·have hne : ((xs.length : Int) != (ys.length : Int)) = true := by rw [bne_iff_ne]; omega
  have HF : Hid ((false = true) ↔ SameL xs ys) := ⟨fun h => (by cases h), fun h => absurd h.1 hlen⟩
  clear hlen ha hb
  go_enter Tryz.func18, Tryz.ntmps18
  go_wp2
  go_ret
  exact ⟨false, (by first | exact HF.out | simpa using HF.out), rfl, 0, rfl⟩
 have HLE : Hid (xs.length = ys.length) := hlen
 rw [← hlen]
 clear hlen
 have hne : ((xs.length : Int) != (xs.length : Int)) = false := by simp
 go_enter Tryz.func18, Tryz.ntmps18
 go_wp2
 go_loopw [5] (fun i wr => ∃ k : Nat, k ≤ xs.length ∧ i = .int .i64 k ∧ (∃ n, wr = w.drewN n) ∧ Hid (∀ j (h1 : j < xs.length) (h2 : j < ys.length), j < k → sameG xs[j] ys[j] = true)) (fun i _ => xs.length - (intOf i).toNat)
 case atStart => exact ⟨0, Nat.zero_le _, rfl, ⟨0, rfl⟩, fun j _ _ h => absurd h (Nat.not_lt_zero _)⟩
 case round =>
  obtain ⟨k, hk, rfl, ⟨n, rfl⟩, HS⟩ := hrel
  by_cases hlt : k < xs.length
  ·obtain ⟨b1, o1, rfl, -⟩ := ha.ngs hlt
   have hlt2 : k < ys.length := HLE.out ▸ hlt
   obtain ⟨b2, o2, rfl, -⟩ := hb.ngs hlt2
   have HA : Hid (∀ W, (∃ n, W = w.drewN n) → W.rangeAt b1 (o1 + k * 24) xs[k].cells) := fun W ⟨n, hW⟩ => by
    obtain ⟨b, o, e, h⟩ := (ha.keptNone (hW ▸ grown_drewN w n none)).ngs hlt
    simp only [Option.some.injEq, Addr.mk.injEq] at e
    obtain ⟨rfl, rfl, -⟩ := e
    exact h k hlt
   have HB : Hid (∀ W, (∃ n, W = w.drewN n) → W.rangeAt b2 (o2 + k * 24) ys[k].cells) := fun W ⟨n, hW⟩ => by
    obtain ⟨b, o, e, h⟩ := (hb.keptNone (hW ▸ grown_drewN w n none)).ngs hlt2
    simp only [Option.some.injEq, Addr.mk.injEq] at e
    obtain ⟨rfl, rfl, -⟩ := e
    exact h k hlt2
   have HEQ := fun W => ng_cmp xs[k] ys[k] W
   have HSX : Hid ((Tryz.prog.info? 43).map (·.size) = some xs[k].cells.length) := size43
   have HSY : Hid ((Tryz.prog.info? 43).map (·.size) = some ys[k].cells.length) := size43
   have HNEXT : Hid (sameG xs[k] ys[k] = true → ∀ j (h1 : j < xs.length) (h2 : j < ys.length), j < k + 1 → sameG xs[j] ys[j] = true) := fun h j h1 h2 hj => by
    by_cases hjk : j < k
    ·exact HS.out j h1 h2 hjk
    ·obtain rfl : j = k := by omega
     exact h
   have HNO : Hid (sameG xs[k] ys[k] = false → ((false = true) ↔ SameL xs ys)) := fun h => ⟨fun h => (by cases h), fun hs => (by rw [hs.2 k hlt hlt2] at h; cases h)⟩
   clear ha hb HS
   generalize sameG xs[k] ys[k] = sb at *
   generalize xs[k].cells = cs at *
   generalize ys[k].cells = ds at *
   have hl : (k : Int) < (xs.length : Int) := by omega
   have z0 : (0 : Int) ≤ (k : Int) := by omega
   go_upto_region 6 with fail
   refine wp_region_held_drew (S := fun W => ∃ n, W = w.drewN n) (by kernel_rfl) ⟨n + 1, rfl⟩ (fun hHeld => ?_)
   refine wpT (i := 0) (v := .slice (some ⟨b1, o1, none⟩) xs.length ca) rfl (Or.inl ⟨by rfl, fun W hW => ?_⟩) hHeld ?_
   ·clear hW
    go_simp
   try simp only [Act.put, a0, a1, a3, a4, a5]
   refine wpT (i := 1) (v := .int .i64 (k : Int)) rfl (Or.inl ⟨by rfl, fun W hW => ?_⟩) hHeld ?_
   ·clear hW
    go_simp
   try simp only [Act.put, a0, a1, a2, a3, a4, a5]
   refine wpT (i := 2) (v := .pointer (some ⟨b1, o1 + k * 24, none⟩)) rfl (Or.inl ⟨by rfl, fun W hW => ?_⟩) hHeld ?_
   ·clear hW
    go_simp
   try simp only [Act.put, a0, a1, a2, a3, a4, a5]
   refine wpT (i := 3) (v := .agg cs.toArray) rfl (yieldsIf_load_mid (by rfl) _ _ rfl _ _ rfl cs _ (fun W hW => HA.out W hW) Tryz.underlying43 rfl HSX.out) hHeld ?_
   try simp only [Act.put, a0, a1, a2, a3, a4, a5]
   refine wpT (i := 4) (v := .slice (some ⟨b2, o2, none⟩) xs.length cb) rfl (Or.inl ⟨by rfl, fun W hW => ?_⟩) hHeld ?_
   ·clear hW
    go_simp
   try simp only [Act.put, a0, a1, a2, a3, a4, a5]
   refine wpT (i := 5) (v := .int .i64 (k : Int)) rfl (Or.inl ⟨by rfl, fun W hW => ?_⟩) hHeld ?_
   ·clear hW
    go_simp
   try simp only [Act.put, a0, a1, a2, a3, a4, a5]
   refine wpT (i := 6) (v := .pointer (some ⟨b2, o2 + k * 24, none⟩)) rfl (Or.inl ⟨by rfl, fun W hW => ?_⟩) hHeld ?_
   ·clear hW
    go_simp
   try simp only [Act.put, a0, a1, a2, a3, a4, a5]
   refine wpT (i := 7) (v := .agg ds.toArray) rfl (yieldsIf_load_mid (by rfl) _ _ rfl _ _ rfl ds _ (fun W hW => HB.out W hW) Tryz.underlying43 rfl HSY.out) hHeld ?_
   try simp only [Act.put, a0, a1, a2, a3, a4, a5]
   refine wpT (i := 8) (v := .bool (!sb)) rfl (Or.inl ⟨by rfl, fun W hW => ?_⟩) hHeld ?_
   ·clear hW
    go_simp
   try simp only [Act.put, a0, a1, a2, a3, a4, a5]
   refine wpAnyH_done (by kernel_rfl) ?_ _
   obtain ⟨n', hn'⟩ := hHeld
   clear HA HB HSX HSY HEQ
   cases sb with
   | true =>
    go_wp2
    go_roundw
    case rel => exact ⟨k + 1, by omega, by go_num, ⟨n', by first | rfl | exact hn'⟩, HNEXT.out rfl⟩
    case measure => simp [intOf]; omega
   | false =>
    go_wp2
    go_ret
    exact ⟨false, (by first | exact HNO.out rfl | simpa using HNO.out trivial | simpa using HNO.out), rfl, n', by first | rfl | exact hn'⟩
  ·obtain rfl : k = xs.length := by omega
   have HT : Hid ((true = true) ↔ SameL xs ys) := ⟨fun _ => ⟨HLE.out, fun j h1 h2 => HS.out j h1 h2 h1⟩, fun _ => rfl⟩
   have hl' : ¬ (xs.length : Int) < (xs.length : Int) := by omega
   clear hlt
   go_wp2
   go_ret
   exact ⟨true, (by first | exact HT.out | simpa using HT.out), rfl, n, rfl⟩
set_option maxRecDepth 100000 in
set_option maxHeartbeats 8000000 in
theorem walk_two_F {w : World} {M B7 p2 p3 p5 p6 p7 p8 nb no m cap : Nat} (P : WPos M B7 p2 p3 p5 p6 p7 p8) (hM : M ≤ B7) {W : World} {v : Value} {ts : List (List UInt8)} {ne dp : Int} {l : Nat} (E : WEnv w M B7 p2 p3 p5 p6 p7 p8 (.slice (some ⟨nb, no, none⟩) m cap) 27 W v ts ne dp (l + 1)) (x : Ng) (hx : W.rangeAt nb (no + l * 24) x.cells) (hlt : l < m) (hm : m ≤ 1000000) (least : Int) (hr : ¬ rowG x < least) (hk : x.kind = 4 ∨ x.kind = 6 ∨ x.kind = 7 ∨ x.kind = 8) (hrow : 0 ≤ rowG x ∧ rowG x ≤ 12) (hsg : x.kind = 7 ∨ x.kind = 8 ∨ (x.kind = 6 ∧ 1 ≤ x.op ∧ x.op ≤ 6) ∨ (x.kind = 4 ∧ 1 ≤ x.op ∧ x.op ≤ 10)) (rp rq : List UInt8) (dp0 dq np nq kp kq : Nat) (hts : ts.length + kp + kq ≤ 900000) (H1 : ∀ W1, WEnv w M B7 p2 p3 p5 p6 p7 p8 (.slice (some ⟨nb, no, none⟩) m cap) 27 W1 v ts ne dp l → Calls Tryz.prog 97 #[.int .i64 12, .pointer (some ⟨p2, 0, none⟩), .pointer (some ⟨p6, 0, none⟩), .pointer (some ⟨p8, 0, none⟩), .pointer (some ⟨p3, 0, none⟩), .pointer (some ⟨p7, 0, none⟩), .pointer (some ⟨p5, 0, none⟩)] W1 (WP w M B7 p2 p3 p5 p6 p7 p8 (.slice (some ⟨nb, no, none⟩) m cap) 27 W1 v ts ne dp l rq dq nq kq)) (H2 : ∀ W1 v1 R1 dp1, WEnv w M B7 p2 p3 p5 p6 p7 p8 (.slice (some ⟨nb, no, none⟩) m cap) 27 W1 v1 (ts ++ R1) ne dp1 (l - nq) → R1.length ≤ kq + 3 → Calls Tryz.prog 97 #[.int .i64 12, .pointer (some ⟨p2, 0, none⟩), .pointer (some ⟨p6, 0, none⟩), .pointer (some ⟨p8, 0, none⟩), .pointer (some ⟨p3, 0, none⟩), .pointer (some ⟨p7, 0, none⟩), .pointer (some ⟨p5, 0, none⟩)] W1 (WP w M B7 p2 p3 p5 p6 p7 p8 (.slice (some ⟨nb, no, none⟩) m cap) 27 W1 v1 (ts ++ R1) ne dp1 (l - nq) rp dp0 np kp)) :
  Calls Tryz.prog 97 #[.int .i64 least, .pointer (some ⟨p2, 0, none⟩), .pointer (some ⟨p6, 0, none⟩), .pointer (some ⟨p8, 0, none⟩), .pointer (some ⟨p3, 0, none⟩), .pointer (some ⟨p7, 0, none⟩), .pointer (some ⟨p5, 0, none⟩)] W
   (WP w M B7 p2 p3 p5 p6 p7 p8 (.slice (some ⟨nb, no, none⟩) m cap) 27 W v ts ne dp (l + 1) (rp ++ [32] ++ signT x ++ [32] ++ rq) (max dp0 dq) (np + nq + 1) (kq + 3 + kp)) := by
 rcases hk with hk | hk | hk | hk
 all_goals
  have hW := E.sz
  have X0 := VAt.alloc W 43 ngZ.cells.toArray
  have GA := World.grownBy_alloc W (.cells x.cells.toArray 43) none
  have EA := E.kept P hM GA
  have NA := NB.alloc W x
  have c2 := E.c2
  have c6 : W.cell? ⟨p6, 0, none⟩ = some (.int .i64 ((l : Int) + 1)) := VAt.cell E.lf 0
  have hw1 : IntKind.i64.wrap ((l : Int) + 1 - 1) = (l : Int) := by rw [IntKind.wrap_i64]; omega
  have hl0 : (0 : Int) ≤ (l : Int) := by omega
  have hl1 : (l : Int) < (m : Int) := by omega
  have HE : Hid (WEnv w M B7 p2 p3 p5 p6 p7 p8 (.slice (some ⟨nb, no, none⟩) m cap) 27 W v ts ne dp (l + 1)) := E
  have HEA : Hid (WEnv w M B7 p2 p3 p5 p6 p7 p8 (.slice (some ⟨nb, no, none⟩) m cap) 27 (W.alloc (.cells x.cells.toArray 43)) v ts ne dp (l + 1)) := EA
  have HX : Hid (W.rangeAt nb (no + l * 24) x.cells) := hx
  clear E EA hx
  go_enter Tryz.func97, Tryz.ntmps97
  go_upto_region 1 with (first | refine wpList_load_midG (by rfl) 43 (.tmp 13) rfl nb (no + l * 24) rfl x.cells _ HX.out Tryz.underlying43 rfl (ng_len x) ?_ | refine wpList_store_row rfl 43 (.tmp 8) (.tmp 14) rfl W.heap.size x.cells.toArray rfl rfl 43 _ X0 (ng_size x) rfl (ng_all x) ?_)
  rw [World.setRow_alloc_new]
  clear X0
  generalize W.alloc (.cells x.cells.toArray 43) = W0 at *
  generalize hBe : W.heap.size = B at *
  have HBE : Hid (W.heap.size = B) := hBe
  clear hBe
  have CR := rowOf_any x W0
  obtain ⟨X, hX⟩ : ∃ X, x.cells.toArray = X := ⟨_, rfl⟩
  have HV : VAt W0 B 43 X := hX ▸ NA
  have HZ : Hid ((Tryz.prog.info? 43).map (·.size) = some X.size) := hX ▸ ng_size x
  rw [hX] at CR ⊢
  have HXX : Hid (x.cells.toArray = X) := hX
  clear hX c2 c6 hw1
  obtain ⟨rr, hrr⟩ : ∃ rr, rowG x = rr := ⟨_, rfl⟩
  have HRR : Hid (rowG x = rr) := hrr
  rw [hrr] at *
  clear hrr
  go_upto_region 2 with (refine wpList_load_row rfl 43 (.tmp 8) rfl B rfl 43 X (0, 0) _ HV Tryz.underlying43 rfl HZ.out ?_)
  refine CR.mono ?_
  rintro e w1 ⟨rfl, G1⟩
  have HE1 : Hid (WEnv w M B7 p2 p3 p5 p6 p7 p8 (.slice (some ⟨nb, no, none⟩) m cap) 27 w1 v ts ne dp (l + 1)) := HEA.out.kept P hM G1
  have N1 : NB w1 B x := NB.kept NA G1
  have HG1 : Hid (W.grownBy w1 none) := grown_trans GA G1
  have c8 := HE1.out.c8
  clear CR G1 NA GA HEA HV HZ
  have f6 := VAt.free HE1.out.lf 0
  have c6 : w1.cell? ⟨p6, 0, none⟩ = some (.int .i64 ((l : Int) + 1)) := VAt.cell HE1.out.lf 0
  have hw1 : IntKind.i64.wrap ((l : Int) + 1 - 1) = (l : Int) := by rw [IntKind.wrap_i64]; omega
  have hBs := HE.out.sz
  have hB1 : B < w1.heap.size := VAt.lt N1
  clear c8
  go_upto_region 5 with fail
  obtain ⟨E2, K2⟩ := HE1.out.took P l
  have N2 : NB (w1.setCell ⟨p6, 0, none⟩ (.int .i64 (l : Int))) B x := VAt.setOther N1 _ (by have := P.l6; omega)
  have KW : Kp M (WS p5 p6 v) W (w1.setCell ⟨p6, 0, none⟩ (.int .i64 (l : Int))) := (Kp.none HG1.out (by omega)).trans K2
  generalize w1.setCell ⟨p6, 0, none⟩ (.int .i64 (l : Int)) = w2 at *
  have HE2 : Hid (WEnv w M B7 p2 p3 p5 p6 p7 p8 (.slice (some ⟨nb, no, none⟩) m cap) 27 w2 v ts ne dp l) := E2
  have HN2 : Hid (NB w2 B x) := N2
  have c8 := E2.c8
  have c3 := E2.c3
  have k0 := N2.kind
  rw [hk] at k0
  clear E2 K2 f6 c6 hw1 N1 N2
  have hvB : v.ownBlock ≠ some B := fun e => by have := (HE.out.out.2.lt B e).2; have := HBE.out; omega
  have c7 := HE2.out.c7
  have hwr : IntKind.i64.wrap (rowG x + 1) = rowG x + 1 := by rw [IntKind.wrap_i64]; omega
  have CS := fun W0 => shsign_any x W0 hsg
  rw [HXX.out] at CS
  clear hsg
  go_upto_region 17 with fail
  refine wp_region_held_drew (S := fun W => W.cell? ⟨p7, 0, none⟩ = some (.func (.func 97) #[] #[.pointer (some ⟨p2, 0, none⟩), .pointer (some ⟨p6, 0, none⟩), .pointer (some ⟨p8, 0, none⟩), .pointer (some ⟨p3, 0, none⟩), .pointer (some ⟨p7, 0, none⟩), .pointer (some ⟨p5, 0, none⟩)]) ∧ W.cell? ⟨p3, 0, none⟩ = some (.func (.func 27) #[] #[])) (by kernel_rfl) ⟨c7, c3⟩ (fun hHeld => ?_)
  refine wpT (i := 0) (v := .func (.func 97) #[] #[.pointer (some ⟨p2, 0, none⟩), .pointer (some ⟨p6, 0, none⟩), .pointer (some ⟨p8, 0, none⟩), .pointer (some ⟨p3, 0, none⟩), .pointer (some ⟨p7, 0, none⟩), .pointer (some ⟨p5, 0, none⟩)]) rfl (Or.inl ⟨by rfl, fun W hW => ?_⟩) hHeld ?_
  ·obtain ⟨y1, y2⟩ := hW
   go_simp
  try simp only [Act.put, a0, a1, a3, a4, a5]
  refine wpT (i := 1) (v := .func (.func 27) #[] #[]) rfl (Or.inl ⟨by rfl, fun W hW => ?_⟩) hHeld ?_
  ·obtain ⟨y1, y2⟩ := hW
   go_simp
  try simp only [Act.put, a0, a1, a2, a3, a4, a5]
  refine wpT (i := 2) (v := .int .i64 (rowG x)) rfl (Or.inl ⟨by rfl, fun W hW => ?_⟩) hHeld ?_
  ·clear hW
   go_simp
  try simp only [Act.put, a0, a1, a2, a3, a4, a5]
  refine wpT (i := 3) (v := .int .i64 (rowG x + 1)) rfl (Or.inl ⟨by rfl, fun W hW => ?_⟩) hHeld ?_
  ·clear hW
   go_simp
  try simp only [Act.put, a0, a1, a2, a3, a4, a5]
  refine wpR (rs := [4]) (AllReadyH.cons rfl (fun K hK => ?_) AllReadyH.nil)
  go_simp
  refine (bare_F _ w2.drew).mono ?_
  rintro e w4 ⟨rfl, rfl⟩
  go_wp2_with fail
  refine hK.out _ _ hHeld (fun hHeld => ?_)
  clear hK K
  try simp only [Act.put, a0, a1, a2, a3, a4, a5]
  refine wpR (rs := [5]) (AllReadyH.cons rfl (fun K hK => ?_) AllReadyH.nil)
  go_simp
  have G25 : w2.grownBy w2.drew none := ⟨rfl, rfl, rfl, Nat.le_refl _, fun _ _ _ => rfl⟩
  have E5 := HE2.out.kept P hM G25
  have hs2 := HE2.out.sz
  have KW5 := KW.trans (Kp.none (n := M) (S := WS p5 p6 v) G25 (by omega))
  have N5 : NB w2.drew B x := NB.kept HN2.out G25
  refine (H1 w2.drew E5).mono ?_
  rintro e w9 ⟨rfl, v9, R9, E9, g9, K9, h9, k9⟩
  have y7 := E9.c7
  have y3 := E9.c3
  have hB5 : B ≠ p5 ∧ B ≠ p6 := by have := P.l5; have := P.l6; omega
  have N9 : NB w9 B x := K9.2 B _ ⟨hB5.1, hB5.2, hvB⟩ N5 rfl
  have HE9 : Hid (WEnv w M B7 p2 p3 p5 p6 p7 p8 (.slice (some ⟨nb, no, none⟩) m cap) 27 w9 v9 (ts ++ R9) ne (max dp (ne + (dq : Int))) (l - nq)) := E9
  have KA : Kp M (WS p5 p6 v) W w9 := KW5.trans K9
  have gA : OwnGo W.heap.size v.ownBlock v9 := g9.mono KW5.1.size
  clear E9 K9 g9 N5 E5 KW5 KW H1
  go_wp2_with fail
  refine hK.out _ _ ⟨y7, y3⟩ (fun hHeld => ?_)
  clear hK K
  try simp only [Act.put, a0, a1, a2, a3, a4, a5]
  refine wpAnyH_done (by kernel_rfl) ?_ _
  have HV9 : VAt w9 B 43 X := HXX.out ▸ N9
  have HZN : Hid ((Tryz.prog.info? 43).map (·.size) = some X.size) := HXX.out ▸ ng_size x
  clear y7 y3 c7 c3 c8 k0
  go_wp2_with (refine wpList_load_row rfl 43 (.tmp 8) rfl B rfl 43 X (0, 0) _ HV9 Tryz.underlying43 rfl HZN.out ?_)
  refine (CS w9).mono ?_
  rintro e w10 ⟨rfl, G10⟩
  have HE10 : Hid (WEnv w M B7 p2 p3 p5 p6 p7 p8 (.slice (some ⟨nb, no, none⟩) m cap) 27 w10 v9 (ts ++ R9) ne (max dp (ne + (dq : Int))) (l - nq)) := HE9.out.kept P hM G10
  have hP := put_any13 M B7 p5 w10.heap.size 3 [[32], signT x, [32]] (ts ++ R9) v9 ne (max dp (ne + (dq : Int))) (w10.alloc (.cells #[str [32], str (signT x), str [32]] 9)) P.m5 P.l5.1 (by have := HE10.out.sz; simp; omega) HE10.out.sz (by simp) (HE10.out.out.kept (World.grownBy_alloc _ _ _)) (fun e => by have := (HE10.out.out.2.lt _ e).2; omega) (cv_three w10 _ _ _ _) (by simp) (by simp; omega)
  clear CS HV9 HZN hHeld
  go_upto_region 19 with (refine hP.mono ?_; rintro e w11 ⟨rfl, ⟨v11, hO11, g11⟩, K11⟩)
  have GA6 := World.grownBy_alloc w10 (.cells #[str [32], str (signT x), str [32]] 9) none
  have hs9 := HE9.out.sz
  have hs10 := HE10.out.sz
  have E11 := (HE10.out.kept P hM GA6).wrote P K11 hO11 HE10.out.nd
  have KB : Kp M (WS p5 p6 v9) w9 w11 := (Kp.none (n := M) (S := WS p5 p6 v9) G10 (by omega)).trans ((Kp.none (n := M) (S := WS p5 p6 v9) GA6 (by omega)).trans (kp_wr K11))
  have gB : OwnGo w9.heap.size v9.ownBlock v11 := g11.mono (by have := G10.size; have := GA6.size; omega)
  have KAB := kp_then KA gA KB
  have gAB := gA.trans gB KA.1.size
  rw [List.append_assoc] at E11
  have HE11 : Hid (WEnv w M B7 p2 p3 p5 p6 p7 p8 (.slice (some ⟨nb, no, none⟩) m cap) 27 w11 v11 (ts ++ (R9 ++ [[32], signT x, [32]].reverse)) ne (max dp (ne + (dq : Int))) (l - nq)) := E11
  have c7 := E11.c7
  have c3 := E11.c3
  clear hP E11 GA6 G10 K11 hO11 g11 KA gA KB gB N9
  refine wp_region_held_drew (S := fun W => W.cell? ⟨p7, 0, none⟩ = some (.func (.func 97) #[] #[.pointer (some ⟨p2, 0, none⟩), .pointer (some ⟨p6, 0, none⟩), .pointer (some ⟨p8, 0, none⟩), .pointer (some ⟨p3, 0, none⟩), .pointer (some ⟨p7, 0, none⟩), .pointer (some ⟨p5, 0, none⟩)]) ∧ W.cell? ⟨p3, 0, none⟩ = some (.func (.func 27) #[] #[])) (by kernel_rfl) ⟨c7, c3⟩ (fun hHeld => ?_)
  refine wpT (i := 0) (v := .func (.func 97) #[] #[.pointer (some ⟨p2, 0, none⟩), .pointer (some ⟨p6, 0, none⟩), .pointer (some ⟨p8, 0, none⟩), .pointer (some ⟨p3, 0, none⟩), .pointer (some ⟨p7, 0, none⟩), .pointer (some ⟨p5, 0, none⟩)]) rfl (Or.inl ⟨by rfl, fun W hW => ?_⟩) hHeld ?_
  ·obtain ⟨y1, y2⟩ := hW
   go_simp
  try simp only [Act.put, a0, a1, a3, a4, a5]
  refine wpT (i := 1) (v := .func (.func 27) #[] #[]) rfl (Or.inl ⟨by rfl, fun W hW => ?_⟩) hHeld ?_
  ·obtain ⟨y1, y2⟩ := hW
   go_simp
  try simp only [Act.put, a0, a1, a2, a3, a4, a5]
  refine wpT (i := 2) (v := .int .i64 (rowG x)) rfl (Or.inl ⟨by rfl, fun W hW => ?_⟩) hHeld ?_
  ·clear hW
   go_simp
  try simp only [Act.put, a0, a1, a2, a3, a4, a5]
  refine wpR (rs := [3]) (AllReadyH.cons rfl (fun K hK => ?_) AllReadyH.nil)
  go_simp
  refine (bare_F _ w11.drew).mono ?_
  rintro e w4 ⟨rfl, rfl⟩
  go_wp2_with fail
  refine hK.out _ _ hHeld (fun hHeld => ?_)
  clear hK K
  try simp only [Act.put, a0, a1, a2, a3, a4, a5]
  refine wpR (rs := [4]) (AllReadyH.cons rfl (fun K hK => ?_) AllReadyH.nil)
  go_simp
  have G35 : w11.grownBy w11.drew none := ⟨rfl, rfl, rfl, Nat.le_refl _, fun _ _ _ => rfl⟩
  have E15 := HE11.out.kept P hM G35
  have KAD := KAB.trans (Kp.none (n := M) (S := WS p5 p6 v) G35 (by have := HE11.out.sz; omega))
  refine (H2 w11.drew v11 _ _ E15 (by simp; omega)).mono ?_
  rintro e w12 ⟨rfl, v12, R12, E12, g12, K12, h12, k12⟩
  have z7 := E12.c7
  have z3 := E12.c3
  have HE12 : Hid (WEnv w M B7 p2 p3 p5 p6 p7 p8 (.slice (some ⟨nb, no, none⟩) m cap) 27 w12 v12 (ts ++ (R9 ++ [[32], signT x, [32]].reverse) ++ R12) ne (max (max dp (ne + (dq : Int))) (ne + (dp0 : Int))) (l - nq - np)) := E12
  have KF := kp_then KAD gAB K12
  have gF := gAB.trans g12 KAD.1.size
  clear E12 K12 g12 KAD E15 H2
  go_wp2_with fail
  refine hK.out _ _ ⟨z7, z3⟩ (fun hHeld => ?_)
  clear hK K
  try simp only [Act.put, a0, a1, a2, a3, a4, a5]
  refine wpAnyH_done (by kernel_rfl) ?_ _
  go_wp2
  go_end0
  have e1 : max (max dp (ne + (dq : Int))) (ne + (dp0 : Int)) = max dp (ne + ((max dp0 dq : Nat) : Int)) := by omega
  have e2 : l - nq - np = l + 1 - (np + nq + 1) := by omega
  have E := HE12.out
  rw [e1, e2, List.append_assoc] at E
  exact ⟨rfl, v12, _, E, gF, KF, by simp [h9, h12], by simp; omega⟩
theorem walk_full_F {w : World} {M B7 p2 p3 p5 p6 p7 p8 nb no cap : Nat} (P : WPos M B7 p2 p3 p5 p6 p7 p8) (hM : M ≤ B7) (t : List Ng) (hm : t.length ≤ 100000) (HROW : ∀ W, Below M w W → ∀ i x, t[i]? = some x → W.rangeAt nb (no + i * 24) x.cells) (x : Ng) (l n : Nat) (hx : t[l]? = some x) (hn : 1 ≤ n) (r : List UInt8) (d : Nat)
  (core : ∀ (least : Int) W v ts ne dp, WEnv w M B7 p2 p3 p5 p6 p7 p8 (.slice (some ⟨nb, no, none⟩) t.length cap) 27 W v ts ne dp (l + 1) → ¬ rowG x < least → ne + 2 * (n : Int) ≤ 800001 → ts.length + 8 * n ≤ 800001 → Calls Tryz.prog 97 #[.int .i64 least, .pointer (some ⟨p2, 0, none⟩), .pointer (some ⟨p6, 0, none⟩), .pointer (some ⟨p8, 0, none⟩), .pointer (some ⟨p3, 0, none⟩), .pointer (some ⟨p7, 0, none⟩), .pointer (some ⟨p5, 0, none⟩)] W (WP w M B7 p2 p3 p5 p6 p7 p8 (.slice (some ⟨nb, no, none⟩) t.length cap) 27 W v ts ne dp (l + 1) r d n (8 * n - 2)))
  (least : Int) W v ts ne dp (E : WEnv w M B7 p2 p3 p5 p6 p7 p8 (.slice (some ⟨nb, no, none⟩) t.length cap) 27 W v ts ne dp (l + 1)) (hne : ne + 2 * (n : Int) ≤ 800000) (hts : ts.length + 8 * n ≤ 800000) :
  Calls Tryz.prog 97 #[.int .i64 least, .pointer (some ⟨p2, 0, none⟩), .pointer (some ⟨p6, 0, none⟩), .pointer (some ⟨p8, 0, none⟩), .pointer (some ⟨p3, 0, none⟩), .pointer (some ⟨p7, 0, none⟩), .pointer (some ⟨p5, 0, none⟩)] W (WP w M B7 p2 p3 p5 p6 p7 p8 (.slice (some ⟨nb, no, none⟩) t.length cap) 27 W v ts ne dp (l + 1) (putT (decide (rowG x < least)) (r, d)).1 (putT (decide (rowG x < least)) (r, d)).2 n (8 * n)) := by
 have hlt : l < t.length := (List.getElem?_eq_some_iff.1 hx).1
 by_cases hr : rowG x < least
 ·rw [decide_eq_true hr]
  refine (walk_br P hM E x (HROW W E.up l x hx) hlt (by omega) least hr r d n (8 * n - 2) (by omega) (by omega) (fun W1 v1 E1 => core 1 W1 v1 _ _ _ E1 (by have := (row_range x).1; omega) (by omega) (by simp; omega))).mono (fun e w' h => WP.weak (by omega) rfl rfl rfl h)
 ·rw [decide_eq_false hr]
  exact (core least W v ts ne dp E hr (by omega) (by omega)).mono (fun e w' h => WP.weak (by omega) rfl rfl rfl h)
set_option maxHeartbeats 8000000 in
theorem walkT_F {w : World} {M B7 p2 p3 p5 p6 p7 p8 nb no cap : Nat} (P : WPos M B7 p2 p3 p5 p6 p7 p8) (hM : M ≤ B7) (t : List Ng) (hm : t.length ≤ 100000) (hT : ∀ W, Below M w W → TabA W) (HROW : ∀ W, Below M w W → ∀ i x, t[i]? = some x → W.rangeAt nb (no + i * 24) x.cells) :
  ∀ (T : Tr), T.Wf → T.Typed → (∀ x ∈ T.flat, NOK x) → ∀ (pre : Nat) (rest : List Ng), t.drop pre = T.flat ++ rest → ∀ (least : Int), least ≤ 12 → ∀ W v ts ne dp, WEnv w M B7 p2 p3 p5 p6 p7 p8 (.slice (some ⟨nb, no, none⟩) t.length cap) 27 W v ts ne dp (pre + T.flat.length) → ne + 2 * (T.flat.length : Int) ≤ 800000 → ts.length + 8 * T.flat.length ≤ 800000 → Calls Tryz.prog 97 #[.int .i64 least, .pointer (some ⟨p2, 0, none⟩), .pointer (some ⟨p6, 0, none⟩), .pointer (some ⟨p8, 0, none⟩), .pointer (some ⟨p3, 0, none⟩), .pointer (some ⟨p7, 0, none⟩), .pointer (some ⟨p5, 0, none⟩)] W (WP w M B7 p2 p3 p5 p6 p7 p8 (.slice (some ⟨nb, no, none⟩) t.length cap) 27 W v ts ne dp (pre + T.flat.length) (putT (decide (rowG T.root < least)) (T.txt true)).1 (putT (decide (rowG T.root < least)) (T.txt true)).2 T.flat.length (8 * T.flat.length))
 | .leaf x, hw, hty, hok, pre, rest, hd, least, hle, W, v, ts, ne, dp, E, hne, hts => by
  have ha : arG x.kind = some 0 := hw
  obtain ⟨hxf, hxr, hxn, hxm⟩ := hok x (by show x ∈ [x]; simp)
  obtain ⟨hlx, htx⟩ := drop_at (show t.drop pre = x :: rest from hd)
  refine walk_full_F P hM t hm HROW x pre 1 htx (by omega) _ _ (fun least W v ts ne dp E hr hne hts => ?_) least W v ts ne dp E hne hts
  refine (walk_leaf P hM E x (HROW W E.up _ x htx) hlx (by omega) least hr x.kind rfl ?_ ha hxf hxr hxn hxm hT (by omega)).mono (fun e w' h => WP.weak (by omega) rfl rfl rfl h)
  rcases arG_cases ha with ⟨h1, -⟩ | ⟨h1, -⟩ | ⟨-, hk⟩
  ·cases h1
  ·cases h1
  ·omega
 | .one x p, hw, hty, hok, pre, rest, hd, least, hle, W, v, ts, ne, dp, E, hne, hts => by
  have hfl : (Tr.one x p).flat = p.flat ++ [x] := rfl
  have hln : (Tr.one x p).flat.length = p.flat.length + 1 := by rw [hfl]; simp
  rw [hln] at E hne hts ⊢
  obtain ⟨ha, hpw⟩ : arG x.kind = some 1 ∧ p.Wf := hw
  obtain ⟨hpt, -⟩ := id hty
  have hpok : ∀ y ∈ p.flat, NOK y := fun y hy => hok y (by rw [hfl]; exact List.mem_append_left _ hy)
  obtain ⟨hxf, hxr, hxn, hxm⟩ := hok x (by rw [hfl]; simp)
  obtain ⟨-, -, -, -, -, -, -, g8, -, -⟩ := form_node hxf hxr
  have hdp : t.drop pre = p.flat ++ ([x] ++ rest) := by rw [hd, hfl, List.append_assoc]
  have hdx : t.drop (pre + p.flat.length) = x :: rest := by rw [← List.drop_drop, hdp, List.drop_left]; rfl
  obtain ⟨hlx, htx⟩ := drop_at hdx
  have IH := walkT_F (cap := cap) P hM t hm hT HROW p hpw hpt hpok pre ([x] ++ rest) hdp
  have hroot : (Tr.one x p).root = x := rfl
  rw [hroot]
  refine walk_full_F P hM t hm HROW x (pre + p.flat.length) (p.flat.length + 1) htx (by omega) _ _ (fun least W v ts ne dp E hr hne hts => ?_) least W v ts ne dp E hne hts
  rcases arG_cases ha with ⟨-, hk⟩ | ⟨h1, -⟩ | ⟨h1, -⟩
  ·rcases hk with hk | hk | hk
   ·refine (walk_load P hM E x (HROW W E.up _ x htx) hlx (by omega) least hr hk (g8 hk) hT (p.txt true).1 (p.txt true).2 p.flat.length (8 * p.flat.length) (by omega) (by omega) (fun W1 v1 E1 => ?_)).mono (fun e w' h => WP.weak (by omega) ?_ ?_ rfl h)
    ·have h := IH 1 (by decide) W1 v1 _ _ _ E1 (by omega) (by simp; omega)
     rw [decide_eq_false (show ¬ rowG p.root < 1 by have := (row_range p.root).1; omega)] at h
     exact h
    ·show _ = (if x.kind = 3 then (_ : List UInt8 × Nat) else _).1
     rw [if_pos hk]
     simp
    ·show _ = (if x.kind = 3 then (_ : List UInt8 × Nat) else _).2
     rw [if_pos hk]
   ·have hrow : rowG x = 11 := by unfold rowG; rw [hk]; rfl
    have hwt : decide (rowG p.root < 12) = wantT true (rowG p.root) (rowG x) := by rw [hrow]; exact (want_eq true (row := rowG p.root) (least := 11) (by decide))
    refine (walk_minus_F P hM E x (HROW W E.up _ x htx) hlx (by omega) least hr hk (putT (wantT true (rowG p.root) (rowG x)) (p.txt true)).1 (putT (wantT true (rowG p.root) (rowG x)) (p.txt true)).2 p.flat.length (8 * p.flat.length) (by omega) (by omega) (fun W1 v1 E1 => ?_)).mono (fun e w' h => WP.weak (by omega) ?_ ?_ rfl h)
    ·have h := IH 12 (by decide) W1 v1 _ _ _ E1 (by omega) (by simp; omega)
     rw [hwt] at h
     exact h
    ·show _ = (if x.kind = 3 then (_ : List UInt8 × Nat) else _).1
     rw [if_neg (by omega), hk]
     simp
    ·show _ = (if x.kind = 3 then (_ : List UInt8 × Nat) else _).2
     rw [if_neg (by omega)]
   ·have hrow : rowG x = 3 := by unfold rowG; rw [hk]; rfl
    have hwt : decide (rowG p.root < 12) = wantT true (rowG p.root) (rowG x) := by rw [hrow]; exact (want_eq true (row := rowG p.root) (least := 3) (by decide))
    refine (walk_not_F P hM E x (HROW W E.up _ x htx) hlx (by omega) least hr hk (putT (wantT true (rowG p.root) (rowG x)) (p.txt true)).1 (putT (wantT true (rowG p.root) (rowG x)) (p.txt true)).2 p.flat.length (8 * p.flat.length) (by omega) (by omega) (fun W1 v1 E1 => ?_)).mono (fun e w' h => WP.weak (by omega) ?_ ?_ rfl h)
    ·have h := IH 12 (by decide) W1 v1 _ _ _ E1 (by omega) (by simp; omega)
     rw [hwt] at h
     exact h
    ·show _ = (if x.kind = 3 then (_ : List UInt8 × Nat) else _).1
     rw [if_neg (by omega), hk]
     simp
    ·show _ = (if x.kind = 3 then (_ : List UInt8 × Nat) else _).2
     rw [if_neg (by omega)]
  ·cases h1
  ·cases h1
 | .two x p q, hw, hty, hok, pre, rest, hd, least, hle, W, v, ts, ne, dp, E, hne, hts => by
  have hfl : (Tr.two x p q).flat = p.flat ++ q.flat ++ [x] := rfl
  have hln : (Tr.two x p q).flat.length = p.flat.length + q.flat.length + 1 := by rw [hfl]; simp only [List.length_append, List.length_cons, List.length_nil]
  rw [hln] at E hne hts ⊢
  obtain ⟨ha, hpw, hqw⟩ : arG x.kind = some 2 ∧ p.Wf ∧ q.Wf := hw
  obtain ⟨hpt, hqt, hpr, -⟩ := id hty
  have hpok : ∀ y ∈ p.flat, NOK y := fun y hy => hok y (by rw [hfl]; simp [hy])
  have hqok : ∀ y ∈ q.flat, NOK y := fun y hy => hok y (by rw [hfl]; simp [hy])
  obtain ⟨hxf, hxr, hxn, hxm⟩ := hok x (by rw [hfl]; simp)
  obtain ⟨-, -, -, -, -, -, -, -, g6, g4⟩ := form_node hxf hxr
  have hdp : t.drop pre = p.flat ++ (q.flat ++ ([x] ++ rest)) := by rw [hd, hfl]; simp
  have hdq : t.drop (pre + p.flat.length) = q.flat ++ ([x] ++ rest) := by rw [← List.drop_drop, hdp, List.drop_left]
  have hdx : t.drop (pre + p.flat.length + q.flat.length) = x :: rest := by rw [← List.drop_drop, hdq, List.drop_left]; rfl
  obtain ⟨hlx, htx⟩ := drop_at hdx
  have IHp := walkT_F (cap := cap) P hM t hm hT HROW p hpw hpt hpok pre _ hdp
  have IHq := walkT_F (cap := cap) P hM t hm hT HROW q hqw hqt hqok (pre + p.flat.length) _ hdq
  have hroot : (Tr.two x p q).root = x := rfl
  rw [hroot]
  have hr12 := row_range x
  have hr10 := sdrow_two ha
  have hwp : decide (rowG p.root < 12) = wantT true (rowG p.root) (if rowG x = 4 then 5 else rowG x) := by
   by_cases h4 : rowG x = 4
   ·rw [if_pos h4]
    have h6 : x.kind = 6 := by
     have h := h4
     unfold rowG at h
     repeat' split at h
     all_goals omega
    have := want_rel true (x := p.root) (by rw [hpr, h6]; rfl)
    rw [← this]
    rfl
   ·rw [if_neg h4]
    exact want_eq true (row := rowG p.root) (least := rowG x) (by omega)
  have hwq : decide (rowG q.root < 12) = wantT true (rowG q.root) (rowG x + 1) := want_eq true (row := rowG q.root) (least := rowG x + 1) (by omega)
  have e1 : pre + (p.flat.length + q.flat.length + 1) = pre + p.flat.length + q.flat.length + 1 := by omega
  rw [e1] at E ⊢
  refine walk_full_F P hM t hm HROW x (pre + p.flat.length + q.flat.length) (p.flat.length + q.flat.length + 1) htx (by omega) _ _ (fun least W v ts ne dp E hr hne hts => ?_) least W v ts ne dp E hne hts
  have K1 : ∀ W1, WEnv w M B7 p2 p3 p5 p6 p7 p8 (.slice (some ⟨nb, no, none⟩) t.length cap) 27 W1 v ts ne dp (pre + p.flat.length + q.flat.length) → Calls Tryz.prog 97 #[.int .i64 12, .pointer (some ⟨p2, 0, none⟩), .pointer (some ⟨p6, 0, none⟩), .pointer (some ⟨p8, 0, none⟩), .pointer (some ⟨p3, 0, none⟩), .pointer (some ⟨p7, 0, none⟩), .pointer (some ⟨p5, 0, none⟩)] W1 (WP w M B7 p2 p3 p5 p6 p7 p8 (.slice (some ⟨nb, no, none⟩) t.length cap) 27 W1 v ts ne dp (pre + p.flat.length + q.flat.length) (putT (wantT true (rowG q.root) (rowG x + 1)) (q.txt true)).1 (putT (wantT true (rowG q.root) (rowG x + 1)) (q.txt true)).2 q.flat.length (8 * q.flat.length)) := fun W1 E1 => by
   have h := IHq 12 (by omega) W1 v _ _ _ E1 (by omega) (by omega)
   rw [hwq] at h
   exact h
  have K2 : ∀ W1 v1 R1 dp1, WEnv w M B7 p2 p3 p5 p6 p7 p8 (.slice (some ⟨nb, no, none⟩) t.length cap) 27 W1 v1 (ts ++ R1) ne dp1 (pre + p.flat.length + q.flat.length - q.flat.length) → R1.length ≤ 8 * q.flat.length + 3 → Calls Tryz.prog 97 #[.int .i64 12, .pointer (some ⟨p2, 0, none⟩), .pointer (some ⟨p6, 0, none⟩), .pointer (some ⟨p8, 0, none⟩), .pointer (some ⟨p3, 0, none⟩), .pointer (some ⟨p7, 0, none⟩), .pointer (some ⟨p5, 0, none⟩)] W1 (WP w M B7 p2 p3 p5 p6 p7 p8 (.slice (some ⟨nb, no, none⟩) t.length cap) 27 W1 v1 (ts ++ R1) ne dp1 (pre + p.flat.length + q.flat.length - q.flat.length) (putT (wantT true (rowG p.root) (if rowG x = 4 then 5 else rowG x)) (p.txt true)).1 (putT (wantT true (rowG p.root) (if rowG x = 4 then 5 else rowG x)) (p.txt true)).2 p.flat.length (8 * p.flat.length)) := fun W1 v1 R1 dp1 E1 h1 => by
   rw [Nat.add_sub_cancel] at E1 ⊢
   have h := IHp 12 (by omega) W1 v1 _ _ _ E1 (by omega) (by simp; omega)
   rw [hwp] at h
   exact h
  rcases arG_cases ha with ⟨h1, -⟩ | ⟨-, hk⟩ | ⟨h1, -⟩
  ·cases h1
  ·rcases hk with hk | hk | hk | hk
   ·exact (walk_two_F P hM E x (HROW W E.up _ x htx) hlx (by omega) least hr (.inl hk) ⟨by omega, by omega⟩ (.inr (.inr (.inr ⟨hk, g4 hk⟩))) _ _ _ _ _ _ _ _ (by omega) K1 K2).mono (fun e w' h => WP.weak (by omega) rfl rfl rfl h)
   ·exact (walk_two_F P hM E x (HROW W E.up _ x htx) hlx (by omega) least hr (.inr (.inl hk)) ⟨by omega, by omega⟩ (.inr (.inr (.inl ⟨hk, g6 hk⟩))) _ _ _ _ _ _ _ _ (by omega) K1 K2).mono (fun e w' h => WP.weak (by omega) rfl rfl rfl h)
   ·exact (walk_two_F P hM E x (HROW W E.up _ x htx) hlx (by omega) least hr (.inr (.inr (.inl hk))) ⟨by omega, by omega⟩ (.inl hk) _ _ _ _ _ _ _ _ (by omega) K1 K2).mono (fun e w' h => WP.weak (by omega) rfl rfl rfl h)
   ·exact (walk_two_F P hM E x (HROW W E.up _ x htx) hlx (by omega) least hr (.inr (.inr (.inr hk))) ⟨by omega, by omega⟩ (.inr (.inl hk)) _ _ _ _ _ _ _ _ (by omega) K1 K2).mono (fun e w' h => WP.weak (by omega) rfl rfl rfl h)
  ·cases h1
set_option maxRecDepth 100000 in
set_option maxHeartbeats 8000000 in
theorem written_F (nb no cap : Nat) (t : List Ng) (T : Tr) (hw : T.Wf) (hty : T.Typed) (hf : T.flat = t) (hok : ∀ x ∈ t, NOK x) (hm : t.length ≤ 50000) (w : World) (HT : ∀ W, Below w.heap.size w W → TabA W) (C : CV w (some ⟨nb, no, none⟩) (flatG t)) :
  Calls Tryz.prog 45 #[.slice (some ⟨nb, no, none⟩) t.length cap, .func (.func 27) #[] #[]] w fun e w' => ∃ v ts, e = .returned (.agg #[v, .int .i64 0, .int .i64 ((T.txt true).2 : Int)]) ∧ w'.ownsRow w.heap.size 9 1 v ts.length (ts.map str) ∧ ts.reverse.flatten = (T.txt true).1 ∧ ts.length ≤ 800000 ∧ (ts = [] → (T.txt true).1 = []) ∧ w.grownBy w' none := by
 have HC : Hid (CV w (some ⟨nb, no, none⟩) (flatG t)) := C
 clear C
 go_enter Tryz.func45, Tryz.ntmps45
 go_upto_region 6 with fail
 obtain ⟨W, hW⟩ : ∃ W, (((((((w.alloc (.cells #[.slice (some ⟨nb, no, none⟩) t.length cap] 22)).alloc (.cells #[.func (.func 27) #[] #[]] 44)).alloc (.cells #[.slice none 0 0, .int .i64 0, .int .i64 0] 87)).alloc (.cells #[.slice none 0 0, .int .i64 0, .int .i64 0] 87)).alloc (.cells #[.int .i64 (t.length : Int)] 3)).alloc (.cells #[.func (.func 97) #[] #[.pointer (some ⟨w.heap.size, 0, none⟩), .pointer (some ⟨w.heap.size + 1 + 1 + 1 + 1, 0, none⟩), .pointer (some ⟨w.heap.size + 1 + 1 + 1 + 1 + 1 + 1, 0, none⟩), .pointer (some ⟨w.heap.size + 1, 0, none⟩), .pointer (some ⟨w.heap.size + 1 + 1 + 1 + 1 + 1, 0, none⟩), .pointer (some ⟨w.heap.size + 1 + 1 + 1, 0, none⟩)]] 117)).alloc (.cells #[.func (.func 94) #[] #[.pointer (some ⟨w.heap.size + 1 + 1 + 1, 0, none⟩), .pointer (some ⟨w.heap.size + 1 + 1 + 1 + 1 + 1, 0, none⟩)]] 119)) = W := ⟨_, rfl⟩
 rw [hW]
 obtain ⟨A0, A1, A2, A3, A4, A5, A6, GW, hs⟩ := seven w _ _ _ _ _ _ _ _ _ _ _ _ _ _ W hW
 clear hW
 have P : WPos w.heap.size (w.heap.size + 1 + 1 + 1 + 1 + 1 + 1 + 1) w.heap.size (w.heap.size + 1) (w.heap.size + 1 + 1 + 1) (w.heap.size + 1 + 1 + 1 + 1) (w.heap.size + 1 + 1 + 1 + 1 + 1) (w.heap.size + 1 + 1 + 1 + 1 + 1 + 1) := by constructor <;> omega
 have E : WEnv w w.heap.size (w.heap.size + 1 + 1 + 1 + 1 + 1 + 1 + 1) w.heap.size (w.heap.size + 1) (w.heap.size + 1 + 1 + 1) (w.heap.size + 1 + 1 + 1 + 1) (w.heap.size + 1 + 1 + 1 + 1 + 1) (w.heap.size + 1 + 1 + 1 + 1 + 1 + 1) (.slice (some ⟨nb, no, none⟩) t.length cap) 27 W (.slice none 0 0) [] 0 0 (0 + T.flat.length) :=
  ⟨below_of GW, by omega, VAt.cell A0 0, VAt.cell A1 0, VAt.cell A5 0, VAt.cell A6 0, by rw [hf, Nat.zero_add]; exact A4, ⟨A3, World.ownsRow_nil _ _ _ _⟩, ⟨by decide, by decide⟩⟩
 have HROW : ∀ W, Below w.heap.size w W → ∀ i x, t[i]? = some x → W.rangeAt nb (no + i * 24) x.cells := fun W hW i x hx => by
  obtain ⟨hi, rfl⟩ := List.getElem?_eq_some_iff.1 hx
  obtain ⟨b', o', e', hc'⟩ := (HC.out.keptNone (grown_of hW)).ngs hi
  simp only [Option.some.injEq, Addr.mk.injEq] at e'
  obtain ⟨rfl, rfl, -⟩ := e'
  exact hc' i hi
 have C1 := walkT_F P (by omega) t (by omega) HT HROW T hw hty (by rw [hf]; exact hok) 0 [] (by simp [hf]) 1 (by decide) W _ _ _ _ E (by rw [hf]; omega) (by rw [hf]; simp; omega)
 have c7 := E.c7
 have hl1 : T.flat.length ≤ 50000 := by rw [hf]; exact hm
 rw [decide_eq_false (show ¬ rowG T.root < 1 by have := (row_range T.root).1; omega)] at C1
 have HS : Hid (W.heap.size = w.heap.size + 1 + 1 + 1 + 1 + 1 + 1 + 1) := hs
 have HC1 : Hid (Calls _ _ _ _ _) := C1
 have HP : Hid (WPos _ _ _ _ _ _ _ _) := P
 have HA2 : Hid (VAt W (w.heap.size + 1 + 1) 87 #[.slice none 0 0, .int .i64 0, .int .i64 0]) := A2
 have HL1 : Hid (T.flat.length ≤ 50000) := hl1
 have HGW : Hid (w.grownBy W none) := GW
 clear E HROW A0 A1 A3 A4 A5 A6 hs C1 hf hl1 hok hm hty hw A2 P GW HT
 go_upto_region 7 with fail
 refine HC1.out.mono ?_
 clear HC1 c7
 rintro e W2 ⟨rfl, v, R, E2, g2, K2, hr, hk⟩
 have A2' : VAt W2 (w.heap.size + 1 + 1) 87 #[.slice none 0 0, .int .i64 0, .int .i64 0] := K2.2 _ _ ⟨by omega, by omega, by simp [Value.ownBlock]⟩ HA2.out rfl
 have O2 := E2.out.2
 obtain ⟨ao, n2, c2, rfl⟩ : ∃ ao n c, v = .slice ao n c := by rcases O2.2 with ⟨rfl, -⟩ | ⟨g, cap, cur, rfl, -⟩ <;> exact ⟨_, _, _, rfl⟩
 have HA2' : Hid (VAt W2 _ _ _) := A2'
 have r0 := VAt.cell A2' 0
 have r1 := VAt.cell A2' 1
 have r2 := VAt.cell A2' 2
 have f0 := VAt.free A2' 0
 have f1 := VAt.free A2' 1
 have f2 := VAt.free A2' 2
 obtain ⟨b0, b1, b2⟩ := E2.out.cell
 have HK2 : Hid (Kp _ _ _ _) := K2
 have HO2 : Hid (World.ownsRow _ _ _ _ _ _ _) := O2
 have HRK : Hid (R.reverse.flatten = _ ∧ R.length ≤ _) := ⟨hr, hk⟩
 have HV2 : Hid (VAt W2 _ _ _) := E2.out.1
 clear E2 g2 K2 O2 hr hk A2'
 go_wp2
 have V3 := ((HA2'.out.set 0 (.slice ao n2 c2)).set 1 (.int .i64 0)).set 2 (.int .i64 ((putT false (T.txt true)).2 : Int))
 have K3 : ∀ k, k ≠ w.heap.size + 1 + 1 → ((((W2.setCell ⟨w.heap.size + 1 + 1, 0, none⟩ (.slice ao n2 c2)).setCell ⟨w.heap.size + 1 + 1, 1, none⟩ (.int .i64 0)).setCell ⟨w.heap.size + 1 + 1, 2, none⟩ (.int .i64 ((putT false (T.txt true)).2 : Int))).heap[k]? = W2.heap[k]?) := fun k hk => by
  rw [Below.heap_setCell _ _ _ _ hk, Below.heap_setCell _ _ _ _ hk, Below.heap_setCell _ _ _ _ hk]
 have S3 : (((W2.setCell ⟨w.heap.size + 1 + 1, 0, none⟩ (.slice ao n2 c2)).setCell ⟨w.heap.size + 1 + 1, 1, none⟩ (.int .i64 0)).setCell ⟨w.heap.size + 1 + 1, 2, none⟩ (.int .i64 ((putT false (T.txt true)).2 : Int))).heap.size = W2.heap.size := by simp [World.setCell]
 have B3 : Below w.heap.size W2 (((W2.setCell ⟨w.heap.size + 1 + 1, 0, none⟩ (.slice ao n2 c2)).setCell ⟨w.heap.size + 1 + 1, 1, none⟩ (.int .i64 0)).setCell ⟨w.heap.size + 1 + 1, 2, none⟩ (.int .i64 ((putT false (T.txt true)).2 : Int))) := (((Below.refl _ _).setCell (p := ⟨w.heap.size + 1 + 1, 0, none⟩) (by show w.heap.size ≤ w.heap.size + 1 + 1; omega) _).setCell (p := ⟨w.heap.size + 1 + 1, 1, none⟩) (by show w.heap.size ≤ w.heap.size + 1 + 1; omega) _).setCell (p := ⟨w.heap.size + 1 + 1, 2, none⟩) (by show w.heap.size ≤ w.heap.size + 1 + 1; omega) _
 generalize (((W2.setCell ⟨w.heap.size + 1 + 1, 0, none⟩ (.slice ao n2 c2)).setCell ⟨w.heap.size + 1 + 1, 1, none⟩ (.int .i64 0)).setCell ⟨w.heap.size + 1 + 1, 2, none⟩ (.int .i64 ((putT false (T.txt true)).2 : Int))) = W3 at *
 have V4 : VAt W3 (w.heap.size + 1 + 1) 87 #[.slice ao n2 c2, .int .i64 0, .int .i64 ((putT false (T.txt true)).2 : Int)] := V3
 have HZ : (Tryz.prog.info? 87).map (·.size) = some (#[Value.slice ao n2 c2, .int .i64 0, .int .i64 ((putT false (T.txt true)).2 : Int)] : Array Value).size := by kernel_rfl
 refine bodyPost_ret (results_cell_row rfl _ _ (w.heap.size + 1 + 1) 87 _ (0, 0) _ rfl V4 Tryz.underlying87 rfl HZ) rfl ?_
 obtain ⟨hr, hk⟩ := HRK.out
 have O2 := HO2.out
 rw [List.nil_append] at O2
 have O3 : W3.ownsRow w.heap.size 9 1 (.slice ao n2 c2) R.length (R.map str) := by
  refine ⟨O2.1, ?_⟩
  rcases O2.2 with h | ⟨g, cap', cur, e, hb, hg, rest⟩
  ·exact .inl h
  ·exact .inr ⟨g, cap', cur, e, by omega, (K3 g (by omega)).trans hg, rest⟩
 refine ⟨_, R, rfl, O3, hr, by have := HL1.out; omega, fun h => ?_, grown_of ((below_of HGW.out).trans (HK2.out.1.trans B3))⟩
 rw [h] at hr
 exact hr.symm

end Go.Proofs.YtklipelnjgpnjaaGreatDoor
