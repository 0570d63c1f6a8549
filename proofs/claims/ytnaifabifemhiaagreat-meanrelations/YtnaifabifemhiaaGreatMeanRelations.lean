/-
  For every two lists of nodes, link, way and bytes riddlelaw14.MeanRelations returns true and leaves what was there as it was: no condition of ours.
-/
import Derived.Test.YtnaifabifemhiaaGreatLotP45
import Derived.Test.YtnaifabifemhiaaGreatMlS
import Derived.Test.YtnaifabifemhiaaGreatLotP44
import Derived.Test.YtnaifabifemhiaaGreatLotP46
import Derived.Test.YtnaifabifemhiaaGreatLotP30
import Derived.Deep.DeepCutAuto
namespace Go.Proofs.YtnaifabifemhiaaGreat
open Go.ChangeShapes Go.WideShapes Go.ChangeAt Go.RowKit
set_option maxRecDepth 100000
namespace meanRelations

def vR (x h e : Int) : Value := .tuple #[.int .u32 x, .int .i64 h, .int .i64 e]
theorem value_rel (t : List Ng) (l : Lk) (way : Int) (b : List UInt8) : ∃ x h e : Int, valueA t l way b = vR x h e ∧ ((e ≠ 0 ∧ refuseM (cmpdM t) l way ≠ 0) ∨ (e = 0 ∧ refuseM (cmpdM t) l way = 0 ∧ x = ((meanM t l way b).val : Int) ∧ h = (meanM t l way b).how)) := by
  by_cases hr : refuseM (cmpdM t) l way = 0
  · refine ⟨((meanM t l way b).val : Int), (meanM t l way b).how, 0, ?_, .inr ⟨rfl, hr, rfl, rfl⟩⟩
    unfold valueA
    rw [if_neg (by simpa using hr)]
    rfl
  · refine ⟨0, 0, refuseM (cmpdM t) l way, ?_, .inl ⟨hr, hr⟩⟩
    unfold valueA
    rw [if_pos hr]
    rfl
theorem lit_b6 (b1 b2 b3 b4 b5 b6 : Bool) (W : World) : (Instr.buildSlice 50 6 #[(0, .bool b1), (1, .bool b2), (2, .bool b3), (3, .bool b4), (4, .bool b5), (5, .bool b6)]).run Tryz.prog W = .ok (.slice (some ⟨W.heap.size, 0, none⟩) 6 6) (W.alloc (.cells [Value.bool b1, .bool b2, .bool b3, .bool b4, .bool b5, .bool b6].toArray 4)) := by kernel_rfl
theorem bld_re (k : Int) (W : World) : (Instr.build 44 #[(0, .int .i64 6), (1, .int .i64 k)]).run Tryz.prog W = .ok (.agg (reN k).cells.toArray) W := by kernel_rfl
def wantL (x y : Int) : List Value := [.bool (x == y), .bool (x != y), .bool (decide (x < y)), .bool (decide (x ≤ y)), .bool (decide (y < x)), .bool (decide (y ≤ x))]
theorem want_at (x y : Int) (v w j : Nat) (hx : x = (v : Int)) (hy : y = (w : Int)) (h : j < 6) : ∃ hh : j < (wantL x y).length, (wantL x y)[j]'hh = .bool (cmpM ((j : Int) + 1) v w) := by
  subst hx hy
  refine ⟨h, ?_⟩
  have : j = 0 ∨ j = 1 ∨ j = 2 ∨ j = 3 ∨ j = 4 ∨ j = 5 := by omega
  rcases this with rfl | rfl | rfl | rfl | rfl | rfl
  all_goals
    show Value.bool _ = Value.bool _
    congr 1
    rw [Bool.eq_iff_iff]
    simp [cmpM]
  all_goals try omega

set_option maxRecDepth 100000 in
set_option maxHeartbeats 16000000 in
theorem walk (ao : Option Addr) (cap : Nat) (t : List Ng) (bo : Option Addr) (bp : Nat) (u : List Ng) (l : Lk) (way : Int) (a : Option Addr) (ca : Nat) (b : List UInt8) (w : World) (hA : CV w ao (flatG t)) (ha0 : ao = none → cap = 0) (_hac : t.length ≤ cap) (_hax : cap ≤ maxLen) (hal : t.length * 72 ≤ 140737488351232) (hao : ∀ x ∈ t, x.ok) (hB : CV w bo (flatG u)) (hbo0 : bo = none → bp = 0) (_hbc : u.length ≤ bp) (_hbx : bp ≤ maxLen) (hbl : u.length * 72 ≤ 140737488351232) (hbo : ∀ x ∈ u, x.ok) (hb : Cells w a b) (hb0 : a = none → ca = 0) (hbn : b.length ≤ 140737488351232) :
    Calls Tryz.prog 6 #[.slice ao t.length cap, .slice bo u.length bp, .agg (lkA l), .int .i64 way, .slice a b.length ca] w fun e w' => e = .returned (.bool true) ∧ w.grownBy w' none := by
  have hn : ∀ x ∈ t, x.n ≤ 4294967295 := fun x hx => (hao x hx).1
  have hm : ∀ x ∈ u, x.n ≤ 4294967295 := fun x hx => (hbo x hx).1
  have HBL := box_lk l
  have K1 := World.grownBy_alloc w (.cells (lkA l) 24) none
  have HLS := lk_sz l
  have HCN : Hid (∀ W, w.grownBy W none → Calls Tryz.prog 21 #[.slice ao t.length cap] W fun e w' => ∃ v, e = .returned v ∧ NgOwns w' W.heap.size v t ∧ W.grownBy w' none) := fun W K => gcopy_any ao cap t W (hA.keptNone K) ha0 (by omega)
  have HCM : Hid (∀ W, w.grownBy W none → Calls Tryz.prog 21 #[.slice bo u.length bp] W fun e w' => ∃ v, e = .returned v ∧ NgOwns w' W.heap.size v u ∧ W.grownBy w' none) := fun W K => gcopy_any bo bp u W (hB.keptNone K) hbo0 (by omega)
  have HCB0 : Hid (∀ W, w.grownBy W none → Calls Tryz.prog 22 #[.slice a b.length ca] W fun e w' => ∃ v, e = .returned v ∧ Owns w' W.heap.size v b ∧ W.grownBy w' none) := fun W K => copy_any a ca b W (hb.keptNone K) hb0 (by omega)
  have HVT : Hid (∀ (W : World) (au : Option Addr) (cu : Nat) (ab : Option Addr) (cb : Nat), CV W au (flatG t) → (au = none → cu = 0) → Cells W ab b → b.length ≤ cb → Calls Tryz.prog 18 #[.slice au t.length cu, .agg (lkA l), .int .i64 way, .slice ab b.length cb] W fun e w' => e = .returned (valueA t l way b) ∧ W.grownBy w' none) := fun W au cu ab cb h h0 h1 h2 => value_any au cu t l way ab cb b W h h0 (by omega) hn h1 (by omega) h2
  have HVU : Hid (∀ (W : World) (au : Option Addr) (cu : Nat) (ab : Option Addr) (cb : Nat), CV W au (flatG u) → (au = none → cu = 0) → Cells W ab b → b.length ≤ cb → Calls Tryz.prog 18 #[.slice au u.length cu, .agg (lkA l), .int .i64 way, .slice ab b.length cb] W fun e w' => e = .returned (valueA u l way b) ∧ W.grownBy w' none) := fun W au cu ab cb h h0 h1 h2 => value_any au cu u l way ab cb b W h h0 (by omega) hm h1 (by omega) h2
  have HWT : Hid (∀ (W : World) (au : Option Addr) (cu : Nat), CV W au (flatG t) → Calls Tryz.prog 20 #[.slice au t.length cu] W fun e w' => e = .returned (.int .i64 (weightG t : Int)) ∧ W.grownBy w' none) := fun W au cu h => weight_any au cu t W h (by omega)
  have HWU : Hid (∀ (W : World) (au : Option Addr) (cu : Nat), CV W au (flatG u) → Calls Tryz.prog 20 #[.slice au u.length cu] W fun e w' => e = .returned (.int .i64 (weightG u : Int)) ∧ W.grownBy w' none) := fun W au cu h => weight_any au cu u W h (by omega)
  have HJU : Hid (∀ (x : List Ng) (n cu : Nat) (W : World) (au : Option Addr), x.length = n → CV W au (flatG x) → (au = none → cu = 0) → n * 72 ≤ 140737488355328 → (∀ y ∈ x, y.n ≤ 4294967295) → w.grownBy W none → Calls Tryz.prog 19 #[.slice au n cu, .agg (lkA l), .int .i64 way, .slice a b.length ca] W fun e w' => e = .returned (.int .i64 (lawJ x l way b)) ∧ W.grownBy w' none) := fun x n cu W au hu h1 h2 h3 h4 K => by
    subst hu
    exact ljudge_any au cu x l way a ca b W h1 h2 h3 h4 (hb.keptNone K) hb0 (by omega)
  obtain ⟨E, hE⟩ : ∃ E, exE (lookX l b) = E := ⟨_, rfl⟩
  obtain ⟨X, hX⟩ : ∃ X, vwA (exV Vw.zero (lookX l b)) = X := ⟨_, rfl⟩
  have HLK : Hid (∀ (au : Option Addr) (cu : Nat) (W : World), Cells W au b → Calls Tryz.prog 23 #[.agg (lkA l), .slice au b.length cu] W fun e w' => e = .returned (.tuple #[.agg X, .int .i64 E]) ∧ W.grownBy w' none) := fun au cu W h => by
    have k := look_any l au cu b W h (by omega)
    rw [hE, hX] at k
    exact k
  have HXS : Hid ((Tryz.prog.info? 47).map (·.size) = some X.size ∧ (vwA Vw.zero).size = X.size ∧ X.all (·.oneCell') = true) := by
    show _ ∧ _ ∧ _
    rw [← hX]
    exact ⟨vw_sz _, rfl, vwA_all _⟩
  have HPP : Hid (refuseM (cmpdM t) l way = 0 → refuseM (cmpdM u) l way = 0 → weightG t ≤ 2991 ∧ weightG u ≤ 2991 ∧ t.length ≤ 2991 ∧ u.length ≤ 2991 ∧ (weightG t + weightG u ≤ 2992 → ∀ op : Int, 1 ≤ op → op ≤ 6 → lawJ (t ++ u ++ [reN op]) l way b = saidR E op (meanM t l way b).how (meanM u l way b).how (meanM t l way b).val (meanM u l way b).val)) := fun h1 h2 => by
    have := rel_pure (f := b) hn hm h1 h2
    rw [hE] at this
    exact this
  have HNN : Hid (∀ op : Int, ∀ x ∈ t ++ u ++ [reN op], x.n ≤ 4294967295) := fun op x hx => by
    rcases List.mem_append.1 hx with hx | hx
    · rcases List.mem_append.1 hx with hx | hx
      · exact hn x hx
      · exact hm x hx
    · rw [List.mem_singleton.1 hx]; exact Nat.zero_le _
  have HB : Hid (CV w bo (flatG u) ∧ (bo = none → bp = 0)) := ⟨hB, hbo0⟩
  obtain ⟨i0, hi, hz0, hz1, hz2⟩ := ng_zero
  have HI : Hid (Tryz.prog.info? 44 = some i0 ∧ i0.zero = some (.agg ngZ.cells.toArray) ∧ i0.size = 24 ∧ i0.bytes = 72) := ⟨hi, hz0, hz1, hz2⟩
  clear hA ha0 hal hao hB hbo0 hbl hbo hb hb0 hbn hn hm hE hX _hac _hax _hbc _hbx hi hz0 hz1 hz2
  obtain ⟨LA, hLA⟩ : ∃ LA, lkA l = LA := ⟨_, rfl⟩
  have V1 : VAt (w.alloc (.cells LA 24)) w.heap.size 24 LA := VAt.alloc _ _ _
  rw [hLA] at HBL K1 HVT HVU HLK HLS HJU ⊢
  clear hLA
  obtain ⟨vi, xh, xe, hve, hvc⟩ := value_rel t l way b
  rw [hve] at HVT
  simp only [vR] at HVT
  have HVC : Hid ((xe ≠ 0 ∧ refuseM (cmpdM t) l way ≠ 0) ∨ (xe = 0 ∧ refuseM (cmpdM t) l way = 0 ∧ vi = ((meanM t l way b).val : Int) ∧ xh = (meanM t l way b).how)) := hvc
  clear hve hvc
  obtain ⟨wi, yh, ye, hve, hvc⟩ := value_rel u l way b
  rw [hve] at HVU
  simp only [vR] at HVU
  have HWC : Hid ((ye ≠ 0 ∧ refuseM (cmpdM u) l way ≠ 0) ∨ (ye = 0 ∧ refuseM (cmpdM u) l way = 0 ∧ wi = ((meanM u l way b).val : Int) ∧ yh = (meanM u l way b).how)) := hvc
  clear hve hvc
  have HAW : Hid (∀ W, w.grownBy W none → Calls Tryz.prog 16 #[] W fun e w' => e = .returned (.bool true) ∧ w.grownBy w' none) := fun W K => (awake14_any W).mono (fun e w' h => ⟨h.1, grown_trans K h.2⟩)
  go_enter Tryz.func6, Tryz.ntmps6
  go_upto_region 1 with fail
  generalize w.alloc (.cells LA 24) = w1 at *
  generalize w.heap.size = B at *
  clear HBL
  have HS0 : Hid (VAt w1.drew B 24 LA ∧ w.grownBy w1.drew none) := ⟨V1.kept (grown_drewN w1 1 none), grown_trans K1 (grown_drewN w1 1 none)⟩
  clear V1 K1
  refine wp_region_held_drew (S := fun W => VAt W B 24 LA ∧ w.grownBy W none) (by kernel_rfl) (HS0.out) (fun hHeld => ?_)
  refine wpAnyH_take (i := 0) (v := .slice ao t.length cap) rfl (by kernel_rfl) (by kernel_rfl) (by kernel_rfl) (fun _ _ _ h => h) (Or.inl ⟨by rfl, fun W hW => ?_⟩) hHeld ?_
  · clear hW
    go_simp
  try simp only [Act.put, List.getElem_toArray, List.getElem_cons_zero, List.setIfInBounds_toArray, List.set_cons_zero, List.set_cons_succ]
  refine wpAnyH_take (i := 2) (v := .agg (LA)) rfl (by kernel_rfl) (by kernel_rfl) (by kernel_rfl) (fun _ _ _ h => h) (yieldsIf_load_row (by rfl) _ _ rfl B rfl 24 (LA) _ (fun W hW => hW.1) Tryz.underlying24 rfl HLS) hHeld ?_
  try simp only [Act.put, List.getElem_toArray, List.getElem_cons_zero, List.getElem_cons_succ, List.setIfInBounds_toArray, List.set_cons_zero, List.set_cons_succ]
  refine wpAnyH_take (i := 3) (v := .int .i64 way) rfl (by kernel_rfl) (by kernel_rfl) (by kernel_rfl) (fun _ _ _ h => h) (Or.inl ⟨by rfl, fun W hW => ?_⟩) hHeld ?_
  · clear hW
    go_simp
  try simp only [Act.put, List.getElem_toArray, List.getElem_cons_zero, List.getElem_cons_succ, List.setIfInBounds_toArray, List.set_cons_zero, List.set_cons_succ]
  refine wpAnyH_take (i := 4) (v := .slice a b.length ca) rfl (by kernel_rfl) (by kernel_rfl) (by kernel_rfl) (fun _ _ _ h => h) (Or.inl ⟨by rfl, fun W hW => ?_⟩) hHeld ?_
  · clear hW
    go_simp
  try simp only [Act.put, List.getElem_toArray, List.getElem_cons_zero, List.getElem_cons_succ, List.setIfInBounds_toArray, List.set_cons_zero, List.set_cons_succ]
  refine wpAnyH_ready (rs := [1]) (by kernel_rfl) (by simp) (AllReadyH.cons rfl (fun K hK => ?_) AllReadyH.nil)
  go_simp
  refine (HCN.out _ hHeld.2).mono ?_
  rintro e w2 ⟨v2, rfl, O2, K2⟩
  obtain ⟨a2, c2, hv2, C2, -, -, h02, -⟩ := cv_of_row O2
  subst hv2
  go_wp2_with fail
  refine hK.out _ _ (⟨hHeld.1.kept K2, grown_trans hHeld.2 K2⟩) (fun hHeld => ?_)
  clear hK K
  try simp only [Act.put, List.getElem_toArray, List.getElem_cons_zero, List.getElem_cons_succ, List.setIfInBounds_toArray, List.set_cons_zero, List.set_cons_succ]
  refine wpAnyH_ready (rs := [5]) (by kernel_rfl) (by simp) (AllReadyH.cons rfl (fun K hK => ?_) AllReadyH.nil)
  go_simp
  refine (HCB0.out _ hHeld.2).mono ?_
  rintro e w3 ⟨v3, rfl, O3, K3⟩
  obtain ⟨a3, c3, hv3, C3, hl3, -⟩ := cv_of_row O3
  subst hv3
  go_wp2_with fail
  refine hK.out _ _ (⟨hHeld.1.kept K3, grown_trans hHeld.2 K3⟩) (fun hHeld => ?_)
  clear hK K
  try simp only [Act.put, List.getElem_toArray, List.getElem_cons_zero, List.getElem_cons_succ, List.setIfInBounds_toArray, List.set_cons_zero, List.set_cons_succ]
  refine wpAnyH_ready (rs := [6]) (by kernel_rfl) (by simp) (AllReadyH.cons rfl (fun K hK => ?_) AllReadyH.nil)
  go_simp
  refine (HVT.out _ _ _ _ _ (C2.keptNone K3) h02 C3.cells hl3).mono ?_
  rintro e wa ⟨rfl, K4⟩
  go_wp2_with fail
  refine hK.out _ _ (⟨hHeld.1.kept K4, grown_trans hHeld.2 K4⟩) (fun hHeld => ?_)
  clear hK K
  try simp only [Act.put, List.getElem_toArray, List.getElem_cons_zero, List.getElem_cons_succ, List.setIfInBounds_toArray, List.set_cons_zero, List.set_cons_succ]
  refine wpAnyH_take (i := 7) (v := .tuple #[.int .u32 vi, .int .i64 xh, .int .i64 xe]) rfl (by kernel_rfl) (by kernel_rfl) (by kernel_rfl) (fun _ _ _ h => h) (Or.inl ⟨by rfl, fun W hW => ?_⟩) hHeld ?_
  · clear hW
    go_simp
  try simp only [Act.put, List.getElem_toArray, List.getElem_cons_zero, List.getElem_cons_succ, List.setIfInBounds_toArray, List.set_cons_zero, List.set_cons_succ]
  refine wpAnyH_take (i := 8) (v := .int .u32 vi) rfl (by kernel_rfl) (by kernel_rfl) (by kernel_rfl) (fun _ _ _ h => h) (Or.inl ⟨by rfl, fun W hW => ?_⟩) hHeld ?_
  · clear hW
    go_simp
  try simp only [Act.put, List.getElem_toArray, List.getElem_cons_zero, List.getElem_cons_succ, List.setIfInBounds_toArray, List.set_cons_zero, List.set_cons_succ]
  refine wpAnyH_take (i := 9) (v := .int .i64 xh) rfl (by kernel_rfl) (by kernel_rfl) (by kernel_rfl) (fun _ _ _ h => h) (Or.inl ⟨by rfl, fun W hW => ?_⟩) hHeld ?_
  · clear hW
    go_simp
  try simp only [Act.put, List.getElem_toArray, List.getElem_cons_zero, List.getElem_cons_succ, List.setIfInBounds_toArray, List.set_cons_zero, List.set_cons_succ]
  refine wpAnyH_take (i := 10) (v := .int .i64 xe) rfl (by kernel_rfl) (by kernel_rfl) (by kernel_rfl) (fun _ _ _ h => h) (Or.inl ⟨by rfl, fun W hW => ?_⟩) hHeld ?_
  · clear hW
    go_simp
  try simp only [Act.put, List.getElem_toArray, List.getElem_cons_zero, List.getElem_cons_succ, List.setIfInBounds_toArray, List.set_cons_zero, List.set_cons_succ]
  refine wpAnyH_take (i := 11) (v := .int .u32 vi) rfl (by kernel_rfl) (by kernel_rfl) (by kernel_rfl) (fun _ _ _ h => h) (Or.inl ⟨by rfl, fun W hW => ?_⟩) hHeld ?_
  · clear hW
    go_simp
  try simp only [Act.put, List.getElem_toArray, List.getElem_cons_zero, List.getElem_cons_succ, List.setIfInBounds_toArray, List.set_cons_zero, List.set_cons_succ]
  refine wpAnyH_take (i := 12) (v := .int .i64 xh) rfl (by kernel_rfl) (by kernel_rfl) (by kernel_rfl) (fun _ _ _ h => h) (Or.inl ⟨by rfl, fun W hW => ?_⟩) hHeld ?_
  · clear hW
    go_simp
  try simp only [Act.put, List.getElem_toArray, List.getElem_cons_zero, List.getElem_cons_succ, List.setIfInBounds_toArray, List.set_cons_zero, List.set_cons_succ]
  refine wpAnyH_take (i := 13) (v := .int .i64 xe) rfl (by kernel_rfl) (by kernel_rfl) (by kernel_rfl) (fun _ _ _ h => h) (Or.inl ⟨by rfl, fun W hW => ?_⟩) hHeld ?_
  · clear hW
    go_simp
  try simp only [Act.put, List.getElem_toArray, List.getElem_cons_zero, List.getElem_cons_succ, List.setIfInBounds_toArray, List.set_cons_zero, List.set_cons_succ]
  refine wpAnyH_done (by kernel_rfl) ?_ _

  have HS1 : Hid (VAt wa B 24 LA ∧ w.grownBy wa none) := hHeld
  clear hHeld O2 O3 C2 C3 K2 K3 K4 HVT HS0
  go_upto_region 2 with fail
  refine wp_region_held_drew (S := fun W => VAt W B 24 LA ∧ w.grownBy W none) (by kernel_rfl) (⟨HS1.out.1.kept (grown_drewN wa 1 none), grown_trans HS1.out.2 (grown_drewN wa 1 none)⟩) (fun hHeld => ?_)
  refine wpAnyH_take (i := 0) (v := .slice bo u.length bp) rfl (by kernel_rfl) (by kernel_rfl) (by kernel_rfl) (fun _ _ _ h => h) (Or.inl ⟨by rfl, fun W hW => ?_⟩) hHeld ?_
  · clear hW
    go_simp
  try simp only [Act.put, List.getElem_toArray, List.getElem_cons_zero, List.setIfInBounds_toArray, List.set_cons_zero, List.set_cons_succ]
  refine wpAnyH_take (i := 2) (v := .agg (LA)) rfl (by kernel_rfl) (by kernel_rfl) (by kernel_rfl) (fun _ _ _ h => h) (yieldsIf_load_row (by rfl) _ _ rfl B rfl 24 (LA) _ (fun W hW => hW.1) Tryz.underlying24 rfl HLS) hHeld ?_
  try simp only [Act.put, List.getElem_toArray, List.getElem_cons_zero, List.getElem_cons_succ, List.setIfInBounds_toArray, List.set_cons_zero, List.set_cons_succ]
  refine wpAnyH_take (i := 3) (v := .int .i64 way) rfl (by kernel_rfl) (by kernel_rfl) (by kernel_rfl) (fun _ _ _ h => h) (Or.inl ⟨by rfl, fun W hW => ?_⟩) hHeld ?_
  · clear hW
    go_simp
  try simp only [Act.put, List.getElem_toArray, List.getElem_cons_zero, List.getElem_cons_succ, List.setIfInBounds_toArray, List.set_cons_zero, List.set_cons_succ]
  refine wpAnyH_take (i := 4) (v := .slice a b.length ca) rfl (by kernel_rfl) (by kernel_rfl) (by kernel_rfl) (fun _ _ _ h => h) (Or.inl ⟨by rfl, fun W hW => ?_⟩) hHeld ?_
  · clear hW
    go_simp
  try simp only [Act.put, List.getElem_toArray, List.getElem_cons_zero, List.getElem_cons_succ, List.setIfInBounds_toArray, List.set_cons_zero, List.set_cons_succ]
  refine wpAnyH_ready (rs := [1]) (by kernel_rfl) (by simp) (AllReadyH.cons rfl (fun K hK => ?_) AllReadyH.nil)
  go_simp
  refine (HCM.out _ hHeld.2).mono ?_
  rintro e w2 ⟨v2, rfl, O2, K2⟩
  obtain ⟨a2, c2, hv2, C2, -, -, h02, -⟩ := cv_of_row O2
  subst hv2
  go_wp2_with fail
  refine hK.out _ _ (⟨hHeld.1.kept K2, grown_trans hHeld.2 K2⟩) (fun hHeld => ?_)
  clear hK K
  try simp only [Act.put, List.getElem_toArray, List.getElem_cons_zero, List.getElem_cons_succ, List.setIfInBounds_toArray, List.set_cons_zero, List.set_cons_succ]
  refine wpAnyH_ready (rs := [5]) (by kernel_rfl) (by simp) (AllReadyH.cons rfl (fun K hK => ?_) AllReadyH.nil)
  go_simp
  refine (HCB0.out _ hHeld.2).mono ?_
  rintro e w3 ⟨v3, rfl, O3, K3⟩
  obtain ⟨a3, c3, hv3, C3, hl3, -⟩ := cv_of_row O3
  subst hv3
  go_wp2_with fail
  refine hK.out _ _ (⟨hHeld.1.kept K3, grown_trans hHeld.2 K3⟩) (fun hHeld => ?_)
  clear hK K
  try simp only [Act.put, List.getElem_toArray, List.getElem_cons_zero, List.getElem_cons_succ, List.setIfInBounds_toArray, List.set_cons_zero, List.set_cons_succ]
  refine wpAnyH_ready (rs := [6]) (by kernel_rfl) (by simp) (AllReadyH.cons rfl (fun K hK => ?_) AllReadyH.nil)
  go_simp
  refine (HVU.out _ _ _ _ _ (C2.keptNone K3) h02 C3.cells hl3).mono ?_
  rintro e wb ⟨rfl, K4⟩
  go_wp2_with fail
  refine hK.out _ _ (⟨hHeld.1.kept K4, grown_trans hHeld.2 K4⟩) (fun hHeld => ?_)
  clear hK K
  try simp only [Act.put, List.getElem_toArray, List.getElem_cons_zero, List.getElem_cons_succ, List.setIfInBounds_toArray, List.set_cons_zero, List.set_cons_succ]
  refine wpAnyH_take (i := 7) (v := .tuple #[.int .u32 wi, .int .i64 yh, .int .i64 ye]) rfl (by kernel_rfl) (by kernel_rfl) (by kernel_rfl) (fun _ _ _ h => h) (Or.inl ⟨by rfl, fun W hW => ?_⟩) hHeld ?_
  · clear hW
    go_simp
  try simp only [Act.put, List.getElem_toArray, List.getElem_cons_zero, List.getElem_cons_succ, List.setIfInBounds_toArray, List.set_cons_zero, List.set_cons_succ]
  refine wpAnyH_take (i := 8) (v := .int .u32 wi) rfl (by kernel_rfl) (by kernel_rfl) (by kernel_rfl) (fun _ _ _ h => h) (Or.inl ⟨by rfl, fun W hW => ?_⟩) hHeld ?_
  · clear hW
    go_simp
  try simp only [Act.put, List.getElem_toArray, List.getElem_cons_zero, List.getElem_cons_succ, List.setIfInBounds_toArray, List.set_cons_zero, List.set_cons_succ]
  refine wpAnyH_take (i := 9) (v := .int .i64 yh) rfl (by kernel_rfl) (by kernel_rfl) (by kernel_rfl) (fun _ _ _ h => h) (Or.inl ⟨by rfl, fun W hW => ?_⟩) hHeld ?_
  · clear hW
    go_simp
  try simp only [Act.put, List.getElem_toArray, List.getElem_cons_zero, List.getElem_cons_succ, List.setIfInBounds_toArray, List.set_cons_zero, List.set_cons_succ]
  refine wpAnyH_take (i := 10) (v := .int .i64 ye) rfl (by kernel_rfl) (by kernel_rfl) (by kernel_rfl) (fun _ _ _ h => h) (Or.inl ⟨by rfl, fun W hW => ?_⟩) hHeld ?_
  · clear hW
    go_simp
  try simp only [Act.put, List.getElem_toArray, List.getElem_cons_zero, List.getElem_cons_succ, List.setIfInBounds_toArray, List.set_cons_zero, List.set_cons_succ]
  refine wpAnyH_take (i := 11) (v := .int .u32 wi) rfl (by kernel_rfl) (by kernel_rfl) (by kernel_rfl) (fun _ _ _ h => h) (Or.inl ⟨by rfl, fun W hW => ?_⟩) hHeld ?_
  · clear hW
    go_simp
  try simp only [Act.put, List.getElem_toArray, List.getElem_cons_zero, List.getElem_cons_succ, List.setIfInBounds_toArray, List.set_cons_zero, List.set_cons_succ]
  refine wpAnyH_take (i := 12) (v := .int .i64 yh) rfl (by kernel_rfl) (by kernel_rfl) (by kernel_rfl) (fun _ _ _ h => h) (Or.inl ⟨by rfl, fun W hW => ?_⟩) hHeld ?_
  · clear hW
    go_simp
  try simp only [Act.put, List.getElem_toArray, List.getElem_cons_zero, List.getElem_cons_succ, List.setIfInBounds_toArray, List.set_cons_zero, List.set_cons_succ]
  refine wpAnyH_take (i := 13) (v := .int .i64 ye) rfl (by kernel_rfl) (by kernel_rfl) (by kernel_rfl) (fun _ _ _ h => h) (Or.inl ⟨by rfl, fun W hW => ?_⟩) hHeld ?_
  · clear hW
    go_simp
  try simp only [Act.put, List.getElem_toArray, List.getElem_cons_zero, List.getElem_cons_succ, List.setIfInBounds_toArray, List.set_cons_zero, List.set_cons_succ]
  refine wpAnyH_done (by kernel_rfl) ?_ _

  have HS2 : Hid (VAt wb B 24 LA ∧ w.grownBy wb none) := hHeld
  clear hHeld O2 O3 C2 C3 K2 K3 K4 HVU HS1
  rcases HVC.out with ⟨h1, -⟩ | ⟨h1, h2, h3, h4⟩
  · have e1 : (xe != 0) = true := by rw [bne_iff_ne]; exact h1
    clear h1
    go_wp2_with fail
    refine (HAW.out _ HS2.out.2).mono ?_
    rintro e ws ⟨rfl, Ks⟩
    go_wp2
    go_ret
    exact ⟨rfl, Ks⟩
  rcases HWC.out with ⟨k1, -⟩ | ⟨k1, k2, k3, k4⟩
  · have e1 : (xe != 0) = false := by rw [h1]; rfl
    have e2 : (ye != 0) = true := by rw [bne_iff_ne]; exact k1
    clear h1 k1 h2 h3 h4
    go_wp2_with fail
    refine (HAW.out _ HS2.out.2).mono ?_
    rintro e ws ⟨rfl, Ks⟩
    go_wp2
    go_ret
    exact ⟨rfl, Ks⟩
  obtain ⟨p1, p2, p3, p4, p5⟩ := HPP.out h2 k2
  subst h1 k1
  obtain ⟨vn, hvn⟩ : ∃ vn, (meanM t l way b).val = vn := ⟨_, rfl⟩
  obtain ⟨wn, hwn⟩ : ∃ wn, (meanM u l way b).val = wn := ⟨_, rfl⟩
  rw [hvn] at h3 p5
  rw [hwn] at k3 p5
  rw [← h4, ← k4] at p5
  have HVW : Hid (vi = (vn : Int) ∧ wi = (wn : Int)) := ⟨h3, k3⟩
  obtain ⟨wt, hwt⟩ : ∃ wt, weightG t = wt := ⟨_, rfl⟩
  obtain ⟨wu, hwu⟩ : ∃ wu, weightG u = wu := ⟨_, rfl⟩
  rw [hwt] at HWT p1 p5
  rw [hwu] at HWU p2 p5
  have HP5 : Hid (wt + wu ≤ 2992 → ∀ op : Int, 1 ≤ op → op ≤ 6 → lawJ (t ++ u ++ [reN op]) l way b = saidR E op xh yh vn wn) := p5
  have HPW : Hid (wt ≤ 2991 ∧ wu ≤ 2991 ∧ t.length ≤ 2991 ∧ u.length ≤ 2991) := ⟨p1, p2, p3, p4⟩
  clear h2 h3 h4 k2 k3 k4 p1 p2 p3 p4 p5 hvn hwn hwt hwu HPP HVC HWC
  go_wp2_with fail
  refine (HCN.out _ HS2.out.2).mono ?_
  rintro e w2 ⟨v2, rfl, O2, K2⟩
  obtain ⟨a2, c2, hv2, C2, -⟩ := cv_of_row O2
  subst hv2
  go_wp2_with fail
  refine (HWT.out _ _ _ C2).mono ?_
  rintro e w3 ⟨rfl, K3⟩
  have HS3 : Hid (VAt w3 B 24 LA ∧ w.grownBy w3 none) := ⟨(HS2.out.1.kept K2).kept K3, grown_trans (grown_trans HS2.out.2 K2) K3⟩
  clear O2 C2 K2 K3 HS2 HWT
  go_wp2_with fail
  refine (HCM.out _ HS3.out.2).mono ?_
  rintro e w4 ⟨v4, rfl, O4, K4⟩
  obtain ⟨a4, c4, hv4, C4, -⟩ := cv_of_row O4
  subst hv4
  go_wp2_with fail
  refine (HWU.out _ _ _ C4).mono ?_
  rintro e wd ⟨rfl, K5⟩
  have HS4 : Hid (VAt wd B 24 LA ∧ w.grownBy wd none) := ⟨(HS3.out.1.kept K4).kept K5, grown_trans (grown_trans HS3.out.2 K4) K5⟩
  clear O4 C4 K4 K5 HS3 HWU HCM
  have hsum : IntKind.i64.wrap ((wt : Int) + (wu : Int)) = (wt : Int) + (wu : Int) := by rw [IntKind.wrap_i64]; have := HPW.out; omega
  by_cases hw : wt + wu ≤ 2992
  case neg =>
    have e3 : decide ((2992 : Int) < (wt : Int) + (wu : Int)) = true := decide_eq_true (by omega)
    clear hw
    go_wp2_with fail
    refine (HAW.out _ HS4.out.2).mono ?_
    rintro e ws ⟨rfl, Ks⟩
    go_wp2
    go_ret
    exact ⟨rfl, Ks⟩
  have e3 : decide ((2992 : Int) < (wt : Int) + (wu : Int)) = false := decide_eq_false (by omega)
  have HP6 : Hid (∀ op : Int, 1 ≤ op → op ≤ 6 → lawJ (t ++ u ++ [reN op]) l way b = saidR E op xh yh vn wn) := HP5.out hw
  clear hw HP5
  go_upto_region 5 with fail
  clear e3 hsum
  have HVL : Hid (VAt wd B 24 LA) := HS4.out.1
  have HCB : Hid (∀ W, wd.grownBy W none → Calls Tryz.prog 22 #[.slice a b.length ca] W fun e w' => ∃ v, e = .returned v ∧ Owns w' W.heap.size v b ∧ W.grownBy w' none) := fun W K => HCB0.out W (grown_trans HS4.out.2 K)
  go_cut [17, 18] from 62 to 68 (fun s e wx => ∃ V, s = .pointer (some ⟨V, 0, none⟩) ∧ e = .int .i64 E ∧ VAt wx V 47 X ∧ wd.grownBy wx none)
  case first =>
    refine wp_region_held_drew (S := fun W => VAt W B 24 LA ∧ wd.grownBy W none) (by kernel_rfl) (⟨HVL.out.kept (grown_drewN wd 1 none), grown_drewN wd 1 none⟩) (fun hHeld => ?_)
    refine wpAnyH_take (i := 0) (v := .agg (LA)) rfl (by kernel_rfl) (by kernel_rfl) (by kernel_rfl) (fun _ _ _ h => h) (yieldsIf_load_row (by rfl) _ _ rfl B rfl 24 (LA) _ (fun W hW => hW.1) Tryz.underlying24 rfl HLS) hHeld ?_
    try simp only [Act.put, List.getElem_toArray, List.getElem_cons_zero, List.setIfInBounds_toArray, List.set_cons_zero, List.set_cons_succ]
    refine wpAnyH_take (i := 1) (v := .slice a b.length ca) rfl (by kernel_rfl) (by kernel_rfl) (by kernel_rfl) (fun _ _ _ h => h) (Or.inl ⟨by rfl, fun W hW => ?_⟩) hHeld ?_
    · clear hW
      go_simp
    try simp only [Act.put, List.getElem_toArray, List.getElem_cons_zero, List.getElem_cons_succ, List.setIfInBounds_toArray, List.set_cons_zero, List.set_cons_succ]
    refine wpAnyH_ready (rs := [2, 7]) (by kernel_rfl) (by simp) (AllReadyH.cons rfl (fun K hK => ?_) (AllReadyH.cons rfl (fun K hK => ?_) AllReadyH.nil))
    · skip
      go_simp
      refine (HCB.out _ hHeld.2).mono ?_
      rintro e w2 ⟨v2, rfl, O2, K2⟩
      obtain ⟨a2, c2, hv2, C2, -⟩ := cv_of_row O2
      subst hv2
      have C2 := C2.cells
      go_wp2_with fail
      refine hK.out _ _ (⟨hHeld.1.kept K2, grown_trans hHeld.2 K2⟩) (fun hHeld => ?_)
      clear hK K
      try simp only [Act.put, List.getElem_toArray, List.getElem_cons_zero, List.getElem_cons_succ, List.setIfInBounds_toArray, List.set_cons_zero, List.set_cons_succ]
      refine wpAnyH_ready (rs := [3, 7]) (by kernel_rfl) (by simp) (AllReadyH.cons rfl (fun K hK => ?_) (AllReadyH.cons rfl (fun K hK => ?_) AllReadyH.nil))
      · skip
        go_simp
        refine (HLK.out _ _ _ C2).mono ?_
        rintro e w3 ⟨rfl, K3⟩
        go_wp2_with fail
        refine hK.out _ _ (⟨hHeld.1.kept K3, grown_trans hHeld.2 K3⟩) (fun hHeld => ?_)
        clear hK K
        try simp only [Act.put, List.getElem_toArray, List.getElem_cons_zero, List.getElem_cons_succ, List.setIfInBounds_toArray, List.set_cons_zero, List.set_cons_succ]
        refine wpAnyH_take (i := 4) (v := .tuple #[.agg X, .int .i64 E]) rfl (by kernel_rfl) (by kernel_rfl) (by kernel_rfl) (fun _ _ _ h => h) (Or.inl ⟨by rfl, fun W hW => ?_⟩) hHeld ?_
        · clear hW
          go_simp
        try simp only [Act.put, List.getElem_toArray, List.getElem_cons_zero, List.getElem_cons_succ, List.setIfInBounds_toArray, List.set_cons_zero, List.set_cons_succ]
        refine wpAnyH_take (i := 5) (v := .agg X) rfl (by kernel_rfl) (by kernel_rfl) (by kernel_rfl) (fun _ _ _ h => h) (Or.inl ⟨by rfl, fun W hW => ?_⟩) hHeld ?_
        · clear hW
          go_simp
        try simp only [Act.put, List.getElem_toArray, List.getElem_cons_zero, List.getElem_cons_succ, List.setIfInBounds_toArray, List.set_cons_zero, List.set_cons_succ]
        refine wpAnyH_take (i := 6) (v := .int .i64 E) rfl (by kernel_rfl) (by kernel_rfl) (by kernel_rfl) (fun _ _ _ h => h) (Or.inl ⟨by rfl, fun W hW => ?_⟩) hHeld ?_
        · clear hW
          go_simp
        try simp only [Act.put, List.getElem_toArray, List.getElem_cons_zero, List.getElem_cons_succ, List.setIfInBounds_toArray, List.set_cons_zero, List.set_cons_succ]
        refine wpAnyH_ready (rs := [7]) (by kernel_rfl) (by simp) (AllReadyH.cons rfl (fun K hK => ?_) AllReadyH.nil)
        refine step_alloc (by rfl) 47 (by rfl) (vwA Vw.zero) alloc_view ?_
        intro V w7 AV K7 hbV
        have HbV : Hid (wd.heap.size ≤ V) := Nat.le_trans hHeld.2.size hbV
        refine hK.out _ _ (⟨hHeld.1.kept K7, grown_trans hHeld.2 K7⟩) (fun hHeld => ?_)
        clear hK K
        try simp only [Act.put, List.getElem_toArray, List.getElem_cons_zero, List.getElem_cons_succ, List.setIfInBounds_toArray, List.set_cons_zero, List.set_cons_succ]
        refine wpAnyH_ready (rs := [8]) (by kernel_rfl) (by simp) (AllReadyH.cons rfl (fun K hK => ?_) AllReadyH.nil)
        refine step_store_rowM (by rfl) 47 (.tmp 17) (.tmp 67) (by rfl) V X (by rfl) (by rfl) 47 _ AV HXS.out.1 HXS.out.2.1 HXS.out.2.2 ?_
        have AV2 := AV.setRow X
        refine hK.out _ _ ⟨VAt.other hHeld.1 _ (fun e => by have := HVL.out.lt; have := HbV.out; omega), vgrown_setRow hHeld.2 V _ (.inr HbV.out)⟩ (fun hHeld => ?_)
        clear hK K
        try simp only [Act.put]
        refine wpAnyH_take (i := 9) (v := .int .i64 E) rfl (by kernel_rfl) (by kernel_rfl) (by kernel_rfl) (fun _ _ _ h => h) (Or.inl ⟨by rfl, fun W hW => ?_⟩) hHeld ?_
        · clear hW
          go_simp
        try simp only [Act.put, List.getElem_toArray, List.getElem_cons_zero, List.getElem_cons_succ, List.setIfInBounds_toArray, List.set_cons_zero, List.set_cons_succ]
        refine wpAnyH_done (by kernel_rfl) ?_ _
        have HFIN : Hid (VAt _ V 47 X ∧ wd.grownBy _ none) := ⟨AV2, hHeld.2⟩
        clear hHeld AV2
        go_wp2
        go_meet
        exact ⟨V, rfl, rfl, HFIN.out.1, HFIN.out.2⟩
      · skip
        refine step_alloc (by rfl) 47 (by rfl) (vwA Vw.zero) alloc_view ?_
        intro V w7 AV K7 hbV
        have HbV : Hid (wd.heap.size ≤ V) := Nat.le_trans hHeld.2.size hbV
        have C2 := C2.keptNone K7
        refine hK.out _ _ (⟨hHeld.1.kept K7, grown_trans hHeld.2 K7⟩) (fun hHeld => ?_)
        clear hK K
        try simp only [Act.put, List.getElem_toArray, List.getElem_cons_zero, List.getElem_cons_succ, List.setIfInBounds_toArray, List.set_cons_zero, List.set_cons_succ]
        refine wpAnyH_ready (rs := [3]) (by kernel_rfl) (by simp) (AllReadyH.cons rfl (fun K hK => ?_) AllReadyH.nil)
        go_simp
        refine (HLK.out _ _ _ C2).mono ?_
        rintro e w3 ⟨rfl, K3⟩
        have AV := AV.kept K3
        go_wp2_with fail
        refine hK.out _ _ (⟨hHeld.1.kept K3, grown_trans hHeld.2 K3⟩) (fun hHeld => ?_)
        clear hK K
        try simp only [Act.put, List.getElem_toArray, List.getElem_cons_zero, List.getElem_cons_succ, List.setIfInBounds_toArray, List.set_cons_zero, List.set_cons_succ]
        refine wpAnyH_take (i := 4) (v := .tuple #[.agg X, .int .i64 E]) rfl (by kernel_rfl) (by kernel_rfl) (by kernel_rfl) (fun _ _ _ h => h) (Or.inl ⟨by rfl, fun W hW => ?_⟩) hHeld ?_
        · clear hW
          go_simp
        try simp only [Act.put, List.getElem_toArray, List.getElem_cons_zero, List.getElem_cons_succ, List.setIfInBounds_toArray, List.set_cons_zero, List.set_cons_succ]
        refine wpAnyH_take (i := 5) (v := .agg X) rfl (by kernel_rfl) (by kernel_rfl) (by kernel_rfl) (fun _ _ _ h => h) (Or.inl ⟨by rfl, fun W hW => ?_⟩) hHeld ?_
        · clear hW
          go_simp
        try simp only [Act.put, List.getElem_toArray, List.getElem_cons_zero, List.getElem_cons_succ, List.setIfInBounds_toArray, List.set_cons_zero, List.set_cons_succ]
        refine wpAnyH_take (i := 6) (v := .int .i64 E) rfl (by kernel_rfl) (by kernel_rfl) (by kernel_rfl) (fun _ _ _ h => h) (Or.inl ⟨by rfl, fun W hW => ?_⟩) hHeld ?_
        · clear hW
          go_simp
        try simp only [Act.put, List.getElem_toArray, List.getElem_cons_zero, List.getElem_cons_succ, List.setIfInBounds_toArray, List.set_cons_zero, List.set_cons_succ]
        refine wpAnyH_ready (rs := [8]) (by kernel_rfl) (by simp) (AllReadyH.cons rfl (fun K hK => ?_) AllReadyH.nil)
        refine step_store_rowM (by rfl) 47 (.tmp 17) (.tmp 67) (by rfl) V X (by rfl) (by rfl) 47 _ AV HXS.out.1 HXS.out.2.1 HXS.out.2.2 ?_
        have AV2 := AV.setRow X
        refine hK.out _ _ ⟨VAt.other hHeld.1 _ (fun e => by have := HVL.out.lt; have := HbV.out; omega), vgrown_setRow hHeld.2 V _ (.inr HbV.out)⟩ (fun hHeld => ?_)
        clear hK K
        try simp only [Act.put]
        refine wpAnyH_take (i := 9) (v := .int .i64 E) rfl (by kernel_rfl) (by kernel_rfl) (by kernel_rfl) (fun _ _ _ h => h) (Or.inl ⟨by rfl, fun W hW => ?_⟩) hHeld ?_
        · clear hW
          go_simp
        try simp only [Act.put, List.getElem_toArray, List.getElem_cons_zero, List.getElem_cons_succ, List.setIfInBounds_toArray, List.set_cons_zero, List.set_cons_succ]
        refine wpAnyH_done (by kernel_rfl) ?_ _
        have HFIN : Hid (VAt _ V 47 X ∧ wd.grownBy _ none) := ⟨AV2, hHeld.2⟩
        clear hHeld AV2
        go_wp2
        go_meet
        exact ⟨V, rfl, rfl, HFIN.out.1, HFIN.out.2⟩
    · skip
      refine step_alloc (by rfl) 47 (by rfl) (vwA Vw.zero) alloc_view ?_
      intro V w7 AV K7 hbV
      have HbV : Hid (wd.heap.size ≤ V) := Nat.le_trans hHeld.2.size hbV
      refine hK.out _ _ (⟨hHeld.1.kept K7, grown_trans hHeld.2 K7⟩) (fun hHeld => ?_)
      clear hK K
      try simp only [Act.put, List.getElem_toArray, List.getElem_cons_zero, List.getElem_cons_succ, List.setIfInBounds_toArray, List.set_cons_zero, List.set_cons_succ]
      refine wpAnyH_ready (rs := [2]) (by kernel_rfl) (by simp) (AllReadyH.cons rfl (fun K hK => ?_) AllReadyH.nil)
      go_simp
      refine (HCB.out _ hHeld.2).mono ?_
      rintro e w2 ⟨v2, rfl, O2, K2⟩
      obtain ⟨a2, c2, hv2, C2, -⟩ := cv_of_row O2
      subst hv2
      have C2 := C2.cells
      have AV := AV.kept K2
      go_wp2_with fail
      refine hK.out _ _ (⟨hHeld.1.kept K2, grown_trans hHeld.2 K2⟩) (fun hHeld => ?_)
      clear hK K
      try simp only [Act.put, List.getElem_toArray, List.getElem_cons_zero, List.getElem_cons_succ, List.setIfInBounds_toArray, List.set_cons_zero, List.set_cons_succ]
      refine wpAnyH_ready (rs := [3]) (by kernel_rfl) (by simp) (AllReadyH.cons rfl (fun K hK => ?_) AllReadyH.nil)
      go_simp
      refine (HLK.out _ _ _ C2).mono ?_
      rintro e w3 ⟨rfl, K3⟩
      have AV := AV.kept K3
      go_wp2_with fail
      refine hK.out _ _ (⟨hHeld.1.kept K3, grown_trans hHeld.2 K3⟩) (fun hHeld => ?_)
      clear hK K
      try simp only [Act.put, List.getElem_toArray, List.getElem_cons_zero, List.getElem_cons_succ, List.setIfInBounds_toArray, List.set_cons_zero, List.set_cons_succ]
      refine wpAnyH_take (i := 4) (v := .tuple #[.agg X, .int .i64 E]) rfl (by kernel_rfl) (by kernel_rfl) (by kernel_rfl) (fun _ _ _ h => h) (Or.inl ⟨by rfl, fun W hW => ?_⟩) hHeld ?_
      · clear hW
        go_simp
      try simp only [Act.put, List.getElem_toArray, List.getElem_cons_zero, List.getElem_cons_succ, List.setIfInBounds_toArray, List.set_cons_zero, List.set_cons_succ]
      refine wpAnyH_take (i := 5) (v := .agg X) rfl (by kernel_rfl) (by kernel_rfl) (by kernel_rfl) (fun _ _ _ h => h) (Or.inl ⟨by rfl, fun W hW => ?_⟩) hHeld ?_
      · clear hW
        go_simp
      try simp only [Act.put, List.getElem_toArray, List.getElem_cons_zero, List.getElem_cons_succ, List.setIfInBounds_toArray, List.set_cons_zero, List.set_cons_succ]
      refine wpAnyH_take (i := 6) (v := .int .i64 E) rfl (by kernel_rfl) (by kernel_rfl) (by kernel_rfl) (fun _ _ _ h => h) (Or.inl ⟨by rfl, fun W hW => ?_⟩) hHeld ?_
      · clear hW
        go_simp
      try simp only [Act.put, List.getElem_toArray, List.getElem_cons_zero, List.getElem_cons_succ, List.setIfInBounds_toArray, List.set_cons_zero, List.set_cons_succ]
      refine wpAnyH_ready (rs := [8]) (by kernel_rfl) (by simp) (AllReadyH.cons rfl (fun K hK => ?_) AllReadyH.nil)
      refine step_store_rowM (by rfl) 47 (.tmp 17) (.tmp 67) (by rfl) V X (by rfl) (by rfl) 47 _ AV HXS.out.1 HXS.out.2.1 HXS.out.2.2 ?_
      have AV2 := AV.setRow X
      refine hK.out _ _ ⟨VAt.other hHeld.1 _ (fun e => by have := HVL.out.lt; have := HbV.out; omega), vgrown_setRow hHeld.2 V _ (.inr HbV.out)⟩ (fun hHeld => ?_)
      clear hK K
      try simp only [Act.put]
      refine wpAnyH_take (i := 9) (v := .int .i64 E) rfl (by kernel_rfl) (by kernel_rfl) (by kernel_rfl) (fun _ _ _ h => h) (Or.inl ⟨by rfl, fun W hW => ?_⟩) hHeld ?_
      · clear hW
        go_simp
      try simp only [Act.put, List.getElem_toArray, List.getElem_cons_zero, List.getElem_cons_succ, List.setIfInBounds_toArray, List.set_cons_zero, List.set_cons_succ]
      refine wpAnyH_done (by kernel_rfl) ?_ _
      have HFIN : Hid (VAt _ V 47 X ∧ wd.grownBy _ none) := ⟨AV2, hHeld.2⟩
      clear hHeld AV2
      go_wp2
      go_meet
      exact ⟨V, rfl, rfl, HFIN.out.1, HFIN.out.2⟩

  case rest =>
    obtain ⟨V, rfl, rfl, -, K⟩ := hcut
    have HS5 : Hid (VAt wc B 24 LA ∧ w.grownBy wc none) := ⟨HVL.out.kept K, grown_trans HS4.out.2 K⟩
    clear K HCB HCB0 HLK HXS HVL HS4
    have HLB := fun W => lit_b6 (vi == wi) (vi != wi) (decide (vi < wi)) (decide (vi ≤ wi)) (decide (wi < vi)) (decide (wi ≤ vi)) W
    go_upto_region 7 with (refine wpList_lit (by rfl) 50 6 _ rfl #[(0, .bool (vi == wi)), (1, .bool (vi != wi)), (2, .bool (decide (vi < wi))), (3, .bool (decide (vi ≤ wi))), (4, .bool (decide (wi < vi))), (5, .bool (decide (wi ≤ vi)))] (by kernel_rfl) (wantL vi wi) 4 HLB ?_; intro D w6 C6 K6)
    have HS6 : Hid (VAt w6 B 24 LA ∧ w.grownBy w6 none ∧ CV w6 (some ⟨D, 0, none⟩) (wantL vi wi)) := ⟨HS5.out.1.kept K6, grown_trans HS5.out.2 K6, C6⟩
    clear C6 K6 HS5 HLB
    go_wp2
    go_loopw [20] (fun i wr => ∃ j : Nat, j ≤ 6 ∧ i = .int .i64 ((j : Int) + 1) ∧ Hid (VAt wr B 24 LA ∧ w.grownBy wr none ∧ CV wr (some ⟨D, 0, none⟩) (wantL vi wi))) (fun i _ => 7 - (intOf i).toNat)
    case atStart => exact ⟨0, Nat.zero_le _, rfl, HS6.out⟩
    case round =>
      obtain ⟨j, hj, rfl, HSR⟩ := hrel
      by_cases hlt : j < 6
      case neg =>
        have hl : ¬ (j : Int) + 1 ≤ 6 := by omega
        go_wp2_with fail
        refine (HAW.out _ HSR.out.2.1).mono ?_
        rintro e ws ⟨rfl, Ks⟩
        go_wp2
        go_ret
        exact ⟨rfl, Ks⟩
      have hl : (j : Int) + 1 ≤ 6 := by omega
      have hj6 : (j : Int) < 6 := by omega
      have z0 : (0 : Int) ≤ (j : Int) := by omega
      have q1 : IntKind.i64.wrap ((j : Int) + 1 - 1) = (j : Int) := by rw [IntKind.wrap_i64]; omega
      have q2 : IntKind.i64.wrap ((j : Int) + 1 + 1) = (j : Int) + 1 + 1 := by rw [IntKind.wrap_i64]; omega
      have HJ6 : Hid (j < 6) := hlt
      have HB6 := fun W => bld_re ((j : Int) + 1) W
      have HL6 := fun W => lit_ng1 (reN ((j : Int) + 1)) W
      obtain ⟨N6, h6⟩ : ∃ N6, (reN ((j : Int) + 1)).cells.toArray = N6 := ⟨_, rfl⟩
      rw [h6] at HB6
      simp only [h6] at HL6
      clear h6
      obtain ⟨J, hJ⟩ : ∃ J, lawJ (t ++ u ++ [reN ((j : Int) + 1)]) l way b = J := ⟨_, rfl⟩
      have HJX : Hid (∀ (W : World) (au : Option Addr) (cu : Nat), CV W au (flatG (t ++ u ++ [reN ((j : Int) + 1)])) → (au = none → cu = 0) → w.grownBy W none → Calls Tryz.prog 19 #[.slice au (t.length + u.length + 1) cu, .agg LA, .int .i64 way, .slice a b.length ca] W fun e w' => e = .returned (.int .i64 J) ∧ W.grownBy w' none) := fun W au cu h1 h2 K => by
        have := HJU.out (t ++ u ++ [reN ((j : Int) + 1)]) (t.length + u.length + 1) cu W au (by rw [List.length_append, List.length_append]; rfl) h1 h2 (by have := HPW.out; omega) (HNN.out _) K
        rw [hJ] at this
        exact this
      have hS := HP6.out ((j : Int) + 1) (by omega) hl
      rw [hJ] at hS
      obtain ⟨Wj, hWj⟩ : ∃ Wj, cmpM ((j : Int) + 1) vn wn = Wj := ⟨_, rfl⟩
      have HWC : Hid (∀ W, wr.grownBy W none → W.cell? ⟨D, j, none⟩ = some (.bool Wj)) := fun W K => by
        obtain ⟨hh, h1⟩ := want_at vi wi vn wn j HVW.out.1 HVW.out.2 HJ6.out
        have h2 := (HSR.out.2.2.keptNone K).2 _ rfl j hh
        rw [Addr.add_lit, Nat.zero_add] at h2
        rw [h2, h1, hWj]
      have HCASE : Hid (((E != 0) = true ∧ J = 2) ∨ ((E != 0) = false ∧ (xh == 0) = true ∧ J = 0) ∨ ((E != 0) = false ∧ (xh == 0) = false ∧ (yh == 0) = true ∧ J = 0) ∨ ((E != 0) = false ∧ (xh == 0) = false ∧ (yh == 0) = false ∧ (xh == 2) = true ∧ J = 2) ∨ ((E != 0) = false ∧ (xh == 0) = false ∧ (yh == 0) = false ∧ (xh == 2) = false ∧ (yh == 2) = true ∧ J = 2) ∨ ((E != 0) = false ∧ (xh == 0) = false ∧ (yh == 0) = false ∧ (xh == 2) = false ∧ (yh == 2) = false ∧ Wj = true ∧ J = 1) ∨ ((E != 0) = false ∧ (xh == 0) = false ∧ (yh == 0) = false ∧ (xh == 2) = false ∧ (yh == 2) = false ∧ Wj = false ∧ J = 0)) := by
        show _ ∨ _
        unfold saidR at hS
        rw [hWj] at hS
        by_cases c1 : E = 0
        case neg => exact .inl ⟨by rw [bne_iff_ne]; exact c1, by rw [hS, if_pos c1]⟩
        have f1 : (E != 0) = false := by rw [c1]; rfl
        rw [if_neg (by omega)] at hS
        refine .inr ?_
        by_cases c2 : xh = 0
        · exact .inl ⟨f1, by rw [c2]; rfl, by rw [hS, if_pos (.inl c2)]⟩
        have f2 : (xh == 0) = false := by rw [beq_eq_false_iff_ne]; exact c2
        refine .inr ?_
        by_cases c3 : yh = 0
        · exact .inl ⟨f1, f2, by rw [c3]; rfl, by rw [hS, if_pos (.inr c3)]⟩
        have f3 : (yh == 0) = false := by rw [beq_eq_false_iff_ne]; exact c3
        rw [if_neg (by omega)] at hS
        refine .inr ?_
        by_cases c4 : xh = 2
        · exact .inl ⟨f1, f2, f3, by rw [c4]; rfl, by rw [hS, if_pos (.inl c4)]⟩
        have f4 : (xh == 2) = false := by rw [beq_eq_false_iff_ne]; exact c4
        refine .inr ?_
        by_cases c5 : yh = 2
        · exact .inl ⟨f1, f2, f3, f4, by rw [c5]; rfl, by rw [hS, if_pos (.inr c5)]⟩
        have f5 : (yh == 2) = false := by rw [beq_eq_false_iff_ne]; exact c5
        rw [if_neg (by omega)] at hS
        refine .inr ?_
        cases Wj with
        | true => exact .inl ⟨f1, f2, f3, f4, f5, rfl, by rw [hS]; rfl⟩
        | false => exact .inr ⟨f1, f2, f3, f4, f5, rfl, by rw [hS]; rfl⟩
      have HLA : Hid (t.length + u.length ≤ maxLen ∧ (t.length + u.length) * 72 ≤ 140737488355328) := by have := HPW.out; refine ⟨?_, ?_⟩ <;> (try unfold maxLen) <;> omega
      have HLC : Hid (t.length + u.length + 1 ≤ maxLen ∧ (t.length + u.length + 1) * 72 ≤ 140737488355328) := by have := HPW.out; refine ⟨?_, ?_⟩ <;> (try unfold maxLen) <;> omega
      clear hJ hS hWj hlt
      go_wp2_with fail
      refine (HCN.out _ HSR.out.2.1).mono ?_
      rintro e w7 ⟨v7, rfl, O7, K7⟩
      go_upto_region 12 with (first
        | (at_builtin; refine wpList_append_cv rfl (.tmp 93) (.tmp 94) 22 rfl 44 i0 _ 24 72 Tryz.underlying22 HI.out.1 HI.out.2.1 HI.out.2.2.1 HI.out.2.2.2 rfl (by decide) wr.heap.size _ t.length (flatG t) rfl O7 bo u.length bp (flatG u) rfl (flatG_len u) HB.out.2 (HB.out.1.keptNone (grown_trans HSR.out.2.1 K7)) (flatG_one u) HLA.out.1 HLA.out.2 K7.size ?_; intro v8 w8 O8 K8; rw [← flatG_append] at O8; have G8 : wr.grownBy w8 none := grown_trans_new K7 K8 (fun x hx => (O7.lt x hx).1))
        | (refine wpList_bld rfl 44 #[(0, .const (.int .i64 6)), (1, .tmp 96)] rfl _ (by kernel_rfl) (.agg N6) HB6 ?_)
        | (refine wpList_lit (by rfl) 22 1 _ rfl #[(0, .agg N6)] (by kernel_rfl) (flatG [reN ((j : Int) + 1)]) 44 HL6 ?_; intro D9 w9 C9 K9; have O9 := owns_keptNone O8 K9; have G9 := grown_trans G8 K9)
        | (at_builtin; refine wpList_append_cv rfl (.tmp 95) (.tmp 98) 22 rfl 44 i0 _ 24 72 Tryz.underlying22 HI.out.1 HI.out.2.1 HI.out.2.2.1 HI.out.2.2.2 rfl (by decide) wr.heap.size _ (t.length + u.length) (flatG (t ++ u)) rfl O9 (some ⟨D9, 0, none⟩) 1 1 (flatG [reN ((j : Int) + 1)]) rfl rfl (by simp) C9 (flatG_one _) HLC.out.1 HLC.out.2 G9.size ?_; intro v10 w10 O10 K10; rw [← flatG_append] at O10; have G10 : wr.grownBy w10 none := grown_trans_new G9 K10 (fun x hx => (O9.lt x hx).1)))
      obtain ⟨a10, c10, hv10, C10, -, -, h010, -⟩ := cv_of_row O10
      subst hv10
      have HJC := HJX.out w10 a10 c10 C10 h010 (grown_trans HSR.out.2.1 G10)
      have HVX : VAt w10 B 24 LA := HSR.out.1.kept G10
      have HG10 : Hid (wr.grownBy w10 none) := G10
      have hcj := HWC.out w10 G10
      clear O7 K7 O8 K8 G8 O9 K9 G9 C9 O10 K10 G10 C10 HB6 HL6 HJX HWC
      rcases HCASE.out with ⟨f1, rfl⟩ | ⟨f1, f2, rfl⟩ | ⟨f1, f2, f3, rfl⟩ | ⟨f1, f2, f3, f4, rfl⟩ | ⟨f1, f2, f3, f4, f5, rfl⟩ | ⟨f1, f2, f3, f4, f5, rfl, rfl⟩ | ⟨f1, f2, f3, f4, f5, rfl, rfl⟩
      all_goals
        clear HCASE
        go_wp2_with (refine wpList_load_row rfl 24 (.tmp 7) rfl B rfl 24 LA (0, 0) _ HVX Tryz.underlying24 rfl HLS ?_)
        refine HJC.mono ?_
        rintro e w11 ⟨rfl, K11⟩
        have HG11 : Hid (wr.grownBy w11 none) := grown_trans HG10.out K11
        clear HVX K11 HJC hcj
        go_wp2
        go_roundw
        case rel => exact ⟨j + 1, HJ6.out, by go_num, HSR.out.1.kept HG11.out, grown_trans HSR.out.2.1 HG11.out, HSR.out.2.2.keptNone HG11.out⟩
        case measure => have := HJ6.out; simp [intOf]; omega

set_option maxRecDepth 100000 in
theorem lifted (os : Os) (started : os.Started) (H : Type) (enc : TypeId × Value → H) :
    ReturnsInHanded {} Tryz.checked os 6 .any (Rows.meanRelationsSpec.pre6 enc Tryz.prog Tryz.f6 Rows.meanRelationsRow.domain false) (Rows.meanRelationsSpec.post enc Tryz.prog Tryz.f6 false true false false) := by
  refine returnsInHanded_of_change_sized (C := Tryz.checked) own started (by kernel_rfl) Tryz.func6
    (ChangeSpec.witness6 (enc := enc) (C := Tryz.checked) false ⟨#[], #[.slice none 0 0, .slice none 0 0, .agg #[.bool false, .bool false, .int .i64 0], .int .i64 0, .slice none 0 0], []⟩ 8 (by kernel_rfl) (by kernel_rfl) (by kernel_rfl) (by kernel_rfl)) ?_
  intro W base args ds gs before hval0 hW hcnd hsz0 _
  have hsz : (DataW.weightsEach Tryz.prog (Tryz.f6.params.toList ++ Rows.meanRelationsSpec.plain.varTypes Tryz.prog) (ds ++ gs)).all (· ≤ reachBytes) = true := hsz0
  have hval : ∀ (j : Nat) t v, Tryz.f6.params[j]? = some t → args[j]? = some v → Value.okWide Tryz.prog W .any base t v := hval0
  have hW' := hW
  obtain ⟨p, q, hA0, hV, rfl, hfz, hnd⟩ := hW
  have hA : DataW.TrodAll enc Tryz.prog W 0 (fun _ => true) true Tryz.f6.params.toList args.toList ds p := hA0
  rw [Tryz.params6] at hA hval hsz
  obtain ⟨v0, vs0, d0, ds0, p0, q0, hargs, rfl, rfl, h0, r0⟩ := trodAll_cons hA
  obtain ⟨v1, vs1, d1, ds1, p1, q1, rfl, rfl, rfl, h1, r1⟩ := trodAll_cons r0
  obtain ⟨v2, vs2, d2, ds2, p2, q2, rfl, rfl, rfl, h2, r2⟩ := trodAll_cons r1
  obtain ⟨v3, vs3, d3, ds3, p3, q3, rfl, rfl, rfl, h3, r3⟩ := trodAll_cons r2
  obtain ⟨v4, vs4, d4, ds4, p4, q4, rfl, rfl, rfl, h4, r4⟩ := trodAll_cons r3
  obtain ⟨rfl, rfl, rfl⟩ := trodAll_nil r4
  obtain rfl : args = #[v0, v1, v2, v3, v4] := by cases args; simp_all
  obtain ⟨rfl, rfl⟩ := trodVars_none hV
  obtain ⟨a0, len0, cap0, rfl⟩ := okWide_slice Tryz.underlying22 (hval 0 22 v0 rfl rfl)
  have k0 := h0
  have lt0 : ∀ x ∈ p0, x.block < W.heap.size := by obtain ⟨m, hm⟩ := k0; exact DataW.trod_lt m _ _ _ hm
  obtain ⟨xs0, rfl, hcells0, hnil0, hcp0, hok0, hdat0⟩ := open_nodes h0
  obtain ⟨a1, len1, cap1, rfl⟩ := okWide_slice Tryz.underlying22 (hval 1 22 v1 rfl rfl)
  have k1 := h1
  have lt1 : ∀ x ∈ p1, x.block < W.heap.size := by obtain ⟨m, hm⟩ := k1; exact DataW.trod_lt m _ _ _ hm
  obtain ⟨xs1, rfl, hcells1, hnil1, hcp1, hok1, hdat1⟩ := open_nodes h1
  have k2 := h2
  have lt2 : ∀ x ∈ p2, x.block < W.heap.size := by obtain ⟨m, hm⟩ := k2; exact DataW.trod_lt m _ _ _ hm
  obtain ⟨x2, rfl⟩ := open_link h2
  obtain ⟨x3, rfl, rfl, rfl, w3⟩ := open_int Tryz.underlying3 (hval 3 3 v3 rfl rfl) h3
  obtain ⟨a4, len4, cap4, rfl⟩ := okWide_slice Tryz.underlying25 (hval 4 25 v4 rfl rfl)
  have k4 := h4
  have lt4 : ∀ x ∈ p4, x.block < W.heap.size := by obtain ⟨m, hm⟩ := k4; exact DataW.trod_lt m _ _ _ hm
  obtain ⟨xs4, rfl, hcells4, hnil4, hdat4⟩ := open_bytes Tryz.underlying25 Tryz.underlying5 (by kernel_rfl) h4
  have hlen0 : xs0.length * 72 ≤ 140737488351232 := by
    rcases hdat0 with ⟨_, rfl⟩ | ⟨elems, spare, rfl, hle⟩
    · simp
    · have := sized_slice hsz (j := 0) (t := 22) (e := 44) rfl rfl Tryz.underlying22
      rw [bytes44] at this
      unfold reachBytes at this
      omega
  have hlen1 : xs1.length * 72 ≤ 140737488351232 := by
    rcases hdat1 with ⟨_, rfl⟩ | ⟨elems, spare, rfl, hle⟩
    · simp
    · have := sized_slice hsz (j := 1) (t := 22) (e := 44) rfl rfl Tryz.underlying22
      rw [bytes44] at this
      unfold reachBytes at this
      omega
  have hlen4 : xs4.length * 1 ≤ 140737488351232 := by
    rcases hdat4 with ⟨_, rfl⟩ | ⟨elems, spare, rfl, hle⟩
    · simp
    · have := sized_slice hsz (j := 4) (t := 25) (e := 5) rfl rfl Tryz.underlying25
      rw [bytes5] at this
      unfold reachBytes at this
      omega
  clear hA0 hval0
  refine (walk a0 cap0 xs0 a1 cap1 xs1 x2 x3 a4 cap4 xs4 W hcells0 hnil0 hcp0.1 hcp0.2 (by omega) hok0 hcells1 hnil1 hcp1.1 hcp1.2 (by omega) hok1 hcells4 hnil4 (by omega)).mono fun e W' ⟨he, hg⟩ => ?_
  subst he
  have bel : Below W.heap.size W W' := (Below.refl _ _).grown hg (Nat.le_refl _) (by simp)
  exact ⟨_, rfl, _, _, _, [], _, [], hW', trodAll_mk1 (shut_bool Tryz.underlying4 _), (trodAll_cons_mk (Below.trod laidOut (by kernel_rfl) (of_decide_eq_true (by kernel_rfl)) k0 bel lt0) (trodAll_cons_mk (Below.trod laidOut (by kernel_rfl) (of_decide_eq_true (by kernel_rfl)) k1 bel lt1) (trodAll_cons_mk (Below.trod laidOut (by kernel_rfl) (of_decide_eq_true (by kernel_rfl)) k2 bel lt2) (trodAll_cons_mk (shut_int Tryz.underlying3 w3) (trodAll_cons_mk (Below.trod laidOut (by kernel_rfl) (of_decide_eq_true (by kernel_rfl)) k4 bel lt4) trodAll_mk0))))), rfl, bel.frame _, fun h => by cases h⟩

theorem over : Rows.MeanRelationsSaid :=
  OpenClaim.holds_of_wide 6 Tryz.f6 rfl rfl rfl rfl rfl rfl rfl ⟨rfl, rfl, rfl, rfl, rfl⟩ rfl rfl rfl rfl rfl (by kernel_rfl) Tryz.func6 (by kernel_rfl)
    (of_decide_eq_true (by kernel_rfl)) (by unfold Func.isWrapper; first | (rw [if_pos (by decide +kernel)]; kernel_rfl) | (rw [if_neg (by decide +kernel)]; exact ⟨rfl, rfl⟩))
    (fun os started H enc _ => lifted os started H enc)

end meanRelations

theorem meanRelations_holds : Rows.MeanRelationsSaid := meanRelations.over
#print axioms meanRelations_holds

end Go.Proofs.YtnaifabifemhiaaGreat
