/-
  Layer 12: what every program answers that is one.
-/
import Derived.Test.YtgoiblnddfggbaaLotP23
import Derived.Test.YtgoiblnddfggbaaTyR2
namespace Go.Proofs.Ytgoiblnddfggbaa
open Go.RowKit
set_option maxRecDepth 100000

def wdN : Ng := ⟨11, 0, 0, 0, 0, 2, 0, zeros 16, 0⟩
def ntN : Ng := ⟨9, 0, 0, 0, 0, 0, 0, zeros 16, 0⟩
def fvN : Ng := ⟨1, 0, 5, 0, 0, 0, 0, zeros 16, 0⟩
def mnN : Ng := ⟨5, 0, 0, 0, 0, 0, 0, zeros 16, 0⟩
theorem step_litG {P : Program} {ops : Array Oper} {o : Oper} {a : Act} {w : World} {K : Act → World → Prop} {Q : Exit → Act → World → Prop} {E : Prop}
    (hw : Region.wanted o (yielded ops a.tmps) = true) (t : TypeId) (n : Nat) (ps : Array (Nat × Operand)) (ho : o.op = .buildSlice t n ps) (qs : Array (Nat × Value)) (hq : ps.map (fun (i, x) => (i, a.eval x)) = qs) (cs : List Value) (e : TypeId)
    (hr : ∀ W : World, (Instr.buildSlice t n qs).run P W = .ok (.slice (some ⟨W.heap.size, 0, none⟩) n n) (W.alloc (.cells cs.toArray e)))
    (hK : ∀ ad w', CV w' (some ad) cs → w.grownBy w' none → K (a.put o.dst (.slice (some ad) n n)) w') :
    if Region.wanted o (yielded ops a.tmps) = true then Oper.wp P o a w K Q else E := by
  rw [if_pos hw]
  unfold Oper.wp execOp
  have hr' := hr w
  rw [← hq] at hr'
  simp only [ho, Sem.run_bind, Sem.run_pure, Result.andThen_ok, hr']
  exact hK _ _ (cv_lit w e cs) (World.grownBy_alloc _ _ _)
theorem lit_n1 (x : Ng) (W : World) : (Instr.buildSlice 22 1 #[(0, .agg x.cells.toArray)]).run Try.prog W = .ok (.slice (some ⟨W.heap.size, 0, none⟩) 1 1) (W.alloc (.cells (flatG [x]).toArray 46)) := by kernel_rfl
theorem lit_n2 (x y : Ng) (W : World) : (Instr.buildSlice 22 2 #[(0, .agg x.cells.toArray), (1, .agg y.cells.toArray)]).run Try.prog W = .ok (.slice (some ⟨W.heap.size, 0, none⟩) 2 2) (W.alloc (.cells (flatG [x, y]).toArray 46)) := by kernel_rfl
theorem aw_c1 : checkR [wdN, wdN] = .tuple #[.int .i64 2, .int .i64 120] := by kernel_rfl
theorem aw_c2 : checkR [wdN] = .tuple #[.int .i64 0, .int .i64 0] := by kernel_rfl
theorem aw_c3 : constR (constG [fvN, mnN]) = .tuple #[.int .u32 4294967291, .bool true] := by kernel_rfl
theorem aw_c4 : partsG [wdN, ntN] = some [[wdN]] := by kernel_rfl
theorem aw_c5 : weightG [wdN] = 12 := by kernel_rfl

set_option maxRecDepth 100000 in
set_option maxHeartbeats 8000000 in
theorem awake12_any (w : World) : Calls Try.prog 10 #[] w fun e w' => e = .returned (.bool true) ∧ w.grownBy w' none := by
  have HC1 : Hid (∀ (ad : Addr) (W : World), CV W (some ad) (flatG [wdN, wdN]) → Calls Try.prog 8 #[.slice (some ad) 2 2] W fun e w' => e = .returned (.tuple #[.int .i64 2, .int .i64 120]) ∧ W.grownBy w' none) := fun ad W C => by
    have := check12_any (some ad) 2 [wdN, wdN] W C (by simp) (by simp [wdN])
    rw [aw_c1] at this
    exact this
  have HC2 : Hid (∀ (ad : Addr) (W : World), CV W (some ad) (flatG [wdN]) → Calls Try.prog 8 #[.slice (some ad) 1 1] W fun e w' => e = .returned (.tuple #[.int .i64 0, .int .i64 0]) ∧ W.grownBy w' none) := fun ad W C => by
    have := check12_any (some ad) 1 [wdN] W C (by simp) (by simp [wdN])
    rw [aw_c2] at this
    exact this
  have HC3 : Hid (∀ (ad : Addr) (W : World), CV W (some ad) (flatG [fvN, mnN]) → Calls Try.prog 12 #[.slice (some ad) 2 2] W fun e w' => e = .returned (.tuple #[.int .u32 4294967291, .bool true]) ∧ W.grownBy w' none) := fun ad W C => by
    have := const12_any (some ad) 2 [fvN, mnN] W C (by simp) (by simp [fvN, mnN])
    rw [aw_c3] at this
    exact this
  have HC4 : Hid (∀ (ad : Addr) (W : World), CV W (some ad) (flatG [wdN, ntN]) → Calls Try.prog 16 #[.slice (some ad) 2 2] W fun e w' => ∃ G kG a0 k0, e = .returned (.tuple #[.slice (some ⟨G, 0, none⟩) 1 kG, .bool true]) ∧ w'.cell? ⟨G, 0, none⟩ = some (.slice a0 1 k0) ∧ CV w' a0 (flatG [wdN]) ∧ W.grownBy w' none) := fun ad W C => by
    have := parts_any (some ad) 2 [wdN, ntN] W C (Nat.le_refl _) (by decide) (by simp)
    rw [aw_c4] at this
    refine this.mono ?_
    rintro e w' ⟨v, rfl, ⟨vs, h1, h2, h3, -⟩, K⟩
    obtain ⟨G, kG, rfl, -⟩ := owns_head h1 (by simp)
    have O := h3 0 (by simp)
    match vs, h2 with
    | [u], _ =>
      obtain ⟨a0, k0, e0, C0, -⟩ := cv_of_row O
      have e1 : u = .slice a0 1 k0 := e0
      subst e1
      exact ⟨G, kG, a0, k0, rfl, by rw [h1.cellAt 0 (by simp)]; rfl, C0, K⟩
  have HCW : Hid (∀ (ad : Addr) (W : World), CV W (some ad) (flatG [wdN]) → Calls Try.prog 13 #[.slice (some ad) 1 1] W fun e w' => e = .returned (.int .i64 12) ∧ W.grownBy w' none) := fun ad W C => by
    have := weight_any (some ad) 1 [wdN] W C (by simp)
    rw [aw_c5] at this
    exact this
  have HZ : Hid ((Try.prog.info? 46).map (·.size) = some wdN.cells.toArray.size) := ng_size wdN
  have HZ2 : Hid (24 = wdN.cells.toArray.size ∧ wdN.cells.toArray.all (·.oneCell') = true) := ⟨rfl, ng_all wdN⟩
  have HL1 : Hid _ := lit_n1 wdN
  have HL2 : Hid _ := lit_n2 wdN wdN
  have HL3 : Hid _ := lit_n2 fvN mnN
  have HL4 : Hid _ := lit_n2 wdN ntN
  have HB1 : Hid (∀ W : World, (Instr.build 46 #[(0, .int .i64 11), (5, .int .i64 2)]).run Try.prog W = .ok (.agg wdN.cells.toArray) W) := fun W => by kernel_rfl
  have HB2 : Hid (∀ W : World, (Instr.build 46 #[(0, .int .i64 1), (2, .int .u32 5)]).run Try.prog W = .ok (.agg fvN.cells.toArray) W) := fun W => by kernel_rfl
  have HB3 : Hid (∀ W : World, (Instr.build 46 #[(0, .int .i64 5)]).run Try.prog W = .ok (.agg mnN.cells.toArray) W) := fun W => by kernel_rfl
  have HB4 : Hid (∀ W : World, (Instr.build 46 #[(0, .int .i64 9)]).run Try.prog W = .ok (.agg ntN.cells.toArray) W) := fun W => by kernel_rfl
  have V1 := VAt.alloc w 46 wdN.cells.toArray
  have G1 := World.grownBy_alloc w (.cells wdN.cells.toArray 46) none
  obtain ⟨X, hX⟩ : ∃ X, wdN.cells.toArray = X := ⟨_, rfl⟩
  obtain ⟨Y, hY⟩ : ∃ Y, fvN.cells.toArray = Y := ⟨_, rfl⟩
  obtain ⟨Z, hZ⟩ : ∃ Z, mnN.cells.toArray = Z := ⟨_, rfl⟩
  obtain ⟨U, hU⟩ : ∃ U, ntN.cells.toArray = U := ⟨_, rfl⟩
  rw [hX] at HZ HZ2 HL1 HL2 HL4 HB1 V1 G1
  rw [hY] at HL3 HB2
  rw [hZ] at HL3 HB3
  rw [hU] at HL4 HB4
  clear hX hY hZ hU
  go_enter Try.func10, Try.ntmps10
  go_upto_region 2 with (first | refine wpList_bld rfl 46 _ rfl _ (by kernel_rfl) (.agg X) HB1.out ?_ | refine wpList_store_row rfl 46 (.tmp 1) (.tmp 10) rfl w.heap.size X rfl rfl 46 _ (heap_alloc_new w _) HZ.out HZ2.out.1 HZ2.out.2 ?_)
  rw [World.setRow_alloc_new]
  generalize w.alloc (.cells X 46) = w1 at *
  generalize w.heap.size = N at V1 ⊢
  go_wp2_with (first | refine wpList_load_row rfl 46 (.tmp 1) rfl N rfl 46 X (0, 0) _ V1 Try.underlying46 rfl HZ.out ?_ | (refine wpList_lit (by rfl) 22 2 _ rfl _ (by kernel_rfl) (flatG [wdN, wdN]) 46 HL2.out ?_; intro ad2 w2 C2 K2))
  refine (HC1.out _ _ C2).mono ?_
  rintro e w3 ⟨rfl, K3⟩
  have V3 := (V1.kept K2).kept K3
  have G3 := grown_trans (grown_trans G1 K2) K3
  clear C2 K2 K3 V1 G1 HC1 HL2
  go_wp2_with (first | refine wpList_load_row rfl 46 (.tmp 1) rfl N rfl 46 X (0, 0) _ V3 Try.underlying46 rfl HZ.out ?_ | (refine wpList_lit (by rfl) 22 1 _ rfl _ (by kernel_rfl) (flatG [wdN]) 46 HL1.out ?_; intro ad3 w4 C4 K4))
  refine (HC2.out _ _ C4).mono ?_
  rintro e w5 ⟨rfl, K5⟩
  have V5 := (V3.kept K4).kept K5
  have G5 := grown_trans (grown_trans G3 K4) K5
  clear C4 K4 K5 V3 G3 HC2
  go_wp2_with (first | refine wpList_bld rfl 46 #[(0, .const (.int .i64 1)), (2, .const (.int .u32 5))] rfl _ (by kernel_rfl) (.agg Y) HB2.out ?_ | refine wpList_bld rfl 46 #[(0, .const (.int .i64 5))] rfl _ (by kernel_rfl) (.agg Z) HB3.out ?_ | (refine wpList_lit (by rfl) 22 2 _ rfl _ (by kernel_rfl) (flatG [fvN, mnN]) 46 HL3.out ?_; intro ad4 w6 C6 K6))
  refine (HC3.out _ _ C6).mono ?_
  rintro e w7 ⟨rfl, K7⟩
  have V7 := (V5.kept K6).kept K7
  have G7 := grown_trans (grown_trans G5 K6) K7
  clear C6 K6 K7 V5 G5 HC3 HL3 HB2 HB3
  go_wp2_with (first | refine wpList_load_row rfl 46 (.tmp 1) rfl N rfl 46 X (0, 0) _ V7 Try.underlying46 rfl HZ.out ?_ | refine wpList_bld rfl 46 _ rfl _ (by kernel_rfl) (.agg U) HB4.out ?_ | (refine wpList_lit (by rfl) 22 2 _ rfl _ (by kernel_rfl) (flatG [wdN, ntN]) 46 HL4.out ?_; intro ad5 w8 C8 K8))
  refine (HC4.out _ _ C8).mono ?_
  rintro e w9 ⟨G, kG, a0, k0, rfl, cG, CG, K9⟩
  have V9 := (V7.kept K8).kept K9
  have G9 := grown_trans (grown_trans G7 K8) K9
  have HPP : Hid (CV w9.drew a0 (flatG [wdN])) := CG.keptNone (grown_drewN w9 1 none)
  have HG6 : Hid (w.grownBy w9.drew none) := grown_trans G9 (grown_drewN w9 1 none)
  have HS0 : Hid (VAt w9.drew N 46 X ∧ w9.drew.cell? ⟨G, 0, none⟩ = some (.slice a0 1 k0)) := ⟨V9.kept (grown_drewN w9 1 none), (grown_drewN w9 1 none).cell cG (by simp)⟩
  clear C8 K8 K9 V7 G7 HC4 HL4 HB4 CG cG V9 G9
  go_upto_region 6 with fail
  refine wp_region_held_drew (S := fun W => VAt W N 46 X ∧ W.cell? ⟨G, 0, none⟩ = some (.slice a0 1 k0)) (by kernel_rfl) HS0.out (fun hHeld => ?_)
  refine wpAnyH_take (i := 0) (v := .int .i64 2) rfl (by kernel_rfl) (by kernel_rfl) (by kernel_rfl) (fun _ _ _ h => h) (Or.inl ⟨by rfl, fun W hW => ?_⟩) hHeld ?_
  · clear hW
    go_simp
  try simp only [Act.put, List.getElem_toArray, List.getElem_cons_zero, List.setIfInBounds_toArray, List.set_cons_zero, List.set_cons_succ]
  refine wpAnyH_take (i := 1) (v := .bool true) rfl (by kernel_rfl) (by kernel_rfl) (by kernel_rfl) (fun _ _ _ h => h) (Or.inl ⟨by rfl, fun W hW => ?_⟩) hHeld ?_
  · clear hW
    go_simp
  try simp only [Act.put, List.getElem_toArray, List.getElem_cons_zero, List.getElem_cons_succ, List.setIfInBounds_toArray, List.set_cons_zero, List.set_cons_succ]
  refine wpAnyH_take (i := 2) (v := .bool true) rfl (by kernel_rfl) (by kernel_rfl) (by kernel_rfl) (fun _ _ _ h => h) (Or.inl ⟨by rfl, fun W hW => ?_⟩) hHeld ?_
  · clear hW
    go_simp
  try simp only [Act.put, List.getElem_toArray, List.getElem_cons_zero, List.getElem_cons_succ, List.setIfInBounds_toArray, List.set_cons_zero, List.set_cons_succ]
  refine wpAnyH_take (i := 3) (v := .int .i64 120) rfl (by kernel_rfl) (by kernel_rfl) (by kernel_rfl) (fun _ _ _ h => h) (Or.inl ⟨by rfl, fun W hW => ?_⟩) hHeld ?_
  · clear hW
    go_simp
  try simp only [Act.put, List.getElem_toArray, List.getElem_cons_zero, List.getElem_cons_succ, List.setIfInBounds_toArray, List.set_cons_zero, List.set_cons_succ]
  refine wpAnyH_take (i := 4) (v := .bool true) rfl (by kernel_rfl) (by kernel_rfl) (by kernel_rfl) (fun _ _ _ h => h) (Or.inl ⟨by rfl, fun W hW => ?_⟩) hHeld ?_
  · clear hW
    go_simp
  try simp only [Act.put, List.getElem_toArray, List.getElem_cons_zero, List.getElem_cons_succ, List.setIfInBounds_toArray, List.set_cons_zero, List.set_cons_succ]
  refine wpAnyH_take (i := 5) (v := .bool true) rfl (by kernel_rfl) (by kernel_rfl) (by kernel_rfl) (fun _ _ _ h => h) (Or.inl ⟨by rfl, fun W hW => ?_⟩) hHeld ?_
  · clear hW
    go_simp
  try simp only [Act.put, List.getElem_toArray, List.getElem_cons_zero, List.getElem_cons_succ, List.setIfInBounds_toArray, List.set_cons_zero, List.set_cons_succ]
  refine wpAnyH_take (i := 6) (v := .bool true) rfl (by kernel_rfl) (by kernel_rfl) (by kernel_rfl) (fun _ _ _ h => h) (Or.inl ⟨by rfl, fun W hW => ?_⟩) hHeld ?_
  · clear hW
    go_simp
  try simp only [Act.put, List.getElem_toArray, List.getElem_cons_zero, List.getElem_cons_succ, List.setIfInBounds_toArray, List.set_cons_zero, List.set_cons_succ]
  refine wpAnyH_take (i := 7) (v := .int .i64 0) rfl (by kernel_rfl) (by kernel_rfl) (by kernel_rfl) (fun _ _ _ h => h) (Or.inl ⟨by rfl, fun W hW => ?_⟩) hHeld ?_
  · clear hW
    go_simp
  try simp only [Act.put, List.getElem_toArray, List.getElem_cons_zero, List.getElem_cons_succ, List.setIfInBounds_toArray, List.set_cons_zero, List.set_cons_succ]
  refine wpAnyH_take (i := 8) (v := .bool true) rfl (by kernel_rfl) (by kernel_rfl) (by kernel_rfl) (fun _ _ _ h => h) (Or.inl ⟨by rfl, fun W hW => ?_⟩) hHeld ?_
  · clear hW
    go_simp
  try simp only [Act.put, List.getElem_toArray, List.getElem_cons_zero, List.getElem_cons_succ, List.setIfInBounds_toArray, List.set_cons_zero, List.set_cons_succ]
  refine wpAnyH_take (i := 9) (v := .bool true) rfl (by kernel_rfl) (by kernel_rfl) (by kernel_rfl) (fun _ _ _ h => h) (Or.inl ⟨by rfl, fun W hW => ?_⟩) hHeld ?_
  · clear hW
    go_simp
  try simp only [Act.put, List.getElem_toArray, List.getElem_cons_zero, List.getElem_cons_succ, List.setIfInBounds_toArray, List.set_cons_zero, List.set_cons_succ]
  refine wpAnyH_take (i := 10) (v := .bool true) rfl (by kernel_rfl) (by kernel_rfl) (by kernel_rfl) (fun _ _ _ h => h) (Or.inl ⟨by rfl, fun W hW => ?_⟩) hHeld ?_
  · clear hW
    go_simp
  try simp only [Act.put, List.getElem_toArray, List.getElem_cons_zero, List.getElem_cons_succ, List.setIfInBounds_toArray, List.set_cons_zero, List.set_cons_succ]
  refine wpAnyH_take (i := 11) (v := .bool true) rfl (by kernel_rfl) (by kernel_rfl) (by kernel_rfl) (fun _ _ _ h => h) (Or.inl ⟨by rfl, fun W hW => ?_⟩) hHeld ?_
  · clear hW
    go_simp
  try simp only [Act.put, List.getElem_toArray, List.getElem_cons_zero, List.getElem_cons_succ, List.setIfInBounds_toArray, List.set_cons_zero, List.set_cons_succ]
  refine wpAnyH_take (i := 12) (v := .bool true) rfl (by kernel_rfl) (by kernel_rfl) (by kernel_rfl) (fun _ _ _ h => h) (Or.inl ⟨by rfl, fun W hW => ?_⟩) hHeld ?_
  · clear hW
    go_simp
  try simp only [Act.put, List.getElem_toArray, List.getElem_cons_zero, List.getElem_cons_succ, List.setIfInBounds_toArray, List.set_cons_zero, List.set_cons_succ]
  refine wpAnyH_take (i := 13) (v := .bool true) rfl (by kernel_rfl) (by kernel_rfl) (by kernel_rfl) (fun _ _ _ h => h) (Or.inl ⟨by rfl, fun W hW => ?_⟩) hHeld ?_
  · clear hW
    go_simp
  try simp only [Act.put, List.getElem_toArray, List.getElem_cons_zero, List.getElem_cons_succ, List.setIfInBounds_toArray, List.set_cons_zero, List.set_cons_succ]
  refine wpAnyH_take (i := 14) (v := .int .u32 4294967291) rfl (by kernel_rfl) (by kernel_rfl) (by kernel_rfl) (fun _ _ _ h => h) (Or.inl ⟨by rfl, fun W hW => ?_⟩) hHeld ?_
  · clear hW
    go_simp
  try simp only [Act.put, List.getElem_toArray, List.getElem_cons_zero, List.getElem_cons_succ, List.setIfInBounds_toArray, List.set_cons_zero, List.set_cons_succ]
  refine wpAnyH_take (i := 15) (v := .bool true) rfl (by kernel_rfl) (by kernel_rfl) (by kernel_rfl) (fun _ _ _ h => h) (Or.inl ⟨by rfl, fun W hW => ?_⟩) hHeld ?_
  · clear hW
    go_simp
  try simp only [Act.put, List.getElem_toArray, List.getElem_cons_zero, List.getElem_cons_succ, List.setIfInBounds_toArray, List.set_cons_zero, List.set_cons_succ]
  refine wpAnyH_take (i := 16) (v := .bool true) rfl (by kernel_rfl) (by kernel_rfl) (by kernel_rfl) (fun _ _ _ h => h) (Or.inl ⟨by rfl, fun W hW => ?_⟩) hHeld ?_
  · clear hW
    go_simp
  try simp only [Act.put, List.getElem_toArray, List.getElem_cons_zero, List.getElem_cons_succ, List.setIfInBounds_toArray, List.set_cons_zero, List.set_cons_succ]
  refine wpAnyH_take (i := 17) (v := .bool true) rfl (by kernel_rfl) (by kernel_rfl) (by kernel_rfl) (fun _ _ _ h => h) (Or.inl ⟨by rfl, fun W hW => ?_⟩) hHeld ?_
  · clear hW
    go_simp
  try simp only [Act.put, List.getElem_toArray, List.getElem_cons_zero, List.getElem_cons_succ, List.setIfInBounds_toArray, List.set_cons_zero, List.set_cons_succ]
  refine wpAnyH_take (i := 18) (v := .bool true) rfl (by kernel_rfl) (by kernel_rfl) (by kernel_rfl) (fun _ _ _ h => h) (Or.inl ⟨by rfl, fun W hW => ?_⟩) hHeld ?_
  · clear hW
    go_simp
  try simp only [Act.put, List.getElem_toArray, List.getElem_cons_zero, List.getElem_cons_succ, List.setIfInBounds_toArray, List.set_cons_zero, List.set_cons_succ]
  refine wpAnyH_take (i := 19) (v := .bool true) rfl (by kernel_rfl) (by kernel_rfl) (by kernel_rfl) (fun _ _ _ h => h) (Or.inl ⟨by rfl, fun W hW => ?_⟩) hHeld ?_
  · clear hW
    go_simp
  try simp only [Act.put, List.getElem_toArray, List.getElem_cons_zero, List.getElem_cons_succ, List.setIfInBounds_toArray, List.set_cons_zero, List.set_cons_succ]
  refine wpAnyH_take (i := 20) (v := .bool true) rfl (by kernel_rfl) (by kernel_rfl) (by kernel_rfl) (fun _ _ _ h => h) (Or.inl ⟨by rfl, fun W hW => ?_⟩) hHeld ?_
  · clear hW
    go_simp
  try simp only [Act.put, List.getElem_toArray, List.getElem_cons_zero, List.getElem_cons_succ, List.setIfInBounds_toArray, List.set_cons_zero, List.set_cons_succ]
  refine wpAnyH_take (i := 21) (v := .slice (some ⟨G, 0, none⟩) 1 kG) rfl (by kernel_rfl) (by kernel_rfl) (by kernel_rfl) (fun _ _ _ h => h) (Or.inl ⟨by rfl, fun W hW => ?_⟩) hHeld ?_
  · clear hW
    go_simp
  try simp only [Act.put, List.getElem_toArray, List.getElem_cons_zero, List.getElem_cons_succ, List.setIfInBounds_toArray, List.set_cons_zero, List.set_cons_succ]
  refine wpAnyH_take (i := 22) (v := .int .i64 1) rfl (by kernel_rfl) (by kernel_rfl) (by kernel_rfl) (fun _ _ _ h => h) (Or.inl ⟨by rfl, fun W hW => ?_⟩) hHeld ?_
  · clear hW
    go_simp
  try simp only [Act.put, List.getElem_toArray, List.getElem_cons_zero, List.getElem_cons_succ, List.setIfInBounds_toArray, List.set_cons_zero, List.set_cons_succ]
  refine wpAnyH_take (i := 23) (v := .bool true) rfl (by kernel_rfl) (by kernel_rfl) (by kernel_rfl) (fun _ _ _ h => h) (Or.inl ⟨by rfl, fun W hW => ?_⟩) hHeld ?_
  · clear hW
    go_simp
  try simp only [Act.put, List.getElem_toArray, List.getElem_cons_zero, List.getElem_cons_succ, List.setIfInBounds_toArray, List.set_cons_zero, List.set_cons_succ]
  refine wpAnyH_take (i := 24) (v := .bool true) rfl (by kernel_rfl) (by kernel_rfl) (by kernel_rfl) (fun _ _ _ h => h) (Or.inl ⟨by rfl, fun W hW => ?_⟩) hHeld ?_
  · clear hW
    go_simp
  try simp only [Act.put, List.getElem_toArray, List.getElem_cons_zero, List.getElem_cons_succ, List.setIfInBounds_toArray, List.set_cons_zero, List.set_cons_succ]
  refine wpAnyH_take (i := 25) (v := .bool true) rfl (by kernel_rfl) (by kernel_rfl) (by kernel_rfl) (fun _ _ _ h => h) (Or.inl ⟨by rfl, fun W hW => ?_⟩) hHeld ?_
  · clear hW
    go_simp
  try simp only [Act.put, List.getElem_toArray, List.getElem_cons_zero, List.getElem_cons_succ, List.setIfInBounds_toArray, List.set_cons_zero, List.set_cons_succ]
  refine wpAnyH_take (i := 26) (v := .slice (some ⟨G, 0, none⟩) 1 kG) rfl (by kernel_rfl) (by kernel_rfl) (by kernel_rfl) (fun _ _ _ h => h) (Or.inl ⟨by rfl, fun W hW => ?_⟩) hHeld ?_
  · clear hW
    go_simp
  try simp only [Act.put, List.getElem_toArray, List.getElem_cons_zero, List.getElem_cons_succ, List.setIfInBounds_toArray, List.set_cons_zero, List.set_cons_succ]
  refine wpAnyH_take (i := 27) (v := .pointer (some ⟨G, 0, none⟩)) rfl (by kernel_rfl) (by kernel_rfl) (by kernel_rfl) (fun _ _ _ h => h) (Or.inl ⟨by rfl, fun W hW => ?_⟩) hHeld ?_
  · clear hW
    go_simp
  try simp only [Act.put, List.getElem_toArray, List.getElem_cons_zero, List.getElem_cons_succ, List.setIfInBounds_toArray, List.set_cons_zero, List.set_cons_succ]
  refine wpAnyH_take (i := 28) (v := .slice a0 1 k0) rfl (by kernel_rfl) (by kernel_rfl) (by kernel_rfl) (fun _ _ _ h => h) (Or.inl ⟨by rfl, fun W hW => ?_⟩) hHeld ?_
  · have g0 := hW.2
    clear hW
    go_simp
  try simp only [Act.put, List.getElem_toArray, List.getElem_cons_zero, List.getElem_cons_succ, List.setIfInBounds_toArray, List.set_cons_zero, List.set_cons_succ]
  refine wpAnyH_take (i := 29) (v := .agg X) rfl (by kernel_rfl) (by kernel_rfl) (by kernel_rfl) (fun _ _ _ h => h) (yieldsIf_load_row (by rfl) _ _ rfl N rfl 46 X _ (fun W hW => hW.1) Try.underlying46 rfl HZ.out) hHeld ?_
  try simp only [Act.put, List.getElem_toArray, List.getElem_cons_zero, List.getElem_cons_succ, List.setIfInBounds_toArray, List.set_cons_zero, List.set_cons_succ]
  refine wpAnyH_ready (rs := [30]) (by kernel_rfl) (by simp) (AllReadyH.cons rfl (fun K hK => ?_) AllReadyH.nil)
  refine step_litG (by rfl) 22 1 _ (by rfl) _ (by kernel_rfl) (flatG [wdN]) 46 HL1.out ?_
  intro ad w8 C8 K8
  have P8 := HPP.out.keptNone K8
  have G8 := grown_trans HG6.out K8
  refine hK.out _ _ ⟨hHeld.1.kept K8, K8.cell hHeld.2 (by simp)⟩ (fun hHeld => ?_)
  clear hK K K8
  try simp only [Act.put, List.getElem_toArray, List.getElem_cons_zero, List.getElem_cons_succ, List.setIfInBounds_toArray, List.set_cons_zero, List.set_cons_succ]
  refine wpAnyH_ready (rs := [31]) (by kernel_rfl) (by simp) (AllReadyH.cons rfl (fun K hK => ?_) AllReadyH.nil)
  go_simp
  refine (gsame_any a0 (some ad) k0 1 [wdN] _ P8 C8 (by simp)).mono ?_
  rintro e w9 ⟨rfl, m9, rfl⟩
  have K9 := grown_drewN w8 m9 none
  have G9 := grown_trans G8 K9
  go_wp2_with fail
  refine hK.out _ _ ⟨hHeld.1.kept K9, K9.cell hHeld.2 (by simp)⟩ (fun hHeld => ?_)
  clear hK K K9 P8 C8 G8
  try simp only [Act.put, List.getElem_toArray, List.getElem_cons_zero, List.getElem_cons_succ, List.setIfInBounds_toArray, List.set_cons_zero, List.set_cons_succ]
  refine wpAnyH_take (i := 32) (v := .bool true) rfl (by kernel_rfl) (by kernel_rfl) (by kernel_rfl) (fun _ _ _ h => h) (Or.inl ⟨by rfl, fun W hW => ?_⟩) hHeld ?_
  · clear hW
    go_simp
  try simp only [Act.put, List.getElem_toArray, List.getElem_cons_zero, List.getElem_cons_succ, List.setIfInBounds_toArray, List.set_cons_zero, List.set_cons_succ]
  refine wpAnyH_take (i := 33) (v := .bool true) rfl (by kernel_rfl) (by kernel_rfl) (by kernel_rfl) (fun _ _ _ h => h) (Or.inl ⟨by rfl, fun W hW => ?_⟩) hHeld ?_
  · clear hW
    go_simp
  try simp only [Act.put, List.getElem_toArray, List.getElem_cons_zero, List.getElem_cons_succ, List.setIfInBounds_toArray, List.set_cons_zero, List.set_cons_succ]
  refine wpAnyH_take (i := 34) (v := .agg X) rfl (by kernel_rfl) (by kernel_rfl) (by kernel_rfl) (fun _ _ _ h => h) (yieldsIf_load_row (by rfl) _ _ rfl N rfl 46 X _ (fun W hW => hW.1) Try.underlying46 rfl HZ.out) hHeld ?_
  try simp only [Act.put, List.getElem_toArray, List.getElem_cons_zero, List.getElem_cons_succ, List.setIfInBounds_toArray, List.set_cons_zero, List.set_cons_succ]
  refine wpAnyH_ready (rs := [35]) (by kernel_rfl) (by simp) (AllReadyH.cons rfl (fun K hK => ?_) AllReadyH.nil)
  refine step_litG (by rfl) 22 1 _ (by rfl) _ (by kernel_rfl) (flatG [wdN]) 46 HL1.out ?_
  intro ad2 wa Ca Ka
  have Ga := grown_trans G9 Ka
  refine hK.out _ _ ⟨hHeld.1.kept Ka, Ka.cell hHeld.2 (by simp)⟩ (fun hHeld => ?_)
  clear hK K Ka G9
  try simp only [Act.put, List.getElem_toArray, List.getElem_cons_zero, List.getElem_cons_succ, List.setIfInBounds_toArray, List.set_cons_zero, List.set_cons_succ]
  refine wpAnyH_ready (rs := [36]) (by kernel_rfl) (by simp) (AllReadyH.cons rfl (fun K hK => ?_) AllReadyH.nil)
  go_simp
  refine (HCW.out _ _ Ca).mono ?_
  rintro e wb ⟨rfl, Kb⟩
  have Gb := grown_trans Ga Kb
  go_wp2_with fail
  refine hK.out _ _ ⟨hHeld.1.kept Kb, Kb.cell hHeld.2 (by simp)⟩ (fun hHeld => ?_)
  clear hK K Kb Ga Ca
  try simp only [Act.put, List.getElem_toArray, List.getElem_cons_zero, List.getElem_cons_succ, List.setIfInBounds_toArray, List.set_cons_zero, List.set_cons_succ]
  refine wpAnyH_take (i := 37) (v := .bool true) rfl (by kernel_rfl) (by kernel_rfl) (by kernel_rfl) (fun _ _ _ h => h) (Or.inl ⟨by rfl, fun W hW => ?_⟩) hHeld ?_
  · clear hW
    go_simp
  try simp only [Act.put, List.getElem_toArray, List.getElem_cons_zero, List.getElem_cons_succ, List.setIfInBounds_toArray, List.set_cons_zero, List.set_cons_succ]
  refine wpAnyH_take (i := 38) (v := .bool true) rfl (by kernel_rfl) (by kernel_rfl) (by kernel_rfl) (fun _ _ _ h => h) (Or.inl ⟨by rfl, fun W hW => ?_⟩) hHeld ?_
  · clear hW
    go_simp
  try simp only [Act.put, List.getElem_toArray, List.getElem_cons_zero, List.getElem_cons_succ, List.setIfInBounds_toArray, List.set_cons_zero, List.set_cons_succ]
  refine wpAnyH_take (i := 39) (v := .bool true) rfl (by kernel_rfl) (by kernel_rfl) (by kernel_rfl) (fun _ _ _ h => h) (Or.inl ⟨by rfl, fun W hW => ?_⟩) hHeld ?_
  · clear hW
    go_simp
  try simp only [Act.put, List.getElem_toArray, List.getElem_cons_zero, List.getElem_cons_succ, List.setIfInBounds_toArray, List.set_cons_zero]
  refine wpAnyH_done (by kernel_rfl) ?_ _
  clear hHeld
  go_wp2
  go_ret
  exact ⟨rfl, Gb⟩

end Go.Proofs.Ytgoiblnddfggbaa
