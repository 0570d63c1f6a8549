/-
  Package line as landed: leap.
-/
import Derived.Test.YtencoknpocipbaaGreatLnD
namespace Go.Proofs.YtencoknpocipbaaGreat
open Go.RowKit
open Go.Maps
set_option maxRecDepth 100000

def idxI (d : List Int) (x : Int) : Int := if x ∈ d then (d.idxOf x : Int) else -1
theorem idx_first {x : Int} : ∀ (xs : List Int) (k : Nat) (h : k < xs.length), (∀ i (hi : i < k), xs[i]'(by omega) ≠ x) → xs[k] = x → xs.idxOf x = k
  | [], k, h, _, _ => by simp at h
  | y :: r, 0, _, _, h2 => by
    have : y = x := h2
    subst this
    simp
  | y :: r, k + 1, h, h1, h2 => by
    have h0 : y ≠ x := h1 0 (by omega)
    have e : (y == x) = false := by rw [beq_eq_false_iff_ne]; exact h0
    rw [List.idxOf_cons, e, cond_false, idx_first r k (by simpa using h) (fun i hi => h1 (i + 1) (by omega)) h2]

set_option maxHeartbeats 1000000 in
theorem zindex_any (a : Option Addr) (ca : Nat) (xs : List Int) (x : Int) (w : World) (ha : CV w a (xs.map iv)) (hm : xs.length ≤ 1000000) :
    Calls Tryz.prog 47 #[.slice a xs.length ca, .int .i64 x] w fun e w' => e = .returned (.int .i64 (idxI xs x)) ∧ w = w' := by
  go_enter Tryz.func47, Tryz.ntmps47
  go_wp2
  go_loopw [8] (fun i wr => ∃ k : Nat, k ≤ xs.length ∧ i = .int .i64 k ∧ wr = w ∧ ∀ i (_ : i < k) (h : i < xs.length), xs[i] ≠ x) (fun i _ => xs.length - (intOf i).toNat)
  case atStart => exact ⟨0, Nat.zero_le _, rfl, rfl, fun i hi => by omega⟩
  case round =>
    obtain ⟨k, hk, rfl, rfl, hno⟩ := hrel
    have HNO : Hid (∀ i (_ : i < k) (h : i < xs.length), xs[i] ≠ x) := hno
    clear hno
    by_cases hlt : k < xs.length
    · obtain ⟨b1, o1, rfl, h1⟩ := ha.ints hlt
      have c1 := h1 k hlt
      have hl : (k : Int) < (xs.length : Int) := by omega
      clear ha h1
      by_cases he : xs[k] = x
      · have HE : Hid (idxI xs x = (k : Int)) := by
          show idxI xs x = _
          rw [idxI, if_pos (by rw [← he]; exact List.getElem_mem hlt), idx_first xs k hlt (fun i hi => HNO.out i hi (by omega)) he]
        rw [he] at c1
        clear he HNO
        go_wp2
        go_ret
        exact ⟨ret_int HE.out.symm, rfl⟩
      · have he' : (x == xs[k]) = false := by rw [beq_eq_false_iff_ne]; exact fun e => he e.symm
        have HN2 : Hid (∀ i (_ : i < k + 1) (h : i < xs.length), xs[i] ≠ x) := fun i hi h => by
          by_cases hik : i = k
          · subst hik; exact he
          · exact HNO.out i (by omega) h
        clear he HNO
        generalize xs[k] = z at *
        go_wp2
        go_roundw
        case rel => exact ⟨k + 1, by omega, by go_num, by first | trivial | rfl, HN2.out⟩
        case measure => simp [intOf]; omega
    · have hl : ¬ (k : Int) < (xs.length : Int) := by omega
      have HE : Hid (idxI xs x = -1) := by
        show idxI xs x = _
        rw [idxI, if_neg]
        intro hx
        obtain ⟨i, hi, e⟩ := List.getElem_of_mem hx
        exact HNO.out i (by omega) hi e
      clear HNO
      go_wp2
      go_ret
      exact ⟨ret_int HE.out.symm, rfl⟩

theorem zeroInt (w : World) : (zeroValue 3).run Tryz.prog w = .ok (.int .i64 0) w := by kernel_rfl
theorem look_run {w : World} {mb n : Nat} {D : DataW Unit} {g v : Int} (M : MOwns w mb n D) (hk : (Lit.int .i64 g).wf = true) (h : D.atKey (.int .i64 g) (.lit (.int .i64 0)) = .lit (.int .i64 v)) : (Instr.lookup 43 (.map (some mb)) (.int .i64 g) false).run Tryz.prog w = .ok (.int .i64 v) w := by
  obtain ⟨c, hr, hat, -⟩ := M.lookup_int lkey Tryz.underlying43 Tryz.underlying3 (zeroInt w) (keyOf_int_mk Tryz.underlying3 hk)
  rw [h] at hat
  injection hat with hat
  injection hat with _ hat
  rw [hr, hat]

set_option maxHeartbeats 2000000 in
theorem leap_any (w : World) (base W mb n : Nat) (pv jv : Value) (prog : List In) (js : List Jp) (D : DataW Unit) (H : WS w base W mb pv jv prog js n D) (j : Jp) (goal pg : Int) (pl : Int → Int) (hz : CV w j.da (j.d.map iv)) (hd : j.d.length ≤ 1000000) (hk : (Lit.int .i64 goal).wf = true)
    (hat : D.atKey (.int .i64 goal) (.lit (.int .i64 0)) = .lit (.int .i64 pg)) (hpg : goal ∉ j.d → pl goal = pg) (hb : 0 ≤ pg ∧ pg ≤ 1000000 ∧ 0 ≤ j.at' ∧ j.at' ≤ 1000000) :
    Calls Tryz.prog 30 #[.pointer (some ⟨W, 0, none⟩), .agg j.cells.toArray, .int .i64 goal] w fun e w' => e = .returned (.int .i64 (leapL pl j.d goal j.at')) ∧ w.grownBy w' none := by
  have BJ := box_jump j
  have V0 := VAt.alloc w 86 j.cells.toArray
  have G0 := World.grownBy_alloc w (.cells j.cells.toArray 86) none
  have c0 : (w.alloc (.cells j.cells.toArray 86)).cell? ⟨w.heap.size, 0, none⟩ = some (.int .i64 j.at') := V0.cell 0
  have c3 : (w.alloc (.cells j.cells.toArray 86)).cell? ⟨w.heap.size, 3, none⟩ = some (.slice j.da j.d.length j.dc) := V0.cell 3
  obtain ⟨J, hJ⟩ : ∃ J, j.cells.toArray = J := ⟨_, rfl⟩
  rw [hJ] at BJ V0 G0 c0 c3 ⊢
  clear hJ
  have HV : Hid (leapL pl j.d goal j.at' = if 0 ≤ idxI j.d goal then idxI j.d goal else pg - j.at' - 1) := by
    show leapL pl j.d goal j.at' = _
    unfold leapL idxI
    by_cases hm : goal ∈ j.d
    · rw [if_pos hm, if_pos hm, if_pos (by omega)]
    · rw [if_neg hm, if_neg hm, if_neg (by omega), hpg hm]
  generalize leapL pl j.d goal j.at' = LV at *
  have HH : Hid (WS (w.alloc (.cells J 86)) base W mb pv jv prog js n D) := H.kept G0
  have HZ : Hid (CV (w.alloc (.cells J 86)) j.da (j.d.map iv)) := hz.keptNone G0
  have HK : Hid ((Lit.int .i64 goal).wf = true ∧ D.atKey (.int .i64 goal) (.lit (.int .i64 0)) = .lit (.int .i64 pg)) := ⟨hk, hat⟩
  have HB : Hid (0 ≤ pg ∧ pg ≤ 1000000 ∧ 0 ≤ j.at' ∧ j.at' ≤ 1000000) := hb
  clear H hz hk hat hpg hb V0
  go_enter Tryz.func30, Tryz.ntmps30
  go_upto_region 1 with fail
  generalize w.alloc (.cells J 86) = w1 at *
  generalize w.heap.size = A at *
  go_wp2_with fail
  refine (zindex_any j.da j.dc j.d goal w1 HZ.out hd).mono ?_
  rintro e w2 ⟨rfl, rfl⟩
  have hr : (Instr.lookup 43 (.map (some mb)) (.int .i64 goal) false).run Tryz.prog w1 = .ok (.int .i64 pg) w1 := look_run HH.out.mown HK.out.1 HK.out.2
  have cW : w1.cell? ⟨W, 1, none⟩ = some (.map (some mb)) := HH.out.cell.cell 1
  generalize idxI j.d goal = ix at *
  by_cases hi : 0 ≤ ix
  · have HV2 : Hid (LV = ix) := by rw [Hid, HV.out, if_pos hi]
    clear HV
    go_wp2
    go_ret
    exact ⟨ret_int HV2.out.symm, G0⟩
  · have HV2 : Hid (LV = pg - j.at' - 1) := by rw [Hid, HV.out, if_neg hi]
    clear HV
    have e1 : IntKind.i64.wrap (pg - j.at') = pg - j.at' := by rw [IntKind.wrap_i64]; have := HB.out; omega
    have e2 : IntKind.i64.wrap (pg - j.at' - 1) = pg - j.at' - 1 := by rw [IntKind.wrap_i64]; have := HB.out; omega
    go_wp2_with fail
    refine wp_region_held_drew (S := fun W' => w1.grownBy W' none) (by kernel_rfl) (grown_drewN w1 1 none) (fun hHeld => ?_)
    refine wpAnyH_take (i := 0) (v := .pointer (some ⟨W, 0, none⟩)) rfl (by kernel_rfl) (by kernel_rfl) (by kernel_rfl) (fun _ _ _ h => h) (Or.inl ⟨by rfl, fun W hW => ?_⟩) hHeld ?_
    · clear hW
      go_simp
    try simp only [Act.put, List.getElem_toArray, List.getElem_cons_zero, List.setIfInBounds_toArray, List.set_cons_zero, List.set_cons_succ]
    refine wpAnyH_take (i := 1) (v := .pointer (some ⟨W, 0, none⟩)) rfl (by kernel_rfl) (by kernel_rfl) (by kernel_rfl) (fun _ _ _ h => h) (Or.inl ⟨by rfl, fun W hW => ?_⟩) hHeld ?_
    · clear hW
      go_simp
    try simp only [Act.put, List.getElem_toArray, List.getElem_cons_zero, List.getElem_cons_succ, List.setIfInBounds_toArray, List.set_cons_zero, List.set_cons_succ]
    refine wpAnyH_take (i := 2) (v := .pointer (some ⟨W, 1, none⟩)) rfl (by kernel_rfl) (by kernel_rfl) (by kernel_rfl) (fun _ _ _ h => h) (Or.inl ⟨by rfl, fun W hW => ?_⟩) hHeld ?_
    · clear hW
      go_simp
    try simp only [Act.put, List.getElem_toArray, List.getElem_cons_zero, List.getElem_cons_succ, List.setIfInBounds_toArray, List.set_cons_zero, List.set_cons_succ]
    refine wpAnyH_take (i := 3) (v := .map (some mb)) rfl (by kernel_rfl) (by kernel_rfl) (by kernel_rfl) (fun _ _ _ h => h) (Or.inl ⟨by rfl, fun W hW => ?_⟩) hHeld ?_
    · have c := hW.cell cW (by simp)
      clear hW
      go_simp
    try simp only [Act.put, List.getElem_toArray, List.getElem_cons_zero, List.getElem_cons_succ, List.setIfInBounds_toArray, List.set_cons_zero, List.set_cons_succ]
    refine wpAnyH_take (i := 4) (v := .int .i64 goal) rfl (by kernel_rfl) (by kernel_rfl) (by kernel_rfl) (fun _ _ _ h => h) (Or.inl ⟨by rfl, fun W hW => ?_⟩) hHeld ?_
    · clear hW
      go_simp
    try simp only [Act.put, List.getElem_toArray, List.getElem_cons_zero, List.getElem_cons_succ, List.setIfInBounds_toArray, List.set_cons_zero, List.set_cons_succ]
    refine wpAnyH_take (i := 5) (v := .int .i64 pg) rfl (by kernel_rfl) (by kernel_rfl) (by kernel_rfl) (fun _ _ _ h => h) (Or.inl ⟨by rfl, fun W hW => ?_⟩) hHeld ?_
    · have c := look_run (HH.out.kept hW).mown HK.out.1 HK.out.2
      clear hW
      go_simp
    try simp only [Act.put, List.getElem_toArray, List.getElem_cons_zero, List.getElem_cons_succ, List.setIfInBounds_toArray, List.set_cons_zero, List.set_cons_succ]
    refine wpAnyH_take (i := 6) (v := .pointer (some ⟨A, 0, none⟩)) rfl (by kernel_rfl) (by kernel_rfl) (by kernel_rfl) (fun _ _ _ h => h) (Or.inl ⟨by rfl, fun W hW => ?_⟩) hHeld ?_
    · clear hW
      go_simp
    try simp only [Act.put, List.getElem_toArray, List.getElem_cons_zero, List.getElem_cons_succ, List.setIfInBounds_toArray, List.set_cons_zero, List.set_cons_succ]
    refine wpAnyH_take (i := 7) (v := .int .i64 j.at') rfl (by kernel_rfl) (by kernel_rfl) (by kernel_rfl) (fun _ _ _ h => h) (Or.inl ⟨by rfl, fun W hW => ?_⟩) hHeld ?_
    · have c := hW.cell c0 (by simp)
      clear hW
      go_simp
    try simp only [Act.put, List.getElem_toArray, List.getElem_cons_zero, List.getElem_cons_succ, List.setIfInBounds_toArray, List.set_cons_zero, List.set_cons_succ]
    refine wpAnyH_take (i := 8) (v := .int .i64 (pg - j.at')) rfl (by kernel_rfl) (by kernel_rfl) (by kernel_rfl) (fun _ _ _ h => h) (Or.inl ⟨by rfl, fun W hW => ?_⟩) hHeld ?_
    · clear hW
      go_simp
    try simp only [Act.put, List.getElem_toArray, List.getElem_cons_zero, List.getElem_cons_succ, List.setIfInBounds_toArray, List.set_cons_zero, List.set_cons_succ]
    refine wpAnyH_take (i := 9) (v := .int .i64 (pg - j.at' - 1)) rfl (by kernel_rfl) (by kernel_rfl) (by kernel_rfl) (fun _ _ _ h => h) (Or.inl ⟨by rfl, fun W hW => ?_⟩) hHeld ?_
    · clear hW
      go_simp
    try simp only [Act.put, List.getElem_toArray, List.getElem_cons_zero, List.getElem_cons_succ, List.setIfInBounds_toArray, List.set_cons_zero, List.set_cons_succ]
    refine wpAnyH_take (i := 10) (v := .int .i64 (pg - j.at' - 1)) rfl (by kernel_rfl) (by kernel_rfl) (by kernel_rfl) (fun _ _ _ h => h) (Or.inl ⟨by rfl, fun W hW => ?_⟩) hHeld ?_
    · clear hW
      go_simp
    try simp only [Act.put, List.getElem_toArray, List.getElem_cons_zero, List.getElem_cons_succ, List.setIfInBounds_toArray, List.set_cons_zero, List.set_cons_succ]
    refine wpAnyH_done (by kernel_rfl) ?_ _
    go_wp2
    go_ret
    exact ⟨ret_int HV2.out.symm, grown_trans G0 (grown_drewN _ 1 _)⟩

end Go.Proofs.YtencoknpocipbaaGreat
