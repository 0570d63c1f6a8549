/-
  Package mean as landed: loads, and numbers of numbers.
-/
import Derived.Test.YtnojpepjloceoaaGreatMnH
namespace Go.Proofs.YtnojpepjloceoaaGreat
open Go.RowKit
set_option maxRecDepth 100000

theorem box_part (q : Pm) (W : World) : (Instr.box 71 (pmA q)).run Tryz.prog W = .ok (.pointer (some ⟨W.heap.size, 0, none⟩)) (W.alloc (.cells (pmC q) 71)) := by kernel_rfl
theorem mpart_size (q : Pm) : (Tryz.prog.info? 71).map (·.size) = some (pmC q).size := by kernel_rfl
theorem part_all (q : Pm) : (pmC q).all (·.oneCell') = true := by simp [pmC, Value.oneCell']
/-- A part in its block. -/
def QB (w : World) (B : Nat) (q : Pm) : Prop := VAt w B 71 (pmC q)
section
variable {w w' : World} {B : Nat} {q : Pm}
theorem QB.vat (h : QB w B q) : VAt w B 71 (pmC q) := h
theorem QB.kept (h : QB w B q) (K : w.grownBy w' none) : QB w' B q := VAt.kept h K
theorem QB.how (h : QB w B q) : w.cell? ⟨B, 0, none⟩ = some (.int .i64 q.how) := VAt.cell h 0
theorem QB.val (h : QB w B q) : w.cell? ⟨B, 1, none⟩ = some (.int .u32 (q.val : Int)) := VAt.cell h 1
theorem QB.alloc (w : World) (q : Pm) : QB (w.alloc (.cells (pmC q) 71)) w.heap.size q := VAt.alloc _ _ _
theorem QB.put (h : QB w B q) (q' : Pm) : QB (w.setRow B (pmC q')) B q' := VAt.setRow h _
end

/-- A node, a part, and a result's cell. -/
theorem load_blocks (w : World) (x : Ng) (q : Pm) : ∃ w1, ((w.alloc (.cells x.cells.toArray 37)).alloc (.cells (pmC q) 71)).alloc (.cells (pmC pm0) 71) = w1 ∧ NB w1 w.heap.size x ∧ QB w1 (w.heap.size + 1) q ∧ QB w1 (w.heap.size + 2) pm0 ∧ w.grownBy w1 none := by
  refine ⟨_, rfl, ?_⟩
  have K0 := World.grownBy_alloc w (.cells x.cells.toArray 37) none
  have A0 := NB.alloc w x
  have e0 : (w.alloc (.cells x.cells.toArray 37)).heap.size = w.heap.size + 1 := by simp
  generalize w.alloc (.cells x.cells.toArray 37) = w0 at *
  have K1 := World.grownBy_alloc w0 (.cells (pmC q) 71) none
  have B1 := QB.alloc w0 q
  have e1 : (w0.alloc (.cells (pmC q) 71)).heap.size = w0.heap.size + 1 := by simp
  generalize w0.alloc (.cells (pmC q) 71) = w1 at *
  have K2 := World.grownBy_alloc w1 (.cells (pmC pm0) 71) none
  have C2 := QB.alloc w1 pm0
  rw [e1, e0] at C2
  rw [e0] at B1
  exact ⟨(A0.kept K1).kept K2, B1.kept K2, C2, grown_trans (grown_trans K0 K1) K2⟩
/-- A part's cell that is written last. -/
theorem put_part {w W : World} {B : Nat} {q : Pm} (G : w.grownBy W none) (hB : w.heap.size ≤ B) : w.grownBy (W.setRow B (pmC q)) none := vgrown_setRow G B _ (.inr hB)

set_option maxHeartbeats 4000000 in
theorem mload_any (s : Sg) (a : Option Addr) (ca : Nat) (g : Nat) (v : Value) (x : Ng) (i : Pm) (w : World) (R : RD w g s a ca v) (hc : Cells w a s.b) (hk : MSgOk s) (hi : i.val ≤ 4294967295) :
    Calls Tryz.prog 109 #[.pointer (some ⟨g, 0, none⟩), .agg x.cells.toArray, pmA i] w fun e w' => e = .returned (pmA (loadM s x i)) ∧ w.grownBy w' none := by
  have HBX := box_ng x
  have HBP := box_part i
  obtain ⟨w1, hw1, N1, I1, R1, G1⟩ := load_blocks w x i
  have CB : ∀ W, Calls Tryz.prog 162 #[.agg (viewC s a ca), .int .i64 x.of] W fun e w' => e = .returned (.tuple #[.int .i64 ((baseM s.v x.of).1 : Int), .bool (baseM s.v x.of).2]) ∧ W.grownBy w' none := fun W => vbase_any s a ca x.of W
  have hbl := base_le hk x.of
  have hbl2 := hk.len
  obtain ⟨bs, hbs⟩ : ∃ bs, (baseM s.v x.of).1 = bs := ⟨_, rfl⟩
  have CN : Hid (∀ W, w1.grownBy W none → Calls Tryz.prog 167 #[.agg (viewC s a ca), .int .u64 ((bs + i.val : Nat) : Int), .int .i64 x.size] W fun e w' => e = .returned (numR (numM s.b (bs + i.val) x.size)) ∧ W.grownBy w' none) := fun W K => vnumber_any s a ca (bs + i.val) x.size (by omega) hk.len W ((hc.keptNone G1).keptNone K)
  have q1 : IntKind.u64.wrap (bs : Int) = (bs : Int) := by rw [IntKind.wrap_u64]; omega
  have q2 : IntKind.u64.wrap (i.val : Int) = (i.val : Int) := by rw [IntKind.wrap_u64]; omega
  have q3 : IntKind.u64.wrap ((bs : Int) + (i.val : Int)) = ((bs + i.val : Nat) : Int) := by rw [IntKind.wrap_u64]; omega
  have HR : Hid (∀ W, w1.grownBy W none → RD W g s a ca v ∧ NB W w.heap.size x ∧ QB W (w.heap.size + 1) i ∧ QB W (w.heap.size + 2) pm0) := fun W K => ⟨(R.kept G1).kept K, N1.kept K, I1.kept K, R1.kept K⟩
  have HG1 : Hid (w.grownBy w1 none) := G1
  have HE : Hid (loadM s x i = if (baseM s.v x.of).2 = false then ⟨0, 0⟩ else if i.how ≠ 1 then i else match numM s.b ((baseM s.v x.of).1 + i.val) x.size with | none => ⟨2, 0⟩ | some n => ⟨1, n⟩) := rfl
  obtain ⟨E, hE⟩ : ∃ E, loadM s x i = E := ⟨_, rfl⟩
  rw [hE] at HE ⊢
  obtain ⟨cb, hcb⟩ : ∃ cb, (baseM s.v x.of).2 = cb := ⟨_, rfl⟩
  rw [hbs, hcb] at HE CB
  have HSZ : Hid (w.heap.size ≤ w.heap.size + 2) := Nat.le_add_right _ _
  have HPS := mpart_size
  clear hbs hcb hE R hc hk N1 I1 R1 G1 hbl hbl2 hi
  obtain ⟨X, hX⟩ : ∃ X, x.cells.toArray = X := ⟨_, rfl⟩
  rw [hX] at HBX hw1 ⊢
  clear hX
  obtain ⟨Y, hY⟩ : ∃ Y, pmC i = Y := ⟨_, rfl⟩
  have HY : Hid (pmC i = Y) := hY
  simp only [pmA] at HBP ⊢
  rw [hY] at HBP hw1 ⊢
  clear hY
  go_enter Tryz.func109, Tryz.ntmps109
  go_upto_region 1 with fail
  have hw2 : ((w.alloc (.cells X 37)).alloc (.cells Y 71)).alloc (.cells #[.int .i64 0, .int .u32 0] 71) = w1 := hw1
  rw [hw2]
  clear hw1 hw2 HBX HBP
  rw [show w.heap.size + 1 + 1 = w.heap.size + 2 from rfl]
  generalize w.heap.size + 2 = T at *
  generalize w.heap.size + 1 = I at *
  obtain ⟨B, hB⟩ : ∃ B, w.heap.size = B := ⟨_, rfl⟩
  rw [hB] at HR ⊢
  clear hB
  refine wp_region_held_drew (S := fun W => w1.grownBy W none) (by kernel_rfl) (grown_drewN w1 1 none) (fun hHeld => ?_)
  refine wpAnyH_take (i := 0) (v := .pointer (some ⟨g, 0, none⟩)) rfl (by kernel_rfl) (by kernel_rfl) (by kernel_rfl) (fun _ _ _ h => h) (Or.inl ⟨by rfl, fun W hW => ?_⟩) hHeld ?_
  · clear hW
    go_simp
  try simp only [Act.put, List.getElem_toArray, List.getElem_cons_zero, List.setIfInBounds_toArray, List.set_cons_zero, List.set_cons_succ]
  refine wpAnyH_take (i := 1) (v := .pointer (some ⟨g, 0, none⟩)) rfl (by kernel_rfl) (by kernel_rfl) (by kernel_rfl) (fun _ _ _ h => h) (Or.inl ⟨by rfl, fun W hW => ?_⟩) hHeld ?_
  · clear hW
    go_simp
  try simp only [Act.put, List.getElem_toArray, List.getElem_cons_zero, List.getElem_cons_succ, List.setIfInBounds_toArray, List.set_cons_zero, List.set_cons_succ]
  refine wpAnyH_take (i := 2) (v := .pointer (some ⟨g, 0, none⟩)) rfl (by kernel_rfl) (by kernel_rfl) (by kernel_rfl) (fun _ _ _ h => h) (Or.inl ⟨by rfl, fun W hW => ?_⟩) hHeld ?_
  · clear hW
    go_simp
  try simp only [Act.put, List.getElem_toArray, List.getElem_cons_zero, List.getElem_cons_succ, List.setIfInBounds_toArray, List.set_cons_zero, List.set_cons_succ]
  refine wpAnyH_take (i := 3) (v := tellA s a ca) rfl (by kernel_rfl) (by kernel_rfl) (by kernel_rfl) (fun _ _ _ h => h) (Or.inl ⟨by rfl, fun W hW => ?_⟩) hHeld ?_
  · have c := (HR.out W hW).1.tell
    clear hW
    go_simp
  try simp only [Act.put, List.getElem_toArray, List.getElem_cons_zero, List.getElem_cons_succ, List.setIfInBounds_toArray, List.set_cons_zero, List.set_cons_succ]
  refine wpAnyH_take (i := 4) (v := .pointer (some ⟨B, 5, none⟩)) rfl (by kernel_rfl) (by kernel_rfl) (by kernel_rfl) (fun _ _ _ h => h) (Or.inl ⟨by rfl, fun W hW => ?_⟩) hHeld ?_
  · clear hW
    go_simp
  try simp only [Act.put, List.getElem_toArray, List.getElem_cons_zero, List.getElem_cons_succ, List.setIfInBounds_toArray, List.set_cons_zero, List.set_cons_succ]
  refine wpAnyH_take (i := 5) (v := .int .i64 x.of) rfl (by kernel_rfl) (by kernel_rfl) (by kernel_rfl) (fun _ _ _ h => h) (Or.inl ⟨by rfl, fun W hW => ?_⟩) hHeld ?_
  · have c := (HR.out W hW).2.1.of
    clear hW
    go_simp
  try simp only [Act.put, List.getElem_toArray, List.getElem_cons_zero, List.getElem_cons_succ, List.setIfInBounds_toArray, List.set_cons_zero, List.set_cons_succ]
  refine wpAnyH_ready (rs := [6]) (by kernel_rfl) (by simp) (AllReadyH.cons rfl (fun K hK => ?_) AllReadyH.nil)
  go_simp
  refine (CB _).mono ?_
  rintro e w2 ⟨rfl, K2⟩
  go_wp2_with fail
  refine hK.out _ _ (grown_trans hHeld K2) (fun hHeld => ?_)
  clear hK K
  try simp only [Act.put, List.getElem_toArray, List.getElem_cons_zero, List.getElem_cons_succ, List.setIfInBounds_toArray, List.set_cons_zero, List.set_cons_succ]
  refine wpAnyH_take (i := 7) (v := .tuple #[.int .i64 (bs : Int), .bool cb]) rfl (by kernel_rfl) (by kernel_rfl) (by kernel_rfl) (fun _ _ _ h => h) (Or.inl ⟨by rfl, fun W hW => ?_⟩) hHeld ?_
  · clear hW
    go_simp
  try simp only [Act.put, List.getElem_toArray, List.getElem_cons_zero, List.getElem_cons_succ, List.setIfInBounds_toArray, List.set_cons_zero, List.set_cons_succ]
  refine wpAnyH_take (i := 8) (v := .int .i64 (bs : Int)) rfl (by kernel_rfl) (by kernel_rfl) (by kernel_rfl) (fun _ _ _ h => h) (Or.inl ⟨by rfl, fun W hW => ?_⟩) hHeld ?_
  · clear hW
    go_simp
  try simp only [Act.put, List.getElem_toArray, List.getElem_cons_zero, List.getElem_cons_succ, List.setIfInBounds_toArray, List.set_cons_zero, List.set_cons_succ]
  refine wpAnyH_take (i := 9) (v := .bool cb) rfl (by kernel_rfl) (by kernel_rfl) (by kernel_rfl) (fun _ _ _ h => h) (Or.inl ⟨by rfl, fun W hW => ?_⟩) hHeld ?_
  · clear hW
    go_simp
  try simp only [Act.put, List.getElem_toArray, List.getElem_cons_zero, List.getElem_cons_succ, List.setIfInBounds_toArray, List.set_cons_zero, List.set_cons_succ]
  refine wpAnyH_take (i := 10) (v := .int .i64 (bs : Int)) rfl (by kernel_rfl) (by kernel_rfl) (by kernel_rfl) (fun _ _ _ h => h) (Or.inl ⟨by rfl, fun W hW => ?_⟩) hHeld ?_
  · clear hW
    go_simp
  try simp only [Act.put, List.getElem_toArray, List.getElem_cons_zero, List.getElem_cons_succ, List.setIfInBounds_toArray, List.set_cons_zero, List.set_cons_succ]
  refine wpAnyH_take (i := 11) (v := .bool cb) rfl (by kernel_rfl) (by kernel_rfl) (by kernel_rfl) (fun _ _ _ h => h) (Or.inl ⟨by rfl, fun W hW => ?_⟩) hHeld ?_
  · clear hW
    go_simp
  try simp only [Act.put, List.getElem_toArray, List.getElem_cons_zero, List.getElem_cons_succ, List.setIfInBounds_toArray, List.set_cons_zero, List.set_cons_succ]
  refine wpAnyH_done (by kernel_rfl) ?_ _

  have HK2 : Hid (w1.grownBy w2 none) := hHeld
  clear hHeld CB
  cases cb with
  | false =>
    have HF : Hid (E = ⟨0, 0⟩) := HE.out
    have VT : VAt w2 T 71 (pmC pm0) := (HR.out w2 HK2.out).2.2.2
    clear HE
    go_wp2_with (refine wpList_store_row rfl 71 (.tmp 6) (.tmp 23) rfl T (pmC (⟨0, 0⟩ : Pm)) rfl rfl 71 _ VT (HPS _) rfl (part_all _) ?_)
    refine bodyPost_ret (results_cell_row rfl _ _ T 71 (pmC (⟨0, 0⟩ : Pm)) (0, 0) _ rfl (VT.setRow _) Tryz.underlying71 rfl (HPS _)) rfl ?_
    exact ⟨by rw [HF.out], put_part (grown_trans HG1.out HK2.out) HSZ.out⟩
  | true =>
    have HE2 : Hid (E = if i.how ≠ 1 then i else match numM s.b (bs + i.val) x.size with | none => ⟨2, 0⟩ | some n => ⟨1, n⟩) := HE.out
    clear HE
    have c0 := (HR.out w2 HK2.out).2.2.1.how
    by_cases hh : i.how = 1
    case neg =>
      have e1 : (i.how != 1) = true := by rw [bne_iff_ne]; exact hh
      have HF : Hid (E = i) := by show E = i; rw [HE2.out, if_pos hh]
      have VT : VAt w2 T 71 (pmC pm0) := (HR.out w2 HK2.out).2.2.2
      have VI : VAt w2 I 71 (pmC i) := (HR.out w2 HK2.out).2.2.1
      clear hh HE2
      go_wp2_with (first | (refine wpList_load_row rfl 71 (.tmp 5) rfl I rfl 71 (pmC i) (0, 0) _ VI Tryz.underlying71 rfl (HPS _) ?_) | (refine wpList_store_row rfl 71 (.tmp 6) (.tmp 27) rfl T (pmC i) rfl rfl 71 _ VT (HPS _) rfl (part_all _) ?_))
      refine bodyPost_ret (results_cell_row rfl _ _ T 71 (pmC i) (0, 0) _ rfl (VT.setRow _) Tryz.underlying71 rfl (HPS _)) rfl ?_
      exact ⟨by rw [HF.out], put_part (grown_trans HG1.out HK2.out) HSZ.out⟩
    case pos =>
      have e1 : (i.how != 1) = false := by rw [hh]; rfl
      cases hn : numM s.b (bs + i.val) x.size with
      | none =>
        have HF : Hid (E = ⟨2, 0⟩) := by show E = _; rw [HE2.out, if_neg (by simpa using hh), hn]
        rw [hn] at CN
        clear hh HE2 hn
        go_upto_region 6 with fail
        refine wp_region_held_drew (S := fun W => w1.grownBy W none) (by kernel_rfl) (grown_trans HK2.out (grown_drewN w2 1 none)) (fun hHeld => ?_)
        refine wpAnyH_take (i := 0) (v := .pointer (some ⟨g, 0, none⟩)) rfl (by kernel_rfl) (by kernel_rfl) (by kernel_rfl) (fun _ _ _ h => h) (Or.inl ⟨by rfl, fun W hW => ?_⟩) hHeld ?_
        · clear hW
          go_simp
        try simp only [Act.put, List.getElem_toArray, List.getElem_cons_zero, List.setIfInBounds_toArray, List.set_cons_zero, List.set_cons_succ]
        refine wpAnyH_take (i := 1) (v := .pointer (some ⟨g, 0, none⟩)) rfl (by kernel_rfl) (by kernel_rfl) (by kernel_rfl) (fun _ _ _ h => h) (Or.inl ⟨by rfl, fun W hW => ?_⟩) hHeld ?_
        · clear hW
          go_simp
        try simp only [Act.put, List.getElem_toArray, List.getElem_cons_zero, List.getElem_cons_succ, List.setIfInBounds_toArray, List.set_cons_zero, List.set_cons_succ]
        refine wpAnyH_take (i := 2) (v := .pointer (some ⟨g, 0, none⟩)) rfl (by kernel_rfl) (by kernel_rfl) (by kernel_rfl) (fun _ _ _ h => h) (Or.inl ⟨by rfl, fun W hW => ?_⟩) hHeld ?_
        · clear hW
          go_simp
        try simp only [Act.put, List.getElem_toArray, List.getElem_cons_zero, List.getElem_cons_succ, List.setIfInBounds_toArray, List.set_cons_zero, List.set_cons_succ]
        refine wpAnyH_take (i := 3) (v := tellA s a ca) rfl (by kernel_rfl) (by kernel_rfl) (by kernel_rfl) (fun _ _ _ h => h) (Or.inl ⟨by rfl, fun W hW => ?_⟩) hHeld ?_
        · have c := (HR.out W hW).1.tell
          clear hW
          go_simp
        try simp only [Act.put, List.getElem_toArray, List.getElem_cons_zero, List.getElem_cons_succ, List.setIfInBounds_toArray, List.set_cons_zero, List.set_cons_succ]
        refine wpAnyH_take (i := 4) (v := .int .i64 (bs : Int)) rfl (by kernel_rfl) (by kernel_rfl) (by kernel_rfl) (fun _ _ _ h => h) (Or.inl ⟨by rfl, fun W hW => ?_⟩) hHeld ?_
        · clear hW
          go_simp
        try simp only [Act.put, List.getElem_toArray, List.getElem_cons_zero, List.getElem_cons_succ, List.setIfInBounds_toArray, List.set_cons_zero, List.set_cons_succ]
        refine wpAnyH_take (i := 5) (v := .int .u64 (bs : Int)) rfl (by kernel_rfl) (by kernel_rfl) (by kernel_rfl) (fun _ _ _ h => h) (Or.inl ⟨by rfl, fun W hW => ?_⟩) hHeld ?_
        · clear hW
          go_simp
        try simp only [Act.put, List.getElem_toArray, List.getElem_cons_zero, List.getElem_cons_succ, List.setIfInBounds_toArray, List.set_cons_zero, List.set_cons_succ]
        refine wpAnyH_take (i := 6) (v := .pointer (some ⟨I, 1, none⟩)) rfl (by kernel_rfl) (by kernel_rfl) (by kernel_rfl) (fun _ _ _ h => h) (Or.inl ⟨by rfl, fun W hW => ?_⟩) hHeld ?_
        · clear hW
          go_simp
        try simp only [Act.put, List.getElem_toArray, List.getElem_cons_zero, List.getElem_cons_succ, List.setIfInBounds_toArray, List.set_cons_zero, List.set_cons_succ]
        refine wpAnyH_take (i := 7) (v := .int .u32 (i.val : Int)) rfl (by kernel_rfl) (by kernel_rfl) (by kernel_rfl) (fun _ _ _ h => h) (Or.inl ⟨by rfl, fun W hW => ?_⟩) hHeld ?_
        · have c := (HR.out W hW).2.2.1.val
          clear hW
          go_simp
        try simp only [Act.put, List.getElem_toArray, List.getElem_cons_zero, List.getElem_cons_succ, List.setIfInBounds_toArray, List.set_cons_zero, List.set_cons_succ]
        refine wpAnyH_take (i := 8) (v := .int .u64 (i.val : Int)) rfl (by kernel_rfl) (by kernel_rfl) (by kernel_rfl) (fun _ _ _ h => h) (Or.inl ⟨by rfl, fun W hW => ?_⟩) hHeld ?_
        · clear hW
          go_simp
        try simp only [Act.put, List.getElem_toArray, List.getElem_cons_zero, List.getElem_cons_succ, List.setIfInBounds_toArray, List.set_cons_zero, List.set_cons_succ]
        refine wpAnyH_take (i := 9) (v := .int .u64 ((bs + i.val : Nat) : Int)) rfl (by kernel_rfl) (by kernel_rfl) (by kernel_rfl) (fun _ _ _ h => h) (Or.inl ⟨by rfl, fun W hW => ?_⟩) hHeld ?_
        · clear hW
          go_simp
        try simp only [Act.put, List.getElem_toArray, List.getElem_cons_zero, List.getElem_cons_succ, List.setIfInBounds_toArray, List.set_cons_zero, List.set_cons_succ]
        refine wpAnyH_take (i := 10) (v := .pointer (some ⟨B, 4, none⟩)) rfl (by kernel_rfl) (by kernel_rfl) (by kernel_rfl) (fun _ _ _ h => h) (Or.inl ⟨by rfl, fun W hW => ?_⟩) hHeld ?_
        · clear hW
          go_simp
        try simp only [Act.put, List.getElem_toArray, List.getElem_cons_zero, List.getElem_cons_succ, List.setIfInBounds_toArray, List.set_cons_zero, List.set_cons_succ]
        refine wpAnyH_take (i := 11) (v := .int .i64 x.size) rfl (by kernel_rfl) (by kernel_rfl) (by kernel_rfl) (fun _ _ _ h => h) (Or.inl ⟨by rfl, fun W hW => ?_⟩) hHeld ?_
        · have c := (HR.out W hW).2.1.size
          clear hW
          go_simp
        try simp only [Act.put, List.getElem_toArray, List.getElem_cons_zero, List.getElem_cons_succ, List.setIfInBounds_toArray, List.set_cons_zero, List.set_cons_succ]
        refine wpAnyH_ready (rs := [12]) (by kernel_rfl) (by simp) (AllReadyH.cons rfl (fun K hK => ?_) AllReadyH.nil)
        go_simp
        refine (CN.out _ hHeld).mono ?_
        rintro e w3 ⟨rfl, K3⟩
        simp only [numR]
        go_wp2_with fail
        refine hK.out _ _ (grown_trans hHeld K3) (fun hHeld => ?_)
        clear hK K
        try simp only [Act.put, List.setIfInBounds_toArray, List.set_cons_zero, List.set_cons_succ]
        refine wpAnyH_take (i := 13) (v := .tuple #[.int .u32 0, .bool false]) rfl (by kernel_rfl) (by kernel_rfl) (by kernel_rfl) (fun _ _ _ h => h) (Or.inl ⟨by rfl, fun W hW => ?_⟩) hHeld ?_
        · clear hW
          go_simp
        try simp only [Act.put, List.getElem_toArray, List.getElem_cons_zero, List.getElem_cons_succ, List.setIfInBounds_toArray, List.set_cons_zero, List.set_cons_succ]
        refine wpAnyH_take (i := 14) (v := .int .u32 0) rfl (by kernel_rfl) (by kernel_rfl) (by kernel_rfl) (fun _ _ _ h => h) (Or.inl ⟨by rfl, fun W hW => ?_⟩) hHeld ?_
        · clear hW
          go_simp
        try simp only [Act.put, List.getElem_toArray, List.getElem_cons_zero, List.getElem_cons_succ, List.setIfInBounds_toArray, List.set_cons_zero, List.set_cons_succ]
        refine wpAnyH_take (i := 15) (v := .bool false) rfl (by kernel_rfl) (by kernel_rfl) (by kernel_rfl) (fun _ _ _ h => h) (Or.inl ⟨by rfl, fun W hW => ?_⟩) hHeld ?_
        · clear hW
          go_simp
        try simp only [Act.put, List.getElem_toArray, List.getElem_cons_zero, List.getElem_cons_succ, List.setIfInBounds_toArray, List.set_cons_zero, List.set_cons_succ]
        refine wpAnyH_take (i := 16) (v := .int .u32 0) rfl (by kernel_rfl) (by kernel_rfl) (by kernel_rfl) (fun _ _ _ h => h) (Or.inl ⟨by rfl, fun W hW => ?_⟩) hHeld ?_
        · clear hW
          go_simp
        try simp only [Act.put, List.getElem_toArray, List.getElem_cons_zero, List.getElem_cons_succ, List.setIfInBounds_toArray, List.set_cons_zero, List.set_cons_succ]
        refine wpAnyH_take (i := 17) (v := .bool false) rfl (by kernel_rfl) (by kernel_rfl) (by kernel_rfl) (fun _ _ _ h => h) (Or.inl ⟨by rfl, fun W hW => ?_⟩) hHeld ?_
        · clear hW
          go_simp
        try simp only [Act.put, List.getElem_toArray, List.getElem_cons_zero, List.getElem_cons_succ, List.setIfInBounds_toArray, List.set_cons_zero, List.set_cons_succ]
        refine wpAnyH_done (by kernel_rfl) ?_ _

        have HK3 : Hid (w1.grownBy w3 none) := hHeld
        have VT : VAt w3 T 71 (pmC pm0) := (HR.out w3 HK3.out).2.2.2
        clear hHeld c0
        go_wp2_with (refine wpList_store_row rfl 71 (.tmp 6) (.tmp 46) rfl T (pmC (⟨2, 0⟩ : Pm)) rfl rfl 71 _ VT (HPS _) rfl (part_all _) ?_)
        refine bodyPost_ret (results_cell_row rfl _ _ T 71 (pmC (⟨2, 0⟩ : Pm)) (0, 0) _ rfl (VT.setRow _) Tryz.underlying71 rfl (HPS _)) rfl ?_
        exact ⟨by rw [HF.out], put_part (grown_trans HG1.out HK3.out) HSZ.out⟩
      | some n =>
        have HF : Hid (E = ⟨1, n⟩) := by show E = _; rw [HE2.out, if_neg (by simpa using hh), hn]
        rw [hn] at CN
        clear hh HE2 hn
        go_upto_region 6 with fail
        refine wp_region_held_drew (S := fun W => w1.grownBy W none) (by kernel_rfl) (grown_trans HK2.out (grown_drewN w2 1 none)) (fun hHeld => ?_)
        refine wpAnyH_take (i := 0) (v := .pointer (some ⟨g, 0, none⟩)) rfl (by kernel_rfl) (by kernel_rfl) (by kernel_rfl) (fun _ _ _ h => h) (Or.inl ⟨by rfl, fun W hW => ?_⟩) hHeld ?_
        · clear hW
          go_simp
        try simp only [Act.put, List.getElem_toArray, List.getElem_cons_zero, List.setIfInBounds_toArray, List.set_cons_zero, List.set_cons_succ]
        refine wpAnyH_take (i := 1) (v := .pointer (some ⟨g, 0, none⟩)) rfl (by kernel_rfl) (by kernel_rfl) (by kernel_rfl) (fun _ _ _ h => h) (Or.inl ⟨by rfl, fun W hW => ?_⟩) hHeld ?_
        · clear hW
          go_simp
        try simp only [Act.put, List.getElem_toArray, List.getElem_cons_zero, List.getElem_cons_succ, List.setIfInBounds_toArray, List.set_cons_zero, List.set_cons_succ]
        refine wpAnyH_take (i := 2) (v := .pointer (some ⟨g, 0, none⟩)) rfl (by kernel_rfl) (by kernel_rfl) (by kernel_rfl) (fun _ _ _ h => h) (Or.inl ⟨by rfl, fun W hW => ?_⟩) hHeld ?_
        · clear hW
          go_simp
        try simp only [Act.put, List.getElem_toArray, List.getElem_cons_zero, List.getElem_cons_succ, List.setIfInBounds_toArray, List.set_cons_zero, List.set_cons_succ]
        refine wpAnyH_take (i := 3) (v := tellA s a ca) rfl (by kernel_rfl) (by kernel_rfl) (by kernel_rfl) (fun _ _ _ h => h) (Or.inl ⟨by rfl, fun W hW => ?_⟩) hHeld ?_
        · have c := (HR.out W hW).1.tell
          clear hW
          go_simp
        try simp only [Act.put, List.getElem_toArray, List.getElem_cons_zero, List.getElem_cons_succ, List.setIfInBounds_toArray, List.set_cons_zero, List.set_cons_succ]
        refine wpAnyH_take (i := 4) (v := .int .i64 (bs : Int)) rfl (by kernel_rfl) (by kernel_rfl) (by kernel_rfl) (fun _ _ _ h => h) (Or.inl ⟨by rfl, fun W hW => ?_⟩) hHeld ?_
        · clear hW
          go_simp
        try simp only [Act.put, List.getElem_toArray, List.getElem_cons_zero, List.getElem_cons_succ, List.setIfInBounds_toArray, List.set_cons_zero, List.set_cons_succ]
        refine wpAnyH_take (i := 5) (v := .int .u64 (bs : Int)) rfl (by kernel_rfl) (by kernel_rfl) (by kernel_rfl) (fun _ _ _ h => h) (Or.inl ⟨by rfl, fun W hW => ?_⟩) hHeld ?_
        · clear hW
          go_simp
        try simp only [Act.put, List.getElem_toArray, List.getElem_cons_zero, List.getElem_cons_succ, List.setIfInBounds_toArray, List.set_cons_zero, List.set_cons_succ]
        refine wpAnyH_take (i := 6) (v := .pointer (some ⟨I, 1, none⟩)) rfl (by kernel_rfl) (by kernel_rfl) (by kernel_rfl) (fun _ _ _ h => h) (Or.inl ⟨by rfl, fun W hW => ?_⟩) hHeld ?_
        · clear hW
          go_simp
        try simp only [Act.put, List.getElem_toArray, List.getElem_cons_zero, List.getElem_cons_succ, List.setIfInBounds_toArray, List.set_cons_zero, List.set_cons_succ]
        refine wpAnyH_take (i := 7) (v := .int .u32 (i.val : Int)) rfl (by kernel_rfl) (by kernel_rfl) (by kernel_rfl) (fun _ _ _ h => h) (Or.inl ⟨by rfl, fun W hW => ?_⟩) hHeld ?_
        · have c := (HR.out W hW).2.2.1.val
          clear hW
          go_simp
        try simp only [Act.put, List.getElem_toArray, List.getElem_cons_zero, List.getElem_cons_succ, List.setIfInBounds_toArray, List.set_cons_zero, List.set_cons_succ]
        refine wpAnyH_take (i := 8) (v := .int .u64 (i.val : Int)) rfl (by kernel_rfl) (by kernel_rfl) (by kernel_rfl) (fun _ _ _ h => h) (Or.inl ⟨by rfl, fun W hW => ?_⟩) hHeld ?_
        · clear hW
          go_simp
        try simp only [Act.put, List.getElem_toArray, List.getElem_cons_zero, List.getElem_cons_succ, List.setIfInBounds_toArray, List.set_cons_zero, List.set_cons_succ]
        refine wpAnyH_take (i := 9) (v := .int .u64 ((bs + i.val : Nat) : Int)) rfl (by kernel_rfl) (by kernel_rfl) (by kernel_rfl) (fun _ _ _ h => h) (Or.inl ⟨by rfl, fun W hW => ?_⟩) hHeld ?_
        · clear hW
          go_simp
        try simp only [Act.put, List.getElem_toArray, List.getElem_cons_zero, List.getElem_cons_succ, List.setIfInBounds_toArray, List.set_cons_zero, List.set_cons_succ]
        refine wpAnyH_take (i := 10) (v := .pointer (some ⟨B, 4, none⟩)) rfl (by kernel_rfl) (by kernel_rfl) (by kernel_rfl) (fun _ _ _ h => h) (Or.inl ⟨by rfl, fun W hW => ?_⟩) hHeld ?_
        · clear hW
          go_simp
        try simp only [Act.put, List.getElem_toArray, List.getElem_cons_zero, List.getElem_cons_succ, List.setIfInBounds_toArray, List.set_cons_zero, List.set_cons_succ]
        refine wpAnyH_take (i := 11) (v := .int .i64 x.size) rfl (by kernel_rfl) (by kernel_rfl) (by kernel_rfl) (fun _ _ _ h => h) (Or.inl ⟨by rfl, fun W hW => ?_⟩) hHeld ?_
        · have c := (HR.out W hW).2.1.size
          clear hW
          go_simp
        try simp only [Act.put, List.getElem_toArray, List.getElem_cons_zero, List.getElem_cons_succ, List.setIfInBounds_toArray, List.set_cons_zero, List.set_cons_succ]
        refine wpAnyH_ready (rs := [12]) (by kernel_rfl) (by simp) (AllReadyH.cons rfl (fun K hK => ?_) AllReadyH.nil)
        go_simp
        refine (CN.out _ hHeld).mono ?_
        rintro e w3 ⟨rfl, K3⟩
        simp only [numR]
        go_wp2_with fail
        refine hK.out _ _ (grown_trans hHeld K3) (fun hHeld => ?_)
        clear hK K
        try simp only [Act.put, List.setIfInBounds_toArray, List.set_cons_zero, List.set_cons_succ]
        refine wpAnyH_take (i := 13) (v := .tuple #[.int .u32 (n : Int), .bool true]) rfl (by kernel_rfl) (by kernel_rfl) (by kernel_rfl) (fun _ _ _ h => h) (Or.inl ⟨by rfl, fun W hW => ?_⟩) hHeld ?_
        · clear hW
          go_simp
        try simp only [Act.put, List.getElem_toArray, List.getElem_cons_zero, List.getElem_cons_succ, List.setIfInBounds_toArray, List.set_cons_zero, List.set_cons_succ]
        refine wpAnyH_take (i := 14) (v := .int .u32 (n : Int)) rfl (by kernel_rfl) (by kernel_rfl) (by kernel_rfl) (fun _ _ _ h => h) (Or.inl ⟨by rfl, fun W hW => ?_⟩) hHeld ?_
        · clear hW
          go_simp
        try simp only [Act.put, List.getElem_toArray, List.getElem_cons_zero, List.getElem_cons_succ, List.setIfInBounds_toArray, List.set_cons_zero, List.set_cons_succ]
        refine wpAnyH_take (i := 15) (v := .bool true) rfl (by kernel_rfl) (by kernel_rfl) (by kernel_rfl) (fun _ _ _ h => h) (Or.inl ⟨by rfl, fun W hW => ?_⟩) hHeld ?_
        · clear hW
          go_simp
        try simp only [Act.put, List.getElem_toArray, List.getElem_cons_zero, List.getElem_cons_succ, List.setIfInBounds_toArray, List.set_cons_zero, List.set_cons_succ]
        refine wpAnyH_take (i := 16) (v := .int .u32 (n : Int)) rfl (by kernel_rfl) (by kernel_rfl) (by kernel_rfl) (fun _ _ _ h => h) (Or.inl ⟨by rfl, fun W hW => ?_⟩) hHeld ?_
        · clear hW
          go_simp
        try simp only [Act.put, List.getElem_toArray, List.getElem_cons_zero, List.getElem_cons_succ, List.setIfInBounds_toArray, List.set_cons_zero, List.set_cons_succ]
        refine wpAnyH_take (i := 17) (v := .bool true) rfl (by kernel_rfl) (by kernel_rfl) (by kernel_rfl) (fun _ _ _ h => h) (Or.inl ⟨by rfl, fun W hW => ?_⟩) hHeld ?_
        · clear hW
          go_simp
        try simp only [Act.put, List.getElem_toArray, List.getElem_cons_zero, List.getElem_cons_succ, List.setIfInBounds_toArray, List.set_cons_zero, List.set_cons_succ]
        refine wpAnyH_done (by kernel_rfl) ?_ _

        have HK3 : Hid (w1.grownBy w3 none) := hHeld
        clear hHeld c0
        go_wp2_with fail
        refine (mknown_any n _).mono ?_
        rintro e w4 ⟨rfl, K4⟩
        have VT : VAt w4 T 71 (pmC pm0) := ((HR.out w3 HK3.out).2.2.2).kept K4
        go_wp2_with (refine wpList_store_row rfl 71 (.tmp 6) (.tmp 48) rfl T (pmC (⟨1, n⟩ : Pm)) rfl rfl 71 _ VT (HPS _) rfl (part_all _) ?_)
        refine bodyPost_ret (results_cell_row rfl _ _ T 71 (pmC (⟨1, n⟩ : Pm)) (0, 0) _ rfl (VT.setRow _) Tryz.underlying71 rfl (HPS _)) rfl ?_
        exact ⟨by rw [HF.out], put_part (grown_trans HG1.out (grown_trans HK3.out K4)) HSZ.out⟩

/-- Two parts boxed. -/
theorem two_parts (w : World) (q r : Pm) : ∃ w1, (w.alloc (.cells (pmC q) 71)).alloc (.cells (pmC r) 71) = w1 ∧ QB w1 w.heap.size q ∧ QB w1 (w.heap.size + 1) r ∧ w.grownBy w1 none := by
  refine ⟨_, rfl, ?_⟩
  have K0 := World.grownBy_alloc w (.cells (pmC q) 71) none
  have A0 := QB.alloc w q
  have e0 : (w.alloc (.cells (pmC q) 71)).heap.size = w.heap.size + 1 := by simp
  generalize w.alloc (.cells (pmC q) 71) = w0 at *
  have K1 := World.grownBy_alloc w0 (.cells (pmC r) 71) none
  have B1 := QB.alloc w0 r
  rw [e0] at B1
  exact ⟨A0.kept K1, B1, grown_trans K0 K1⟩

set_option maxHeartbeats 1000000 in
theorem joint_any (q r : Pm) (w : World) : Calls Tryz.prog 133 #[pmA q, pmA r] w fun e w' => e = .returned (.int .i64 (jointM q r)) ∧ w.grownBy w' none := by
  obtain ⟨w1, hw1, Q1, R1, G1⟩ := two_parts w q r
  have HB1 := box_part q
  have HB2 := box_part r
  have c0 := Q1.how
  have c1 := R1.how
  have HE : Hid (jointM q r = if q.how = 0 ∨ r.how = 0 then 0 else if q.how = 2 then 2 else r.how) := rfl
  obtain ⟨E, hE⟩ : ∃ E, jointM q r = E := ⟨_, rfl⟩
  rw [hE] at HE ⊢
  clear hE Q1 R1
  simp only [pmA] at HB1 HB2 ⊢
  generalize pmC q = Q at *
  generalize pmC r = RR at *
  generalize q.how = x at *
  generalize r.how = y at *
  have PRE : (x = 0 ∨ x = 2 ∨ (x ≠ 0 ∧ x ≠ 2)) := by omega
  rcases PRE with rfl | rfl | ⟨h0, h2⟩
  · go_enter Tryz.func133, Tryz.ntmps133
    go_upto_region 1 with fail
    try rw [hw1]
    clear hw1 HB1 HB2
    generalize w.heap.size + 1 = B2 at *
    go_wp2
    go_ret
    exact ⟨ret_int (by rw [HE.out]; simp), G1⟩
  · by_cases hy : y = 0
    · subst hy
      go_enter Tryz.func133, Tryz.ntmps133
      go_upto_region 1 with fail
      try rw [hw1]
      clear hw1 HB1 HB2
      generalize w.heap.size + 1 = B2 at *
      go_wp2
      go_ret
      exact ⟨ret_int (by rw [HE.out]; simp), G1⟩
    · have e1 : (y == 0) = false := by simpa using hy
      have HY : Hid (¬ y = 0) := hy
      clear hy
      go_enter Tryz.func133, Tryz.ntmps133
      go_upto_region 1 with fail
      try rw [hw1]
      clear hw1 HB1 HB2
      generalize w.heap.size + 1 = B2 at *
      go_wp2
      go_ret
      exact ⟨ret_int (by have := HY.out; rw [HE.out]; simp [this]), G1⟩
  · have e0 : (x == 0) = false := by simpa using h0
    have e2 : (x == 2) = false := by simpa using h2
    have HX : Hid (x ≠ 0 ∧ x ≠ 2) := ⟨h0, h2⟩
    clear h0 h2
    by_cases hy : y = 0
    · subst hy
      go_enter Tryz.func133, Tryz.ntmps133
      go_upto_region 1 with fail
      try rw [hw1]
      clear hw1 HB1 HB2
      generalize w.heap.size + 1 = B2 at *
      go_wp2
      go_ret
      exact ⟨ret_int (by rw [HE.out]; simp), G1⟩
    · have e1 : (y == 0) = false := by simpa using hy
      have HY : Hid (¬ y = 0) := hy
      clear hy
      go_enter Tryz.func133, Tryz.ntmps133
      go_upto_region 1 with fail
      try rw [hw1]
      clear hw1 HB1 HB2
      generalize w.heap.size + 1 = B2 at *
      go_wp2
      go_ret
      exact ⟨ret_int (by have h1 := HY.out; have h2 := HX.out; rw [HE.out]; simp [h1, h2.1, h2.2]), G1⟩

end Go.Proofs.YtnojpepjloceoaaGreat
