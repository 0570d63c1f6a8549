/-
  Package mean as landed: the parts that are left. Package mean as landed: two parts taken.
-/
import Derived.Test.YtnojpepjloceoaaGreatLotP29
import Derived.Test.YtnojpepjloceoaaGreatLotP17
namespace Go.Proofs.YtnojpepjloceoaaGreat
open Go.RowKit
set_option maxRecDepth 100000

def pmL (q : Pm) : List Value := [.int .i64 q.how, .int .u32 (q.val : Int)]
theorem pmL_len (q : Pm) : (pmL q).length = 2 := rfl
theorem pmL_arr (q : Pm) : (pmL q).toArray = pmC q := rfl
theorem pmL_one (q : Pm) : ∀ u ∈ pmL q, u.oneCell' = true := by
  intro u hu
  simp only [pmL, List.mem_cons, List.not_mem_nil, or_false] at hu
  rcases hu with rfl | rfl <;> rfl
def flatP (qs : List Pm) : List Value := qs.flatMap pmL
theorem flatP_cons (q : Pm) (qs : List Pm) : flatP (q :: qs) = pmL q ++ flatP qs := rfl
theorem flatP_append (xs ys : List Pm) : flatP (xs ++ ys) = flatP xs ++ flatP ys := by simp only [flatP, List.flatMap_append]
theorem flatP_one (q : Pm) : flatP [q] = pmL q := by rw [flatP_cons]; simp [flatP]
theorem flatP_len (xs : List Pm) : (flatP xs).length = xs.length * 2 := by
  induction xs with
  | nil => rfl
  | cons x xs ih => rw [flatP_cons, List.length_append, ih, List.length_cons, pmL_len]; omega

/-- The blocks that the reader writes. -/
def ft (g : Nat) (v : Value) (x : Nat) : Prop := x = g ∨ v.ownBlock = some x
structure RS (w0 w : World) (g : Nat) (s : Sg) (a : Option Addr) (ca : Nat) (v : Value) (st : List Pm) : Prop where
  grown : w0.grownBy w none
  rd : RD w g s a ca v
  new : w0.heap.size ≤ g
  own : w.ownsRow w0.heap.size 71 2 v st.length (flatP st)
  len : st.length ≤ 3001
section
variable {w0 w w' : World} {g : Nat} {s : Sg} {a : Option Addr} {ca : Nat} {v v' : Value} {st st' : List Pm}
theorem RS.keep (h : RS w0 w g s a ca v st) (K : w.grownBy w' none) : RS w0 w' g s a ca v st := ⟨grown_trans h.grown K, h.rd.kept K, h.new, owns_keptNone h.own K, h.len⟩
theorem RS.ne (h : RS w0 w g s a ca v st) : ¬ v.ownBlock = some g := own_vat h.own h.rd (by decide)
theorem RS.lt (h : RS w0 w g s a ca v st) {x : Nat} (hx : ft g v x) : x < w.heap.size := by
  rcases hx with rfl | hx
  · exact VAt.lt h.rd
  · exact (h.own.lt x hx).2
theorem RS.ge (h : RS w0 w g s a ca v st) {x : Nat} (hx : ft g v x) : w0.heap.size ≤ x := by
  rcases hx with rfl | hx
  · exact h.new
  · exact (h.own.lt x hx).1
/-- The reader's own cell was written. -/
theorem RS.left (h : RS w0 w g s a ca v st) (O : w.ownsRow w0.heap.size 71 2 v' st'.length (flatP st')) (hl : st'.length ≤ 3001) : RS w0 (w.setCell ⟨g, 1, none⟩ v') g s a ca v' st' := by
  have G : w.grownBy (w.setCell ⟨g, 1, none⟩ v') (some g) := grown_setCell (World.grownBy.refl _ _) _ _ (.inl rfl)
  refine ⟨grown_setCell h.grown _ _ (.inr h.new), ?_, h.new, own_kept O G (own_vat O h.rd (by decide)), hl⟩
  have := VAt.set h.rd 1 v'
  exact this
/-- What a step of the reader leaves. -/
def Lft (w0 w : World) (g : Nat) (s : Sg) (a : Option Addr) (ca : Nat) (v : Value) (st : List Pm) (w' : World) : Prop :=
  ∃ v', RS w0 w' g s a ca v' st ∧ GB w w' (ft g v) ∧ ∀ x, x < w.heap.size → ft g v' x → ft g v x
theorem Lft.keep (h : Lft w0 w g s a ca v st w') {w2 : World} (K : w'.grownBy w2 none) : Lft w0 w g s a ca v st w2 := by
  obtain ⟨v', R, G, F⟩ := h
  exact ⟨v', R.keep K, G.trans (GB.non (S := ft g v) K) (fun _ _ h => h), F⟩
theorem Lft.of {w1 : World} {v1 : Value} (G : GB w w1 (ft g v)) (hf : ∀ x, x < w.heap.size → ft g v1 x → ft g v x) (R : Lft w0 w1 g s a ca v1 st w') : Lft w0 w g s a ca v st w' := by
  obtain ⟨v', h, G', hf'⟩ := R
  exact ⟨v', h, G.trans G' hf, fun x hx k => hf x hx (hf' x (Nat.lt_of_lt_of_le hx G.size) k)⟩
/-- A new block beside. -/
theorem RS.not (h : RS w0 w g s a ca v st) {x : Nat} (hx : w.heap.size ≤ x) : ¬ ft g v x := fun e => by have := h.lt e; omega
/-- A block that is none of the reader's was written. -/
theorem RS.away {B : Nat} (h : RS w0 w g s a ca v st) (K : w.grownBy w' (some B)) (hB : ¬ ft g v B) (h0 : w0.heap.size ≤ B) : RS w0 w' g s a ca v st :=
  ⟨grown_trans_new h.grown K (fun x hx => by cases hx; exact h0), VAt.grown h.rd K (fun e => by cases e; exact hB (.inl rfl)), h.new, own_kept h.own K (fun e => hB (.inr e)), h.len⟩
end
theorem mlit_part (q : Pm) (W : World) : (Instr.buildSlice 107 1 #[(0, .agg (pmC q))]).run Tryz.prog W = .ok (.slice (some ⟨W.heap.size, 0, none⟩) 1 1) (W.alloc (.cells (pmL q).toArray 71)) := by kernel_rfl
theorem part_info : ∃ i, Tryz.prog.info? 71 = some i ∧ i.zero = some (.agg #[.int .i64 0, .int .u32 0]) ∧ i.size = 2 ∧ i.bytes = 16 := by
  have h : (Tryz.prog.info? 71).map (fun i => (i.zero, i.size, i.bytes)) = some (some (.agg #[.int .i64 0, .int .u32 0]), 2, 16) := by kernel_rfl
  cases e : Tryz.prog.info? 71 with
  | none => rw [e] at h; cases h
  | some i =>
    rw [e] at h
    have h2 := Option.some.inj h
    exact ⟨i, rfl, congrArg Prod.fst h2, congrArg (fun p => p.2.1) h2, congrArg (fun p => p.2.2) h2⟩

set_option maxHeartbeats 4000000 in
theorem put_any14 (w0 : World) (s : Sg) (a : Option Addr) (ca : Nat) (g : Nat) (v : Value) (st : List Pm) (q : Pm) (w : World) (R : RS w0 w g s a ca v st) (hl : st.length ≤ 3000) :
    Calls Tryz.prog 107 #[.pointer (some ⟨g, 0, none⟩), pmA q] w fun e w' => e = .returned (.tuple #[]) ∧ Lft w0 w g s a ca v (st ++ [q]) w' := by
  have HBP := box_part q
  have B1 := QB.alloc w q
  have K1 := World.grownBy_alloc w (.cells (pmC q) 71) none
  have R1 := R.keep K1
  have HLT : Hid (∀ x, ft g v x → x < w.heap.size) := fun x hx => R.lt hx
  have HLN := mlit_part q
  have HPS := mpart_size q
  obtain ⟨i0, hi, hz0, hz1, hz2⟩ := part_info
  simp only [pmA] at HBP ⊢
  have HK1 : Hid (w.grownBy (w.alloc (.cells (pmC q) 71)) none) := K1
  have HST : Hid (st.length ≤ 3000) := hl
  clear R hl K1
  obtain ⟨Y, hY⟩ : ∃ Y, pmC q = Y := ⟨_, rfl⟩
  have HYQ : Hid (pmC q = Y) := hY
  have HQB : Hid (VAt (w.alloc (.cells (pmC q) 71)).drew w.heap.size 71 (pmC q)) := (B1.kept (grown_drewN _ 1 none)).vat
  rw [hY] at HBP HPS HLN R1 HK1 HQB ⊢
  clear hY B1
  go_enter Tryz.func107, Tryz.ntmps107
  go_upto_region 1 with fail
  generalize w.alloc (.cells Y 71) = w1 at *
  obtain ⟨B, hB⟩ : ∃ B, w.heap.size = B := ⟨_, rfl⟩
  have HB : Hid (w.heap.size = B) := hB
  rw [hB] at HQB ⊢
  clear hB HBP
  have c1 : w1.cell? ⟨g, 1, none⟩ = some v := R1.rd.left
  have HR1 : Hid (RS w0 w1 g s a ca v st) := R1
  have HNB : Hid (¬ v.ownBlock = some B ∧ B ≠ g) := ⟨fun e => by have := HLT.out B (.inr e); have := HB.out; omega, fun e => by have := HLT.out g (.inl rfl); have := HB.out; omega⟩
  clear R1
  refine wp_region_held_drew (S := fun W => VAt W B 71 Y) (by kernel_rfl) (HQB.out) (fun hHeld => ?_)
  refine wpAnyH_take (i := 0) (v := .pointer (some ⟨g, 0, none⟩)) rfl (by kernel_rfl) (by kernel_rfl) (by kernel_rfl) (fun _ _ _ h => h) (Or.inl ⟨by rfl, fun W hW => ?_⟩) hHeld ?_
  · clear hW
    go_simp
  try simp only [Act.put, List.getElem_toArray, List.getElem_cons_zero, List.setIfInBounds_toArray, List.set_cons_zero, List.set_cons_succ]
  refine wpAnyH_take (i := 1) (v := .pointer (some ⟨g, 0, none⟩)) rfl (by kernel_rfl) (by kernel_rfl) (by kernel_rfl) (fun _ _ _ h => h) (Or.inl ⟨by rfl, fun W hW => ?_⟩) hHeld ?_
  · clear hW
    go_simp
  try simp only [Act.put, List.getElem_toArray, List.getElem_cons_zero, List.getElem_cons_succ, List.setIfInBounds_toArray, List.set_cons_zero, List.set_cons_succ]
  refine wpAnyH_take (i := 2) (v := .pointer (some ⟨g, 0, none⟩)) rfl (by kernel_rfl) (by kernel_rfl) (by kernel_rfl) (fun _ _ _ h => h) (Or.inl ⟨by rfl, fun W hW => ?_⟩) hHeld ?_
  · clear hW
    go_simp
  try simp only [Act.put, List.getElem_toArray, List.getElem_cons_zero, List.getElem_cons_succ, List.setIfInBounds_toArray, List.set_cons_zero, List.set_cons_succ]
  refine wpAnyH_take (i := 3) (v := .pointer (some ⟨g, 1, none⟩)) rfl (by kernel_rfl) (by kernel_rfl) (by kernel_rfl) (fun _ _ _ h => h) (Or.inl ⟨by rfl, fun W hW => ?_⟩) hHeld ?_
  · clear hW
    go_simp
  try simp only [Act.put, List.getElem_toArray, List.getElem_cons_zero, List.getElem_cons_succ, List.setIfInBounds_toArray, List.set_cons_zero, List.set_cons_succ]
  refine wpAnyH_take (i := 5) (v := .agg (Y)) rfl (by kernel_rfl) (by kernel_rfl) (by kernel_rfl) (fun _ _ _ h => h) (yieldsIf_load_row (by rfl) _ _ rfl B rfl 71 (Y) _ (fun W hW => hW) Tryz.underlying71 rfl HPS) hHeld ?_
  try simp only [Act.put, List.getElem_toArray, List.getElem_cons_zero, List.getElem_cons_succ, List.setIfInBounds_toArray, List.set_cons_zero, List.set_cons_succ]

  refine wpAnyH_ready (rs := [4, 6]) (by kernel_rfl) (by simp) (AllReadyH.cons rfl (fun K hK => ?_) (AllReadyH.cons rfl (fun K hK => ?_) AllReadyH.nil))
  · skip
    go_simp
    refine hK.out _ _ HQB.out (fun hHeld => ?_)
    clear hK K
    try simp only [Act.put, List.getElem_toArray, List.getElem_cons_zero, List.getElem_cons_succ, List.setIfInBounds_toArray, List.set_cons_zero, List.set_cons_succ]
    refine wpAnyH_ready (rs := [6]) (by kernel_rfl) (by simp) (AllReadyH.cons rfl (fun K hK => ?_) AllReadyH.nil)
    refine step_lit (by rfl) 107 1 _ (by rfl) _ (by kernel_rfl) (pmL q) 71 HLN ?_
    intro ad w3 C3 K3
    have R3 := HR1.out.keep (grown_trans (grown_drewN w1 1 none) K3)
    have c3 : w3.cell? ⟨g, 1, none⟩ = some v := R3.rd.left
    refine hK.out _ _ (HQB.out.kept K3) (fun hHeld => ?_)
    clear hK K
    try simp only [Act.put, List.getElem_toArray, List.getElem_cons_zero, List.getElem_cons_succ, List.setIfInBounds_toArray, List.set_cons_zero, List.set_cons_succ]
    refine wpAnyH_ready (rs := [7]) (by kernel_rfl) (by simp) (AllReadyH.cons rfl (fun K hK => ?_) AllReadyH.nil)
    refine step_append_own (by rfl) (.tmp 8) (.tmp 10) 107 (by rfl) 71 i0 _ 2 16 Tryz.underlying107 hi hz0 hz1 hz2 rfl (by decide) w0.heap.size v st.length (flatP st) (by rfl) R3.own ad 1 1 (pmL q) (by rfl) rfl C3 (pmL_one q) (by have := HST.out; unfold maxLen; omega) (by have := HST.out; omega) R3.grown.size ?_
    intro v4 w4 O4 K4 B4
    have V4 : VAt w4 B 71 Y := hHeld.grown K4 HNB.out.1
    have D4 : RD w4 g s a ca v := VAt.grown R3.rd K4 R3.ne
    have c4 : w4.cell? ⟨g, 1, none⟩ = some v := D4.left
    have f4 : w4.frozen? ⟨g, 1, none⟩ = false := VAt.free D4 1
    obtain ⟨a4, l4, k4, hv4⟩ := own_sl O4
    subst hv4
    refine hK.out _ _ V4 (fun hHeld => ?_)
    clear hK K
    try simp only [Act.put, List.getElem_toArray, List.getElem_cons_zero, List.getElem_cons_succ, List.setIfInBounds_toArray, List.set_cons_zero, List.set_cons_succ]
    refine wpAnyH_take (i := 8) (v := .pointer (some ⟨g, 0, none⟩)) rfl (by kernel_rfl) (by kernel_rfl) (by kernel_rfl) (fun _ _ _ h => h) (Or.inl ⟨by rfl, fun W hW => ?_⟩) hHeld ?_
    · clear hW
      go_simp
    try simp only [Act.put, List.getElem_toArray, List.getElem_cons_zero, List.getElem_cons_succ, List.setIfInBounds_toArray, List.set_cons_zero, List.set_cons_succ]
    refine wpAnyH_take (i := 9) (v := .pointer (some ⟨g, 1, none⟩)) rfl (by kernel_rfl) (by kernel_rfl) (by kernel_rfl) (fun _ _ _ h => h) (Or.inl ⟨by rfl, fun W hW => ?_⟩) hHeld ?_
    · clear hW
      go_simp
    try simp only [Act.put, List.getElem_toArray, List.getElem_cons_zero, List.getElem_cons_succ, List.setIfInBounds_toArray, List.set_cons_zero, List.set_cons_succ]
    refine wpAnyH_ready (rs := [10]) (by kernel_rfl) (by simp) (AllReadyH.cons rfl (fun K hK => ?_) AllReadyH.nil)
    go_simp
    refine hK.out _ _ (V4.setOther (k := g) (i := 1) (.slice a4 l4 k4) HNB.out.2) (fun hHeld => ?_)
    refine wpAnyH_done (by kernel_rfl) ?_ _
    have HL : Hid (Lft w0 w g s a ca v (st ++ [q]) (w4.setCell ⟨g, 1, none⟩ (.slice a4 l4 k4))) := by
      have e1 : st.length + 1 = (st ++ [q]).length := by simp
      have e2 : flatP st ++ pmL q = flatP (st ++ [q]) := by rw [flatP_append, flatP_one]
      rw [e1, e2] at O4
      have G3 : w.grownBy w3 none := grown_trans HK1.out (grown_trans (grown_drewN w1 1 none) K3)
      have R4 : RS w0 w4 g s a ca v [] ∨ True := .inr trivial
      have hg4 : w0.grownBy w4 none := by
        refine grown_trans_new R3.grown K4 (fun x hx => ?_)
        exact (R3.own.lt x hx).1
      have G5 : w4.grownBy (w4.setCell ⟨g, 1, none⟩ (.slice a4 l4 k4)) (some g) := grown_setCell (World.grownBy.refl _ _) _ _ (.inl rfl)
      refine ⟨.slice a4 l4 k4, ⟨grown_setCell hg4 _ _ (.inr R3.new), ?_, R3.new, own_kept O4 G5 (own_vat O4 D4 (by decide)), by have := HST.out; simp; omega⟩, ?_, ?_⟩
      · exact VAt.set D4 1 _
      · exact ((GB.non G3).trans (GB.of K4 (S := ft g v) (fun x hx => .inr hx)) (fun _ _ h => h)).trans (GB.of G5 (S := ft g v) (fun x hx => by cases hx; exact .inl rfl)) (fun _ _ h => h)
      · intro x hx hf
        rcases hf with rfl | hf
        · exact .inl rfl
        · rcases B4 with e | e
          · right; rw [← e]; exact hf
          · rw [e] at hf
            have h1 := Option.some.inj hf
            have h2 := G3.size
            omega
    clear hK K hHeld O4 K4 B4 C3 K3 D4 V4 c4 f4 R3 c3 c1 hi hz0 hz1 hz2 HR1 HQB HLN
    go_wp2
    go_end0
    exact ⟨rfl, HL.out⟩

  · skip
    refine step_lit (by rfl) 107 1 _ (by rfl) _ (by kernel_rfl) (pmL q) 71 HLN ?_
    intro ad w3 C3 K3
    have R3 := HR1.out.keep (grown_trans (grown_drewN w1 1 none) K3)
    have c3 : w3.cell? ⟨g, 1, none⟩ = some v := R3.rd.left
    refine hK.out _ _ (HQB.out.kept K3) (fun hHeld => ?_)
    clear hK K
    try simp only [Act.put, List.getElem_toArray, List.getElem_cons_zero, List.getElem_cons_succ, List.setIfInBounds_toArray, List.set_cons_zero, List.set_cons_succ]
    refine wpAnyH_ready (rs := [4]) (by kernel_rfl) (by simp) (AllReadyH.cons rfl (fun K hK => ?_) AllReadyH.nil)
    go_simp
    refine hK.out _ _ hHeld (fun hHeld => ?_)
    clear hK K
    try simp only [Act.put, List.getElem_toArray, List.getElem_cons_zero, List.getElem_cons_succ, List.setIfInBounds_toArray, List.set_cons_zero, List.set_cons_succ]
    refine wpAnyH_ready (rs := [7]) (by kernel_rfl) (by simp) (AllReadyH.cons rfl (fun K hK => ?_) AllReadyH.nil)
    refine step_append_own (by rfl) (.tmp 8) (.tmp 10) 107 (by rfl) 71 i0 _ 2 16 Tryz.underlying107 hi hz0 hz1 hz2 rfl (by decide) w0.heap.size v st.length (flatP st) (by rfl) R3.own ad 1 1 (pmL q) (by rfl) rfl C3 (pmL_one q) (by have := HST.out; unfold maxLen; omega) (by have := HST.out; omega) R3.grown.size ?_
    intro v4 w4 O4 K4 B4
    have V4 : VAt w4 B 71 Y := hHeld.grown K4 HNB.out.1
    have D4 : RD w4 g s a ca v := VAt.grown R3.rd K4 R3.ne
    have c4 : w4.cell? ⟨g, 1, none⟩ = some v := D4.left
    have f4 : w4.frozen? ⟨g, 1, none⟩ = false := VAt.free D4 1
    obtain ⟨a4, l4, k4, hv4⟩ := own_sl O4
    subst hv4
    refine hK.out _ _ V4 (fun hHeld => ?_)
    clear hK K
    try simp only [Act.put, List.getElem_toArray, List.getElem_cons_zero, List.getElem_cons_succ, List.setIfInBounds_toArray, List.set_cons_zero, List.set_cons_succ]
    refine wpAnyH_take (i := 8) (v := .pointer (some ⟨g, 0, none⟩)) rfl (by kernel_rfl) (by kernel_rfl) (by kernel_rfl) (fun _ _ _ h => h) (Or.inl ⟨by rfl, fun W hW => ?_⟩) hHeld ?_
    · clear hW
      go_simp
    try simp only [Act.put, List.getElem_toArray, List.getElem_cons_zero, List.getElem_cons_succ, List.setIfInBounds_toArray, List.set_cons_zero, List.set_cons_succ]
    refine wpAnyH_take (i := 9) (v := .pointer (some ⟨g, 1, none⟩)) rfl (by kernel_rfl) (by kernel_rfl) (by kernel_rfl) (fun _ _ _ h => h) (Or.inl ⟨by rfl, fun W hW => ?_⟩) hHeld ?_
    · clear hW
      go_simp
    try simp only [Act.put, List.getElem_toArray, List.getElem_cons_zero, List.getElem_cons_succ, List.setIfInBounds_toArray, List.set_cons_zero, List.set_cons_succ]
    refine wpAnyH_ready (rs := [10]) (by kernel_rfl) (by simp) (AllReadyH.cons rfl (fun K hK => ?_) AllReadyH.nil)
    go_simp
    refine hK.out _ _ (V4.setOther (k := g) (i := 1) (.slice a4 l4 k4) HNB.out.2) (fun hHeld => ?_)
    refine wpAnyH_done (by kernel_rfl) ?_ _
    have HL : Hid (Lft w0 w g s a ca v (st ++ [q]) (w4.setCell ⟨g, 1, none⟩ (.slice a4 l4 k4))) := by
      have e1 : st.length + 1 = (st ++ [q]).length := by simp
      have e2 : flatP st ++ pmL q = flatP (st ++ [q]) := by rw [flatP_append, flatP_one]
      rw [e1, e2] at O4
      have G3 : w.grownBy w3 none := grown_trans HK1.out (grown_trans (grown_drewN w1 1 none) K3)
      have R4 : RS w0 w4 g s a ca v [] ∨ True := .inr trivial
      have hg4 : w0.grownBy w4 none := by
        refine grown_trans_new R3.grown K4 (fun x hx => ?_)
        exact (R3.own.lt x hx).1
      have G5 : w4.grownBy (w4.setCell ⟨g, 1, none⟩ (.slice a4 l4 k4)) (some g) := grown_setCell (World.grownBy.refl _ _) _ _ (.inl rfl)
      refine ⟨.slice a4 l4 k4, ⟨grown_setCell hg4 _ _ (.inr R3.new), ?_, R3.new, own_kept O4 G5 (own_vat O4 D4 (by decide)), by have := HST.out; simp; omega⟩, ?_, ?_⟩
      · exact VAt.set D4 1 _
      · exact ((GB.non G3).trans (GB.of K4 (S := ft g v) (fun x hx => .inr hx)) (fun _ _ h => h)).trans (GB.of G5 (S := ft g v) (fun x hx => by cases hx; exact .inl rfl)) (fun _ _ h => h)
      · intro x hx hf
        rcases hf with rfl | hf
        · exact .inl rfl
        · rcases B4 with e | e
          · right; rw [← e]; exact hf
          · rw [e] at hf
            have h1 := Option.some.inj hf
            have h2 := G3.size
            omega
    clear hK K hHeld O4 K4 B4 C3 K3 D4 V4 c4 f4 R3 c3 c1 hi hz0 hz1 hz2 HR1 HQB HLN
    go_wp2
    go_end0
    exact ⟨rfl, HL.out⟩

theorem flatP_last (st : List Pm) (q : Pm) : (flatP (st ++ [q]))[st.length * 2]? = some (.int .i64 q.how) ∧ (flatP (st ++ [q]))[st.length * 2 + 1]? = some (.int .u32 (q.val : Int)) := by
  rw [flatP_append, flatP_one]
  have hl := flatP_len st
  rw [List.getElem?_append_right (by omega), List.getElem?_append_right (by omega), hl]
  simp [pmL]
set_option maxHeartbeats 4000000 in
theorem take_any14 (w0 : World) (s : Sg) (a : Option Addr) (ca : Nat) (g : Nat) (v : Value) (st : List Pm) (q : Pm) (w : World) (R : RS w0 w g s a ca v (st ++ [q])) :
    Calls Tryz.prog 67 #[.pointer (some ⟨g, 0, none⟩)] w fun e w' => e = .returned (pmA q) ∧ Lft w0 w g s a ca v st w' := by
  have hn : (st ++ [q]).length = st.length + 1 := by simp
  obtain ⟨h, cap, rfl, hcp⟩ : ∃ h cap, v = .slice (some ⟨h, 0, none⟩) (st.length + 1) cap ∧ st.length + 1 ≤ cap := by
    have O := R.own
    rw [hn] at O
    rcases O.2 with ⟨e, h0⟩ | ⟨h, cap, cur, e, -, -, h3, -⟩
    · omega
    · exact ⟨h, cap, e, h3⟩
  have hst : st.length ≤ 3000 := by have := R.len; rw [hn] at this; omega
  obtain ⟨n, hnn⟩ : ∃ n, st.length = n := ⟨_, rfl⟩
  have OT : ∀ W : World, W.ownsRow w0.heap.size 71 2 (.slice (some ⟨h, 0, none⟩) (st.length + 1) cap) (st ++ [q]).length (flatP (st ++ [q])) → W.ownsRow w0.heap.size 71 2 (.slice (some ⟨h, 0, none⟩) st.length cap) st.length (flatP st) := fun W O => by
    rw [hn] at O
    have := owns_take O (m := st.length) (by omega)
    rw [flatP_append, List.take_left' (flatP_len st)] at this
    exact this
  have CQ : ∀ W : World, W.ownsRow w0.heap.size 71 2 (.slice (some ⟨h, 0, none⟩) (st.length + 1) cap) (st ++ [q]).length (flatP (st ++ [q])) → W.cell? ⟨h, n * 2, none⟩ = some (.int .i64 q.how) ∧ W.cell? ⟨h, n * 2 + 1, none⟩ = some (.int .u32 (q.val : Int)) := fun W O => by
    rw [← hnn]
    have k1 := O.cells (g := h) rfl _ _ (flatP_last st q).1
    have k2 := O.cells (g := h) rfl _ _ (flatP_last st q).2
    rw [Addr.add_lit, Nat.zero_add] at k1 k2
    exact ⟨k1, k2⟩
  have HOT : Hid _ := OT
  have HCQ : Hid _ := CQ
  clear OT CQ
  have T1 : QB (w.alloc (.cells (pmC pm0) 71)) w.heap.size pm0 := QB.alloc w pm0
  have K1 := World.grownBy_alloc w (.cells (pmC pm0) 71) none
  have R1 := R.keep K1
  have HLT : Hid (∀ x, ft g (.slice (some ⟨h, 0, none⟩) (st.length + 1) cap) x → x < w.heap.size) := fun x hx => R.lt hx
  have HK1 : Hid (w.grownBy (w.alloc (.cells (pmC pm0) 71)) none) := K1
  have HST : Hid (st.length ≤ 3000) := hst
  have HPS := mpart_size
  rw [hnn] at HOT HCQ HLT R R1 hcp hst ⊢
  have HNN : Hid (st.length = n) := hnn
  clear K1 hn R hnn
  go_enter Tryz.func67, Tryz.ntmps67
  go_upto_region 1 with fail
  rw [show (#[.int .i64 0, .int .u32 0] : Array Value) = pmC pm0 from rfl]
  generalize w.alloc (.cells (pmC pm0) 71) = w1 at *
  obtain ⟨T, hT⟩ : ∃ T, w.heap.size = T := ⟨_, rfl⟩
  have HT : Hid (w.heap.size = T) := hT
  rw [hT] at T1 ⊢
  clear hT
  have c1 : w1.cell? ⟨g, 1, none⟩ = some (.slice (some ⟨h, 0, none⟩) (n + 1) cap) := R1.rd.left
  have c2 := (HCQ.out w1 R1.own).1
  have c3 := (HCQ.out w1 R1.own).2
  go_upto_region 3 with fail
  have A2 := QB.alloc w1 q
  have K2 := World.grownBy_alloc w1 (.cells (pmC q) 71) none
  have R2 := R1.keep K2
  have T2 := T1.kept K2
  have HP1 : Hid (w.heap.size < w1.heap.size) := by show _ < _; have := VAt.lt T1; have := HT.out; omega
  have HW2 : Hid (w.grownBy (w1.alloc (.cells (pmC q) 71)) none) := grown_trans HK1.out K2
  have HNP : Hid (¬ ft g (.slice (some ⟨h, 0, none⟩) (n + 1) cap) w1.heap.size) := R1.not (Nat.le_refl _)
  rw [show (#[.int .i64 q.how, .int .u32 (q.val : Int)] : Array Value) = pmC q from rfl]
  clear c1 c2 c3 T1 K2 R1
  generalize w1.alloc (.cells (pmC q) 71) = w2 at *
  generalize w1.heap.size = Pb at *
  have HNT : Hid (¬ ft g (.slice (some ⟨h, 0, none⟩) (n + 1) cap) T) := fun e => by have := HLT.out T e; have := HT.out; omega
  have c1 : w2.cell? ⟨g, 1, none⟩ = some (.slice (some ⟨h, 0, none⟩) (n + 1) cap) := R2.rd.left
  have f1 : w2.frozen? ⟨g, 1, none⟩ = false := VAt.free R2.rd 1
  have hn1 : n ≤ cap := by omega
  go_upto_region 4 with fail
  have O3 := HOT.out w2 R2.own
  have R3 : RS w0 (w2.setCell ⟨g, 1, none⟩ (.slice (some ⟨h, 0, none⟩) n cap)) g s a ca (.slice (some ⟨h, 0, none⟩) n cap) st := R2.left (by rw [HNN.out]; exact O3) (by rw [HNN.out]; omega)
  have HPT : Hid (Pb ≠ T) := by show Pb ≠ T; have h1 := HP1.out; have h2 := HT.out; omega
  have A3 : VAt (w2.setCell ⟨g, 1, none⟩ (.slice (some ⟨h, 0, none⟩) n cap)) Pb 71 (pmC q) := VAt.setOther A2 _ (fun e => HNP.out (.inl e))
  have T3 : VAt (w2.setCell ⟨g, 1, none⟩ (.slice (some ⟨h, 0, none⟩) n cap)) T 71 (pmC pm0) := VAt.setOther T2 _ (fun e => HNT.out (.inl e))
  have G3 : GB w (w2.setCell ⟨g, 1, none⟩ (.slice (some ⟨h, 0, none⟩) n cap)) (ft g (.slice (some ⟨h, 0, none⟩) (n + 1) cap)) := (GB.non HW2.out).trans (GB.of (S := ft g (.slice (some ⟨h, 0, none⟩) (n + 1) cap)) (grown_setCell (World.grownBy.refl w2 (some g)) ⟨g, 1, none⟩ (.slice (some ⟨h, 0, none⟩) n cap) (.inl rfl)) (fun x hx => by cases hx; exact .inl rfl)) (fun _ _ h => h)
  have HL : Hid (Lft w0 w g s a ca (.slice (some ⟨h, 0, none⟩) (n + 1) cap) st ((w2.setCell ⟨g, 1, none⟩ (.slice (some ⟨h, 0, none⟩) n cap)).setRow T (pmC q))) := by
    have K4 : (w2.setCell ⟨g, 1, none⟩ (.slice (some ⟨h, 0, none⟩) n cap)).grownBy ((w2.setCell ⟨g, 1, none⟩ (.slice (some ⟨h, 0, none⟩) n cap)).setRow T (pmC q)) (some T) := vgrown_setRow (World.grownBy.refl _ _) T _ (.inl rfl)
    refine ⟨_, R3.away K4 (fun e => HNT.out e) ?_, G3.trans (GB.of K4 (S := fun x => x = T) (fun x hx => by cases hx; rfl)) (fun x hx e => ?_), fun x _ e => e⟩
    · have h1 := R3.grown.size
      have h2 := R2.new
      have h3 := HLT.out g (.inl rfl)
      have h4 := HT.out
      omega
    · have h4 := HT.out
      omega
  clear c1 f1 R2 A2 T2 O3 R3 G3 hn1 hcp hst
  generalize w2.setCell ⟨g, 1, none⟩ (.slice (some ⟨h, 0, none⟩) n cap) = w3 at *
  go_wp2_with (first | (refine wpList_load_row rfl 71 (.tmp 4) rfl Pb rfl 71 (pmC q) (0, 0) _ A3 Tryz.underlying71 rfl (HPS _) ?_) | (refine wpList_store_row rfl 71 (.tmp 2) (.tmp 27) rfl T (pmC q) rfl rfl 71 _ T3 (HPS _) rfl (part_all _) ?_))
  refine bodyPost_ret (results_cell_row rfl _ _ T 71 (pmC q) (0, 0) _ rfl (T3.setRow _) Tryz.underlying71 rfl (HPS _)) rfl ?_
  exact ⟨rfl, HL.out⟩

end Go.Proofs.YtnojpepjloceoaaGreat

namespace Go.Proofs.YtnojpepjloceoaaGreat
open Go.RowKit
set_option maxRecDepth 100000

/-- A whole row written in a statement whose order is open. -/
theorem step_store_rowM {P : Program} {ops : Array Oper} {o : Oper} {a : Act} {w : World} {K : Act → World → Prop} {Q : Exit → Act → World → Prop} {E : Prop}
    (hgd : o.guard = none) (ty : TypeId) (x y : Operand) (ho : o.op = .store ty x y) (g : Nat) (cells : Array Value) (hx : a.eval x = .pointer (some ⟨g, 0, none⟩)) (hy : a.eval y = .agg cells) (t : TypeId) (old : Array Value) (A : VAt w g t old)
    (hi : (P.info? ty).map (·.size) = some cells.size) (hold : old.size = cells.size) (h1 : cells.all (·.oneCell') = true) (hK : K (a.put o.dst undef) (w.setRow g cells)) :
    if Region.wanted o (yielded ops a.tmps) = true then Oper.wp P o a w K Q else E := by
  have hw : Region.wanted o (yielded ops a.tmps) = true := by simp [Region.wanted, hgd]
  rw [if_pos hw]
  exact wp_store_row ty x y ho g cells hx hy t old A hi hold h1 hK

/-- Two results that lie in blocks of their own. -/
theorem ret_rows {P : Program} {fn : Func} {p q : Tmp} {ty te : TypeId} (h : fn.results = #[.cell p ty, .cell q te]) (tmps : Array Value) (w : World) (g e : Nat) (cs ds : Array Value) (d d' : TypeDesc) (hp : tmps.getD p undef = .pointer (some ⟨g, 0, none⟩)) (hq : tmps.getD q undef = .pointer (some ⟨e, 0, none⟩)) (A : VAt w g ty cs) (B : VAt w e te ds)
    (hu : P.underlying ty = some d) (hd : (match d with | .struct _ | .array _ _ => true | _ => false) = true) (hi : (P.info? ty).map (·.size) = some cs.size) (hu' : P.underlying te = some d') (hd' : (match d' with | .struct _ | .array _ _ => true | _ => false) = true) (hi' : (P.info? te).map (·.size) = some ds.size) : (results fn tmps).run P w = .ok (.tuple #[.agg cs, .agg ds]) w := by
  have hp' : tmps[p]?.getD undef = .pointer (some ⟨g, 0, none⟩) := by simpa using hp
  have hq' : tmps[q]?.getD undef = .pointer (some ⟨e, 0, none⟩) := by simpa using hq
  have h1 := run_loadVar_row (P := P) w g ty ty cs (0, 0) _ A hu hd hi
  have h2 := run_loadVar_row (P := P) w e te te ds (0, 0) _ B hu' hd' hi'
  simp [results, h, hp', hq', asAddr, h1, h2, Sem.run_bind]

/-- What lies beside a reader at work: the blocks of a caller. -/
theorem Lft.vat {w0 w w' : World} {g : Nat} {s : Sg} {a : Option Addr} {ca : Nat} {v : Value} {st : List Pm} (h : Lft w0 w g s a ca v st w') {B t : Nat} {cs : Array Value} (V : VAt w B t cs) (hB : ¬ ft g v B) : VAt w' B t cs := by
  obtain ⟨v', -, G, -⟩ := h
  exact G.vat V hB

set_option maxHeartbeats 4000000 in
theorem pair_any14 (w0 : World) (s : Sg) (a : Option Addr) (ca : Nat) (g : Nat) (v : Value) (st : List Pm) (p q : Pm) (w : World) (R : RS w0 w g s a ca v (st ++ [p, q])) :
    Calls Tryz.prog 111 #[.pointer (some ⟨g, 0, none⟩)] w fun e w' => e = .returned (.tuple #[pmA p, pmA q]) ∧ Lft w0 w g s a ca v st w' := by
  obtain ⟨w1, hw1, T1, U1, G1⟩ := two_parts w pm0 pm0
  have R1 := R.keep G1
  rw [show st ++ [p, q] = (st ++ [p]) ++ [q] by simp] at R1
  have CT := take_any14 w0 s a ca g v (st ++ [p]) q w1 R1
  have HNT : Hid (¬ ft g v w.heap.size ∧ ¬ ft g v (w.heap.size + 1)) := ⟨R.not (Nat.le_refl _), R.not (Nat.le_succ _)⟩
  have HG1 : Hid (GB w w1 (ft g v)) := GB.non G1
  have HPS := mpart_size
  have HW0 : Hid (w0.heap.size ≤ w.heap.size ∧ w.heap.size + 1 < w1.heap.size) := ⟨R.grown.size, VAt.lt U1⟩
  have e2 : (w.alloc (.cells #[.int .i64 0, .int .u32 0] 71)).alloc (.cells #[.int .i64 0, .int .u32 0] 71) = w1 := hw1
  clear R R1 hw1 G1
  go_enter Tryz.func111, Tryz.ntmps111
  go_upto_region 1 with fail
  try rw [e2]
  clear e2
  generalize hU : w.heap.size + 1 = U at *
  generalize hT : w.heap.size = T at *
  go_wp2_with fail
  refine CT.mono ?_
  rintro e w2 ⟨rfl, v2, R2, G2, F2⟩
  have T2 : VAt w2 T 71 (pmC pm0) := G2.vat T1 HNT.out.1
  have U2 : VAt w2 U 71 (pmC pm0) := G2.vat U1 HNT.out.2
  have HN2 : Hid (¬ ft g v2 T ∧ ¬ ft g v2 U) := ⟨fun e => HNT.out.1 (F2 T (VAt.lt T1) e), fun e => HNT.out.2 (F2 U (VAt.lt U1) e)⟩
  have HF2 : Hid (∀ x, x < w1.heap.size → ft g v2 x → ft g v x) := F2
  have HG2 : Hid (GB w w2 (ft g v)) := HG1.out.trans G2 (fun _ _ h => h)
  have HS2 : Hid (w1.heap.size ≤ w2.heap.size) := G2.size
  clear CT T1 U1 G2 F2
  go_upto_region 2 with (refine wpList_store_row rfl 71 (.tmp 4) (.tmp 6) rfl w2.heap.size (pmC q) rfl rfl 71 _ (VAt.alloc w2 _ _) (HPS _) rfl (part_all _) ?_)
  rw [World.setRow_alloc_new]
  have A3 := (QB.alloc w2 q).vat
  have K3 := World.grownBy_alloc w2 (.cells (pmC q) 71) none
  have R3 := R2.keep K3
  have T3 := T2.kept K3
  have U3 := U2.kept K3
  have HNB : Hid (¬ ft g v2 w2.heap.size) := R2.not (Nat.le_refl _)
  have HG3 : Hid (GB w (w2.alloc (.cells (pmC q) 71)) (ft g v)) := HG2.out.trans (GB.non (S := ft g v) K3) (fun _ _ h => h)
  have HBT : Hid (w2.heap.size ≠ T ∧ w2.heap.size ≠ U ∧ T ≠ U) := ⟨fun e => by have := T2.lt; omega, fun e => by have := U2.lt; omega, by omega⟩
  clear T2 U2 R2 HG1 HG2 K3
  generalize w2.alloc (.cells (pmC q) 71) = w3 at *
  generalize w2.heap.size = Bb at *
  have CT := take_any14 w0 s a ca g v2 st p w3.drew (R3.keep (grown_drewN w3 1 none))
  have HA3 : Hid (VAt w3.drew Bb 71 (pmC q)) := A3.kept (grown_drewN w3 1 none)
  have HT3 : Hid (VAt w3.drew T 71 (pmC pm0)) := T3.kept (grown_drewN w3 1 none)
  have HU3 : Hid (VAt w3.drew U 71 (pmC pm0)) := U3.kept (grown_drewN w3 1 none)
  have HG4 : Hid (GB w w3.drew (ft g v)) := HG3.out.trans (GB.non (S := ft g v) (grown_drewN w3 1 none)) (fun _ _ h => h)
  clear A3 T3 U3 R3 HG3
  refine wp_region_held_drew (S := fun W => VAt W Bb 71 (pmC q)) (by kernel_rfl) (HA3.out) (fun hHeld => ?_)
  refine wpAnyH_take (i := 0) (v := .pointer (some ⟨g, 0, none⟩)) rfl (by kernel_rfl) (by kernel_rfl) (by kernel_rfl) (fun _ _ _ h => h) (Or.inl ⟨by rfl, fun W hW => ?_⟩) hHeld ?_
  · clear hW
    go_simp
  try simp only [Act.put, List.getElem_toArray, List.getElem_cons_zero, List.setIfInBounds_toArray, List.set_cons_zero, List.set_cons_succ]
  refine wpAnyH_take (i := 2) (v := .agg (pmC q)) rfl (by kernel_rfl) (by kernel_rfl) (by kernel_rfl) (fun _ _ _ h => h) (yieldsIf_load_row (by rfl) _ _ rfl Bb rfl 71 (pmC q) _ (fun W hW => hW) Tryz.underlying71 rfl (HPS _)) hHeld ?_
  try simp only [Act.put, List.getElem_toArray, List.getElem_cons_zero, List.getElem_cons_succ, List.setIfInBounds_toArray, List.set_cons_zero, List.set_cons_succ]
  refine wpAnyH_ready (rs := [1]) (by kernel_rfl) (by simp) (AllReadyH.cons rfl (fun K hK => ?_) AllReadyH.nil)
  go_simp
  refine CT.mono ?_
  rintro e w5 ⟨rfl, L5⟩
  have A5 := L5.vat HA3.out HNB.out
  have T5 := L5.vat HT3.out HN2.out.1
  have U5 := L5.vat HU3.out HN2.out.2
  go_wp2_with fail
  refine hK.out _ _ A5 (fun hHeld => ?_)
  clear hK K
  try simp only [Act.put, List.getElem_toArray, List.getElem_cons_zero, List.getElem_cons_succ, List.setIfInBounds_toArray, List.set_cons_zero, List.set_cons_succ]
  refine wpAnyH_ready (rs := [3]) (by kernel_rfl) (by simp) (AllReadyH.cons rfl (fun K hK => ?_) AllReadyH.nil)
  refine step_store_rowM (by rfl) 71 (.tmp 2) (.tmp 8) (by rfl) T (pmC p) (by rfl) (by rfl) 71 _ T5 (HPS _) rfl (part_all _) ?_
  refine hK.out _ _ (VAt.other hHeld _ HBT.out.1) (fun hHeld => ?_)
  clear hK K
  try simp only [Act.put]
  have U6 := VAt.other U5 (pmC p) (Ne.symm HBT.out.2.2)
  have T6 := T5.setRow (pmC p)
  refine wpAnyH_ready (rs := [4]) (by kernel_rfl) (by simp) (AllReadyH.cons rfl (fun K hK => ?_) AllReadyH.nil)
  refine step_store_rowM (by rfl) 71 (.tmp 3) (.tmp 9) (by rfl) U (pmC q) (by rfl) (by rfl) 71 _ U6 (HPS _) rfl (part_all _) ?_
  refine hK.out _ _ (VAt.other hHeld _ HBT.out.2.1) (fun hHeld => ?_)
  clear hK K
  try simp only [Act.put]
  refine wpAnyH_done (by kernel_rfl) ?_ _

  have U7 := U6.setRow (pmC q)
  have T7 := VAt.other T6 (pmC q) HBT.out.2.2
  have HL : Hid (Lft w0 w g s a ca v st ((w5.setRow T (pmC p)).setRow U (pmC q))) := by
    obtain ⟨v5, R5, G5, F5⟩ := L5
    have hT0 := HW0.out.1
    have nT : ¬ ft g v5 T := fun e => HN2.out.1 (F5 T HT3.out.lt e)
    have nU : ¬ ft g v5 U := fun e => HN2.out.2 (F5 U HU3.out.lt e)
    have k1 : w5.grownBy (w5.setRow T (pmC p)) (some T) := vgrown_setRow (World.grownBy.refl _ _) T _ (.inl rfl)
    have k2 : (w5.setRow T (pmC p)).grownBy ((w5.setRow T (pmC p)).setRow U (pmC q)) (some U) := vgrown_setRow (World.grownBy.refl _ _) U _ (.inl rfl)
    have R6 := R5.away k1 nT hT0
    have R7 := R6.away k2 nU (by omega)
    have hsz := HG4.out.size
    have f3 : ∀ x, x < w.heap.size → ft g v2 x → ft g v x := fun x hx e => HF2.out x (by have := HW0.out.2; omega) e
    refine ⟨v5, R7, ((HG4.out.trans G5 f3).trans (GB.of k1 (S := fun x => x = T) (fun x hx => by cases hx; rfl)) (fun x hx e => by omega)).trans (GB.of k2 (S := fun x => x = U) (fun x hx => by cases hx; rfl)) (fun x hx e => by omega), fun x hx e => f3 x hx (F5 x (by omega) e)⟩
  clear hHeld L5 T5 U5 A5 U6 T6
  generalize (w5.setRow T (pmC p)).setRow U (pmC q) = w7 at *
  go_wp2
  refine bodyPost_ret (ret_rows rfl _ _ T U (pmC p) (pmC q) _ _ rfl rfl T7 U7 Tryz.underlying71 rfl (HPS _) Tryz.underlying71 rfl (HPS _)) rfl ?_
  exact ⟨rfl, HL.out⟩

end Go.Proofs.YtnojpepjloceoaaGreat
