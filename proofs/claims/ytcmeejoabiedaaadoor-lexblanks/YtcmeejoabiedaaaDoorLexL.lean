/-
  Tokens laid in a row with blanks ahead of each: no Go text here.
-/
import Derived.Test.YtcmeejoabiedaaaDoorLexK
namespace Go.Proofs.YtcmeejoabiedaaaDoor
open Go.RowKit
set_option maxRecDepth 100000

def layT (l : List (List UInt8 × Tk)) : List UInt8 := l.flatMap fun x => x.1 ++ x.2.text
def layP : Nat → List (List UInt8 × Tk) → List Tk
  | _, [] => []
  | p, x :: r => ⟨x.2.kind, p + x.1.length, x.2.text, x.2.num⟩ :: layP (p + x.1.length + x.2.text.length) r
theorem layP_app (l : List (List UInt8 × Tk)) (x : List UInt8 × Tk) : ∀ p, layP p (l ++ [x]) = layP p l ++ [⟨x.2.kind, p + (layT l).length + x.1.length, x.2.text, x.2.num⟩] := by
  induction l with
  | nil => intro p; simp [layP, layT]
  | cons y l ih =>
    intro p
    simp only [List.cons_append, layP]
    rw [ih]
    simp only [layT, List.flatMap_cons, List.length_append, List.cons.injEq, true_and]
    congr 3
    omega
theorem layT_app (l : List (List UInt8 × Tk)) (x : List UInt8 × Tk) : layT (l ++ [x]) = layT l ++ x.1 ++ x.2.text := by simp [layT]

def LayOk (x : List UInt8 × Tk) : Prop := x.1 ≠ [] ∧ (∀ b ∈ x.1, blankB b = true) ∧ tokV x.2.text = .ok (x.2.kind, x.2.text, x.2.num)
theorem lay_ends {l : List (List UInt8 × Tk)} {be : List UInt8} (h : ∀ x ∈ l, LayOk x) (hb : ∀ b ∈ be, blankB b = true) : endsB (layT l ++ be) := by
  cases l with
  | nil =>
    cases be with
    | nil => exact .inl rfl
    | cons b be => exact .inr ⟨b, be, rfl, hb b (by simp)⟩
  | cons x l =>
    obtain ⟨h1, h2, -⟩ := h x (by simp)
    cases hx : x.1 with
    | nil => exact absurd hx h1
    | cons b r =>
      rw [hx] at h2
      exact .inr ⟨b, r ++ x.2.text ++ layT l ++ be, by simp [layT, hx], h2 b (by simp)⟩
theorem lay_lex {be : List UInt8} (hb : ∀ b ∈ be, blankB b = true) : ∀ (l : List (List UInt8 × Tk)) (p : Nat), (∀ x ∈ l, LayOk x) →
    lexR p (layT l ++ be) = .ok (layP p l ++ [⟨0, p + (layT l).length + be.length, [], 0⟩]) := by
  intro l
  induction l with
  | nil =>
    intro p _
    show lexR p be = _
    rw [show be = be ++ [] by simp, lexR_skip p be [] hb, lexR_nil]
    simp [layP, layT]
  | cons x l ih =>
    intro p h
    obtain ⟨h1, h2, h3⟩ := h x (by simp)
    have hl : ∀ y ∈ l, LayOk y := fun y hy => h y (by simp [hy])
    have e : layT (x :: l) ++ be = x.1 ++ (x.2.text ++ (layT l ++ be)) := by simp [layT]
    have ht := tok_ok h3
    have he := tok_end ht.1 (lay_ends hl hb)
    rw [h3] at he
    rw [e, lexR_skip _ _ _ h2]
    have ih' := ih (p + x.1.length + x.2.text.length) hl
    generalize hR : layT l ++ be = R at *
    cases hx : x.2.text with
    | nil => exact absurd hx ht.1
    | cons c r =>
      have hc : blankB c = false := by
        rw [hx] at h3
        exact tok_head h3
      rw [hx] at he
      rw [List.cons_append] at he ⊢
      rw [lexR_tok _ hc he]
      have e1 : (c :: (r ++ R)).drop (c :: r).length = R := by rw [← List.cons_append, List.drop_left]
      rw [e1, ← hx, ih']
      simp [layP, layT]
      omega

end Go.Proofs.YtcmeejoabiedaaaDoor
