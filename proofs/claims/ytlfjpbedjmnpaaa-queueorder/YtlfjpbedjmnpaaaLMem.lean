/-
  Lists of lists of bytes in memory: a row of slices, each of a block of its own.
-/
import Derived.Test.YtlfjpbedjmnpaaaICopy
import Derived.Test.YtlfjpbedjmnpaaaBase
namespace Go.Proofs.Ytlfjpbedjmnpaaa
open Go.RowKit
set_option maxRecDepth 100000

/-- Rows of two kinds of elements: the one stays where the other is written. -/
theorem ll_kinds {w w' : World} {base base' e e' size size' n n' : Nat} {v v' : Value} {vs vs' : List Value} (h : w.ownsRow base e size v n vs) (O : w.ownsRow base' e' size' v' n' vs') (he : e ≠ e') (K : w.grownBy w' v'.ownBlock) : w'.ownsRow base e size v n vs := by
  refine h.kept K ?_
  rcases h.2 with ⟨rfl, -⟩ | ⟨g, cap, cur, rfl, -, hg, -⟩
  · exact .inl rfl
  · right
    intro hh
    rcases O.2 with ⟨rfl, -⟩ | ⟨g', cap', cur', rfl, -, hg', -⟩
    · cases hh
    · simp only [Value.ownBlock, Option.some.injEq] at hh
      subst hh
      rw [hg] at hg'
      simp only [Option.some.injEq, Obj.cells.injEq] at hg'
      exact he hg'.2.1

/-- A row of slices, each with its bytes in a block of its own. -/
def LLv (w : World) (base : Nat) (v : Value) (vs : List Value) (xss : List (List UInt8)) : Prop :=
  w.ownsRow base 35 1 v vs.length vs ∧ vs.length = xss.length ∧ (∀ i, i < xss.length → Owns w base (vs.getD i undef) (xss.getD i [])) ∧ ∀ i j, i < j → j < xss.length → ∀ x, (vs.getD i undef).ownBlock = some x → (vs.getD j undef).ownBlock ≠ some x
def LL (w : World) (base : Nat) (v : Value) (xss : List (List UInt8)) : Prop := ∃ vs, LLv w base v vs xss

theorem LLv.kept {w w' : World} {base : Nat} {v : Value} {vs : List Value} {xss : List (List UInt8)} {row : Option Nat} (h : LLv w base v vs xss) (G : w.grownBy w' row) (h1 : v.ownBlock = none ∨ v.ownBlock ≠ row) (h2 : ∀ i, i < xss.length → (vs.getD i undef).ownBlock = none ∨ (vs.getD i undef).ownBlock ≠ row) : LLv w' base v vs xss :=
  ⟨h.1.kept G h1, h.2.1, fun i hi => World.ownsRow.kept (h.2.2.1 i hi) G (h2 i hi), h.2.2.2⟩
theorem LLv.keptNone {w w' : World} {base : Nat} {v : Value} {vs : List Value} {xss : List (List UInt8)} (h : LLv w base v vs xss) (G : w.grownBy w' none) : LLv w' base v vs xss :=
  h.kept G (by cases v.ownBlock <;> simp) (fun i _ => by cases (vs.getD i undef).ownBlock <;> simp)
theorem LLv.mono {w : World} {base base' : Nat} {v : Value} {vs : List Value} {xss : List (List UInt8)} (h : LLv w base v vs xss) (hb : base' ≤ base) : LLv w base' v vs xss :=
  ⟨owns_mono h.1 hb, h.2.1, fun i hi => owns_mono (h.2.2.1 i hi) hb, h.2.2.2⟩
/-- What is written behind all of it leaves it as it was. -/
theorem LLv.keptNew {w w' : World} {base g : Nat} {v : Value} {vs : List Value} {xss : List (List UInt8)} (h : LLv w base v vs xss) (G : w.grownBy w' (some g)) (hg : ∀ x, v.ownBlock = some x → x < g) (hp : ∀ i, i < xss.length → ∀ x, (vs.getD i undef).ownBlock = some x → x < g) : LLv w' base v vs xss := by
  refine h.kept G ?_ fun i hi => ?_
  · cases hv : v.ownBlock with
    | none => exact .inl rfl
    | some x =>
      have := hg x hv
      exact .inr (by simp; omega)
  · cases hv : (vs.getD i undef).ownBlock with
    | none => exact .inl rfl
    | some x =>
      have := hp i hi x hv
      exact .inr (by simp; omega)
theorem LLv.nil (w : World) (base : Nat) : LLv w base (.slice none 0 0) [] [] := ⟨World.ownsRow_nil _ _ _ _, rfl, fun i hi => absurd hi (by simp), fun i j _ hj => absurd hj (by simp)⟩

theorem getD_snoc_lt {α : Type} (xs : List α) (x d : α) (i : Nat) (h : i < xs.length) : (xs ++ [x]).getD i d = xs.getD i d := by
  rw [List.getD_eq_getElem?_getD, List.getD_eq_getElem?_getD, List.getElem?_append_left h]
theorem getD_snoc_eq {α : Type} (xs : List α) (x d : α) (i : Nat) (h : i = xs.length) : (xs ++ [x]).getD i d = x := by
  subst h
  rw [List.getD_eq_getElem?_getD, List.getElem?_append_right (Nat.le_refl _)]
  simp

/-- One list more. -/
theorem LLv.push {w w' : World} {base : Nat} {v v' p : Value} {vs : List Value} {xss : List (List UInt8)} {x : List UInt8} (h : LLv w base v vs xss) (hp : Owns w base p x) (hap : ∀ i, i < xss.length → ∀ y, (vs.getD i undef).ownBlock = some y → p.ownBlock ≠ some y)
    (O : w'.ownsRow base 35 1 v' (vs.length + 1) (vs ++ [p])) (K : w.grownBy w' v.ownBlock) (hT : (5 : Nat) ≠ 35) : LLv w' base v' (vs ++ [p]) (xss ++ [x]) := by
  have hl := h.2.1
  refine ⟨by rw [List.length_append]; exact O, by simp [hl], fun i hi => ?_, fun i j hij hj y hy => ?_⟩
  · rw [List.length_append, List.length_singleton] at hi
    by_cases h1 : i < xss.length
    · rw [getD_snoc_lt _ _ _ _ (by omega), getD_snoc_lt _ _ _ _ h1]
      exact ll_kinds (h.2.2.1 i h1) h.1 hT K
    · rw [getD_snoc_eq _ _ _ _ (by omega), getD_snoc_eq _ _ _ _ (by omega)]
      exact ll_kinds hp h.1 hT K
  · rw [List.length_append, List.length_singleton] at hj
    rw [getD_snoc_lt _ _ _ _ (by omega)] at hy
    by_cases h1 : j < xss.length
    · rw [getD_snoc_lt _ _ _ _ (by omega)]
      exact h.2.2.2 i j hij h1 y hy
    · rw [getD_snoc_eq _ _ _ _ (by omega)]
      exact hap i (by omega) y hy

/-- A list among them. -/
theorem LLv.item {w : World} {base : Nat} {v : Value} {vs : List Value} {xss : List (List UInt8)} (h : LLv w base v vs xss) {i : Nat} (hi : i < xss.length) : ∃ g cap ao ca, v = .slice (some ⟨g, 0, none⟩) xss.length cap ∧ w.cell? ⟨g, i, none⟩ = some (.slice ao (xss.getD i []).length ca) ∧ vs.getD i undef = .slice ao (xss.getD i []).length ca ∧ Cells w ao (xss.getD i []) ∧ Owns w base (.slice ao (xss.getD i []).length ca) (xss.getD i []) := by
  have O := h.2.2.1 i hi
  obtain ⟨ao, ca, hv, C, -⟩ := O.shape
  have hr := h.1
  rcases h.1.2 with ⟨-, h0⟩ | ⟨g, cap, cur, hv2, -⟩
  · have := h.2.1
    omega
  · rw [hv2] at hr
    have hc := hr.cellAt i (by have := h.2.1; omega)
    refine ⟨g, cap, ao, ca, by rw [hv2, h.2.1], ?_, hv, C, by rw [← hv]; exact O⟩
    rw [hc, ← hv, List.getD_eq_getElem?_getD, List.getElem?_eq_getElem (by have := h.2.1; omega)]
    rfl

end Go.Proofs.Ytlfjpbedjmnpaaa
