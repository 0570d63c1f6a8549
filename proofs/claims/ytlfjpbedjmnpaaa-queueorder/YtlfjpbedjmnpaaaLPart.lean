/-
  A row of lists, read.
-/
import Derived.Test.YtlfjpbedjmnpaaaLMem
import Derived.Test.YtlfjpbedjmnpaaaLSame
namespace Go.Proofs.Ytlfjpbedjmnpaaa
open Go.RowKit
set_option maxRecDepth 100000

/-- A row of slices reads as parts. -/
theorem LLv.parts {w : World} {base : Nat} {v : Value} {vs : List Value} {xss : List (List UInt8)} (h : LLv w base v vs xss) : ∃ (a : Option Addr) (ca : Nat) (ps : List Part), v = .slice a ps.length ca ∧ (a = none → ca = 0) ∧ CV w a (ps.map Part.v) ∧ (∀ p ∈ ps, p.ok w) ∧ ps.map (·.bs) = xss := by
  have key : ∀ i, i < xss.length → ∃ p : Part, vs.getD i undef = p.v ∧ p.bs = xss.getD i [] ∧ p.ok w := fun i hi => by
    have O := h.2.2.1 i hi
    obtain ⟨ao, ca, hv, -, -, -, h0, -⟩ := cv_of_row O
    obtain ⟨ao', ca', hv', C', -⟩ := O.shape
    rw [hv] at hv'
    simp only [Value.slice.injEq] at hv'
    obtain ⟨rfl, hl, rfl⟩ := hv'
    exact ⟨⟨ao, ca, xss.getD i []⟩, by rw [hv]; rfl, rfl, C', h0⟩
  obtain ⟨f, hf⟩ : ∃ f : Nat → Part, ∀ i, i < xss.length → vs.getD i undef = (f i).v ∧ (f i).bs = xss.getD i [] ∧ (f i).ok w :=
    ⟨fun i => if hi : i < xss.length then Classical.choose (key i hi) else ⟨none, 0, []⟩, fun i hi => by
      simp only [hi, dif_pos]
      exact Classical.choose_spec (key i hi)⟩
  have hlen : ((List.range xss.length).map f).length = xss.length := by simp
  have hvs : vs = ((List.range xss.length).map f).map Part.v := by
    apply List.ext_getElem
    · rw [List.length_map, hlen, h.2.1]
    · intro i h1 h2
      have hi : i < xss.length := by rw [← h.2.1]; exact h1
      have q := (hf i hi).1
      rw [List.getD_eq_getElem?_getD, List.getElem?_eq_getElem h1] at q
      simpa using q
  have hbs : ((List.range xss.length).map f).map (·.bs) = xss := by
    apply List.ext_getElem
    · simp
    · intro i h1 h2
      have q := (hf i h2).2.1
      rw [List.getD_eq_getElem?_getD, List.getElem?_eq_getElem h2] at q
      simpa using q
  obtain ⟨a, ca, hv, C, -, -, h0, -⟩ := cv_of_row h.1
  refine ⟨a, ca, (List.range xss.length).map f, ?_, h0, ?_, ?_, hbs⟩
  · rw [hv, hlen, h.2.1]
  · rw [← hvs]
    exact C
  · intro p hp
    rw [List.mem_map] at hp
    obtain ⟨i, hi, rfl⟩ := hp
    exact (hf i (List.mem_range.1 hi)).2.2

end Go.Proofs.Ytlfjpbedjmnpaaa
