/-
  A source's tokens laid anew with blanks: how long that is, and what it is lexed to. No Go text here.
-/
import Derived.Test.YtcmeejoabiedaaaDoorLexL
namespace Go.Proofs.YtcmeejoabiedaaaDoor
open Go.RowKit
set_option maxRecDepth 100000

theorem lexR_sum : ∀ (k p : Nat) (s : List UInt8) (ts : List Tk), s.length ≤ k → lexR p s = .ok ts → (ts.map fun t => t.text.length).sum ≤ s.length
  | k, p, [], ts, _, h => by
    rw [lexR_nil] at h
    cases h
    simp
  | 0, p, c :: r, ts, hk, h => by simp at hk
  | k + 1, p, c :: r, ts, hk, h => by
    simp only [List.length_cons] at hk
    cases hb : blankB c with
    | true =>
      rw [lexR_blank p r hb] at h
      have := lexR_sum k (p + 1) r ts (by omega) h
      simp only [List.length_cons]
      omega
    | false =>
      cases ht : tokV (c :: r) with
      | error e => rw [lexR_err p hb ht] at h; cases h
      | ok x =>
        obtain ⟨q, t, n⟩ := x
        rw [lexR_tok p hb ht] at h
        have hl := List.length_pos_iff.2 (tok_ok ht).1
        have hle := (tok_ok ht).2.2.1
        split at h
        · cases h
        · rename_i ts' h'
          cases h
          have := lexR_sum k (p + t.length) ((c :: r).drop t.length) ts' (by rw [List.length_drop, List.length_cons]; omega) h'
          rw [List.length_drop] at this
          simp only [List.length_cons, List.map_cons, List.sum_cons] at *
          omega

/-- The first i tokens, each with blanks ahead of it. -/
def LB (ts : List Tk) (i : Nat) (l : List (List UInt8 × Tk)) : Prop := l.map (·.2) = ts.take i ∧ ∀ x ∈ l, x.1 ≠ [] ∧ (∀ b ∈ x.1, blankB b = true) ∧ x.1.length ≤ 3
theorem LB.nil (ts : List Tk) : LB ts 0 [] := ⟨rfl, fun x hx => by cases hx⟩
theorem LB.push {ts : List Tk} {i : Nat} {l : List (List UInt8 × Tk)} (h : LB ts i l) (hi : i < ts.length) {b : List UInt8} (h1 : b ≠ []) (h2 : ∀ c ∈ b, blankB c = true) (h3 : b.length ≤ 3) : LB ts (i + 1) (l ++ [(b, ts[i])]) := by
  refine ⟨?_, fun x hx => ?_⟩
  · rw [List.map_append, h.1, List.take_succ_eq_append_getElem hi]
    rfl
  · rcases List.mem_append.1 hx with hx | hx
    · exact h.2 x hx
    · simp only [List.mem_singleton] at hx
      subst hx
      exact ⟨h1, h2, h3⟩
theorem LB.len {ts : List Tk} {i : Nat} {l : List (List UInt8 × Tk)} (h : LB ts i l) (hi : i ≤ ts.length) : l.length = i := by
  have := congrArg List.length h.1
  rw [List.length_map, List.length_take] at this
  omega
theorem lay_sum (l : List (List UInt8 × Tk)) (h : ∀ x ∈ l, x.1.length ≤ 3) : (layT l).length ≤ 3 * l.length + ((l.map (·.2)).map fun t => t.text.length).sum := by
  induction l with
  | nil => simp [layT]
  | cons x l ih =>
    have h1 := h x (by simp)
    have h2 := ih (fun y hy => h y (by simp [hy]))
    simp only [layT, List.flatMap_cons, List.length_append, List.length_cons, List.map_cons, List.sum_cons] at *
    omega
theorem sum_take (f : Tk → Nat) : ∀ (ts : List Tk) (i : Nat), ((ts.take i).map f).sum ≤ (ts.map f).sum
  | [], i => by simp
  | t :: ts, 0 => by simp
  | t :: ts, i + 1 => by
    have := sum_take f ts i
    simp only [List.take_succ_cons, List.map_cons, List.sum_cons]
    omega
theorem LB.size {s : List UInt8} {ts : List Tk} {i : Nat} {l : List (List UInt8 × Tk)} (h : LB ts i l) (hi : i ≤ ts.length) (hx : lexV s = .ok ts) : (layT l).length ≤ 3 * i + s.length := by
  have h1 := lay_sum l (fun x hm => (h.2 x hm).2.2)
  rw [h.len hi, h.1] at h1
  have h2 := sum_take (fun t => t.text.length) ts i
  have h3 : (ts.map fun t => t.text.length).sum ≤ s.length := by
    unfold lexV at hx
    split at hx
    · cases hx
    · exact lexR_sum _ 0 s ts (Nat.le_refl _) hx
  omega
theorem layP_len (l : List (List UInt8 × Tk)) : ∀ p, (layP p l).length = l.length := by
  induction l with
  | nil => intro p; rfl
  | cons x l ih => intro p; simp [layP, ih]
theorem layP_get (l : List (List UInt8 × Tk)) : ∀ p i (h1 : i < (layP p l).length) (h2 : i < l.length), (layP p l)[i].kind = l[i].2.kind ∧ (layP p l)[i].text = l[i].2.text ∧ (layP p l)[i].num = l[i].2.num := by
  induction l with
  | nil => intro p i h1 h2; simp at h2
  | cons x l ih =>
    intro p i h1 h2
    cases i with
    | zero => exact ⟨rfl, rfl, rfl⟩
    | succ i => exact ih _ i (by simpa [layP] using h1) (by simpa using h2)
/-- What comes of all. -/
theorem LB.done {s : List UInt8} {ts : List Tk} {l : List (List UInt8 × Tk)} (h : LB ts ts.length l) (hx : lexV s = .ok ts) (hs : s.length ≤ 5000) : lexV (layT l) = .ok (layP 0 l) ∧ (layP 0 l).length = ts.length ∧
    ∀ i (h1 : i < (layP 0 l).length) (h2 : i < ts.length), (layP 0 l)[i].kind = ts[i].kind ∧ (layP 0 l)[i].text = ts[i].text ∧ (layP 0 l)[i].num = ts[i].num := by
  obtain ⟨-, us, e, hul, hu⟩ := lexV_toks hx
  have hlen := h.len (Nat.le_refl _)
  have hsz := h.size (Nat.le_refl _) hx
  have hfew : ts.length ≤ s.length + 1 := by
    unfold lexV at hx
    split at hx
    · cases hx
    · exact lexR_few _ 0 s ts (Nat.le_refl _) hx
  have hm := h.1
  rw [List.take_length] at hm
  refine ⟨?_, by rw [layP_len, hlen], fun i h1 h2 => ?_⟩
  · have hne : l ≠ [] := by
      rintro rfl
      rw [e] at hm
      simp at hm
    obtain ⟨l', x, rfl⟩ : ∃ l' x, l = l' ++ [x] := ⟨_, _, (List.dropLast_concat_getLast hne).symm⟩
    rw [List.map_append, e] at hm
    obtain ⟨hm1, hm2⟩ := List.append_inj hm (by
      have := congrArg List.length hm
      simp at this
      simpa using this)
    have hx2 : x.2 = ⟨0, s.length, [], 0⟩ := by simpa using hm2
    have hbx := h.2 x (by simp)
    have hok : ∀ y ∈ l', LayOk y := fun y hy => by
      have hy1 := h.2 y (by simp [hy])
      have hy2 := hu y.2 (by rw [← hm1]; exact List.mem_map_of_mem hy)
      exact ⟨hy1.1, hy1.2.1, hy2.2.1⟩
    rw [lexV, if_neg (by omega), layT_app, hx2, List.append_nil, lay_lex hbx.2.1 l' 0 hok, layP_app, hx2]
  · obtain ⟨a, b, c⟩ := layP_get l 0 i h1 (by rw [hlen]; exact h2)
    have e2 : (l[i]'(by rw [hlen]; exact h2)).2 = ts[i] := by
      have : (l.map (·.2))[i]? = ts[i]? := by rw [hm]
      rw [List.getElem?_map, List.getElem?_eq_getElem (by rw [hlen]; exact h2), List.getElem?_eq_getElem h2] at this
      simpa using this
    rw [e2] at a b c
    exact ⟨a, b, c⟩

end Go.Proofs.YtcmeejoabiedaaaDoor
