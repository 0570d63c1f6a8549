/-
  Sources and their tokens: blanks, what stands behind a blank. No Go text here.
-/
import Derived.Test.YtcmeejoabiedaaaDoorLexW
namespace Go.Proofs.YtcmeejoabiedaaaDoor
open Go.RowKit
set_option maxRecDepth 100000

theorem lexF_fuel : ∀ (k k' p : Nat) (s : List UInt8), s.length ≤ k → s.length ≤ k' → lexF k p s = lexF k' p s
  | 0, k', p, s, h, h' => by
    have : s = [] := List.eq_nil_of_length_eq_zero (by omega)
    subst this
    cases k' <;> rfl
  | k + 1, 0, p, s, h, h' => by
    have : s = [] := List.eq_nil_of_length_eq_zero (by omega)
    subst this
    rfl
  | k + 1, k' + 1, p, [], _, _ => rfl
  | k + 1, k' + 1, p, c :: r, h, h' => by
    simp only [List.length_cons] at h h'
    rw [lexF, lexF]
    split
    · exact lexF_fuel k k' (p + 1) r (by omega) (by omega)
    · split
      · rfl
      · rename_i q t n ht
        have hl := List.length_pos_iff.2 (tok_ok ht).1
        rw [lexF_fuel k k' (p + t.length) ((c :: r).drop t.length) (by rw [List.length_drop, List.length_cons]; omega) (by rw [List.length_drop, List.length_cons]; omega)]

theorem lexR_nil (p : Nat) : lexR p [] = .ok [⟨0, p, [], 0⟩] := rfl
theorem lexR_blank (p : Nat) {c : UInt8} (r : List UInt8) (h : blankB c = true) : lexR p (c :: r) = lexR (p + 1) r := by
  unfold lexR
  rw [List.length_cons, lexF, if_pos h]
theorem lexR_err (p : Nat) {c : UInt8} {r : List UInt8} {e : Int} (h : blankB c = false) (ht : tokV (c :: r) = .error e) : lexR p (c :: r) = .error (p, e) := by
  unfold lexR
  rw [List.length_cons, lexF, if_neg (by rw [h]; simp), ht]
theorem lexR_tok (p : Nat) {c : UInt8} {r : List UInt8} {q n : Nat} {t : List UInt8} (h : blankB c = false) (ht : tokV (c :: r) = .ok (q, t, n)) :
    lexR p (c :: r) = match lexR (p + t.length) ((c :: r).drop t.length) with
      | .error e => .error e
      | .ok ts => .ok (⟨q, p, t, n⟩ :: ts) := by
  have hl := List.length_pos_iff.2 (tok_ok ht).1
  unfold lexR
  rw [List.length_cons, lexF, if_neg (by rw [h]; simp), ht]
  simp only
  rw [lexF_fuel r.length ((c :: r).drop t.length).length _ _ (by rw [List.length_drop, List.length_cons]; omega) (Nat.le_refl _)]
  cases lexF ((c :: r).drop t.length).length (p + t.length) ((c :: r).drop t.length) <;> rfl

theorem lexR_skip (p : Nat) : ∀ (bs r : List UInt8), (∀ b ∈ bs, blankB b = true) → lexR p (bs ++ r) = lexR (p + bs.length) r := by
  intro bs
  induction bs generalizing p with
  | nil => intro r _; rfl
  | cons b bs ih =>
    intro r h
    rw [List.cons_append, lexR_blank p _ (h b (List.mem_cons_self ..)), ih (p + 1) r (fun x hx => h x (List.mem_cons_of_mem _ hx)), List.length_cons, show p + 1 + bs.length = p + (bs.length + 1) by omega]

/-- The last token is the end. -/
theorem lexR_end : ∀ (k p : Nat) (s : List UInt8) (ts : List Tk), s.length ≤ k → lexR p s = .ok ts → ∃ us, ts = us ++ [⟨0, p + s.length, [], 0⟩] ∧ ∀ t ∈ us, t.text ≠ [] ∧ tokV t.text = .ok (t.kind, t.text, t.num)
  | k, p, [], ts, _, h => by
    rw [lexR_nil] at h
    cases h
    exact ⟨[], rfl, fun t ht => by cases ht⟩
  | 0, p, c :: r, ts, hk, h => by simp at hk
  | k + 1, p, c :: r, ts, hk, h => by
    simp only [List.length_cons] at hk
    cases hb : blankB c with
    | true =>
      rw [lexR_blank p r hb] at h
      obtain ⟨us, e, hu⟩ := lexR_end k (p + 1) r ts (by omega) h
      exact ⟨us, by rw [e, List.length_cons, show p + 1 + r.length = p + (r.length + 1) by omega], hu⟩
    | false =>
      cases ht : tokV (c :: r) with
      | error e => rw [lexR_err p hb ht] at h; cases h
      | ok x =>
        obtain ⟨q, t, n⟩ := x
        rw [lexR_tok p hb ht] at h
        have hok := tok_ok ht
        have hl := List.length_pos_iff.2 hok.1
        split at h
        · cases h
        · rename_i ts' h'
          cases h
          obtain ⟨us, e, hu⟩ := lexR_end k (p + t.length) ((c :: r).drop t.length) ts' (by rw [List.length_drop, List.length_cons]; omega) h'
          refine ⟨⟨q, p, t, n⟩ :: us, ?_, fun x hx => ?_⟩
          · rw [e, List.cons_append]
            have := hok.2.2.1
            rw [List.length_drop, show p + t.length + ((c :: r).length - t.length) = p + (c :: r).length by omega]
          · rcases List.mem_cons.1 hx with rfl | hx
            · exact ⟨hok.1, tok_alone ht⟩
            · exact hu x hx

/-- A source behind a blank: the one ahead of it decides first; its tokens stand, and those behind follow. -/
theorem lexR_app : ∀ (k p : Nat) (s : List UInt8) (b : UInt8) (m : List UInt8), s.length ≤ k → blankB b = true →
    lexR p (s ++ b :: m) = match lexR p s with
      | .error e => .error e
      | .ok ts => match lexR (p + s.length + 1) m with
        | .error e => .error e
        | .ok us => .ok (ts.dropLast ++ us)
  | k, p, [], b, m, _, hb => by
    rw [List.nil_append, lexR_blank p m hb, lexR_nil]
    simp only [List.length_nil, Nat.add_zero]
    split <;> rename_i h <;> rw [h] <;> rfl
  | 0, p, c :: r, b, m, hk, _ => by simp at hk
  | k + 1, p, c :: r, b, m, hk, hbb => by
    simp only [List.length_cons] at hk
    rw [List.cons_append]
    cases hb : blankB c with
    | true =>
      rw [lexR_blank p _ hb, lexR_blank p _ hb, lexR_app k (p + 1) r b m (by omega) hbb, List.length_cons, show p + (r.length + 1) + 1 = p + 1 + r.length + 1 by omega]
    | false =>
      have he : tokV (c :: (r ++ b :: m)) = tokV (c :: r) := tok_end (t := c :: r) (r := b :: m) (by simp) (.inr ⟨b, m, rfl, hbb⟩)
      cases ht : tokV (c :: r) with
      | error e => rw [lexR_err p hb ht, lexR_err p hb (by rw [he, ht])]
      | ok x =>
        obtain ⟨q, t, n⟩ := x
        have hok := tok_ok ht
        have hl := List.length_pos_iff.2 hok.1
        have hle := hok.2.2.1
        rw [lexR_tok p hb ht, lexR_tok p hb (by rw [he, ht]), show (c :: (r ++ b :: m)).drop t.length = (c :: r).drop t.length ++ b :: m by rw [← List.cons_append, List.drop_append_of_le_length hle],
          lexR_app k (p + t.length) ((c :: r).drop t.length) b m (by rw [List.length_drop, List.length_cons]; omega) hbb,
          show p + t.length + ((c :: r).drop t.length).length + 1 = p + (c :: r).length + 1 by rw [List.length_drop]; omega]
        cases h1 : lexR (p + t.length) ((c :: r).drop t.length) with
        | error e => rfl
        | ok ts =>
          simp only
          cases h2 : lexR (p + (c :: r).length + 1) m with
          | error e => rfl
          | ok us =>
            simp only
            obtain ⟨vs, e, -⟩ := lexR_end _ _ _ _ (Nat.le_refl _) h1
            have hd : ∀ (a z : Tk) (v : List Tk), (a :: (v ++ [z])).dropLast = a :: v := fun a z v => by rw [← List.cons_append, List.dropLast_concat]
            rw [e, List.dropLast_concat, hd, List.cons_append]

/-- Places from another beginning. -/
theorem lexR_shift : ∀ (k p d : Nat) (s : List UInt8), s.length ≤ k → lexR (p + d) s = match lexR p s with
      | .error e => .error (e.1 + d, e.2)
      | .ok ts => .ok (ts.map fun t => { t with pos := t.pos + d })
  | k, p, d, [], _ => rfl
  | 0, p, d, c :: r, hk => by simp at hk
  | k + 1, p, d, c :: r, hk => by
    simp only [List.length_cons] at hk
    cases hb : blankB c with
    | true => rw [lexR_blank _ _ hb, lexR_blank _ _ hb, show p + d + 1 = p + 1 + d by omega, lexR_shift k (p + 1) d r (by omega)]
    | false =>
      cases ht : tokV (c :: r) with
      | error e => rw [lexR_err _ hb ht, lexR_err _ hb ht]
      | ok x =>
        obtain ⟨q, t, n⟩ := x
        have hl := List.length_pos_iff.2 (tok_ok ht).1
        rw [lexR_tok _ hb ht, lexR_tok _ hb ht, show p + d + t.length = p + t.length + d by omega, lexR_shift k (p + t.length) d ((c :: r).drop t.length) (by rw [List.length_drop, List.length_cons]; omega)]
        cases h1 : lexR (p + t.length) ((c :: r).drop t.length) with
        | error e => rfl
        | ok ts => rfl

end Go.Proofs.YtcmeejoabiedaaaDoor
