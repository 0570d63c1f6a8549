/-
  What the statements of stage 10 share.
-/
import Derived.Test.YtcmeejoabiedaaaDoorAwake10
namespace Go.Proofs.YtcmeejoabiedaaaDoor
open Go.RowKit
set_option maxRecDepth 100000

/-- No more tokens than bytes, and the end. -/
theorem lexR_few : ∀ (k p : Nat) (s : List UInt8) (ts : List Tk), s.length ≤ k → lexR p s = .ok ts → ts.length ≤ s.length + 1
  | k, p, [], ts, _, h => by
    rw [lexR_nil] at h
    cases h
    simp
  | 0, p, c :: r, ts, hk, h => by simp at hk
  | k + 1, p, c :: r, ts, hk, h => by
    simp only [List.length_cons] at hk
    cases hb : blankB c with
    | true =>
      rw [lexR_blank p r hb] at h
      have := lexR_few k (p + 1) r ts (by omega) h
      simp only [List.length_cons]
      omega
    | false =>
      cases ht : tokV (c :: r) with
      | error e => rw [lexR_err p hb ht] at h; cases h
      | ok x =>
        obtain ⟨q, t, n⟩ := x
        rw [lexR_tok p hb ht] at h
        have hl := List.length_pos_iff.2 (tok_ok ht).1
        have hle := (tok_ok ht).2.2.1
        split at h
        · cases h
        · rename_i ts' h'
          cases h
          have := lexR_few k (p + t.length) ((c :: r).drop t.length) ts' (by rw [List.length_drop, List.length_cons]; omega) h'
          rw [List.length_drop] at this
          simp only [List.length_cons] at *
          omega
theorem lexV_few (s : List UInt8) : (lexT (lexV s)).length ≤ 65537 := by
  unfold lexV
  split
  · simp [lexT]
  · cases h : lexR 0 s with
    | error e => simp [lexT]
    | ok ts =>
      have := lexR_few _ 0 s ts (Nat.le_refl _) h
      show ts.length ≤ 65537
      omega
theorem TOwns.items {w : World} {base : Nat} {v : Value} {xs : List Tk} (h : TOwns w base v xs) : ∃ ao ca, v = .slice ao xs.length ca ∧ CV w ao (flatT xs) ∧ xs.length ≤ ca ∧ (ao = none → ca = 0) := by
  obtain ⟨ao, cap, hv, C, h1, -, h2, -⟩ := cv_of_row h
  exact ⟨ao, cap, hv, C, h1, h2⟩

/-- No token begins with a blank. -/
theorem tok_head {c : UInt8} {r : List UInt8} {x : Nat × List UInt8 × Nat} (h : tokV (c :: r) = .ok x) : blankB c = false := by
  cases hb : blankB c with
  | false => rfl
  | true =>
    obtain ⟨h1, h2, h3, h4, h5, h6⟩ := blank_not hb
    exfalso
    have hs : signV (c :: r) = [] := by
      unfold signV
      have h2' : ¬ ((c :: r).take 2 ∈ twosL) := by
        unfold blankB at hb
        simp only [Bool.or_eq_true, beq_iff_eq] at hb
        cases r with
        | nil => simp [twosL]
        | cons d r =>
          show ¬ ([c, d] ∈ twosL)
          simp only [twosL, List.mem_cons, List.not_mem_nil, or_false, List.cons.injEq, and_true]
          rcases hb with ((rfl | rfl) | rfl) | rfl <;> simp
      rw [if_neg h2', if_neg (by show ¬ onesL.contains c = true; rw [h6]; simp)]
    unfold tokV at h
    rw [List.takeWhile_cons_of_neg (by rw [h1]; simp), if_neg (by simp), if_neg (by show ¬ isDig c = true; rw [h4]; simp), if_neg (by show ¬ letB c = true; rw [h5]; simp), if_pos hs] at h
    cases h
/-- A token's text by itself, as a source. -/
theorem lex_alone {t : List UInt8} {q n : Nat} (h : tokV t = .ok (q, t, n)) (hl : t.length ≤ 65536) : lexV t = .ok [⟨q, 0, t, n⟩, ⟨0, t.length, [], 0⟩] := by
  unfold lexV
  rw [if_neg (by omega)]
  cases t with
  | nil => exact absurd rfl (tok_ok h).1
  | cons c r =>
    rw [lexR_tok 0 (tok_head h) h, List.drop_length, lexR_nil, Nat.zero_add]
theorem lexR_text : ∀ (k p : Nat) (s : List UInt8) (ts : List Tk), s.length ≤ k → lexR p s = .ok ts → ∀ t ∈ ts, t.text.length ≤ s.length ∧ t.pos ≤ p + s.length ∧ t.kind ≤ 5 ∧ t.num ≤ 4294967295
  | k, p, [], ts, _, h, t, ht => by
    rw [lexR_nil] at h
    cases h
    simp only [List.mem_singleton] at ht
    subst ht
    simp
  | 0, p, c :: r, ts, hk, h, t, ht => by simp at hk
  | k + 1, p, c :: r, ts, hk, h, t, ht => by
    simp only [List.length_cons] at hk
    cases hb : blankB c with
    | true =>
      rw [lexR_blank p r hb] at h
      have := lexR_text k (p + 1) r ts (by omega) h t ht
      simp only [List.length_cons]
      omega
    | false =>
      cases hx : tokV (c :: r) with
      | error e => rw [lexR_err p hb hx] at h; cases h
      | ok x =>
        obtain ⟨q, u, n⟩ := x
        rw [lexR_tok p hb hx] at h
        have hok := tok_ok hx
        have hl := List.length_pos_iff.2 hok.1
        have hle := hok.2.2.1
        split at h
        · cases h
        · rename_i ts' h'
          cases h
          rcases List.mem_cons.1 ht with rfl | ht
          · exact ⟨hle, by simp only; omega, by simp only; omega, hok.2.2.2.2.2⟩
          · have := lexR_text k (p + u.length) ((c :: r).drop u.length) ts' (by rw [List.length_drop, List.length_cons]; omega) h' t ht
            rw [List.length_drop] at this
            simp only [List.length_cons] at *
            omega
/-- What a source's tokens are. -/
theorem lexV_toks {s : List UInt8} {ts : List Tk} (h : lexV s = .ok ts) : s.length ≤ 65536 ∧ ∃ us, ts = us ++ [⟨0, s.length, [], 0⟩] ∧ us.length ≤ 65536 ∧ ∀ t ∈ us, t.text ≠ [] ∧ tokV t.text = .ok (t.kind, t.text, t.num) ∧ t.text.length ≤ 65536 ∧ t.pos ≤ 65536 ∧ t.kind ≤ 5 ∧ t.num ≤ 4294967295 := by
  unfold lexV at h
  split at h
  · cases h
  · rename_i hl
    obtain ⟨us, e, hu⟩ := lexR_end _ 0 s ts (Nat.le_refl _) h
    have hf := lexR_few _ 0 s ts (Nat.le_refl _) h
    have ht := lexR_text _ 0 s ts (Nat.le_refl _) h
    rw [Nat.zero_add] at e
    refine ⟨by omega, us, e, ?_, fun t hm => ?_⟩
    · rw [e, List.length_append, List.length_singleton] at hf
      omega
    · obtain ⟨a, b⟩ := hu t hm
      obtain ⟨c, d, e', f⟩ := ht t (by rw [e]; exact List.mem_append_left _ hm)
      exact ⟨a, b, by omega, by omega, e', f⟩
theorem lexE_err {s : List UInt8} {x : Nat × Int} (h : lexV s = .error x) : (x.2 != 0) = true := by
  unfold lexV at h
  split at h
  · cases h; rfl
  · exact go _ 0 s (Nat.le_refl _) x h
where
  go : ∀ (k p : Nat) (s : List UInt8), s.length ≤ k → ∀ x, lexR p s = .error x → (x.2 != 0) = true
    | k, p, [], _, x, h => by rw [lexR_nil] at h; cases h
    | 0, p, c :: r, hk, x, h => by simp at hk
    | k + 1, p, c :: r, hk, x, h => by
      simp only [List.length_cons] at hk
      cases hb : blankB c with
      | true =>
        rw [lexR_blank p r hb] at h
        exact go k (p + 1) r (by omega) x h
      | false =>
        cases hx : tokV (c :: r) with
        | error e =>
          rw [lexR_err p hb hx] at h
          cases h
          exact tok_er hx
        | ok y =>
          obtain ⟨q, u, n⟩ := y
          rw [lexR_tok p hb hx] at h
          have hl := List.length_pos_iff.2 (tok_ok hx).1
          split at h
          · rename_i e h'
            cases h
            exact go k (p + u.length) ((c :: r).drop u.length) (by rw [List.length_drop, List.length_cons]; omega) _ h'
          · cases h

end Go.Proofs.YtcmeejoabiedaaaDoor
