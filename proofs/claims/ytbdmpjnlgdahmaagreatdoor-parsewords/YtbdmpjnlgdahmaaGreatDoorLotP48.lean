/-
  A source cut ahead of one of its tokens. No Go text here. What the statements of stage 11 share: sources behind one another; long sources. A source with a closing bracket behind it. No Go text here.
-/
import Derived.Test.YtbdmpjnlgdahmaaGreatDoorLotP13
import Derived.Test.YtbdmpjnlgdahmaaGreatDoorLotP47
import Derived.Test.YtbdmpjnlgdahmaaGreatDoorLotP23
namespace Go.Proofs.YtbdmpjnlgdahmaaGreatDoor
open Go.RowKit
set_option maxRecDepth 100000

theorem tw_cut {α : Type} (p : α → Bool) : ∀ (l : List α) (m : Nat), (l.takeWhile p).length ≤ m → (l.take m).takeWhile p = l.takeWhile p
  | [], m, _ => by simp
  | x :: r, 0, h => by
    by_cases hx : p x = true
    · rw [List.takeWhile_cons_of_pos hx] at h; simp at h
    · rw [List.takeWhile_cons_of_neg hx]; rfl
  | x :: r, m + 1, h => by
    rw [List.take_succ_cons]
    by_cases hx : p x = true
    · rw [List.takeWhile_cons_of_pos hx, List.takeWhile_cons_of_pos hx, tw_cut p r m (by rw [List.takeWhile_cons_of_pos hx] at h; simpa using h)]
    · rw [List.takeWhile_cons_of_neg hx, List.takeWhile_cons_of_neg hx]
theorem tw_sub {α : Type} (p : α → Bool) (l : List α) (m : Nat) : ((l.take m).takeWhile p).Sublist (l.takeWhile p) := by
  rw [takeWhile_take p l m]
  exact List.take_sublist _ _
theorem sign_cut {s : List UInt8} {m : Nat} (h : signV s ≠ []) (hm : (signV s).length ≤ m) : signV (s.take m) = signV s := by
  have hl : 0 < (signV s).length := List.length_pos_iff.2 h
  have hh : (s.take m).head? = s.head? := head_take (by omega)
  unfold signV at h hm hl ⊢
  by_cases h1 : s.take 2 ∈ twosL
  · rw [if_pos h1] at hm ⊢
    have h2 : (s.take 2).length = 2 := by
      have : ∀ x ∈ twosL, x.length = 2 := by decide
      exact this _ h1
    rw [h2] at hm
    rw [List.take_take, Nat.min_eq_left hm, if_pos h1]
  · rw [if_neg h1] at h hm hl ⊢
    by_cases h2 : s.head?.all (onesL.contains ·) = true
    · rw [if_pos h2] at h hm hl ⊢
      have h3 : ¬ (s.take m).take 2 ∈ twosL := by
        rw [List.take_take]
        by_cases hm2 : 2 ≤ m
        · rw [Nat.min_eq_left hm2]; exact h1
        · intro hin
          have : ∀ x ∈ twosL, x.length = 2 := by decide
          have := this _ hin
          rw [List.length_take] at this
          omega
      rw [if_neg h3, hh, if_pos h2, List.take_take, Nat.min_eq_left (by simp only [List.length_take] at hl hm; omega)]
    · rw [if_neg h2] at h
      exact absurd rfl h
/-- What stands behind a token may be cut. -/
theorem tok_cut {s : List UInt8} {q n m : Nat} {t : List UInt8} (h : tokV s = .ok (q, t, n)) (hm : t.length ≤ m) : tokV (s.take m) = .ok (q, t, n) := by
  have hok := tok_ok h
  have hl := List.length_pos_iff.2 hok.1
  have hh : (s.take m).head? = s.head? := head_take (by omega)
  have hcnt : ¬ 2 ≤ (s.takeWhile sixB).count 58 → ¬ 2 ≤ ((s.take m).takeWhile sixB).count 58 := fun hc hge => hc (Nat.le_trans hge ((tw_sub sixB s m).count_le 58))
  unfold tokV at h
  split at h
  · rename_i hc
    simp only [Except.ok.injEq, Prod.mk.injEq] at h
    obtain ⟨rfl, rfl, rfl⟩ := h
    unfold tokV
    rw [tw_cut sixB s m hm, if_pos hc]
  · rename_i hc
    split at h
    · rename_i hd
      split at h
      · rename_i h46
        simp only [Except.ok.injEq, Prod.mk.injEq] at h
        obtain ⟨rfl, rfl, rfl⟩ := h
        unfold tokV
        rw [if_neg (hcnt hc), hh, if_pos hd, tw_cut quadB s m hm, if_pos h46]
      · rename_i h46
        split at h
        · cases h
        · rename_i x hx
          simp only [Except.ok.injEq, Prod.mk.injEq] at h
          obtain ⟨rfl, rfl, rfl⟩ := h
          unfold tokV
          rw [if_neg (hcnt hc), hh, if_pos hd, if_neg (fun hin => h46 ((tw_sub quadB s m).subset hin)), tw_cut wordB s m hm, hx]
    · rename_i hd
      split at h
      · rename_i hlt
        simp only [Except.ok.injEq, Prod.mk.injEq] at h
        obtain ⟨rfl, rfl, rfl⟩ := h
        unfold tokV
        rw [if_neg (hcnt hc), hh, if_neg hd, if_pos hlt, tw_cut wordB s m hm]
      · rename_i hlt
        split at h
        · cases h
        · rename_i hs
          simp only [Except.ok.injEq, Prod.mk.injEq] at h
          obtain ⟨rfl, rfl, rfl⟩ := h
          unfold tokV
          rw [if_neg (hcnt hc), hh, if_neg hd, if_neg hlt, sign_cut hs hm, if_neg hs]
/-- Places do not lie ahead of where reading began. -/
theorem lexR_from : ∀ (k p : Nat) (s : List UInt8) (ts : List Tk), s.length ≤ k → lexR p s = .ok ts → ∀ t ∈ ts, p ≤ t.pos
  | k, p, [], ts, _, h, t, ht => by
    rw [lexR_nil] at h
    cases h
    simp only [List.mem_singleton] at ht
    subst ht
    exact Nat.le_refl _
  | 0, p, c :: r, ts, hk, h, t, ht => by simp at hk
  | k + 1, p, c :: r, ts, hk, h, t, ht => by
    simp only [List.length_cons] at hk
    cases hb : blankB c with
    | true =>
      rw [lexR_blank p r hb] at h
      have := lexR_from k (p + 1) r ts (by omega) h t ht
      omega
    | false =>
      cases hx : tokV (c :: r) with
      | error e => rw [lexR_err p hb hx] at h; cases h
      | ok x =>
        obtain ⟨q, u, n⟩ := x
        rw [lexR_tok p hb hx] at h
        have hl := List.length_pos_iff.2 (tok_ok hx).1
        split at h
        · cases h
        · rename_i ts' h'
          cases h
          rcases List.mem_cons.1 ht with rfl | ht
          · exact Nat.le_refl _
          · have := lexR_from k (p + u.length) ((c :: r).drop u.length) ts' (by rw [List.length_drop, List.length_cons]; omega) h' t ht
            omega
/-- A source cut ahead of a token. -/
theorem lexR_cut : ∀ (k p : Nat) (s : List UInt8) (ts : List Tk), s.length ≤ k → lexR p s = .ok ts → ∀ i (hi : i < ts.length), lexR p (s.take (ts[i].pos - p)) = .ok (ts.take i ++ [⟨0, ts[i].pos, [], 0⟩])
  | k, p, [], ts, _, h, i, hi => by
    rw [lexR_nil] at h
    cases h
    have : i = 0 := by simpa using hi
    subst this
    rw [List.take_nil, lexR_nil]
    rfl
  | 0, p, c :: r, ts, hk, h, i, hi => by simp at hk
  | k + 1, p, c :: r, ts, hk, h, i, hi => by
    simp only [List.length_cons] at hk
    cases hb : blankB c with
    | true =>
      rw [lexR_blank p r hb] at h
      have hf := lexR_from _ (p + 1) r ts (Nat.le_refl _) h ts[i] (List.getElem_mem hi)
      have ih := lexR_cut k (p + 1) r ts (by omega) h i hi
      rw [show ts[i].pos - p = (ts[i].pos - (p + 1)) + 1 by omega, List.take_succ_cons, lexR_blank p _ hb]
      exact ih
    | false =>
      cases hx : tokV (c :: r) with
      | error e => rw [lexR_err p hb hx] at h; cases h
      | ok x =>
        obtain ⟨q, u, n⟩ := x
        rw [lexR_tok p hb hx] at h
        have hl := List.length_pos_iff.2 (tok_ok hx).1
        split at h
        · cases h
        · rename_i ts' h'
          cases h
          cases i with
          | zero =>
            show lexR p ((c :: r).take (p - p)) = _
            rw [Nat.sub_self, List.take_zero, lexR_nil]
            rfl
          | succ i =>
            have hi' : i < ts'.length := by simpa using hi
            have hlen : ((c :: r).drop u.length).length ≤ k := by rw [List.length_drop, List.length_cons]; omega
            have hf := lexR_from _ (p + u.length) _ ts' (Nat.le_refl _) h' ts'[i] (List.getElem_mem hi')
            have ih := lexR_cut k (p + u.length) _ ts' hlen h' i hi'
            show lexR p ((c :: r).take (ts'[i].pos - p)) = .ok (⟨q, p, u, n⟩ :: (ts'.take i ++ [⟨0, ts'[i].pos, [], 0⟩]))
            have hc := tok_cut hx (m := ts'[i].pos - p) (by omega)
            obtain ⟨d, hd⟩ : ∃ d, ts'[i].pos - p = d + 1 := ⟨ts'[i].pos - p - 1, by omega⟩
            rw [hd, List.take_succ_cons] at hc ⊢
            rw [lexR_tok p hb hc]
            have e : (c :: r.take d).drop u.length = ((c :: r).drop u.length).take (ts'[i].pos - (p + u.length)) := by
              rw [← List.take_succ_cons, List.drop_take]
              congr 1
              omega
            rw [e, ih]

end Go.Proofs.YtbdmpjnlgdahmaaGreatDoor

namespace Go.Proofs.YtbdmpjnlgdahmaaGreatDoor
open Go.RowKit
set_option maxRecDepth 100000

/-- Errors of a source that lex takes. -/
theorem parse_er {s : List UInt8} {ts : List Tk} {x : Er} (h : lexV s = .ok ts) (hp : parseV s = .error x) : ErAt ts x := by
  have hG := (lexV_good h).1
  unfold parseV at hp
  rw [h, thenE_ok] at hp
  rcases parse_out hG.1 with ⟨ns, h1, -⟩ | ⟨e, h1, h2⟩
  · rw [h1] at hp; cases hp
  · rw [h1] at hp
    cases hp
    exact h2
theorem er_code {ts : List Tk} {x : Er} (h : ErAt ts x) : x.2 = 110 ∨ x.2 = 111 ∨ x.2 = 112 ∨ x.2 = 113 := by
  obtain ⟨t, -, -, ⟨h, -⟩ | ⟨-, h | h | h⟩⟩ := h
  · exact .inl h
  · exact .inr (.inl h)
  · exact .inr (.inr (.inl h))
  · exact .inr (.inr (.inr h))
theorem first_lex {s t : List UInt8} {us : List Tk} (hl : s.length + t.length ≤ 20000) (h : lexV (s ++ [32] ++ t) = .ok us) : ∃ pre A, lexV s = .ok (pre ++ [⟨0, s.length, [], 0⟩]) ∧ us = pre ++ A ∧ EndsOk A ∧ (∀ x ∈ A, s.length < x.pos) ∧ ∀ x ∈ pre, x.kind ≠ 0 := by
  have e1 : lexV s = lexR 0 s := by rw [lexV, if_neg (by omega)]
  have e3 : lexV (s ++ [32] ++ t) = lexR 0 (s ++ [32] ++ t) := by rw [lexV, if_neg (by simp only [List.length_append, List.length_singleton]; omega)]
  rw [e3, List.append_assoc, List.singleton_append, lexR_app _ 0 s 32 t (Nat.le_refl _) (by decide)] at h
  cases h1 : lexR 0 s with
  | error e => rw [h1] at h; cases h
  | ok ts =>
    rw [h1] at h
    simp only at h
    cases h2 : lexR (0 + s.length + 1) t with
    | error e => rw [h2] at h; cases h
    | ok A =>
      rw [h2] at h
      simp only at h
      cases h
      obtain ⟨hle, pre, e, -, ht⟩ := lexV_toks (s := s) (ts := ts) (by rw [e1]; exact h1)
      obtain ⟨vs, e', hv⟩ := lexR_end _ _ _ _ (Nat.le_refl _) h2
      refine ⟨pre, A, by rw [e1, h1, e], by rw [e, List.dropLast_concat], ⟨vs, _, e', rfl, fun x hx => ?_⟩, fun x hx => ?_, fun x hx => ?_⟩
      · have := (tok_ok (hv x hx).2).2.2.2.1
        omega
      · have := lexR_from _ _ _ _ (Nat.le_refl _) h2 x hx
        omega
      · have := (tok_ok (ht x hx).2.1).2.2.2.1
        omega
theorem first_parse {s t : List UInt8} {us : List Tk} {p : Nat} {e : Int} (hl : s.length + t.length ≤ 20000) (h : lexV (s ++ [32] ++ t) = .ok us) (hp : parseV s = .error (p, e)) :
    (e = 110 ∧ p = s.length ∧ ((∃ ns, parseV (s ++ [32] ++ t) = .ok ns) ∨ ∃ x, parseV (s ++ [32] ++ t) = .error x ∧ s.length ≤ x.1)) ∨ (e ≠ 110 ∧ parseV (s ++ [32] ++ t) = .error (p, e)) := by
  obtain ⟨pre, A, h1, rfl, hA, hpos, hk⟩ := first_lex hl h
  have e1 : parseV s = parseT (pre ++ [⟨0, s.length, [], 0⟩]) := by rw [parseV, h1, thenE_ok]
  have e2 : parseV (s ++ [32] ++ t) = parseT (pre ++ A) := by rw [parseV, h, thenE_ok]
  rw [e2]
  rw [e1] at hp
  rcases two_runs (e := ⟨0, s.length, [], 0⟩) hk hA rfl with ⟨ns, h2, -⟩ | ⟨h2, h3⟩ | ⟨x, h2, h3, h4⟩
  · rw [h2] at hp; cases hp
  · rw [h2] at hp
    cases hp
    refine .inl ⟨rfl, rfl, ?_⟩
    rcases h3 with h3 | ⟨x, h3, t', ht', hpt, -⟩
    · exact .inl h3
    · exact .inr ⟨x, h3, by have := hpos t' ht'; omega⟩
  · rw [h2] at hp
    cases hp
    exact .inr ⟨h4, h3⟩

set_option maxHeartbeats 1000000 in
/-- A source that is too long for a token. -/
theorem lexlong_any (s : ByteArray) (hl : 65536 < s.size) (w : World) :
    Calls Tryz.prog 16 #[.string s] w fun e w' => ∃ v, e = .returned (.tuple #[v, .int .i64 0, .int .i64 100]) ∧ w.grownBy w' none := by
  have hl' : (65536 : Int) < (s.size : Int) := by omega
  go_enter Tryz.func16, Tryz.ntmps16
  go_wp2
  go_ret3
  exact ⟨_, rfl, World.grownBy.refl _ _⟩

end Go.Proofs.YtbdmpjnlgdahmaaGreatDoor

namespace Go.Proofs.YtbdmpjnlgdahmaaGreatDoor
open Go.RowKit
set_option maxRecDepth 100000

theorem sign_close {t : List UInt8} (ht : t ≠ []) (r : List UInt8) : signV (t ++ 41 :: r) = signV t := by
  cases t with
  | nil => exact absurd rfl ht
  | cons c t =>
    cases t with
    | nil =>
      have h1 : ¬ (([c] ++ 41 :: r).take 2 ∈ twosL) := by
        show ¬ ([c, 41] ∈ twosL)
        simp [twosL]
      have h2 : ¬ ([c].take 2 ∈ twosL) := by simp [twosL]
      unfold signV
      rw [if_neg h1, if_neg h2]
      rfl
    | cons d t =>
      unfold signV
      rfl
theorem tok_close {t : List UInt8} (ht : t ≠ []) (r : List UInt8) : tokV (t ++ 41 :: r) = tokV t := by
  have hb : ∀ p : UInt8 → Bool, p 41 = false → (t ++ 41 :: r).takeWhile p = t.takeWhile p := fun p hp => takeWhile_end p t _ (.inr ⟨41, r, rfl, hp⟩)
  have hh : (t ++ 41 :: r).head? = t.head? := by
    cases t with
    | nil => exact absurd rfl ht
    | cons c t => rfl
  unfold tokV
  rw [hb sixB (by decide), hb quadB (by decide), hb wordB (by decide), hh, sign_close ht]
theorem lexR_close : ∀ (k p : Nat) (s m : List UInt8), s.length ≤ k →
    lexR p (s ++ 41 :: m) = match lexR p s with
      | .error e => .error e
      | .ok ts => match lexR (p + s.length) (41 :: m) with
        | .error e => .error e
        | .ok us => .ok (ts.dropLast ++ us)
  | k, p, [], m, _ => by
    rw [List.nil_append, lexR_nil]
    simp only [List.length_nil, Nat.add_zero]
    split <;> rename_i h <;> rw [h] <;> rfl
  | 0, p, c :: r, m, hk => by simp at hk
  | k + 1, p, c :: r, m, hk => by
    simp only [List.length_cons] at hk
    rw [List.cons_append]
    cases hb : blankB c with
    | true =>
      rw [lexR_blank p _ hb, lexR_blank p _ hb, lexR_close k (p + 1) r m (by omega), List.length_cons, show p + (r.length + 1) = p + 1 + r.length by omega]
    | false =>
      have he : tokV (c :: (r ++ 41 :: m)) = tokV (c :: r) := tok_close (t := c :: r) (by simp) m
      cases ht : tokV (c :: r) with
      | error e => rw [lexR_err p hb ht, lexR_err p hb (by rw [he, ht])]
      | ok x =>
        obtain ⟨q, t, n⟩ := x
        have hok := tok_ok ht
        have hl := List.length_pos_iff.2 hok.1
        have hle := hok.2.2.1
        rw [lexR_tok p hb ht, lexR_tok p hb (by rw [he, ht]), show (c :: (r ++ 41 :: m)).drop t.length = (c :: r).drop t.length ++ 41 :: m by rw [← List.cons_append, List.drop_append_of_le_length hle],
          lexR_close k (p + t.length) ((c :: r).drop t.length) m (by rw [List.length_drop, List.length_cons]; omega),
          show p + t.length + ((c :: r).drop t.length).length = p + (c :: r).length by rw [List.length_drop]; omega]
        cases h1 : lexR (p + t.length) ((c :: r).drop t.length) with
        | error e => rfl
        | ok ts =>
          simp only
          cases h2 : lexR (p + (c :: r).length) (41 :: m) with
          | error e => rfl
          | ok us =>
            simp only
            obtain ⟨vs, e, -⟩ := lexR_end _ _ _ _ (Nat.le_refl _) h1
            have hd : ∀ (a z : Tk) (v : List Tk), (a :: (v ++ [z])).dropLast = a :: v := fun a z v => by rw [← List.cons_append, List.dropLast_concat]
            rw [e, List.dropLast_concat, hd, List.cons_append]
theorem tok_rp (m : List UInt8) : tokV (41 :: m) = .ok (5, [41], 0) := by
  have h : tokV ([41] ++ m) = .ok (5, [41], 0) := by
    unfold tokV
    have h0 : (([41] : List UInt8) ++ m).takeWhile sixB = [] := List.takeWhile_cons_of_neg (by decide)
    rw [h0]
    rw [if_neg (by decide), if_neg (by show ¬ isDig 41 = true; decide), if_neg (by show ¬ letB 41 = true; decide)]
    have hs : signV ([41] ++ m) = [41] := by
      unfold signV
      have h1 : ¬ (([41] ++ m).take 2 ∈ twosL) := by
        cases m with
        | nil => decide
        | cons d m => show ¬ ([41, d] ∈ twosL); simp [twosL]
      rw [if_neg h1, if_pos (by show onesL.contains 41 = true; decide)]
      rfl
    rw [hs, if_neg (by simp)]
  exact h
theorem tok_lp (m : List UInt8) : tokV (40 :: m) = .ok (5, [40], 0) := by
  have h : tokV ([40] ++ m) = .ok (5, [40], 0) := by
    unfold tokV
    have h0 : (([40] : List UInt8) ++ m).takeWhile sixB = [] := List.takeWhile_cons_of_neg (by decide)
    rw [h0]
    rw [if_neg (by decide), if_neg (by show ¬ isDig 40 = true; decide), if_neg (by show ¬ letB 40 = true; decide)]
    have hs : signV ([40] ++ m) = [40] := by
      unfold signV
      have h1 : ¬ (([40] ++ m).take 2 ∈ twosL) := by
        cases m with
        | nil => decide
        | cons d m => show ¬ ([40, d] ∈ twosL); simp [twosL]
      rw [if_neg h1, if_pos (by show onesL.contains 40 = true; decide)]
      rfl
    rw [hs, if_neg (by simp)]
  exact h
/-- A whole source in brackets. -/
theorem lexR_wrap {p : Nat} {s : List UInt8} {ts : List Tk} (h : lexR (p + 1) s = .ok ts) (m : List UInt8) {us : List Tk} (hm : lexR (p + 1 + s.length + 1) m = .ok us) :
    lexR p (40 :: (s ++ 41 :: m)) = .ok (⟨5, p, [40], 0⟩ :: (ts.dropLast ++ (⟨5, p + 1 + s.length, [41], 0⟩ :: us))) := by
  have h2 : lexR (p + 1 + s.length) (41 :: m) = .ok (⟨5, p + 1 + s.length, [41], 0⟩ :: us) := by
    rw [lexR_tok _ (by decide) (tok_rp m)]
    show (match lexR (p + 1 + s.length + 1) m with | .error e => _ | .ok ts => _) = _
    rw [hm]
  have h3 : lexR (p + 1) (s ++ 41 :: m) = .ok (ts.dropLast ++ (⟨5, p + 1 + s.length, [41], 0⟩ :: us)) := by
    rw [lexR_close _ _ _ _ (Nat.le_refl _), h]
    simp only
    rw [h2]
  rw [lexR_tok _ (by decide) (tok_lp _)]
  show (match lexR (p + 1) (s ++ 41 :: m) with | .error e => _ | .ok ts => _) = _
  rw [h3]

end Go.Proofs.YtbdmpjnlgdahmaaGreatDoor
