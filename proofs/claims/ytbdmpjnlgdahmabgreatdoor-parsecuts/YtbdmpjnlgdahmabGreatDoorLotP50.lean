/-
  A source's beginnings; errors that stand whatever follows. No Go text here. A source cut ahead of one of its tokens. No Go text here. What the statements of stage 11 share: sources behind one another; long sources.
-/
import Derived.Test.YtbdmpjnlgdahmabGreatDoorParseS
import Derived.Test.YtbdmpjnlgdahmabGreatDoorLotP10
import Derived.Test.YtbdmpjnlgdahmabGreatDoorAwake11
namespace Go.Proofs.YtbdmpjnlgdahmabGreatDoor
open Go.RowKit
set_option maxRecDepth 100000

def finV (p : List (Nd × Nat) × List Tk) : Except Er (List (Nd × Nat)) := if (hdT p.2).kind = 0 then .ok p.1 else failV p.2 111
theorem parse_fuel {f : Nat} {ts : List Tk} (h : needF 1 ts ≤ f) : parseT ts = thenE (rowF f 1 0 ts) finV := by
  unfold parseT
  rw [row_same (by decide) h (Nat.le_refl _)]
  rfl
theorem ends_one {e : Tk} (he : e.kind = 0) : EndsOk [e] := ⟨[], e, rfl, he, fun _ h => by cases h⟩
theorem ends_app {p A : List Tk} (hp : ∀ t ∈ p, t.kind ≠ 0) (hA : EndsOk A) : EndsOk (p ++ A) := by
  obtain ⟨us, e, rfl, he, hu⟩ := hA
  refine ⟨p ++ us, e, by rw [List.append_assoc], he, fun t ht => ?_⟩
  rcases List.mem_append.1 ht with ht | ht
  · exact hp t ht
  · exact hu t ht
/-- What Parse of tokens may come to. -/
theorem parse_out {ts : List Tk} (h : EndsOk ts) : (∃ ns, parseT ts = .ok ns ∧ ns ≠ []) ∨ ∃ e, parseT ts = .error e ∧ ErAt ts e := by
  have ht := row_told (needF 1 ts) 1 0 ts (by decide) (Nat.le_refl _)
  have hg := gd_row (needF 1 ts) 1 0 ts h
  have hf := row_fr (needF 1 ts) 1 0 ts
  unfold parseT
  cases hx : rowF (needF 1 ts) 1 0 ts with
  | error e => exact .inr ⟨e, rfl, hg.2 e hx (fun h => ht (by rw [hx, h]))⟩
  | ok v =>
    obtain ⟨ns, r⟩ := v
    obtain ⟨h1, h2⟩ := hg.1 ns r hx
    show (∃ ms, (if (hdT r).kind = 0 then Except.ok ns else failV r _) = .ok ms ∧ _) ∨ ∃ e, (if (hdT r).kind = 0 then Except.ok ns else failV r _) = .error e ∧ _
    by_cases hk : (hdT r).kind = 0
    · rw [if_pos hk]; exact .inl ⟨ns, rfl, (hf ns r hx).2⟩
    · rw [if_neg hk]
      refine .inr ⟨_, rfl, _, h2.subset h1.mem, rfl, .inr ⟨hk, .inl ?_⟩⟩
      exact if_neg hk

/-- Two runs, of which one ends where the other may go on. -/
theorem two_runs {pre A : List Tk} {e : Tk} (hp : ∀ t ∈ pre, t.kind ≠ 0) (hA : EndsOk A) (he : e.kind = 0) :
    (∃ ns, parseT (pre ++ [e]) = .ok ns ∧ ns ≠ []) ∨ parseT (pre ++ [e]) = .error (e.pos, 110) ∧ ((∃ ns, parseT (pre ++ A) = .ok ns) ∨ ∃ x, parseT (pre ++ A) = .error x ∧ ErAt A x) ∨
      ∃ x, parseT (pre ++ [e]) = .error x ∧ parseT (pre ++ A) = .error x ∧ x.2 ≠ 110 := by
  have hB := ends_one he
  have hpB := ends_app hp hB
  obtain ⟨f, hf⟩ : ∃ f, needF 1 (pre ++ A) + needF 1 (pre ++ [e]) = f := ⟨_, rfl⟩
  have f1 : needF 1 (pre ++ A) ≤ f := by omega
  have f2 : needF 1 (pre ++ [e]) ≤ f := by omega
  have t1 := row_told f 1 0 (pre ++ A) (by decide) f1
  have t2 := row_told f 1 0 (pre ++ [e]) (by decide) f2
  have hS := sm_row (A := A) (B := [e]) hA he (by simp) f 1 0 pre
  rcases parse_out hpB with h | ⟨x, hx, hat⟩
  · exact .inl h
  right
  rw [parse_fuel f2] at hx
  rw [parse_fuel f1, parse_fuel f2]
  rcases hS with ⟨v, p, h1, h2⟩ | ⟨er, h1, h2⟩ | ⟨h2, h1⟩
  · rw [h2] at hx
    have hx' : (if (hdT (p ++ [e])).kind = 0 then Except.ok v else failV (p ++ [e]) 111) = .error x := hx
    cases p with
    | nil =>
      rw [if_pos (by exact he)] at hx'
      cases hx'
    | cons t p =>
      by_cases hk : t.kind = 0
      · rw [if_pos (by exact hk)] at hx'
        cases hx'
      · right
        refine ⟨x, by rw [h2]; exact hx, ?_, ?_⟩
        · rw [h1]
          show (if (hdT (t :: p ++ A)).kind = 0 then Except.ok v else failV (t :: p ++ A) 111) = .error x
          rw [if_neg (by exact hk)]
          rw [if_neg (by exact hk)] at hx'
          exact hx'
        · rw [if_neg (by exact hk)] at hx'
          cases hx'
          show (if t.kind = 0 then (110 : Int) else 111) ≠ 110
          rw [if_neg hk]
          decide
  · by_cases hc : er.2 = 110
    · have hxe : er = x := by
        rw [h2] at hx
        exact Except.error.inj hx
      subst hxe
      obtain ⟨t, ht, hpos, hcase⟩ := hat
      left
      have hte : t = e := by
        rcases hcase with ⟨-, hk⟩ | ⟨hk, hh⟩
        · rcases List.mem_append.1 ht with ht | ht
          · exact absurd hk (hp t ht)
          · simpa using ht
        · rw [hc] at hh
          rcases hh with hh | hh | hh <;> cases hh
      subst hte
      have g1 := gd_row f 1 0 (pre ++ A) (ends_app hp hA)
      obtain ⟨t', ht', hpos', hcase'⟩ := g1.2 er h1 (fun h => t1 (by rw [h1, h]))
      refine ⟨by rw [h2]; show Except.error er = _; rw [← hc, hpos], .inr ⟨er, by rw [h1]; rfl, t', ?_, hpos', hcase'⟩⟩
      rcases List.mem_append.1 ht' with ht' | ht'
      · rcases hcase' with ⟨-, hk⟩ | ⟨-, hh⟩
        · exact absurd hk (hp t' ht')
        · rw [hc] at hh
          rcases hh with hh | hh | hh <;> cases hh
      · exact ht'
    · right
      exact ⟨er, by rw [h2]; rfl, by rw [h1]; rfl, hc⟩
  · rcases h2 with h2 | h2 | ⟨v, h2⟩
    · left
      refine ⟨by rw [h2]; rfl, ?_⟩
      cases hxa : rowF f 1 0 (pre ++ A) with
      | error er => exact .inr ⟨er, rfl, h1.2 er hxa (fun h => t1 (by rw [hxa, h]))⟩
      | ok v =>
        obtain ⟨ns, r⟩ := v
        obtain ⟨g1, g2⟩ := h1.1 ns r hxa
        show (∃ ms, (if (hdT r).kind = 0 then Except.ok ns else failV r _) = .ok ms) ∨ ∃ e, (if (hdT r).kind = 0 then Except.ok ns else failV r _) = .error e ∧ _
        by_cases hk : (hdT r).kind = 0
        · rw [if_pos hk]; exact .inl ⟨ns, rfl⟩
        · rw [if_neg hk]
          exact .inr ⟨_, rfl, _, g2.subset g1.mem, rfl, .inr ⟨hk, .inl (if_neg hk)⟩⟩
    · exact absurd h2 t2
    · rw [h2] at hx
      have hx' : (if (hdT [e]).kind = 0 then Except.ok v else failV [e] 111) = .error x := hx
      rw [if_pos (by exact he)] at hx'
      cases hx'

end Go.Proofs.YtbdmpjnlgdahmabGreatDoor

namespace Go.Proofs.YtbdmpjnlgdahmabGreatDoor
open Go.RowKit
set_option maxRecDepth 100000

theorem tw_cut {α : Type} (p : α → Bool) : ∀ (l : List α) (m : Nat), (l.takeWhile p).length ≤ m → (l.take m).takeWhile p = l.takeWhile p
  | [], m, _ => by simp
  | x :: r, 0, h => by
    by_cases hx : p x = true
    · rw [List.takeWhile_cons_of_pos hx] at h; simp at h
    · rw [List.takeWhile_cons_of_neg hx]; rfl
  | x :: r, m + 1, h => by
    rw [List.take_succ_cons]
    by_cases hx : p x = true
    · rw [List.takeWhile_cons_of_pos hx, List.takeWhile_cons_of_pos hx, tw_cut p r m (by rw [List.takeWhile_cons_of_pos hx] at h; simpa using h)]
    · rw [List.takeWhile_cons_of_neg hx, List.takeWhile_cons_of_neg hx]
theorem tw_sub {α : Type} (p : α → Bool) (l : List α) (m : Nat) : ((l.take m).takeWhile p).Sublist (l.takeWhile p) := by
  rw [takeWhile_take p l m]
  exact List.take_sublist _ _
theorem sign_cut {s : List UInt8} {m : Nat} (h : signV s ≠ []) (hm : (signV s).length ≤ m) : signV (s.take m) = signV s := by
  have hl : 0 < (signV s).length := List.length_pos_iff.2 h
  have hh : (s.take m).head? = s.head? := head_take (by omega)
  unfold signV at h hm hl ⊢
  by_cases h1 : s.take 2 ∈ twosL
  · rw [if_pos h1] at hm ⊢
    have h2 : (s.take 2).length = 2 := by
      have : ∀ x ∈ twosL, x.length = 2 := by decide
      exact this _ h1
    rw [h2] at hm
    rw [List.take_take, Nat.min_eq_left hm, if_pos h1]
  · rw [if_neg h1] at h hm hl ⊢
    by_cases h2 : s.head?.all (onesL.contains ·) = true
    · rw [if_pos h2] at h hm hl ⊢
      have h3 : ¬ (s.take m).take 2 ∈ twosL := by
        rw [List.take_take]
        by_cases hm2 : 2 ≤ m
        · rw [Nat.min_eq_left hm2]; exact h1
        · intro hin
          have : ∀ x ∈ twosL, x.length = 2 := by decide
          have := this _ hin
          rw [List.length_take] at this
          omega
      rw [if_neg h3, hh, if_pos h2, List.take_take, Nat.min_eq_left (by simp only [List.length_take] at hl hm; omega)]
    · rw [if_neg h2] at h
      exact absurd rfl h
/-- What stands behind a token may be cut. -/
theorem tok_cut {s : List UInt8} {q n m : Nat} {t : List UInt8} (h : tokV s = .ok (q, t, n)) (hm : t.length ≤ m) : tokV (s.take m) = .ok (q, t, n) := by
  have hok := tok_ok h
  have hl := List.length_pos_iff.2 hok.1
  have hh : (s.take m).head? = s.head? := head_take (by omega)
  have hcnt : ¬ 2 ≤ (s.takeWhile sixB).count 58 → ¬ 2 ≤ ((s.take m).takeWhile sixB).count 58 := fun hc hge => hc (Nat.le_trans hge ((tw_sub sixB s m).count_le 58))
  unfold tokV at h
  split at h
  · rename_i hc
    simp only [Except.ok.injEq, Prod.mk.injEq] at h
    obtain ⟨rfl, rfl, rfl⟩ := h
    unfold tokV
    rw [tw_cut sixB s m hm, if_pos hc]
  · rename_i hc
    split at h
    · rename_i hd
      split at h
      · rename_i h46
        simp only [Except.ok.injEq, Prod.mk.injEq] at h
        obtain ⟨rfl, rfl, rfl⟩ := h
        unfold tokV
        rw [if_neg (hcnt hc), hh, if_pos hd, tw_cut quadB s m hm, if_pos h46]
      · rename_i h46
        split at h
        · cases h
        · rename_i x hx
          simp only [Except.ok.injEq, Prod.mk.injEq] at h
          obtain ⟨rfl, rfl, rfl⟩ := h
          unfold tokV
          rw [if_neg (hcnt hc), hh, if_pos hd, if_neg (fun hin => h46 ((tw_sub quadB s m).subset hin)), tw_cut wordB s m hm, hx]
    · rename_i hd
      split at h
      · rename_i hlt
        simp only [Except.ok.injEq, Prod.mk.injEq] at h
        obtain ⟨rfl, rfl, rfl⟩ := h
        unfold tokV
        rw [if_neg (hcnt hc), hh, if_neg hd, if_pos hlt, tw_cut wordB s m hm]
      · rename_i hlt
        split at h
        · cases h
        · rename_i hs
          simp only [Except.ok.injEq, Prod.mk.injEq] at h
          obtain ⟨rfl, rfl, rfl⟩ := h
          unfold tokV
          rw [if_neg (hcnt hc), hh, if_neg hd, if_neg hlt, sign_cut hs hm, if_neg hs]
/-- Places do not lie ahead of where reading began. -/
theorem lexR_from : ∀ (k p : Nat) (s : List UInt8) (ts : List Tk), s.length ≤ k → lexR p s = .ok ts → ∀ t ∈ ts, p ≤ t.pos
  | k, p, [], ts, _, h, t, ht => by
    rw [lexR_nil] at h
    cases h
    simp only [List.mem_singleton] at ht
    subst ht
    exact Nat.le_refl _
  | 0, p, c :: r, ts, hk, h, t, ht => by simp at hk
  | k + 1, p, c :: r, ts, hk, h, t, ht => by
    simp only [List.length_cons] at hk
    cases hb : blankB c with
    | true =>
      rw [lexR_blank p r hb] at h
      have := lexR_from k (p + 1) r ts (by omega) h t ht
      omega
    | false =>
      cases hx : tokV (c :: r) with
      | error e => rw [lexR_err p hb hx] at h; cases h
      | ok x =>
        obtain ⟨q, u, n⟩ := x
        rw [lexR_tok p hb hx] at h
        have hl := List.length_pos_iff.2 (tok_ok hx).1
        split at h
        · cases h
        · rename_i ts' h'
          cases h
          rcases List.mem_cons.1 ht with rfl | ht
          · exact Nat.le_refl _
          · have := lexR_from k (p + u.length) ((c :: r).drop u.length) ts' (by rw [List.length_drop, List.length_cons]; omega) h' t ht
            omega
/-- A source cut ahead of a token. -/
theorem lexR_cut : ∀ (k p : Nat) (s : List UInt8) (ts : List Tk), s.length ≤ k → lexR p s = .ok ts → ∀ i (hi : i < ts.length), lexR p (s.take (ts[i].pos - p)) = .ok (ts.take i ++ [⟨0, ts[i].pos, [], 0⟩])
  | k, p, [], ts, _, h, i, hi => by
    rw [lexR_nil] at h
    cases h
    have : i = 0 := by simpa using hi
    subst this
    rw [List.take_nil, lexR_nil]
    rfl
  | 0, p, c :: r, ts, hk, h, i, hi => by simp at hk
  | k + 1, p, c :: r, ts, hk, h, i, hi => by
    simp only [List.length_cons] at hk
    cases hb : blankB c with
    | true =>
      rw [lexR_blank p r hb] at h
      have hf := lexR_from _ (p + 1) r ts (Nat.le_refl _) h ts[i] (List.getElem_mem hi)
      have ih := lexR_cut k (p + 1) r ts (by omega) h i hi
      rw [show ts[i].pos - p = (ts[i].pos - (p + 1)) + 1 by omega, List.take_succ_cons, lexR_blank p _ hb]
      exact ih
    | false =>
      cases hx : tokV (c :: r) with
      | error e => rw [lexR_err p hb hx] at h; cases h
      | ok x =>
        obtain ⟨q, u, n⟩ := x
        rw [lexR_tok p hb hx] at h
        have hl := List.length_pos_iff.2 (tok_ok hx).1
        split at h
        · cases h
        · rename_i ts' h'
          cases h
          cases i with
          | zero =>
            show lexR p ((c :: r).take (p - p)) = _
            rw [Nat.sub_self, List.take_zero, lexR_nil]
            rfl
          | succ i =>
            have hi' : i < ts'.length := by simpa using hi
            have hlen : ((c :: r).drop u.length).length ≤ k := by rw [List.length_drop, List.length_cons]; omega
            have hf := lexR_from _ (p + u.length) _ ts' (Nat.le_refl _) h' ts'[i] (List.getElem_mem hi')
            have ih := lexR_cut k (p + u.length) _ ts' hlen h' i hi'
            show lexR p ((c :: r).take (ts'[i].pos - p)) = .ok (⟨q, p, u, n⟩ :: (ts'.take i ++ [⟨0, ts'[i].pos, [], 0⟩]))
            have hc := tok_cut hx (m := ts'[i].pos - p) (by omega)
            obtain ⟨d, hd⟩ : ∃ d, ts'[i].pos - p = d + 1 := ⟨ts'[i].pos - p - 1, by omega⟩
            rw [hd, List.take_succ_cons] at hc ⊢
            rw [lexR_tok p hb hc]
            have e : (c :: r.take d).drop u.length = ((c :: r).drop u.length).take (ts'[i].pos - (p + u.length)) := by
              rw [← List.take_succ_cons, List.drop_take]
              congr 1
              omega
            rw [e, ih]

end Go.Proofs.YtbdmpjnlgdahmabGreatDoor

namespace Go.Proofs.YtbdmpjnlgdahmabGreatDoor
open Go.RowKit
set_option maxRecDepth 100000

/-- Errors of a source that lex takes. -/
theorem parse_er {s : List UInt8} {ts : List Tk} {x : Er} (h : lexV s = .ok ts) (hp : parseV s = .error x) : ErAt ts x := by
  have hG := (lexV_good h).1
  unfold parseV at hp
  rw [h, thenE_ok] at hp
  rcases parse_out hG.1 with ⟨ns, h1, -⟩ | ⟨e, h1, h2⟩
  · rw [h1] at hp; cases hp
  · rw [h1] at hp
    cases hp
    exact h2
theorem er_code {ts : List Tk} {x : Er} (h : ErAt ts x) : x.2 = 110 ∨ x.2 = 111 ∨ x.2 = 112 ∨ x.2 = 113 := by
  obtain ⟨t, -, -, ⟨h, -⟩ | ⟨-, h | h | h⟩⟩ := h
  · exact .inl h
  · exact .inr (.inl h)
  · exact .inr (.inr (.inl h))
  · exact .inr (.inr (.inr h))
theorem first_lex {s t : List UInt8} {us : List Tk} (hl : s.length + t.length ≤ 20000) (h : lexV (s ++ [32] ++ t) = .ok us) : ∃ pre A, lexV s = .ok (pre ++ [⟨0, s.length, [], 0⟩]) ∧ us = pre ++ A ∧ EndsOk A ∧ (∀ x ∈ A, s.length < x.pos) ∧ ∀ x ∈ pre, x.kind ≠ 0 := by
  have e1 : lexV s = lexR 0 s := by rw [lexV, if_neg (by omega)]
  have e3 : lexV (s ++ [32] ++ t) = lexR 0 (s ++ [32] ++ t) := by rw [lexV, if_neg (by simp only [List.length_append, List.length_singleton]; omega)]
  rw [e3, List.append_assoc, List.singleton_append, lexR_app _ 0 s 32 t (Nat.le_refl _) (by decide)] at h
  cases h1 : lexR 0 s with
  | error e => rw [h1] at h; cases h
  | ok ts =>
    rw [h1] at h
    simp only at h
    cases h2 : lexR (0 + s.length + 1) t with
    | error e => rw [h2] at h; cases h
    | ok A =>
      rw [h2] at h
      simp only at h
      cases h
      obtain ⟨hle, pre, e, -, ht⟩ := lexV_toks (s := s) (ts := ts) (by rw [e1]; exact h1)
      obtain ⟨vs, e', hv⟩ := lexR_end _ _ _ _ (Nat.le_refl _) h2
      refine ⟨pre, A, by rw [e1, h1, e], by rw [e, List.dropLast_concat], ⟨vs, _, e', rfl, fun x hx => ?_⟩, fun x hx => ?_, fun x hx => ?_⟩
      · have := (tok_ok (hv x hx).2).2.2.2.1
        omega
      · have := lexR_from _ _ _ _ (Nat.le_refl _) h2 x hx
        omega
      · have := (tok_ok (ht x hx).2.1).2.2.2.1
        omega
theorem first_parse {s t : List UInt8} {us : List Tk} {p : Nat} {e : Int} (hl : s.length + t.length ≤ 20000) (h : lexV (s ++ [32] ++ t) = .ok us) (hp : parseV s = .error (p, e)) :
    (e = 110 ∧ p = s.length ∧ ((∃ ns, parseV (s ++ [32] ++ t) = .ok ns) ∨ ∃ x, parseV (s ++ [32] ++ t) = .error x ∧ s.length ≤ x.1)) ∨ (e ≠ 110 ∧ parseV (s ++ [32] ++ t) = .error (p, e)) := by
  obtain ⟨pre, A, h1, rfl, hA, hpos, hk⟩ := first_lex hl h
  have e1 : parseV s = parseT (pre ++ [⟨0, s.length, [], 0⟩]) := by rw [parseV, h1, thenE_ok]
  have e2 : parseV (s ++ [32] ++ t) = parseT (pre ++ A) := by rw [parseV, h, thenE_ok]
  rw [e2]
  rw [e1] at hp
  rcases two_runs (e := ⟨0, s.length, [], 0⟩) hk hA rfl with ⟨ns, h2, -⟩ | ⟨h2, h3⟩ | ⟨x, h2, h3, h4⟩
  · rw [h2] at hp; cases hp
  · rw [h2] at hp
    cases hp
    refine .inl ⟨rfl, rfl, ?_⟩
    rcases h3 with h3 | ⟨x, h3, t', ht', hpt, -⟩
    · exact .inl h3
    · exact .inr ⟨x, h3, by have := hpos t' ht'; omega⟩
  · rw [h2] at hp
    cases hp
    exact .inr ⟨h4, h3⟩

set_option maxHeartbeats 1000000 in
/-- A source that is too long for a token. -/
theorem lexlong_any (s : ByteArray) (hl : 65536 < s.size) (w : World) :
    Calls Tryz.prog 6 #[.string s] w fun e w' => ∃ v, e = .returned (.tuple #[v, .int .i64 0, .int .i64 100]) ∧ w.grownBy w' none := by
  have hl' : (65536 : Int) < (s.size : Int) := by omega
  go_enter Tryz.func6, Tryz.ntmps6
  go_wp2
  go_ret3
  exact ⟨_, rfl, World.grownBy.refl _ _⟩

end Go.Proofs.YtbdmpjnlgdahmabGreatDoor
