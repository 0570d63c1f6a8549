/-
  Errors and nodes lie at tokens. No Go text here. Sources and their tokens: what stands where. No Go text here. The document's own reading of bytes: Blank, digit, letter, in, run, count.
-/
import Derived.Test.YtbdmpjnlgdahmaaGreatDoorLotP8
import Derived.Test.YtbdmpjnlgdahmaaGreatDoorLotP4
namespace Go.Proofs.YtbdmpjnlgdahmaaGreatDoor
open Go.RowKit
set_option maxRecDepth 100000

/-- Tokens, the end behind them. -/
def EndsOk (ts : List Tk) : Prop := ∃ us e, ts = us ++ [e] ∧ e.kind = 0 ∧ ∀ t ∈ us, t.kind ≠ 0
def TokAt (ts : List Tk) (p : Nat) : Prop := ∃ t ∈ ts, t.kind ≠ 0 ∧ t.pos = p
def ErAt (ts : List Tk) (e : Er) : Prop := ∃ t ∈ ts, t.pos = e.1 ∧ ((e.2 = 110 ∧ t.kind = 0) ∨ (t.kind ≠ 0 ∧ (e.2 = 111 ∨ e.2 = 112 ∨ e.2 = 113)))
theorem EndsOk.mem {ts : List Tk} (h : EndsOk ts) : hdT ts ∈ ts := by
  obtain ⟨us, e, rfl, -, -⟩ := h
  cases us with
  | nil => exact List.mem_cons_self ..
  | cons a us => exact List.mem_cons_self ..
theorem EndsOk.tail {ts : List Tk} (h : EndsOk ts) (hk : (hdT ts).kind ≠ 0) : EndsOk ts.tail := by
  obtain ⟨us, e, rfl, he, hu⟩ := h
  cases us with
  | nil => exact absurd he hk
  | cons a us => exact ⟨us, e, rfl, he, fun t ht => hu t (List.mem_cons_of_mem _ ht)⟩
theorem TokAt.up {ts r : List Tk} {p : Nat} (h : TokAt r p) (hs : r <:+ ts) : TokAt ts p := by
  obtain ⟨t, ht, h⟩ := h
  exact ⟨t, hs.subset ht, h⟩
theorem ErAt.up {ts r : List Tk} {e : Er} (h : ErAt r e) (hs : r <:+ ts) : ErAt ts e := by
  obtain ⟨t, ht, h⟩ := h
  exact ⟨t, hs.subset ht, h⟩
theorem hd_at {ts : List Tk} (h : EndsOk ts) (hk : (hdT ts).kind ≠ 0) : TokAt ts (hdT ts).pos := ⟨_, h.mem, hk, rfl⟩

/-- What a reading may come to. -/
def GdP {α : Type} (ts : List Tk) (x : Except Er (α × List Tk)) : Prop := (∀ v r, x = .ok (v, r) → EndsOk r ∧ r <:+ ts) ∧ ∀ e, x = .error e → e ≠ exP → ErAt ts e
theorem GdP.up {α : Type} {ts r : List Tk} {x : Except Er (α × List Tk)} (h : GdP r x) (hs : r <:+ ts) : GdP ts x :=
  ⟨fun v q hq => ⟨(h.1 v q hq).1, (h.1 v q hq).2.trans hs⟩, fun e he hn => (h.2 e he hn).up hs⟩
theorem gd_then {α β : Type} {ts : List Tk} {x : Except Er (α × List Tk)} {F : α × List Tk → Except Er (β × List Tk)} (h : GdP ts x) (hF : ∀ v r, x = .ok (v, r) → EndsOk r → GdP r (F (v, r))) : GdP ts (thenE x F) := by
  cases hx : x with
  | error e => exact ⟨fun v r hq => (by cases hq), fun e' he hn => (by cases he; exact h.2 e hx hn)⟩
  | ok v =>
    obtain ⟨v, r⟩ := v
    exact (hF v r hx (h.1 v r hx).1).up (h.1 v r hx).2
theorem gd_ok {α : Type} {ts r : List Tk} (v : α) (h : EndsOk r) (hs : r <:+ ts) : GdP ts (.ok (v, r)) :=
  ⟨fun _ _ hq => by cases hq; exact ⟨h, hs⟩, fun _ he => by cases he⟩
theorem gd_fail {α : Type} {ts : List Tk} (h : EndsOk ts) {e : Int} (he : e = 111 ∨ e = 112) : GdP (α := α) ts (failV ts e) := by
  refine ⟨fun _ _ hq => (by cases hq), fun x hx _ => ?_⟩
  cases hx
  refine ⟨_, h.mem, rfl, ?_⟩
  by_cases hk : (hdT ts).kind = 0
  · exact .inl ⟨if_pos hk, hk⟩
  · refine .inr ⟨hk, ?_⟩
    show (if _ then _ else _) = _ ∨ _
    rw [if_neg hk]
    rcases he with he | he
    · exact .inl he
    · exact .inr (.inl he)
theorem gd_opn {α : Type} {nest : Nat} {ts : List Tk} (h : EndsOk ts) (hk : (hdT ts).kind ≠ 0) {x : Except Er (α × List Tk)} (hx : GdP ts x) : GdP ts (opnV nest ts x) := by
  unfold opnV
  split
  · refine ⟨fun _ _ hq => (by cases hq), fun e he _ => ?_⟩
    cases he
    exact ⟨_, h.mem, rfl, .inr ⟨hk, .inr (.inr rfl)⟩⟩
  · exact hx
theorem isB_k0 {ts : List Tk} {x : List UInt8} (h : isB ts x = true) : (hdT ts).kind ≠ 0 := by have := isB_kind h; omega
/-- A sign or word that must be reached. -/
def mustU (x : List UInt8) (ts : List Tk) : Except Er (Unit × List Tk) := thenE (mustV x ts) fun r => .ok ((), r)
theorem must_u {β : Type} (x : List UInt8) (ts : List Tk) (F : List Tk → Except Er β) : thenE (mustV x ts) F = thenE (mustU x ts) fun q => F q.2 := by
  unfold mustU
  cases mustV x ts <;> rfl
theorem gd_must (x : List UInt8) {ts : List Tk} (h : EndsOk ts) : GdP ts (mustU x ts) := by
  unfold mustU mustV
  split
  · rename_i hb
    exact gd_ok _ (h.tail (isB_k0 hb)) (List.tail_suffix _)
  · exact gd_fail h (.inl rfl)
theorem gd_num {ts : List Tk} (h : EndsOk ts) : GdP ts (numT ts) := by
  unfold numT
  split
  · exact gd_ok _ (h.tail (by omega)) (List.tail_suffix _)
  · exact gd_fail h (.inl rfl)
theorem gd_addr (k : Nat) {ts : List Tk} (h : EndsOk ts) : GdP ts (addrT k ts) := by
  unfold addrT
  split
  · split
    · exact gd_ok _ (h.tail (by omega)) (List.tail_suffix _)
    · exact gd_fail h (.inr rfl)
  · split
    · split
      · exact gd_ok _ (h.tail (by omega)) (List.tail_suffix _)
      · exact gd_fail h (.inr rfl)
    · exact gd_fail h (.inl rfl)
theorem gd_tail {α : Type} {ts : List Tk} {x : Except Er (α × List Tk)} (h : GdP ts.tail x) : GdP ts x := h.up (List.tail_suffix _)
theorem gd_sidedB (of at' side : Nat) {ts : List Tk} (h : EndsOk ts) : GdP ts (sidedB of at' side ts) := by
  unfold sidedB
  split
  · rename_i hb
    exact gd_tail (gd_then (gd_num (h.tail (isB_k0 hb))) (fun v r _ hr => gd_ok _ hr (List.suffix_refl _)))
  · split
    · rename_i hb
      refine gd_tail (gd_then (gd_num (h.tail (isB_k0 hb))) (fun v r _ hr => ?_))
      simp only [must_u]
      exact gd_then (gd_must _ hr) (fun v r _ hr => gd_then (gd_num hr) (fun v r _ hr => gd_ok _ hr (List.suffix_refl _)))
    · split
      · rename_i hb
        exact gd_tail (gd_then (gd_addr _ (h.tail (isB_k0 hb.2))) (fun v r _ hr => gd_ok _ hr (List.suffix_refl _)))
      · split
        · rename_i hb
          refine gd_tail (gd_then (gd_addr _ (h.tail (isB_k0 hb.2))) (fun v r _ hr => ?_))
          simp only [must_u]
          exact gd_then (gd_must _ hr) (fun v r _ hr => gd_then (gd_num hr) (fun v r _ hr => gd_ok _ hr (List.suffix_refl _)))
        · exact gd_fail h (.inl rfl)
theorem side_ends {ts : List Tk} (h : EndsOk ts) : EndsOk (sideR ts) := by
  unfold sideR
  split
  · exact h
  · rename_i hs
    refine h.tail ?_
    unfold sideN at hs
    split at hs
    · rename_i hb; exact isB_k0 hb
    · split at hs
      · rename_i hb; exact isB_k0 hb
      · exact absurd rfl hs
theorem gd_sided (of at' : Nat) {ts : List Tk} (h : EndsOk ts) : GdP ts (sidedV of at' ts) := (gd_sidedB _ _ _ (side_ends h)).up (sideR_sfx ts)
theorem gd_word {ts : List Tk} (h : EndsOk ts) (hk : (hdT ts).kind ≠ 0) : GdP ts (wordF ts) := by
  have ht := h.tail hk
  unfold wordF
  split
  · exact gd_ok _ ht (List.tail_suffix _)
  · split
    · exact gd_ok _ ht (List.tail_suffix _)
    · split
      · exact gd_ok _ ht (List.tail_suffix _)
      · split
        · exact gd_tail (gd_then (gd_num ht) (fun v r _ hr => gd_ok _ hr (List.suffix_refl _)))
        · split
          · exact gd_sided _ _ h
          · exact gd_fail h (.inl rfl)
theorem gd_size {ts : List Tk} (h : EndsOk ts) : GdP ts (sizeF ts) := by
  unfold sizeF
  simp only [must_u]
  split
  · rename_i hb
    exact gd_tail (gd_then (gd_num (h.tail (isB_k0 hb))) (fun v r _ hr => gd_then (gd_must _ hr) (fun v r _ hr => gd_ok _ hr (List.suffix_refl _))))
  · exact gd_then (gd_must _ h) (fun v r _ hr => gd_ok _ hr (List.suffix_refl _))
def GdR (rec : Nat → List Tk → Out) : Prop := ∀ nest ts, EndsOk ts → GdP ts (rec nest ts)
theorem gd_name {rec : Nat → List Tk → Out} (hr : GdR rec) (nest of at' : Nat) {ts : List Tk} (h : EndsOk ts) : GdP ts (nameF rec nest of at' ts) := by
  unfold nameF
  split
  · rename_i hb
    exact gd_opn h (isB_k0 hb.1) (gd_tail (gd_then (hr _ _ (h.tail (isB_k0 hb.1))) (fun v r _ hq => gd_then (gd_size hq) (fun v r _ hr => gd_ok _ hr (List.suffix_refl _)))))
  · split
    · exact gd_fail h (.inl rfl)
    · split
      · rename_i hb
        exact gd_tail (gd_then (gd_num (h.tail (isB_k0 hb.2))) (fun v r _ hr => gd_ok _ hr (List.suffix_refl _)))
      · split
        · exact gd_sided _ _ h
        · exact gd_ok _ h (List.suffix_refl _)
theorem gd_part {rec : Nat → List Tk → Out} (hr : GdR rec) : GdR (partF rec) := by
  intro nest ts h
  unfold partF
  split
  · exact gd_ok _ (h.tail (by omega)) (List.tail_suffix _)
  · split
    · rename_i hb
      refine gd_opn h (isB_k0 hb) (gd_tail (gd_then (hr _ _ (h.tail (isB_k0 hb))) (fun v r _ hq => ?_)))
      simp only [must_u]
      exact gd_then (gd_must _ hq) (fun v r _ hr => gd_ok _ hr (List.suffix_refl _))
    · split
      · exact gd_fail h (.inl rfl)
      · rename_i hk
        have hk' : (hdT ts).kind ≠ 0 := by omega
        split
        · exact gd_tail (gd_name hr _ _ _ (h.tail hk'))
        · exact gd_word h hk'
theorem gd_loop {rec : List Tk → Out} (hr : ∀ ts, EndsOk ts → GdP ts (rec ts)) (k : Nat) : ∀ (f : Nat) (ns : List (Nd × Nat)) (ts : List Tk), EndsOk ts → GdP ts (loopG rec k f ns ts)
  | 0, ns, ts, h => gd_ok _ h (List.suffix_refl _)
  | f + 1, ns, ts, h => by
    unfold loopG
    split
    · exact gd_ok _ h (List.suffix_refl _)
    · rename_i nd hnd
      have hk : (hdT ts).kind ≠ 0 := by
        unfold opT at hnd
        split at hnd
        · omega
        · cases hnd
      refine gd_tail (gd_then (hr _ (h.tail hk)) (fun v r _ hq => ?_))
      split
      · exact gd_ok _ hq (List.suffix_refl _)
      · exact gd_loop hr k f _ _ hq
theorem gd_row : ∀ (f k : Nat), GdR (rowF f k)
  | 0, k => fun nest ts h => ⟨fun _ _ hq => (by cases hq), fun e he hn => (by cases he; exact absurd rfl hn)⟩
  | f + 1, k => fun nest ts h => by
    have ih := gd_row f
    rw [row_succ]
    unfold stepR
    split
    · rename_i hb
      have hk : (hdT ts).kind ≠ 0 := by rcases hb.2 with hb | hb <;> exact isB_k0 hb
      exact gd_opn h hk (gd_tail (gd_then (ih 3 _ _ (h.tail hk)) (fun v r _ hr => gd_ok _ hr (List.suffix_refl _))))
    · split
      · rename_i hb
        exact gd_opn h (isB_k0 hb.2) (gd_tail (gd_then (ih 11 _ _ (h.tail (isB_k0 hb.2))) (fun v r _ hr => gd_ok _ hr (List.suffix_refl _))))
      · split
        · exact ih (k + 1) _ _ h
        · split
          · exact gd_part (ih 1) _ _ h
          · exact gd_then (ih (k + 1) _ _ h) (fun v r _ hr => gd_loop (fun ts h => ih (k + 1) nest ts h) k _ _ _ hr)

end Go.Proofs.YtbdmpjnlgdahmaaGreatDoor

namespace Go.Proofs.YtbdmpjnlgdahmaaGreatDoor
open Go.RowKit
set_option maxRecDepth 100000

theorem hexL_le : ∀ (d : List UInt8) (v n : Nat), v ≤ 4294967295 → hexL v d = some n → n ≤ 4294967295
  | [], v, n, hv, h => by
    simp only [hexL, Option.some.injEq] at h
    omega
  | c :: r, v, n, hv, h => by
    unfold hexL at h
    split at h
    · split at h
      · cases h
      · exact hexL_le r _ n (by omega) h
    · cases h
theorem numV_le {s : List UInt8} {n : Nat} (h : numV s = some n) : n ≤ 4294967295 := by
  unfold numV at h
  split at h
  · exact hexL_le _ 0 n (by omega) h
  · unfold numberV at h
    split at h
    · cases h
    · exact numFrom_le 0 s n (by omega) h

theorem sign_len {s : List UInt8} (h : signV s ≠ []) : signV s = s.take (signV s).length ∧ (signV s).length ≤ s.length := by
  unfold signV at h ⊢
  by_cases h1 : s.take 2 ∈ twosL
  · rw [if_pos h1]
    have hl : (s.take 2).length = 2 := by
      simp only [twosL, List.mem_cons, List.not_mem_nil, or_false] at h1
      rcases h1 with e | e | e | e | e | e | e | e <;> rw [e] <;> rfl
    rw [hl]
    refine ⟨rfl, ?_⟩
    rw [List.length_take] at hl
    omega
  · rw [if_neg h1] at h ⊢
    by_cases h2 : s.head?.all (onesL.contains ·) = true
    · rw [if_pos h2] at h ⊢
      cases s with
      | nil => simp at h
      | cons c r => exact ⟨by simp, by simp⟩
    · rw [if_neg h2] at h
      exact absurd rfl h

/-- What a token is. -/
theorem tok_ok {s : List UInt8} {q n : Nat} {t : List UInt8} (h : tokV s = .ok (q, t, n)) : t ≠ [] ∧ t = s.take t.length ∧ t.length ≤ s.length ∧ 1 ≤ q ∧ q ≤ 5 ∧ n ≤ 4294967295 := by
  unfold tokV at h
  split at h
  · rename_i hc
    simp only [Except.ok.injEq, Prod.mk.injEq] at h
    obtain ⟨rfl, rfl, rfl⟩ := h
    refine ⟨fun e => ?_, takeWhile_pre _ _, takeWhile_len _ _, by omega, by omega, by omega⟩
    rw [e] at hc
    simp at hc
  · split at h
    · rename_i hd
      have hne : (s.takeWhile wordB) ≠ [] := by
        cases s with
        | nil => simp at hd
        | cons c r =>
          have hc : isDig c = true := by simpa using hd
          obtain ⟨u, e⟩ := takeWhile_head wordB c r (by simp [wordB, hc])
          rw [e]
          simp
      split at h
      · rename_i h46
        simp only [Except.ok.injEq, Prod.mk.injEq] at h
        obtain ⟨rfl, rfl, rfl⟩ := h
        refine ⟨fun e => ?_, takeWhile_pre _ _, takeWhile_len _ _, by omega, by omega, by omega⟩
        rw [e] at h46
        simp at h46
      · split at h
        · cases h
        · rename_i m hm
          simp only [Except.ok.injEq, Prod.mk.injEq] at h
          obtain ⟨rfl, rfl, rfl⟩ := h
          exact ⟨hne, takeWhile_pre _ _, takeWhile_len _ _, by omega, by omega, numV_le hm⟩
    · split at h
      · rename_i hl
        simp only [Except.ok.injEq, Prod.mk.injEq] at h
        obtain ⟨rfl, rfl, rfl⟩ := h
        refine ⟨?_, takeWhile_pre _ _, takeWhile_len _ _, by omega, by omega, by omega⟩
        cases s with
        | nil => simp at hl
        | cons c r =>
          have hc : letB c = true := by simpa using hl
          obtain ⟨u, e⟩ := takeWhile_head wordB c r (by simp [wordB, hc])
          rw [e]
          simp
      · split at h
        · cases h
        · rename_i hs
          simp only [Except.ok.injEq, Prod.mk.injEq] at h
          obtain ⟨rfl, rfl, rfl⟩ := h
          exact ⟨hs, (sign_len hs).1, (sign_len hs).2, by omega, by omega, by omega⟩

theorem count_zero {l : List UInt8} {p : UInt8 → Bool} (hp : p 58 = false) (h : ∀ x ∈ l, p x = true) (r : UInt8 → Bool) : (l.takeWhile r).count 58 = 0 := by
  rw [List.count_eq_zero]
  intro hm
  have h1 : (58 : UInt8) ∈ l := (List.takeWhile_sublist r).subset hm
  have := h 58 h1
  rw [hp] at this
  cases this
theorem head_take {s : List UInt8} {n : Nat} (hn : 0 < n) : (s.take n).head? = s.head? := by
  cases s with
  | nil => simp
  | cons c r =>
    cases n with
    | zero => omega
    | succ n => rfl

theorem sign_alone {s : List UInt8} (h : signV s ≠ []) : signV (signV s) = signV s ∧ (signV s).head? = s.head? := by
  have hl := sign_len h
  refine ⟨?_, by rw [hl.1]; exact head_take (by rw [← List.length_pos_iff] at h; exact h)⟩
  unfold signV at h ⊢
  by_cases h1 : s.take 2 ∈ twosL
  · rw [if_pos h1, List.take_take, Nat.min_self, if_pos h1]
  · rw [if_neg h1] at h ⊢
    by_cases h2 : s.head?.all (onesL.contains ·) = true
    · rw [if_pos h2] at h ⊢
      cases s with
      | nil => simp at h
      | cons c r =>
        have hc : ([c] : List UInt8).take 2 ∉ twosL := by simp [twosL]
        show (if [c].take 2 ∈ twosL then [c].take 2 else if ([c] : List UInt8).head?.all (onesL.contains ·) = true then [c].take 1 else []) = [c]
        rw [if_neg hc, if_pos (show ([c] : List UInt8).head?.all (onesL.contains ·) = true from h2)]
        rfl
    · rw [if_neg h2] at h
      exact absurd rfl h

theorem takeWhile_take {α : Type} (p : α → Bool) : ∀ (l : List α) (n : Nat), (l.take n).takeWhile p = (l.takeWhile p).take ((l.take n).takeWhile p).length
  | [], n => by simp
  | x :: r, 0 => by simp
  | x :: r, n + 1 => by
    rw [List.take_succ_cons]
    by_cases h : p x = true
    · rw [List.takeWhile_cons_of_pos h, List.takeWhile_cons_of_pos h, List.length_cons, List.take_succ_cons, ← takeWhile_take p r n]
    · rw [List.takeWhile_cons_of_neg h]
      simp

/-- P10.2: a token's text by itself is that token. -/
theorem tok_alone {s : List UInt8} {q n : Nat} {t : List UInt8} (h : tokV s = .ok (q, t, n)) : tokV t = .ok (q, t, n) := by
  have hok := tok_ok h
  unfold tokV at h
  split at h
  · rename_i hc
    simp only [Except.ok.injEq, Prod.mk.injEq] at h
    obtain ⟨rfl, rfl, rfl⟩ := h
    unfold tokV
    rw [takeWhile_twice, if_pos hc]
  · rename_i hc
    split at h
    · rename_i hd
      split at h
      · rename_i h46
        simp only [Except.ok.injEq, Prod.mk.injEq] at h
        obtain ⟨rfl, rfl, rfl⟩ := h
        have hh : (s.takeWhile quadB).head? = s.head? := by rw [hok.2.1]; exact head_take (List.length_pos_iff.2 hok.1)
        unfold tokV
        rw [count_zero (l := s.takeWhile quadB) (p := quadB) (by decide) (fun x hx => takeWhile_mem _ _ hx) sixB, if_neg (by omega), hh, if_pos hd, takeWhile_twice, if_pos h46]
      · split at h
        · cases h
        · rename_i h46 m hm
          simp only [Except.ok.injEq, Prod.mk.injEq] at h
          obtain ⟨rfl, rfl, rfl⟩ := h
          have hh : (s.takeWhile wordB).head? = s.head? := by rw [hok.2.1]; exact head_take (List.length_pos_iff.2 hok.1)
          have h46' : ¬ 46 ∈ (s.takeWhile wordB).takeWhile quadB := fun hm => by
            have h1 := (List.takeWhile_sublist quadB).subset hm
            have := takeWhile_mem wordB s h1
            revert this
            decide
          unfold tokV
          rw [count_zero (l := s.takeWhile wordB) (p := wordB) (by decide) (fun x hx => takeWhile_mem _ _ hx) sixB, if_neg (by omega), hh, if_pos hd, if_neg h46', takeWhile_twice, hm]
    · rename_i hd
      split at h
      · rename_i hl
        simp only [Except.ok.injEq, Prod.mk.injEq] at h
        obtain ⟨rfl, rfl, rfl⟩ := h
        have hh : (s.takeWhile wordB).head? = s.head? := by rw [hok.2.1]; exact head_take (List.length_pos_iff.2 hok.1)
        unfold tokV
        rw [count_zero (l := s.takeWhile wordB) (p := wordB) (by decide) (fun x hx => takeWhile_mem _ _ hx) sixB, if_neg (by omega), hh, if_neg hd, if_pos hl, takeWhile_twice]
      · rename_i hl
        split at h
        · cases h
        · rename_i hs
          simp only [Except.ok.injEq, Prod.mk.injEq] at h
          obtain ⟨rfl, rfl, rfl⟩ := h
          obtain ⟨e1, e2⟩ := sign_alone hs
          have hc' : ¬ 2 ≤ ((signV s).takeWhile sixB).count 58 := by
            have hsub : (signV s).takeWhile sixB = (s.takeWhile sixB).take ((signV s).takeWhile sixB).length := by
              have := sign_len hs
              rw [this.1]
              exact takeWhile_take sixB s _
            intro hge
            apply hc
            rw [hsub] at hge
            exact Nat.le_trans hge ((List.take_sublist _ _).count_le 58)
          unfold tokV
          rw [if_neg hc', e2, if_neg hd, if_neg hl, e1, if_neg hs]

end Go.Proofs.YtbdmpjnlgdahmaaGreatDoor

namespace Go.Proofs.YtbdmpjnlgdahmaaGreatDoor
open Go.RowKit
set_option maxRecDepth 100000

theorem blank_nat (c : UInt8) : blankB c = (decide (c.toNat = 32) || decide (c.toNat = 9) || decide (c.toNat = 10) || decide (c.toNat = 13)) := by
  have : ∀ d : Fin 256, blankB (UInt8.ofNat d.val) = (decide ((UInt8.ofNat d.val).toNat = 32) || decide ((UInt8.ofNat d.val).toNat = 9) || decide ((UInt8.ofNat d.val).toNat = 10) || decide ((UInt8.ofNat d.val).toNat = 13)) := by decide
  have k := this ⟨c.toNat, c.toNat_lt⟩
  simpa using k

set_option maxHeartbeats 1000000 in
theorem refblank_any (c : UInt8) (w : World) : Calls Tryz.prog 37 #[.int .u8 (c.toNat : Int)] w fun e w' => e = .returned (.bool (blankB c)) ∧ w = w' := by
  rw [blank_nat]
  generalize c.toNat = n
  by_cases h1 : n = 32
  · subst h1
    go_enter Tryz.func37, Tryz.ntmps37
    go_wp2
    go_ret
    exact ⟨rfl, rfl⟩
  · by_cases h2 : n = 9
    · subst h2
      go_enter Tryz.func37, Tryz.ntmps37
      go_wp2
      go_ret
      exact ⟨rfl, rfl⟩
    · by_cases h3 : n = 10
      · subst h3
        go_enter Tryz.func37, Tryz.ntmps37
        go_wp2
        go_ret
        exact ⟨rfl, rfl⟩
      · by_cases h4 : n = 13
        · subst h4
          go_enter Tryz.func37, Tryz.ntmps37
          go_wp2
          go_ret
          exact ⟨rfl, rfl⟩
        · have e1 : ((n : Int) == 32) = false := by rw [beq_eq_false_iff_ne]; omega
          have e2 : ((n : Int) == 9) = false := by rw [beq_eq_false_iff_ne]; omega
          have e3 : ((n : Int) == 10) = false := by rw [beq_eq_false_iff_ne]; omega
          have e4 : ((n : Int) == 13) = false := by rw [beq_eq_false_iff_ne]; omega
          rw [decide_eq_false h1, decide_eq_false h2, decide_eq_false h3, decide_eq_false h4]
          clear h1 h2 h3 h4
          go_enter Tryz.func37, Tryz.ntmps37
          go_wp2
          go_ret
          exact ⟨rfl, rfl⟩

theorem refdig_any (c : UInt8) (w : World) : Calls Tryz.prog 59 #[.int .u8 (c.toNat : Int)] w fun e w' => e = .returned (.bool (isDig c)) ∧ w = w' := by
  unfold isDig
  generalize c.toNat = n
  by_cases h1 : 48 ≤ n
  · have e1 : (48 : Int) ≤ (n : Int) := by omega
    by_cases h2 : n ≤ 57
    · have e2 : (n : Int) ≤ 57 := by omega
      rw [decide_eq_true h1, decide_eq_true h2]
      go_enter Tryz.func59, Tryz.ntmps59
      go_wp2
      go_ret
      exact ⟨rfl, rfl⟩
    · have e2 : ¬ (n : Int) ≤ 57 := by omega
      rw [decide_eq_true h1, decide_eq_false h2]
      go_enter Tryz.func59, Tryz.ntmps59
      go_wp2
      go_ret
      exact ⟨rfl, rfl⟩
  · have e1 : ¬ (48 : Int) ≤ (n : Int) := by omega
    rw [decide_eq_false h1]
    go_enter Tryz.func59, Tryz.ntmps59
    go_wp2
    go_ret
    exact ⟨rfl, rfl⟩

theorem reflet_any (c : UInt8) (w : World) : Calls Tryz.prog 61 #[.int .u8 (c.toNat : Int)] w fun e w' => e = .returned (.bool (letB c)) ∧ w = w' := by
  unfold letB
  generalize c.toNat = n
  by_cases h1 : 97 ≤ n
  · have e1 : (97 : Int) ≤ (n : Int) := by omega
    by_cases h2 : n ≤ 122
    · have e2 : (n : Int) ≤ 122 := by omega
      rw [decide_eq_true h1, decide_eq_true h2]
      go_enter Tryz.func61, Tryz.ntmps61
      go_wp2
      go_ret
      exact ⟨rfl, rfl⟩
    · have e2 : ¬ (n : Int) ≤ 122 := by omega
      rw [decide_eq_true h1, decide_eq_false h2]
      go_enter Tryz.func61, Tryz.ntmps61
      go_wp2
      go_ret
      exact ⟨rfl, rfl⟩
  · have e1 : ¬ (97 : Int) ≤ (n : Int) := by omega
    rw [decide_eq_false h1]
    go_enter Tryz.func61, Tryz.ntmps61
    go_wp2
    go_ret
    exact ⟨rfl, rfl⟩

/-- The bytes of a kind of run. -/
def kindB (k : Nat) : UInt8 → Bool := if k = 1 then sixB else if k = 2 then quadB else wordB
theorem eq_nat (c : UInt8) (k : Nat) (hk : k < 256) : (c == UInt8.ofNat k) = decide (c.toNat = k) := by
  rw [Bool.eq_iff_iff, beq_iff_eq, decide_eq_true_eq]
  constructor
  · rintro rfl; simp; omega
  · intro h; rw [← h]; simp

set_option maxHeartbeats 1000000 in
theorem refin_any (c : UInt8) (k : Nat) (hk : k = 1 ∨ k = 2 ∨ k = 3) (w : World) : Calls Tryz.prog 82 #[.int .u8 (c.toNat : Int), .int .i64 (k : Int)] w fun e w' => e = .returned (.bool (kindB k c)) ∧ w = w' := by
  rcases hk with rfl | rfl | rfl
  · have e : kindB 1 c = (digOk c.toNat || decide (c.toNat = 58)) := by show (digOk c.toNat || c == 58) = _; rw [show (c == 58) = _ from eq_nat c 58 (by omega)]
    rw [e]
    have CD := refdigit_any c.toNat w c.toNat_lt
    generalize c.toNat = n at *
    have hn : (0 : Int) ≤ (digV n : Int) := by omega
    cases hd : digOk n with
    | true =>
      rw [hd, if_pos rfl] at CD
      go_enter Tryz.func82, Tryz.ntmps82
      go_wp2_with fail
      refine CD.mono ?_
      rintro e w1 ⟨rfl, rfl⟩
      go_wp2
      go_ret
      exact ⟨rfl, rfl⟩
    | false =>
      rw [hd, if_neg (by simp)] at CD
      by_cases h58 : n = 58
      · subst h58
        go_enter Tryz.func82, Tryz.ntmps82
        go_wp2_with fail
        refine CD.mono ?_
        rintro e w1 ⟨rfl, rfl⟩
        go_wp2
        go_ret
        exact ⟨rfl, rfl⟩
      · have e1 : ((n : Int) == 58) = false := by rw [beq_eq_false_iff_ne]; omega
        rw [decide_eq_false h58]
        go_enter Tryz.func82, Tryz.ntmps82
        go_wp2_with fail
        refine CD.mono ?_
        rintro e w1 ⟨rfl, rfl⟩
        go_wp2
        go_ret
        exact ⟨rfl, rfl⟩
  · have e : kindB 2 c = (isDig c || decide (c.toNat = 46)) := by show (isDig c || c == 46) = _; rw [show (c == 46) = _ from eq_nat c 46 (by omega)]
    rw [e]
    have CD := refdig_any c w
    generalize c.toNat = n at *
    cases hd : isDig c with
    | true =>
      rw [hd] at CD
      go_enter Tryz.func82, Tryz.ntmps82
      go_wp2_with fail
      refine CD.mono ?_
      rintro e w1 ⟨rfl, rfl⟩
      go_wp2
      go_ret
      exact ⟨rfl, rfl⟩
    | false =>
      rw [hd] at CD
      by_cases h58 : n = 46
      · subst h58
        go_enter Tryz.func82, Tryz.ntmps82
        go_wp2_with fail
        refine CD.mono ?_
        rintro e w1 ⟨rfl, rfl⟩
        go_wp2
        go_ret
        exact ⟨rfl, rfl⟩
      · have e1 : ((n : Int) == 46) = false := by rw [beq_eq_false_iff_ne]; omega
        rw [decide_eq_false h58]
        go_enter Tryz.func82, Tryz.ntmps82
        go_wp2_with fail
        refine CD.mono ?_
        rintro e w1 ⟨rfl, rfl⟩
        go_wp2
        go_ret
        exact ⟨rfl, rfl⟩
  · have e : kindB 3 c = (isDig c || letB c) := rfl
    rw [e]
    have CD := refdig_any c w
    have CL := reflet_any c w
    generalize c.toNat = n at *
    cases hd : isDig c with
    | true =>
      rw [hd] at CD
      go_enter Tryz.func82, Tryz.ntmps82
      go_wp2_with fail
      refine CD.mono ?_
      rintro e w1 ⟨rfl, rfl⟩
      go_wp2
      go_ret
      exact ⟨rfl, rfl⟩
    | false =>
      rw [hd] at CD
      go_enter Tryz.func82, Tryz.ntmps82
      go_wp2_with fail
      refine CD.mono ?_
      rintro e w1 ⟨rfl, rfl⟩
      go_wp2_with fail
      refine CL.mono ?_
      rintro e w1 ⟨rfl, rfl⟩
      go_wp2
      go_ret
      exact ⟨rfl, rfl⟩

end Go.Proofs.YtbdmpjnlgdahmaaGreatDoor
