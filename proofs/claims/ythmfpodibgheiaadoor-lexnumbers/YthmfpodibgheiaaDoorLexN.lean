/-
  Numbers as texts in both bases, and sources made of them: no Go text here.
-/
import Derived.Test.YthmfpodibgheiaaDoorLexK
namespace Go.Proofs.YthmfpodibgheiaaDoor
open Go.RowKit
set_option maxRecDepth 100000

/-- A digit of base 16. -/
def hxd (n : Nat) : UInt8 := UInt8.ofNat (if n < 10 then 48 + n else 87 + n)
theorem hxd_ok {n : Nat} (h : n < 16) : digOk (hxd n).toNat = true ∧ digV (hxd n).toNat = n ∧ wordB (hxd n) = true := by
  have : n = 0 ∨ n = 1 ∨ n = 2 ∨ n = 3 ∨ n = 4 ∨ n = 5 ∨ n = 6 ∨ n = 7 ∨ n = 8 ∨ n = 9 ∨ n = 10 ∨ n = 11 ∨ n = 12 ∨ n = 13 ∨ n = 14 ∨ n = 15 := by omega
  rcases this with rfl | rfl | rfl | rfl | rfl | rfl | rfl | rfl | rfl | rfl | rfl | rfl | rfl | rfl | rfl | rfl <;> decide
def hxF : Nat → Nat → List UInt8
  | 0, _ => []
  | f + 1, n => if n < 16 then [hxd n] else hxF f (n / 16) ++ [hxd (n % 16)]
def hx (n : Nat) : List UInt8 := hxF 16 n
def hxZ (n : Nat) : List UInt8 := if n = 0 then [] else hx n
theorem hxF_more (f n : Nat) (h : n < 16 ^ f) (hf : 0 < f) : hxF (f + 1) n = hxF f n := by
  induction f generalizing n with
  | zero => omega
  | succ f ih =>
    by_cases h10 : n < 16
    · simp [hxF, h10]
    · have hf0 : 0 < f := by
        rcases Nat.eq_zero_or_pos f with rfl | h0
        · simp at h; omega
        · exact h0
      rw [hxF, if_neg h10, ih (n / 16) (by rw [Nat.pow_succ] at h; omega) hf0, hxF, if_neg h10]
theorem hxF_len (f n : Nat) : (hxF f n).length ≤ f := by
  induction f generalizing n with
  | zero => simp [hxF]
  | succ f ih =>
    rw [hxF]
    split
    · simp
    · have := ih (n / 16); simp; omega
theorem hx_len (n : Nat) : (hx n).length ≤ 16 := hxF_len 16 n
theorem hx_step (n : Nat) (h : n < 16 ^ 16) : hx n = hxZ (n / 16) ++ [hxd (n % 16)] := by
  by_cases h10 : n < 16
  · rw [show n / 16 = 0 by omega, show n % 16 = n by omega]
    simp [hxZ, hx, hxF, h10]
  · have h0 : n / 16 ≠ 0 := by omega
    rw [hxZ, if_neg h0]
    show hxF (15 + 1) n = hxF 16 (n / 16) ++ _
    rw [hxF, if_neg h10, hxF_more 15 (n / 16) (by omega) (by omega)]
theorem hxZ_step (n : Nat) (h0 : 0 < n) (h : n < 16 ^ 16) : hxZ n = hxZ (n / 16) ++ [hxd (n % 16)] := by
  rw [← hx_step n h, hxZ, if_neg (by omega)]
theorem hx_pos (n : Nat) (h0 : 0 < n) : hx n = hxZ n := by rw [hxZ, if_neg (by omega)]
theorem hx_zero : hx 0 = [48] := by decide
theorem hx_ne (n : Nat) (h : n < 16 ^ 16) : hx n ≠ [] := by rw [hx_step n h]; simp
theorem hx_word (n : Nat) (h : n < 16 ^ 16) : ∀ c ∈ hx n, wordB c = true ∧ digOk c.toNat = true := by
  have key : ∀ n, n < 16 ^ 16 → ∀ c ∈ hxZ n, wordB c = true ∧ digOk c.toNat = true := by
    intro n
    induction n using Nat.strongRecOn with
    | _ n ih =>
      intro h c hc
      by_cases h0 : n = 0
      · subst h0; simp [hxZ] at hc
      · rw [hxZ_step n (by omega) h] at hc
        rcases List.mem_append.1 hc with hc | hc
        · exact ih (n / 16) (by omega) (by omega) c hc
        · simp only [List.mem_singleton] at hc
          subst hc
          have := hxd_ok (n := n % 16) (by omega)
          exact ⟨this.2.2, this.1⟩
  by_cases h0 : n = 0
  · subst h0; rw [hx_zero]; decide
  · rw [hx_pos n (by omega)]; exact key n h

theorem hexFrom_snoc (v : Nat) (a : List UInt8) (c : UInt8) : hexFrom v (a ++ [c]) = (hexFrom v a).bind fun u => hexFrom u [c] := by
  induction a generalizing v with
  | nil => rfl
  | cons x a ih =>
    simp only [List.cons_append, hexFrom]
    split
    · split
      · rfl
      · exact ih _
    · rfl
theorem hexFrom_hxZ (n : Nat) (h : n < 16 ^ 16) : hexFrom 0 (hxZ n) = if n ≤ 4294967295 then some n else none := by
  induction n using Nat.strongRecOn with
  | _ n ih =>
    by_cases h0 : n = 0
    · subst h0; rfl
    · rw [hxZ_step n (by omega) h, hexFrom_snoc, ih (n / 16) (by omega) (by omega)]
      obtain ⟨e1, e2, -⟩ := hxd_ok (n := n % 16) (by omega)
      have hv : 16 * (n / 16) + n % 16 = n := by omega
      by_cases hm : n / 16 ≤ 4294967295
      · rw [if_pos hm]
        simp only [Option.bind_some, hexFrom, e1, e2, hv, if_true]
        by_cases hn : n ≤ 4294967295
        · rw [if_neg (by omega), if_pos hn]
        · rw [if_pos (by omega), if_neg hn]
      · rw [if_neg hm, if_neg (by omega)]
        rfl
theorem hexFrom_hx (n : Nat) (h : n < 16 ^ 16) : hexFrom 0 (hx n) = if n ≤ 4294967295 then some n else none := by
  by_cases h0 : n = 0
  · subst h0; rw [hx_zero]; decide
  · rw [hx_pos n (by omega)]; exact hexFrom_hxZ n h
theorem hexFrom_bad (v : Nat) (a : List UInt8) (c : UInt8) (hc : digOk c.toNat = false) : hexFrom v (a ++ [c]) = none := by
  rw [hexFrom_snoc]
  cases hexFrom v a with
  | none => rfl
  | some u => simp [hexFrom, hc]
theorem numFrom_bad (most v : Nat) (a : List UInt8) (c : UInt8) (hc : isDig c = false) : numFrom most v (a ++ [c]) = none := by
  rw [numFrom_snoc]
  cases numFrom most v a with
  | none => rfl
  | some u => simp [numFrom, hc]
theorem numFrom_big (most n : Nat) (hn : most < n) (h20 : n < 10 ^ 20) : numFrom most 0 (decZ n) = none := by
  induction n using Nat.strongRecOn with
  | _ n ih =>
    rw [decZ_step n (by omega) h20, numFrom_snoc]
    by_cases hm : most < n / 10
    · rw [ih (n / 10) (by omega) hm (by omega)]
      rfl
    · rw [numFrom_decZ most (n / 10) (by omega) (by omega)]
      have h10 : n % 10 < 10 := by omega
      have e := dg_nat h10
      have hv : 10 * (n / 10) + ((dg (n % 10)).toNat - 48) = n := by omega
      simp only [Option.bind_some, numFrom, dg_dig h10, hv]
      simp [hn]

/-- A text of digits is no text of base 16. -/
theorem numV_digs {s : List UInt8} (h : s.getD 1 0 ≠ 120) : numV s = numberV 4294967295 s := by
  unfold numV
  rw [if_neg (fun h' => h h'.2.2)]
theorem digs_not {s : List UInt8} (h : ∀ c ∈ s, isDig c = true) : s.getD 1 0 ≠ 120 := by
  intro he
  match s, h, he with
  | [], _, he => simp at he
  | [_], _, he => simp at he
  | a :: b :: r, h, he =>
    have hb := h b (by simp)
    simp at he
    subst he
    revert hb
    decide
theorem numV_dec (n : Nat) (hn : n ≤ 4294967295) : numV (dec n) = some n := by
  rw [numV_digs (digs_not (dec_dig n (by omega))), numberV_dec _ n hn (by omega)]
theorem numV_big (n : Nat) (hn : 4294967295 < n) (h20 : n < 10 ^ 20) : numV (dec n) = none := by
  rw [numV_digs (digs_not (dec_dig n h20)), dec_pos n (by omega), numberV, numFrom_big _ n hn h20]
  split <;> rfl
theorem numV_nought (n : Nat) (hn : n ≤ 4294967295) : numV (48 :: dec n) = none := by
  have hd := dec_dig n (by omega)
  rw [numV_digs (digs_not (s := 48 :: dec n) (by
    intro c hc
    rcases List.mem_cons.1 hc with rfl | hc
    · decide
    · exact hd c hc)), numberV, if_pos (.inr ⟨by
      have := dec_ne n (by omega)
      cases h : dec n with
      | nil => exact absurd h this
      | cons => simp, rfl⟩)]
theorem numV_decK (n : Nat) (hn : n ≤ 4294967295) : numV (dec n ++ [107]) = none := by
  have hd := dec_dig n (by omega)
  have hne : (dec n ++ [107]).getD 1 0 ≠ 120 := by
    cases h : dec n with
    | nil => simp
    | cons a r =>
      cases r with
      | nil => simp
      | cons b r =>
        have hb := hd b (by rw [h]; simp)
        intro he
        simp at he
        subst he
        revert hb
        decide
  rw [numV_digs hne, numberV]
  split
  · rfl
  · exact numFrom_bad _ _ _ _ (by decide)
theorem numV_hexs (t : List UInt8) (h : t ≠ []) : numV (48 :: 120 :: t) = hexFrom 0 t := by
  unfold numV
  rw [if_pos ⟨by cases t with
    | nil => exact absurd rfl h
    | cons => simp, rfl, rfl⟩]
  rfl
theorem numV_hx (n : Nat) (hn : n ≤ 4294967295) : numV (48 :: 120 :: hx n) = some n := by
  rw [numV_hexs _ (hx_ne n (by omega)), hexFrom_hx n (by omega), if_pos hn]
theorem numV_hxBig (n : Nat) (hn : 4294967295 < n) (h : n < 16 ^ 16) : numV (48 :: 120 :: hx n) = none := by
  rw [numV_hexs _ (hx_ne n h), hexFrom_hx n h, if_neg (by omega)]
theorem numV_hxG (n : Nat) : numV (48 :: 120 :: (hx n ++ [103])) = none := by
  rw [numV_hexs _ (by simp), hexFrom_bad _ _ _ (by decide)]
theorem numV_0x : numV [48, 120] = none := by decide

/-- The token of a text of letters and digits that begins with a digit. -/
theorem tok_num {b r : List UInt8} (hw : ∀ c ∈ b, wordB c = true) (hh : b.head?.any isDig = true) (hr : endsB r) :
    tokV (b ++ r) = match numV b with
      | none => .error 102
      | some n => .ok (1, b, n) := by
  have e6 : (b ++ r).takeWhile sixB = b.takeWhile sixB := takeWhile_end _ _ _ (by
    rcases hr with rfl | ⟨c, r', rfl, hc⟩
    · exact .inl rfl
    · exact .inr ⟨c, r', rfl, (blank_not hc).1⟩)
  have e4 : (b ++ r).takeWhile quadB = b.takeWhile quadB := takeWhile_end _ _ _ (by
    rcases hr with rfl | ⟨c, r', rfl, hc⟩
    · exact .inl rfl
    · exact .inr ⟨c, r', rfl, (blank_not hc).2.1⟩)
  have ew : (b ++ r).takeWhile wordB = b := by
    rw [takeWhile_end _ _ _ (by
      rcases hr with rfl | ⟨c, r', rfl, hc⟩
      · exact .inl rfl
      · exact .inr ⟨c, r', rfl, (blank_not hc).2.2.1⟩), takeWhile_all _ _ hw]
  have eh : (b ++ r).head? = b.head? := by
    cases b with
    | nil => simp at hh
    | cons => rfl
  unfold tokV
  rw [e6, e4, ew, eh, if_neg (by rw [count_zero (p := wordB) (by decide) hw]; omega), if_pos hh, if_neg (by
    intro h46
    rw [takeWhile_pre] at h46
    have := hw 46 (List.mem_of_mem_take h46)
    revert this
    decide)]
  cases numV b <;> rfl
theorem head_not {b : List UInt8} (hh : b.head?.any isDig = true) : ∃ c r, b = c :: r ∧ blankB c = false := by
  cases b with
  | nil => simp at hh
  | cons c r =>
    refine ⟨c, r, rfl, ?_⟩
    cases hb : blankB c with
    | false => rfl
    | true =>
      have := (blank_not hb).2.2.2.1
      simp at hh
      rw [this] at hh
      cases hh
/-- A number that is refused, behind 'ip ['. -/
theorem lex_bad {b : List UInt8} (hw : ∀ c ∈ b, wordB c = true) (hh : b.head?.any isDig = true) (hn : numV b = none) (hl : b.length ≤ 100) :
    lexV (105 :: 112 :: 32 :: 91 :: b) = .error (4, 102) := by
  have hb := tok_num hw hh (.inl rfl)
  rw [List.append_nil, hn] at hb
  obtain ⟨c, r, rfl, hc⟩ := head_not hh
  have t1 : tokV (105 :: 112 :: 32 :: 91 :: c :: r) = .ok (2, [105, 112], 0) := by
    simp [tokV, sixB, digOk, isDig, letB, wordB]
  have t2 : tokV (91 :: c :: r) = .ok (5, [91], 0) := by
    simp [tokV, sixB, digOk, isDig, letB, signV, twosL, onesL]
  unfold lexV
  rw [if_neg (by simp at hl ⊢; omega), lexR_tok 0 (by decide) t1]
  simp only [List.length_cons, List.length_nil, List.drop_succ_cons, List.drop_zero]
  rw [lexR_blank _ _ (by decide), lexR_tok _ (by decide) t2]
  simp only [List.length_cons, List.length_nil, List.drop_succ_cons, List.drop_zero]
  rw [lexR_err _ hc hb]
/-- Two numbers that are one, behind '('. -/
theorem lex_two {a b : List UInt8} {n m : Nat} (hwa : ∀ c ∈ a, wordB c = true) (hha : a.head?.any isDig = true) (hna : numV a = some n)
    (hwb : ∀ c ∈ b, wordB c = true) (hhb : b.head?.any isDig = true) (hnb : numV b = some m) (hl : a.length + b.length ≤ 100) :
    lexV (40 :: (a ++ 32 :: b)) = .ok [⟨5, 0, [40], 0⟩, ⟨1, 1, a, n⟩, ⟨1, a.length + 2, b, m⟩, ⟨0, a.length + b.length + 2, [], 0⟩] := by
  have ha := tok_num hwa hha (r := 32 :: b) (.inr ⟨32, b, rfl, by decide⟩)
  have hb := tok_num hwb hhb (.inl rfl)
  rw [List.append_nil, hnb] at hb
  rw [hna] at ha
  obtain ⟨c, r, rfl, hc⟩ := head_not hha
  obtain ⟨d, q, rfl, hd⟩ := head_not hhb
  have t1 : tokV (40 :: (c :: r ++ 32 :: d :: q)) = .ok (5, [40], 0) := by
    simp [tokV, sixB, digOk, isDig, letB, signV, twosL, onesL]
  unfold lexV
  rw [if_neg (by simp at hl ⊢; omega), lexR_tok 0 (by decide) t1]
  simp only [List.length_cons, List.length_nil, List.drop_succ_cons, List.drop_zero]
  rw [List.cons_append] at ha ⊢
  rw [lexR_tok _ hc ha]
  have e1 : (c :: (r ++ 32 :: d :: q)).drop (c :: r).length = 32 :: d :: q := by
    rw [← List.cons_append, List.drop_left]
  rw [e1, lexR_blank _ _ (by decide), lexR_tok _ hd hb]
  have e2 : (d :: q).drop (d :: q).length = [] := by simp
  rw [e2, lexR_nil]
  simp
  omega

end Go.Proofs.YthmfpodibgheiaaDoor
