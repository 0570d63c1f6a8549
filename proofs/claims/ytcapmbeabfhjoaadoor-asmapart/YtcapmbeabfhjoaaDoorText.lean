/-
  Texts: digits, numbers in a text, and that an instruction's text says which it is. No Go text here.
-/
import Derived.Test.YtcapmbeabfhjoaaDoorLineS
namespace Go.Proofs.YtcapmbeabfhjoaaDoor
open Go.RowKit
set_option maxRecDepth 100000

def isDig (c : UInt8) : Bool := decide (48 ≤ c.toNat) && decide (c.toNat ≤ 57)

theorem dg_dig {n : Nat} (h : n < 10) : isDig (dg n) = true := by
  have := dg_nat h
  simp [isDig, this]; omega

/-- What Number says: the number that digits say behind v; none: there is another letter, or it is too great. -/
def numFrom (most : Nat) : Nat → List UInt8 → Option Nat
  | v, [] => some v
  | v, c :: r => if isDig c = true then (if most < 10 * v + (c.toNat - 48) then none else numFrom most (10 * v + (c.toNat - 48)) r) else none
def numberV (most : Nat) (s : List UInt8) : Option Nat := if s = [] ∨ (1 < s.length ∧ s.head? = some 48) then none else numFrom most 0 s

theorem numFrom_snoc (most v : Nat) (a : List UInt8) (c : UInt8) : numFrom most v (a ++ [c]) = (numFrom most v a).bind fun u => numFrom most u [c] := by
  induction a generalizing v with
  | nil => rfl
  | cons x a ih =>
    simp only [List.cons_append, numFrom]
    split
    · split
      · rfl
      · exact ih _
    · rfl

theorem numFrom_decZ (most n : Nat) (hn : n ≤ most) (h20 : n < 10 ^ 20) : numFrom most 0 (decZ n) = some n := by
  induction n using Nat.strongRecOn with
  | _ n ih =>
    by_cases h0 : n = 0
    · subst h0; rfl
    · rw [decZ_step n (by omega) h20, numFrom_snoc, ih (n / 10) (by omega) (by omega) (by omega)]
      have h10 : n % 10 < 10 := by omega
      have e := dg_nat h10
      have hv : 10 * (n / 10) + ((dg (n % 10)).toNat - 48) = n := by omega
      simp only [Option.bind_some, numFrom, dg_dig h10, hv]
      simp [show ¬ most < n by omega]

theorem decZ_head (n : Nat) (h0 : 0 < n) (h20 : n < 10 ^ 20) : ∃ c r, decZ n = c :: r ∧ c ≠ 48 ∧ isDig c = true := by
  induction n using Nat.strongRecOn with
  | _ n ih =>
    rw [decZ_step n h0 h20]
    by_cases h : n / 10 = 0
    · have h10 : n % 10 < 10 := by omega
      have e := dg_nat h10
      refine ⟨dg (n % 10), [], by simp [decZ, h], ?_, dg_dig h10⟩
      intro hc
      have := congrArg UInt8.toNat hc
      simp at this
      omega
    · obtain ⟨c, r, hr, hc⟩ := ih (n / 10) (by omega) (by omega) (by omega)
      exact ⟨c, r ++ [dg (n % 10)], by rw [hr]; rfl, hc⟩

theorem dec_pos (n : Nat) (h0 : 0 < n) : dec n = decZ n := by rw [decZ, if_neg (by omega)]

theorem dec_zero : dec 0 = [48] := by decide

theorem dec_ne (n : Nat) (h20 : n < 10 ^ 20) : dec n ≠ [] := by rw [dec_step n h20]; simp

theorem dec_dig (n : Nat) (h20 : n < 10 ^ 20) : ∀ c ∈ dec n, isDig c = true := by
  have key : ∀ n, n < 10 ^ 20 → ∀ c ∈ decZ n, isDig c = true := by
    intro n
    induction n using Nat.strongRecOn with
    | _ n ih =>
      intro h c hc
      by_cases h0 : n = 0
      · subst h0; simp [decZ] at hc
      · rw [decZ_step n (by omega) h] at hc
        rcases List.mem_append.1 hc with hc | hc
        · exact ih (n / 10) (by omega) (by omega) c hc
        · simp only [List.mem_singleton] at hc
          subst hc
          exact dg_dig (by omega)
  by_cases h0 : n = 0
  · subst h0; rw [dec_zero]; decide
  · rw [dec_pos n (by omega)]; exact key n h20

theorem numberV_dec (most n : Nat) (hn : n ≤ most) (h20 : n < 10 ^ 20) : numberV most (dec n) = some n := by
  by_cases h0 : n = 0
  · subst h0; rw [dec_zero]; simp [numberV, numFrom, isDig]
  · have hd := dec_pos n (by omega)
    obtain ⟨c, r, hr, hc, -⟩ := decZ_head n (by omega) h20
    rw [hd, numberV, if_neg, numFrom_decZ most n hn h20]
    rw [hr]
    simp [hc]

/-- The digits that a text opens with; the numbers in a text, up to the first row of digits that is none. -/
def digs (s : List UInt8) : List UInt8 := s.takeWhile isDig
def numsG : Nat → List UInt8 → List Nat
  | 0, _ => []
  | _ + 1, [] => []
  | g + 1, c :: r => if isDig c = true then (match numberV 4294967295 (digs (c :: r)) with
    | none => []
    | some v => v :: numsG g ((c :: r).drop ((digs (c :: r)).length + 1))) else numsG g r
def numsR (s : List UInt8) : List Nat := numsG (s.length + 1) s

theorem numsG_fuel (g g' : Nat) (s : List UInt8) (h : s.length < g) (h' : s.length < g') : numsG g s = numsG g' s := by
  induction g generalizing g' s with
  | zero => omega
  | succ g ih =>
    cases g' with
    | zero => omega
    | succ g' =>
      cases s with
      | nil => rfl
      | cons c r =>
        simp only [List.length_cons] at h h'
        simp only [numsG]
        have hd : ((c :: r).drop ((digs (c :: r)).length + 1)).length < g ∧ ((c :: r).drop ((digs (c :: r)).length + 1)).length < g' := by
          simp only [List.length_drop, List.length_cons]; omega
        rw [ih g' _ hd.1 hd.2, ih g' r (by omega) (by omega)]

theorem numsR_nil : numsR [] = [] := rfl
theorem numsR_skip {c : UInt8} (r : List UInt8) (h : isDig c = false) : numsR (c :: r) = numsR r := by
  unfold numsR
  rw [numsG]
  simp only [h]
  exact numsG_fuel _ _ r (by simp) (by simp)
theorem numsR_bad {c : UInt8} (r : List UInt8) (h : isDig c = true) (hv : numberV 4294967295 (digs (c :: r)) = none) : numsR (c :: r) = [] := by
  unfold numsR
  rw [numsG]
  simp [h, hv]
theorem numsR_num {c : UInt8} (r : List UInt8) {v : Nat} (h : isDig c = true) (hv : numberV 4294967295 (digs (c :: r)) = some v) : numsR (c :: r) = v :: numsR ((c :: r).drop ((digs (c :: r)).length + 1)) := by
  unfold numsR
  rw [numsG]
  simp only [h, hv, if_true]
  rw [numsG_fuel (c :: r).length (((c :: r).drop ((digs (c :: r)).length + 1)).length + 1) _ (by simp only [List.length_drop, List.length_cons]; omega) (by omega)]

theorem numsR_plain (p r : List UInt8) (h : p.all (fun c => !isDig c) = true) : numsR (p ++ r) = numsR r := by
  induction p with
  | nil => rfl
  | cons c p ih =>
    simp only [List.all_cons, Bool.and_eq_true] at h
    rw [List.cons_append, numsR_skip _ (by simpa using h.1), ih h.2]

/-- Does a text open with no digit? -/
def opens (r : List UInt8) : Prop := ∀ c, r.head? = some c → isDig c = false

theorem digs_app (d r : List UInt8) (hd : ∀ c ∈ d, isDig c = true) (hr : opens r) : digs (d ++ r) = d := by
  induction d with
  | nil =>
    cases r with
    | nil => rfl
    | cons c r => simp [digs, hr c rfl]
  | cons c d ih =>
    have hc := hd c (List.mem_cons_self ..)
    have := ih (fun x hx => hd x (List.mem_cons_of_mem _ hx))
    simp only [digs] at this
    simp [digs, hc, this]

theorem numsR_dec (n : Nat) (r : List UInt8) (hn : n ≤ 4294967295) (hr : opens r) : numsR (dec n ++ r) = n :: numsR r := by
  have h20 : n < 10 ^ 20 := by omega
  have hdig := dec_dig n h20
  have hds := digs_app (dec n) r hdig hr
  obtain ⟨c, d, hd⟩ : ∃ c d, dec n = c :: d := by
    cases h : dec n with
    | nil => exact absurd h (dec_ne n h20)
    | cons c d => exact ⟨c, d, rfl⟩
  have hc : isDig c = true := hdig c (by rw [hd]; exact List.mem_cons_self ..)
  have hv := numberV_dec 4294967295 n hn h20
  rw [hd] at hds hv ⊢
  rw [List.cons_append] at hds ⊢
  rw [numsR_num (d ++ r) hc (v := n) (by rw [hds]; exact hv), hds]
  congr 1
  cases r with
  | nil => rw [List.append_nil, show (c :: d).drop ((c :: d).length + 1) = [] from List.drop_eq_nil_of_le (by omega)]
  | cons x r =>
    rw [numsR_skip r (hr x rfl)]
    congr 1
    simp

theorem numsR_dec' (n : Nat) (x : UInt8) (p r : List UInt8) (hn : n ≤ 4294967295) (hx : isDig x = false) : numsR (dec n ++ ((x :: p) ++ r)) = n :: numsR ((x :: p) ++ r) :=
  numsR_dec n _ hn (by intro c hc; simp at hc; subst hc; exact hx)

/-- A text without its digits. -/
def skel (s : List UInt8) : List UInt8 := s.filter fun c => !isDig c
theorem skel_app (a b : List UInt8) : skel (a ++ b) = skel a ++ skel b := by simp [skel]
theorem skel_dec (n : Nat) (h20 : n < 10 ^ 20) : skel (dec n) = [] := by
  rw [skel, List.filter_eq_nil_iff]
  intro c hc
  simp [dec_dig n h20 c hc]

/-- The known codes, and what each one's text has beside digits. -/
def codesL : List Nat := (List.range 256).filter fun c => knownB c
def cskel (c : Int) : List UInt8 := skel (pre c) ++ (if usesK c = true then skel (post c) else []) ++ (if usesJ c = true then [32, 32] else [])

theorem codesL_mem {c : Nat} (h : knownB c = true) : c ∈ codesL := by
  refine List.mem_filter.2 ⟨?_, h⟩
  simp only [List.mem_range]
  simp only [knownB, plainB, jumpB, operB, Bool.or_eq_true, beq_iff_eq] at h
  omega

theorem codes_all (p : Nat → Bool) (hp : codesL.all p = true) {c : Nat} (h : knownB c = true) : p c = true := List.all_eq_true.1 hp c (codesL_mem h)

theorem cskel_raw {c : Nat} (h : knownB c = true) : cskel c ≠ [114, 97, 119, 32, 32, 32, 32] := by
  have := codes_all (fun c => cskel c != [114, 97, 119, 32, 32, 32, 32]) (by decide +kernel) h
  simpa using this

theorem cskel_inj {c d : Nat} (hc : knownB c = true) (hd : knownB d = true) (h : cskel c = cskel d) : c = d := by
  have h1 := codes_all (fun c => codesL.all fun d => (cskel c != cskel d) || c == d) (by decide +kernel) hc
  have := List.all_eq_true.1 h1 d (codesL_mem hd)
  simpa [h] using this

/-- The numbers in an instruction's text. -/
def numsOf (c t f k : Nat) : List Nat := if rawB c t f k = true then [c, t, f, k] else
  (if c = 177 then [4] else []) ++ ((if usesK c = true then [k] ++ (if c = 177 then [15] else []) else []) ++ (if usesJ c = true then [t, f] else []))

theorem opens_cons {x : UInt8} {r : List UInt8} (h : isDig x = false) : opens (x :: r) := by
  intro c hc; simp at hc; subst hc; exact h
theorem opens_nil : opens [] := by intro c hc; simp at hc

theorem numsR_goals (t f : Nat) (ht : t ≤ 255) (hf : f ≤ 255) : numsR (goalsV t f) = [t, f] := by
  have e : goalsV t f = [32] ++ (dec t ++ ([32] ++ (dec f ++ []))) := by simp [goalsV]
  rw [e, numsR_plain [32] _ (by decide), numsR_dec' t 32 [] _ (by omega) (by decide), numsR_plain [32] _ (by decide), numsR_dec f _ (by omega) opens_nil, numsR_nil]

theorem pre_nums {c : Nat} (h : knownB c = true) (r : List UInt8) : numsR (pre c ++ r) = (if c = 177 then [4] else []) ++ numsR r := by
  by_cases hc : c = 177
  · subst hc
    have e : pre ((177 : Nat) : Int) ++ r = [108, 100, 120, 98, 32] ++ (dec 4 ++ ([42, 40, 91] ++ r)) := by
      have : pre ((177 : Nat) : Int) = [108, 100, 120, 98, 32, 52, 42, 40, 91] := by decide +kernel
      have d4 : dec 4 = [52] := by decide
      rw [this, d4]; rfl
    rw [e, numsR_plain _ _ (by decide), numsR_dec' 4 42 [40, 91] _ (by omega) (by decide), numsR_plain _ _ (by decide)]
    rfl
  · have := codes_all (fun c => c == 177 || (pre c).all fun x => !isDig x) (by decide +kernel) h
    simp only [hc, beq_iff_eq, Bool.or_eq_true, false_or] at this
    rw [numsR_plain _ _ this, if_neg hc]
    rfl

theorem post_nums {c : Nat} (h : knownB c = true) (r : List UInt8) : numsR (post c ++ r) = (if c = 177 then [15] else []) ++ numsR r := by
  by_cases hc : c = 177
  · subst hc
    have e : post ((177 : Nat) : Int) ++ r = [93, 38] ++ (dec 15 ++ ([41] ++ r)) := by
      have : post ((177 : Nat) : Int) = [93, 38, 49, 53, 41] := by decide +kernel
      have d4 : dec 15 = [49, 53] := by decide
      rw [this, d4]; rfl
    rw [e, numsR_plain _ _ (by decide), numsR_dec' 15 41 [] _ (by omega) (by decide), numsR_plain _ _ (by decide)]
    rfl
  · have := codes_all (fun c => c == 177 || (post c).all fun x => !isDig x) (by decide +kernel) h
    simp only [hc, beq_iff_eq, Bool.or_eq_true, false_or] at this
    rw [numsR_plain _ _ this, if_neg hc]
    rfl

theorem post_opens {c : Nat} (h : knownB c = true) (r : List UInt8) (hr : opens r) : opens (post c ++ r) := by
  have := codes_all (fun c => match post c with | [] => true | x :: _ => !isDig x) (by decide +kernel) h
  cases hp : post (c : Int) with
  | nil => exact hr
  | cons x p =>
    rw [hp] at this
    exact opens_cons (by simpa using this)

theorem line_nums (c t f k : Nat) (hc : c ≤ 65535) (ht : t ≤ 255) (hf : f ≤ 255) (hk : k ≤ 4294967295) : numsR (lineN c t f k) = numsOf c t f k := by
  unfold lineN numsOf
  cases hr : rawB c t f k with
  | true =>
    simp only [if_true]
    have e : rawV c t f k = [114, 97, 119, 32] ++ (dec c ++ ([32] ++ (dec t ++ ([32] ++ (dec f ++ ([32] ++ (dec k ++ []))))))) := by simp [rawV]
    rw [e, numsR_plain _ _ (by decide), numsR_dec' c 32 [] _ (by omega) (by decide), numsR_plain _ _ (by decide), numsR_dec' t 32 [] _ (by omega) (by decide), numsR_plain _ _ (by decide), numsR_dec' f 32 [] _ (by omega) (by decide), numsR_plain _ _ (by decide), numsR_dec k _ hk opens_nil, numsR_nil]
  | false =>
    obtain ⟨h1, -, -⟩ := form_parts hr
    simp only [Bool.false_eq_true, if_false, formV]
    have hg : opens (if usesJ c = true then goalsV t f else []) := by
      split
      · simp only [goalsV, List.append_assoc, List.cons_append, List.nil_append]; exact opens_cons (by decide)
      · exact opens_nil
    have hgn : numsR (if usesJ c = true then goalsV t f else []) = if usesJ c = true then [t, f] else [] := by
      split
      · exact numsR_goals t f ht hf
      · rfl
    cases hu : usesK c with
    | true => simp only [if_true, List.append_assoc]; rw [pre_nums h1, numsR_dec k _ hk (post_opens h1 _ hg), post_nums h1, hgn]; simp
    | false => simp only [Bool.false_eq_true, if_false, List.append_nil, List.nil_append]; rw [pre_nums h1, hgn]

theorem line_skel (c t f k : Nat) (hc : c ≤ 65535) (ht : t ≤ 255) (hf : f ≤ 255) (hk : k ≤ 4294967295) : skel (lineN c t f k) = if rawB c t f k = true then [114, 97, 119, 32, 32, 32, 32] else cskel c := by
  have s32 : skel [32] = [32] := by decide
  have sraw : skel [114, 97, 119, 32] = [114, 97, 119, 32] := by decide
  have d1 := skel_dec c (by omega)
  have d2 := skel_dec t (by omega)
  have d3 := skel_dec f (by omega)
  have d4 := skel_dec k (by omega)
  unfold lineN
  split
  · simp only [rawV, skel_app, s32, sraw, d1, d2, d3, d4]; rfl
  · simp only [formV, skel_app, cskel]
    congr 1
    · congr 1
      split
      · rw [skel_app, d4, List.nil_append]
      · rfl
    · split
      · simp only [goalsV, skel_app, s32, d2, d3]; rfl
      · rfl

/-- P3.4: no two instructions have the same text. -/
theorem lineN_inj {c t f k c' t' f' k' : Nat} (hc : c ≤ 65535) (ht : t ≤ 255) (hf : f ≤ 255) (hk : k ≤ 4294967295) (hc' : c' ≤ 65535) (ht' : t' ≤ 255) (hf' : f' ≤ 255) (hk' : k' ≤ 4294967295)
    (h : lineN c t f k = lineN c' t' f' k') : c = c' ∧ t = t' ∧ f = f' ∧ k = k' := by
  have hs := congrArg skel h
  have hn := congrArg numsR h
  rw [line_skel c t f k hc ht hf hk, line_skel c' t' f' k' hc' ht' hf' hk'] at hs
  rw [line_nums c t f k hc ht hf hk, line_nums c' t' f' k' hc' ht' hf' hk'] at hn
  unfold numsOf at hn
  cases hr : rawB c t f k with
  | true =>
    cases hr' : rawB c' t' f' k' with
    | true => simpa [hr, hr'] using hn
    | false =>
      simp only [hr, hr', if_true, Bool.false_eq_true, if_false] at hs
      exact absurd hs.symm (cskel_raw (form_parts hr').1)
  | false =>
    obtain ⟨h1, h2, h3⟩ := form_parts hr
    cases hr' : rawB c' t' f' k' with
    | true =>
      simp only [hr, hr', if_true, Bool.false_eq_true, if_false] at hs
      exact absurd hs (cskel_raw h1)
    | false =>
      obtain ⟨h1', h2', h3'⟩ := form_parts hr'
      simp only [hr, hr', Bool.false_eq_true, if_false] at hs hn
      have e := cskel_inj h1 h1' hs
      subst e
      have e0 : ∀ n : Nat, ((n : Int) != 0) = false ↔ n = 0 := fun n => by rw [bne_eq_false_iff_eq]; omega
      simp only [e0] at h2 h2' h3 h3'
      refine ⟨rfl, ?_⟩
      have hn2 := List.append_cancel_left hn
      by_cases h177 : c = 177
      · subst h177
        have hu : usesK ((177 : Nat) : Int) = true := by decide +kernel
        have hj : usesJ ((177 : Nat) : Int) = false := by decide +kernel
        simp only [hu, hj, if_true, if_false, Bool.false_eq_true, reduceCtorEq, false_or, true_and, false_and, or_false, List.cons_append, List.nil_append, List.append_nil, List.cons.injEq, and_true] at h2 h2' h3 h3' hn2
        omega
      · cases hu : usesK c <;> cases hj : usesJ c <;> simp only [hu, hj, h177, if_true, if_false, Bool.false_eq_true, reduceCtorEq, false_or, true_and, false_and, or_false, List.cons_append, List.nil_append, List.append_nil, List.cons.injEq, and_true] at h2 h2' h3 h3' hn2 <;> omega

/-- An instruction of four numbers. -/
def mkI (c t f k : Nat) : In := ⟨UInt16.ofNat c, UInt8.ofNat t, UInt8.ofNat f, UInt32.ofNat k⟩

theorem lineV_mkI {c t f k : Nat} (hc : c ≤ 65535) (ht : t ≤ 255) (hf : f ≤ 255) (hk : k ≤ 4294967295) : lineV (mkI c t f k) = lineN c t f k := by
  have e1 : (UInt16.ofNat c).toNat = c := by simp; omega
  have e2 : (UInt8.ofNat t).toNat = t := by simp; omega
  have e3 : (UInt8.ofNat f).toNat = f := by simp; omega
  have e4 : (UInt32.ofNat k).toNat = k := by simp; omega
  simp only [lineV, mkI, e1, e2, e3, e4]

theorem mkI_eta (x : In) : mkI x.code.toNat x.jt.toNat x.jf.toNat x.k.toNat = x := by
  simp [mkI]

theorem In.bounds (x : In) : x.code.toNat ≤ 65535 ∧ x.jt.toNat ≤ 255 ∧ x.jf.toNat ≤ 255 ∧ x.k.toNat ≤ 4294967295 := by
  have a := x.code.toNat_lt
  have b := x.jt.toNat_lt
  have c := x.jf.toNat_lt
  have d := x.k.toNat_lt
  omega

theorem lineV_inj {x y : In} (h : lineV x = lineV y) : x = y := by
  obtain ⟨a1, a2, a3, a4⟩ := x.bounds
  obtain ⟨b1, b2, b3, b4⟩ := y.bounds
  obtain ⟨e1, e2, e3, e4⟩ := lineN_inj a1 a2 a3 a4 b1 b2 b3 b4 h
  rw [← mkI_eta x, ← mkI_eta y, e1, e2, e3, e4]

end Go.Proofs.YtcapmbeabfhjoaaDoor
