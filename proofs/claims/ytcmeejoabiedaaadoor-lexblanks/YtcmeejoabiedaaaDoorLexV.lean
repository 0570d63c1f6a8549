/-
  What chapter 10 says of a source's tokens: no Go text here.
-/
import Derived.Test.YtcmeejoabiedaaaDoorNumQ
import Derived.Test.YtcmeejoabiedaaaDoorUnhex
namespace Go.Proofs.YtcmeejoabiedaaaDoor
open Go.RowKit
set_option maxRecDepth 100000

def blankB (c : UInt8) : Bool := c == 32 || c == 9 || c == 10 || c == 13
def letB (c : UInt8) : Bool := decide (97 ≤ c.toNat) && decide (c.toNat ≤ 122)
/-- The bytes of a run: of an address of IP6, of one of IP, of a word. -/
def sixB (c : UInt8) : Bool := digOk c.toNat || c == 58
def quadB (c : UInt8) : Bool := isDig c || c == 46
def wordB (c : UInt8) : Bool := isDig c || letB c

/-- A number in base 16, behind v. -/
def hexFrom : Nat → List UInt8 → Option Nat
  | v, [] => some v
  | v, c :: r => if digOk c.toNat = true then (if 4294967295 < 16 * v + digV c.toNat then none else hexFrom (16 * v + digV c.toNat) r) else none
def numV (s : List UInt8) : Option Nat := if 2 < s.length ∧ s.getD 0 0 = 48 ∧ s.getD 1 0 = 120 then hexFrom 0 (s.drop 2) else numberV 4294967295 s

def twosL : List (List UInt8) := [[60, 60], [62, 62], [60, 61], [62, 61], [61, 61], [33, 61], [38, 38], [124, 124]]
def onesL : List UInt8 := [40, 41, 91, 93, 58, 43, 45, 42, 47, 37, 38, 124, 94, 60, 62, 61, 33]
def signV (s : List UInt8) : List UInt8 := if s.take 2 ∈ twosL then s.take 2 else if s.head?.all (onesL.contains ·) = true then s.take 1 else []

/-- The token at a place at which no blank stands: its kind, its text, its number. -/
def tokV (s : List UInt8) : Except Int (Nat × List UInt8 × Nat) :=
  if 2 ≤ (s.takeWhile sixB).count 58 then .ok (4, s.takeWhile sixB, 0)
  else if s.head?.any isDig = true then
    (if 46 ∈ s.takeWhile quadB then .ok (3, s.takeWhile quadB, 0)
    else match numV (s.takeWhile wordB) with
      | none => .error 102
      | some n => .ok (1, s.takeWhile wordB, n))
  else if s.head?.any letB = true then .ok (2, s.takeWhile wordB, 0)
  else if signV s = [] then .error 101 else .ok (5, signV s, 0)

structure Tk where
  kind : Nat
  pos : Nat
  text : List UInt8
  num : Nat

/-- The tokens from a place on, or the first error and its place. -/
def lexF : Nat → Nat → List UInt8 → Except (Nat × Int) (List Tk)
  | 0, p, _ => .ok [⟨0, p, [], 0⟩]
  | _ + 1, p, [] => .ok [⟨0, p, [], 0⟩]
  | k + 1, p, c :: r =>
    if blankB c = true then lexF k (p + 1) r
    else match tokV (c :: r) with
      | .error e => .error (p, e)
      | .ok (q, t, n) => match lexF k (p + t.length) ((c :: r).drop t.length) with
        | .error e => .error e
        | .ok ts => .ok (⟨q, p, t, n⟩ :: ts)
def lexR (p : Nat) (s : List UInt8) : Except (Nat × Int) (List Tk) := lexF s.length p s
/-- P10.1. -/
def lexV (s : List UInt8) : Except (Nat × Int) (List Tk) := if 65536 < s.length then .error (0, 100) else lexR 0 s

theorem blank_not {c : UInt8} (h : blankB c = true) : sixB c = false ∧ quadB c = false ∧ wordB c = false ∧ isDig c = false ∧ letB c = false ∧ onesL.contains c = false := by
  unfold blankB at h
  simp only [Bool.or_eq_true, beq_iff_eq] at h
  rcases h with ((rfl | rfl) | rfl) | rfl <;> decide

theorem takeWhile_len {α : Type} (p : α → Bool) : ∀ (l : List α), (l.takeWhile p).length ≤ l.length
  | [] => Nat.le_refl _
  | x :: r => by
    rw [List.takeWhile_cons]
    split
    · simp only [List.length_cons]
      exact Nat.succ_le_succ (takeWhile_len p r)
    · simp
theorem takeWhile_pre {α : Type} (p : α → Bool) (l : List α) : l.takeWhile p = l.take (l.takeWhile p).length := by
  induction l with
  | nil => rfl
  | cons x r ih =>
    rw [List.takeWhile_cons]
    split
    · simp only [List.length_cons, List.take_succ_cons]
      rw [← ih]
    · simp
theorem takeWhile_twice {α : Type} (p : α → Bool) (l : List α) : (l.takeWhile p).takeWhile p = l.takeWhile p := by
  induction l with
  | nil => rfl
  | cons x r ih =>
    by_cases h : p x = true
    · rw [List.takeWhile_cons_of_pos h, List.takeWhile_cons_of_pos h, ih]
    · rw [List.takeWhile_cons_of_neg h]
      rfl
/-- Behind a blank, or at the end, a run ends. -/
theorem takeWhile_end {α : Type} (p : α → Bool) (t r : List α) (h : r = [] ∨ ∃ b r', r = b :: r' ∧ p b = false) : (t ++ r).takeWhile p = t.takeWhile p := by
  induction t with
  | nil =>
    rcases h with rfl | ⟨b, r', rfl, hb⟩
    · rfl
    · rw [List.nil_append, List.takeWhile_cons_of_neg (by rw [hb]; simp)]
      rfl
  | cons x t ih =>
    rw [List.cons_append]
    by_cases hx : p x = true
    · rw [List.takeWhile_cons_of_pos hx, List.takeWhile_cons_of_pos hx, ih]
    · rw [List.takeWhile_cons_of_neg hx, List.takeWhile_cons_of_neg hx]
theorem takeWhile_all {α : Type} (p : α → Bool) (l : List α) (h : ∀ x ∈ l, p x = true) : l.takeWhile p = l := by
  induction l with
  | nil => rfl
  | cons x r ih =>
    rw [List.takeWhile_cons_of_pos (h x (List.mem_cons_self ..)), ih (fun y hy => h y (List.mem_cons_of_mem _ hy))]
theorem takeWhile_mem {α : Type} (p : α → Bool) (l : List α) {x : α} (h : x ∈ l.takeWhile p) : p x = true := by
  induction l with
  | nil => simp at h
  | cons y r ih =>
    by_cases hy : p y = true
    · rw [List.takeWhile_cons_of_pos hy] at h
      rcases List.mem_cons.1 h with rfl | h
      · exact hy
      · exact ih h
    · rw [List.takeWhile_cons_of_neg hy] at h
      simp at h
theorem takeWhile_head {α : Type} (p : α → Bool) (c : α) (r : List α) (h : p c = true) : ∃ t, (c :: r).takeWhile p = c :: t := ⟨_, List.takeWhile_cons_of_pos h⟩

/-- What ends a token: a blank, or the source's end. -/
def endsB (r : List UInt8) : Prop := r = [] ∨ ∃ b r', r = b :: r' ∧ blankB b = true
theorem sign_end {t r : List UInt8} (ht : t ≠ []) (h : endsB r) : signV (t ++ r) = signV t := by
  rcases h with rfl | ⟨b, r', rfl, hb⟩
  · rw [List.append_nil]
  · cases t with
    | nil => exact absurd rfl ht
    | cons c t =>
      cases t with
      | nil =>
        have h1 : ¬ (([c] ++ b :: r').take 2 ∈ twosL) := by
          show ¬ ([c, b] ∈ twosL)
          unfold blankB at hb
          simp only [Bool.or_eq_true, beq_iff_eq] at hb
          simp only [twosL, List.mem_cons, List.not_mem_nil, or_false, List.cons.injEq, and_true]
          rcases hb with ((rfl | rfl) | rfl) | rfl <;> simp
        have h2 : ¬ ([c].take 2 ∈ twosL) := by simp [twosL]
        unfold signV
        rw [if_neg h1, if_neg h2]
        rfl
      | cons d t =>
        unfold signV
        rfl
/-- A token's text tells it, whatever blank stands behind. -/
theorem tok_end {t r : List UInt8} (ht : t ≠ []) (h : endsB r) : tokV (t ++ r) = tokV t := by
  have hb : ∀ p : UInt8 → Bool, (∀ b, blankB b = true → p b = false) → (t ++ r).takeWhile p = t.takeWhile p := fun p hp => takeWhile_end p t r (by
    rcases h with h | ⟨b, r', h1, h2⟩
    · exact .inl h
    · exact .inr ⟨b, r', h1, hp b h2⟩)
  have hh : (t ++ r).head? = t.head? := by
    cases t with
    | nil => exact absurd rfl ht
    | cons c t => rfl
  unfold tokV
  rw [hb sixB (fun b hb => (blank_not hb).1), hb quadB (fun b hb => (blank_not hb).2.1), hb wordB (fun b hb => (blank_not hb).2.2.1), hh, sign_end ht h]

end Go.Proofs.YtcmeejoabiedaaaDoor
