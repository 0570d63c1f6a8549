/-
  The landed table of forms, what a row of it writes and what it reads: no Go text here.
-/
import Derived.Test.YtcapmbeabfhjoaaDoorParseD
import Derived.Lib.ItoaNum
namespace Go.Proofs.YtcapmbeabfhjoaaDoor
open Go.RowKit
set_option maxRecDepth 100000

/-- The rows of the table: a code, a text with letters for numbers. -/
def fText : List (Nat × List UInt8) :=
  [(0, [108, 100, 32, 35, 75]),
   (96, [108, 100, 32, 77, 91, 75, 93]),
   (128, [108, 100, 32, 108, 101, 110]),
   (32, [108, 100, 32, 91, 75, 93]),
   (40, [108, 100, 104, 32, 91, 75, 93]),
   (48, [108, 100, 98, 32, 91, 75, 93]),
   (64, [108, 100, 32, 91, 120, 43, 75, 93]),
   (72, [108, 100, 104, 32, 91, 120, 43, 75, 93]),
   (80, [108, 100, 98, 32, 91, 120, 43, 75, 93]),
   (1, [108, 100, 120, 32, 35, 75]),
   (97, [108, 100, 120, 32, 77, 91, 75, 93]),
   (129, [108, 100, 120, 32, 108, 101, 110]),
   (177, [108, 100, 120, 98, 32, 52, 42, 40, 91, 75, 93, 38, 49, 53, 41]),
   (2, [115, 116, 32, 77, 91, 75, 93]),
   (3, [115, 116, 120, 32, 77, 91, 75, 93]),
   (4, [97, 100, 100, 32, 35, 75]),
   (12, [97, 100, 100, 32, 120]),
   (20, [115, 117, 98, 32, 35, 75]),
   (28, [115, 117, 98, 32, 120]),
   (36, [109, 117, 108, 32, 35, 75]),
   (44, [109, 117, 108, 32, 120]),
   (52, [100, 105, 118, 32, 35, 75]),
   (60, [100, 105, 118, 32, 120]),
   (68, [111, 114, 32, 35, 75]),
   (76, [111, 114, 32, 120]),
   (84, [97, 110, 100, 32, 35, 75]),
   (92, [97, 110, 100, 32, 120]),
   (100, [108, 115, 104, 32, 35, 75]),
   (108, [108, 115, 104, 32, 120]),
   (116, [114, 115, 104, 32, 35, 75]),
   (124, [114, 115, 104, 32, 120]),
   (148, [109, 111, 100, 32, 35, 75]),
   (156, [109, 111, 100, 32, 120]),
   (164, [120, 111, 114, 32, 35, 75]),
   (172, [120, 111, 114, 32, 120]),
   (132, [110, 101, 103]),
   (5, [106, 97, 32, 75]),
   (21, [106, 101, 113, 32, 35, 75, 32, 84, 32, 70]),
   (29, [106, 101, 113, 32, 120, 32, 84, 32, 70]),
   (37, [106, 103, 116, 32, 35, 75, 32, 84, 32, 70]),
   (45, [106, 103, 116, 32, 120, 32, 84, 32, 70]),
   (53, [106, 103, 101, 32, 35, 75, 32, 84, 32, 70]),
   (61, [106, 103, 101, 32, 120, 32, 84, 32, 70]),
   (69, [106, 115, 101, 116, 32, 35, 75, 32, 84, 32, 70]),
   (77, [106, 115, 101, 116, 32, 120, 32, 84, 32, 70]),
   (6, [114, 101, 116, 32, 35, 75]),
   (22, [114, 101, 116, 32, 97]),
   (7, [116, 97, 120]),
   (135, [116, 120, 97])]

def rawT : List UInt8 := [114, 97, 119, 32, 67, 32, 84, 32, 70, 32, 75]

def letterB (c : UInt8) : Bool := c == 67 || (c == 84 || (c == 70 || c == 75))
def rend (c t f k : Nat) (x : UInt8) : List UInt8 := if x = 67 then dec c else if x = 84 then dec t else if x = 70 then dec f else if x = 75 then dec k else [x]
def render (c t f k : Nat) (s : List UInt8) : List UInt8 := s.flatMap (rend c t f k)
def showsB (s : List UInt8) (t f k : Nat) : Bool := ((k : Int) == 0 || s.contains 75) && (((t : Int) == 0 || s.contains 84) && ((f : Int) == 0 || s.contains 70))
def hitF (c t f k : Nat) (r : Nat × List UInt8) : Bool := r.1 == c && showsB r.2 t f k
def lineT (c t f k : Nat) : List UInt8 := render c t f k (((fText.find? (hitF c t f k)).map fun r => r.2).getD rawT)

theorem decDigits_dec (n : Nat) (h : n < 10 ^ 20) : Lib.decDigits n = dec n := by
  induction n using Nat.strongRecOn with
  | _ n ih =>
    rw [Lib.decDigits]
    by_cases h10 : n < 10
    · rw [dif_pos h10]; simp [dec, decF, h10, dg]
    · rw [dif_neg h10, ih (n / 10) (by omega) (by omega), dec_step n h, dec_pos (n / 10) (by omega)]
      rfl

theorem rend_plain {x : UInt8} (h : letterB x = false) (c t f k : Nat) : rend c t f k x = [x] := by
  simp only [letterB, Bool.or_eq_false_iff, beq_eq_false_iff_ne] at h
  obtain ⟨h1, h2, h3, h4⟩ := h
  rw [rend, if_neg h1, if_neg h2, if_neg h3, if_neg h4]

theorem render_app (c t f k : Nat) (a b : List UInt8) : render c t f k (a ++ b) = render c t f k a ++ render c t f k b := by simp [render]
theorem render_plain (c t f k : Nat) (a : List UInt8) (h : a.all (fun x => !letterB x) = true) : render c t f k a = a := by
  induction a with
  | nil => rfl
  | cons x a ih =>
    simp only [List.all_cons, Bool.and_eq_true, Bool.not_eq_true'] at h
    rw [render, List.flatMap_cons, rend_plain h.1, ← render, ih h.2]; rfl
theorem rend_len (c t f k : Nat) (x : UInt8) : (rend c t f k x).length ≤ 20 := by
  unfold rend
  split
  · exact dec_len c
  split
  · exact dec_len t
  split
  · exact dec_len f
  split
  · exact dec_len k
  · simp
theorem render_len (c t f k : Nat) (a : List UInt8) : (render c t f k a).length ≤ 20 * a.length := by
  induction a with
  | nil => simp [render]
  | cons x a ih =>
    have := rend_len c t f k x
    simp only [render, List.flatMap_cons, List.length_append, List.length_cons] at ih ⊢
    omega

/-- A known code's row. -/
def fOf (c : Nat) : List UInt8 := ((fText.find? fun r => r.1 == c).map fun r => r.2).getD []

theorem f_known : fText.all (fun r => knownB r.1) = true := by decide +kernel
theorem f_own : fText.all (fun r => r.2 == fOf r.1) = true := by decide +kernel
theorem f_short : fText.all (fun r => decide (r.2.length ≤ 20)) = true := by decide +kernel
theorem f_shape {c : Nat} (h : knownB c = true) : (c, fOf c) ∈ fText ∧ fOf c = pre c ++ ((if usesK c = true then [75] ++ post c else []) ++ (if usesJ c = true then [32, 84, 32, 70] else [])) ∧ (pre c).all (fun x => !letterB x) = true ∧ (post c).all (fun x => !letterB x) = true
    ∧ (fOf c).contains 75 = usesK c ∧ (fOf c).contains 84 = usesJ c ∧ (fOf c).contains 70 = usesJ c := by
  have := codes_all (fun c => fText.contains (c, fOf c) && (fOf c == pre c ++ ((if usesK c = true then [75] ++ post c else []) ++ (if usesJ c = true then [32, 84, 32, 70] else [])) && ((pre c).all (fun x => !letterB x) && ((post c).all (fun x => !letterB x)
    && ((fOf c).contains 75 == usesK c && ((fOf c).contains 84 == usesJ c && (fOf c).contains 70 == usesJ c)))))) (by decide +kernel) h
  simp only [Bool.and_eq_true, List.contains_iff_mem, beq_iff_eq] at this
  obtain ⟨h1, h2, h3, h4, h5, h6, h7⟩ := this
  exact ⟨h1, h2, h3, h4, h5, h6, h7⟩

theorem find_one {α : Type} {l : List α} {p : α → Bool} {a : α} (ha : a ∈ l) (hp : p a = true) (hu : ∀ b ∈ l, p b = true → b = a) : l.find? p = some a := by
  cases h : l.find? p with
  | none => exact absurd hp (by simpa using List.find?_eq_none.1 h a ha)
  | some b => rw [hu b (List.mem_of_find?_eq_some h) (List.find?_some h)]

theorem row_own {r : Nat × List UInt8} (h : r ∈ fText) : r.2 = fOf r.1 := by
  have := List.all_eq_true.1 f_own r h
  simpa using this
theorem row_known {r : Nat × List UInt8} (h : r ∈ fText) : knownB r.1 = true := List.all_eq_true.1 f_known r h
theorem row_short {r : Nat × List UInt8} (h : r ∈ fText) : r.2.length ≤ 20 := by
  have := List.all_eq_true.1 f_short r h
  simpa using this

theorem shows_raw {c t f k : Nat} (h : knownB c = true) : showsB (fOf c) t f k = !rawB c t f k := by
  obtain ⟨-, -, -, -, h5, h6, h7⟩ := f_shape h
  have e : ∀ n : Nat, (((n : Int) == 0)) = (n == 0) := fun n => by
    cases hn : (n == 0)
    · simp at hn; simp; omega
    · simp at hn; simp; omega
  simp only [showsB, rawB, h5, h6, h7, h, e, bne]
  cases usesK c <;> cases usesJ c <;> cases (k == 0) <;> cases (t == 0) <;> cases (f == 0) <;> rfl

theorem render_form {c t f k : Nat} (h : knownB c = true) : render c t f k (fOf c) = formV c k ++ if usesJ c = true then goalsV t f else [] := by
  obtain ⟨-, h2, h3, h4, -, -, -⟩ := f_shape h
  have r75 : render c t f k [75] = dec k := by simp [render, rend]
  have r84 : render c t f k [32, 84, 32, 70] = goalsV t f := by simp [render, rend, goalsV]
  rw [h2, render_app, render_app, render_plain _ _ _ _ _ h3, formV, List.append_assoc]
  congr 1
  congr 1
  · split
    · rw [render_app, r75, render_plain _ _ _ _ _ h4]
    · rfl
  · split
    · exact r84
    · rfl

theorem render_raw (c t f k : Nat) : render c t f k rawT = rawV c t f k := by
  simp [render, rend, rawT, rawV]

/-- The row that an instruction's text is written by. -/
theorem find_form {c t f k : Nat} (h : rawB c t f k = false) : fText.find? (hitF c t f k) = some (c, fOf c) := by
  obtain ⟨h1, -, -⟩ := form_parts h
  refine find_one (f_shape h1).1 ?_ ?_
  · simp [hitF, shows_raw h1, h]
  · intro b hb hp
    have e : b.1 = c := by
      simp only [hitF, Bool.and_eq_true, beq_iff_eq] at hp
      exact hp.1
    have := row_own hb
    rw [e] at this
    exact Prod.ext e this
theorem find_raw {c t f k : Nat} (h : rawB c t f k = true) : fText.find? (hitF c t f k) = none := by
  rw [List.find?_eq_none]
  intro b hb hp
  simp only [hitF, Bool.and_eq_true, beq_iff_eq] at hp
  have e := row_own hb
  have hk := row_known hb
  rw [hp.1] at e hk
  rw [e, shows_raw hk, h] at hp
  simp at hp

/-- P3.1: the row's text is the document's. -/
theorem lineT_eq (c t f k : Nat) : lineT c t f k = lineN c t f k := by
  unfold lineT lineN
  cases h : rawB c t f k with
  | true => rw [find_raw h]; simp only [Option.map_none, Option.getD_none, if_true]; exact render_raw c t f k
  | false => rw [find_form h]; simp only [Option.map_some, Option.getD_some, Bool.false_eq_true, if_false]; exact render_form (form_parts h).1

end Go.Proofs.YtcapmbeabfhjoaaDoor
