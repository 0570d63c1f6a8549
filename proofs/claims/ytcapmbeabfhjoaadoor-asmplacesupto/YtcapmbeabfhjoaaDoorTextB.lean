/-
  Lines that are printed are read as what they are.
-/
import Derived.Test.YtcapmbeabfhjoaaDoorParseD
import Derived.Test.YtcapmbeabfhjoaaDoorPrintR
namespace Go.Proofs.YtcapmbeabfhjoaaDoor
open Go.RowKit
set_option maxRecDepth 100000

/-- No end of line. -/
def no10 (l : List UInt8) : Bool := l.all fun c => c != 10

theorem no10_app (a b : List UInt8) : no10 (a ++ b) = (no10 a && no10 b) := by simp [no10]

theorem no10_dec (n : Nat) (h : n < 10 ^ 20) : no10 (dec n) = true := by
  rw [no10, List.all_eq_true]
  intro c hc
  have := dec_dig n h c hc
  simp only [isDig, Bool.and_eq_true, decide_eq_true_eq] at this
  simp only [bne_iff_ne, ne_eq]
  intro e
  subst e
  simp at this

theorem no10_pre (c : Int) : no10 (pre c) = true ∧ no10 (post c) = true := by
  have h : forms.all (fun f => no10 f.2.1 && no10 f.2.2) = true := by decide +kernel
  unfold pre post
  cases hf : forms.find? (fun f => f.1 == c) with
  | none => exact ⟨rfl, rfl⟩
  | some g =>
    have := List.all_eq_true.1 h g (List.mem_of_find?_eq_some hf)
    simpa using this

theorem no10_line (x : In) : no10 (lineV x) = true := by
  obtain ⟨h1, h2, h3, h4⟩ := x.bounds
  have d1 := no10_dec x.code.toNat (by omega)
  have d2 := no10_dec x.jt.toNat (by omega)
  have d3 := no10_dec x.jf.toNat (by omega)
  have d4 := no10_dec x.k.toNat (by omega)
  have hp := no10_pre x.code.toNat
  have s32 : no10 [32] = true := by decide
  have sraw : no10 [114, 97, 119, 32] = true := by decide
  have s0 : no10 [] = true := rfl
  unfold lineV lineN
  split
  · simp only [rawV, no10_app, d1, d2, d3, d4, s32, sraw, Bool.and_self]
  · simp only [formV, no10_app, hp.1]
    split <;> split <;> simp only [goalsV, no10_app, hp.2, d2, d3, d4, s32, s0, Bool.and_self]

theorem line_ne (x : In) : lineV x ≠ [] := by
  intro h
  have hs := congrArg skel h
  obtain ⟨h1, h2, h3, h4⟩ := x.bounds
  rw [show skel (lineV x) = _ from line_skel _ _ _ _ h1 h2 h3 h4] at hs
  cases hr : rawB x.code.toNat x.jt.toNat x.jf.toNat x.k.toNat with
  | true => rw [hr] at hs; simp [skel] at hs
  | false =>
    rw [hr] at hs
    have := codes_all (fun c => !(cskel c).isEmpty) (by decide +kernel) (form_parts hr).1
    simp [skel] at hs
    simp [hs] at this

theorem linesG_line (cur l r : List UInt8) (h : no10 l = true) : linesG cur (l ++ 10 :: r) = (cur ++ l) :: linesG [] r := by
  induction l generalizing cur with
  | nil => simp [linesG]
  | cons c l ih =>
    simp only [no10, List.all_cons, Bool.and_eq_true, bne_iff_ne, ne_eq] at h
    rw [List.cons_append, linesG, if_neg h.1, ih _ (by simpa [no10] using h.2)]
    simp

theorem linesG_last (cur l : List UInt8) (h : no10 l = true) (hne : cur ++ l ≠ []) : linesG cur l = [cur ++ l] := by
  induction l generalizing cur with
  | nil => rw [linesG, if_neg (by simpa using hne)]; simp
  | cons c l ih =>
    simp only [no10, List.all_cons, Bool.and_eq_true, bne_iff_ne, ne_eq] at h
    rw [linesG, if_neg h.1, ih _ (by simpa [no10] using h.2) (by simp)]
    simp

theorem lines_print (xs : List In) (r : List UInt8) : linesV (printS xs ++ r) = xs.map lineV ++ linesV r := by
  induction xs with
  | nil => rfl
  | cons x xs ih =>
    have e : printS (x :: xs) ++ r = lineV x ++ 10 :: (printS xs ++ r) := by simp [printS, lineB]
    rw [e, linesV, linesG_line _ _ _ (no10_line x), List.nil_append]
    show lineV x :: linesV (printS xs ++ r) = _
    rw [ih]
    rfl

theorem parseG_lines (xs : List In) (ls : List (List UInt8)) (i : Nat) (out : List In) (h : i + xs.length ≤ 4096) : parseG i (xs.map lineV ++ ls) out = parseG (i + xs.length) ls (out ++ xs) := by
  induction xs generalizing i out with
  | nil => simp
  | cons x xs ih =>
    simp only [List.length_cons] at h
    rw [List.map_cons, List.cons_append, parseG, if_neg (by omega), read_line]
    simp only
    rw [ih (i + 1) (out ++ [x]) (by omega), List.append_assoc]
    congr 1
    simp only [List.length_cons]
    omega

/-- P3.4: Parse of Print is the program. -/
theorem parse_print (xs : List In) (h : xs.length ≤ 4096) (hl : (printS xs).length ≤ 1048576) : parseV (printS xs) = (xs, 0, 0) := by
  have e := lines_print xs []
  rw [List.append_nil, show linesV [] = [] from rfl] at e
  rw [parseV, if_neg (by omega), e, parseG_lines xs [] 0 [] (by omega)]
  simp [parseG]

/-- P3.4: a last end of line may lack. -/
theorem parse_cut (xs : List In) (h : xs.length ≤ 4096) (hl : (printS xs).length ≤ 1048576) (hne : xs ≠ []) : parseV ((printS xs).dropLast) = (xs, 0, 0) := by
  obtain ⟨ys, y, rfl⟩ : ∃ ys y, xs = ys ++ [y] := ⟨xs.dropLast, xs.getLast hne, (List.dropLast_concat_getLast hne).symm⟩
  have e : (printS (ys ++ [y])).dropLast = printS ys ++ lineV y := by
    have : printS (ys ++ [y]) = (printS ys ++ lineV y) ++ [10] := by simp [printS, lineB]
    rw [this, List.dropLast_concat]
  have hl2 : (printS ys ++ lineV y).length ≤ 1048576 := by
    rw [← e, List.length_dropLast]; omega
  simp only [List.length_append, List.length_cons, List.length_nil] at h
  rw [e, parseV, if_neg (by omega), lines_print, show linesV (lineV y) = [lineV y] from linesG_last [] _ (no10_line y) (line_ne y), parseG_lines ys _ 0 [] (by omega), parseG, if_neg (by omega), read_line]
  simp [parseG]

/-- P3.3: a line that is none, behind lines that are. -/
theorem parse_bad (xs : List In) (bad r : List UInt8) (h : xs.length < 4096) (hl : (printS xs ++ bad ++ [10] ++ r).length ≤ 1048576) (hb : no10 bad = true) (hr : readV bad = none) : parseV (printS xs ++ bad ++ [10] ++ r) = ([], xs.length + 1, 31) := by
  have e : printS xs ++ bad ++ [10] ++ r = printS xs ++ (bad ++ 10 :: r) := by simp
  rw [parseV, if_neg (by omega), e, lines_print, show linesV (bad ++ 10 :: r) = bad :: linesV r from linesG_line [] bad r hb, parseG_lines xs _ 0 [] (by omega), parseG, if_neg (by omega), hr]
  simp

end Go.Proofs.YtcapmbeabfhjoaaDoor
