/-
  What a row of the table reads of a line, and that the rows tell the instruction whose text the line is: no Go text here.
-/
import Derived.Test.YtcapmbeabfhjoaaDoorAsmF
namespace Go.Proofs.YtcapmbeabfhjoaaDoor
open Go.RowKit
set_option maxRecDepth 100000

/-- A line read so far: what is left of it, and the numbers found. -/
abbrev Rd : Type := List UInt8 × Nat × Nat × Nat × Nat

/-- The number that stands ahead, at most 'most'. -/
def numAhead (most : Nat) (s : List UInt8) : Option Nat := if digs s = [] then none else numFrom most 0 (digs s)
def past (s : List UInt8) : List UInt8 := s.drop (digs s).length
def mostOf (x : UInt8) : Nat := if x = 67 then 65535 else if x = 84 then 255 else if x = 70 then 255 else 4294967295
def setOf (x : UInt8) (v : Nat) (r : Rd) : Rd := if x = 67 then (r.1, v, r.2.2) else if x = 84 then (r.1, r.2.1, v, r.2.2.2) else if x = 70 then (r.1, r.2.1, r.2.2.1, v, r.2.2.2.2) else (r.1, r.2.1, r.2.2.1, r.2.2.2.1, v)
def numV (x : UInt8) (r : Rd) : Option Rd := (numAhead (mostOf x) r.1).map fun v => setOf x v (past r.1, r.2)
def litV (l : List UInt8) (r : Rd) : Option Rd := if l.isPrefixOf r.1 = true then some (r.1.drop l.length, r.2) else none

/-- A text's letters and bytes in turn. -/
def scanB : List UInt8 → Rd → Option Rd
  | [], r => some r
  | x :: t, r => (if letterB x = true then numV x r else litV [x] r).bind (scanB t)
def endV (r : Rd) : Option Rd := if r.1 = [] then some r else none
def rowB (t : List UInt8) (r : Rd) : Option Rd := (scanB t r).bind endV

theorem scanB_app (a b : List UInt8) (r : Rd) : scanB (a ++ b) r = (scanB a r).bind (scanB b) := by
  induction a generalizing r with
  | nil => rfl
  | cons x a ih =>
    rw [List.cons_append, scanB, scanB]
    cases (if letterB x = true then numV x r else litV [x] r) with
    | none => rfl
    | some r' => exact ih r'

theorem litV_cons (x : UInt8) (l : List UInt8) (r : Rd) : litV (x :: l) r = (litV [x] r).bind (litV l) := by
  obtain ⟨s, r⟩ := r
  cases s with
  | nil => simp [litV]
  | cons y s =>
    by_cases h : x = y
    · subst h; simp [litV]
    · simp [litV, h]

theorem scanB_lit (l : List UInt8) (h : l.all (fun x => !letterB x) = true) (r : Rd) : scanB l r = litV l r := by
  induction l generalizing r with
  | nil => obtain ⟨s, r⟩ := r; simp [scanB, litV]
  | cons x l ih =>
    simp only [List.all_cons, Bool.and_eq_true, Bool.not_eq_true'] at h
    rw [scanB, litV_cons x l r, h.1]
    simp only [Bool.false_eq_true, if_false]
    congr 1
    funext r
    exact ih h.2 r

theorem scanB_let (x : UInt8) (h : letterB x = true) (r : Rd) : scanB [x] r = numV x r := by
  simp only [scanB, h, if_true]
  cases numV x r <;> rfl

/-- What a text has beside letters and digits. -/
def fskel (t : List UInt8) : List UInt8 := t.filter fun x => !letterB x && !isDig x

theorem digs_dig (s : List UInt8) : skel (digs s) = [] := by
  rw [skel, List.filter_eq_nil_iff]
  intro c hc
  have := List.all_eq_true.1 (List.all_takeWhile (p := isDig) (l := s)) c hc
  simp [this]

theorem digs_past (s : List UInt8) : digs s ++ past s = s := by
  unfold past digs
  induction s with
  | nil => rfl
  | cons c s ih =>
    simp only [List.takeWhile_cons]
    split
    · simpa using ih
    · rfl

theorem skel_past (s : List UInt8) : skel (past s) = skel s := by
  have h := congrArg skel (digs_past s)
  rw [skel_app, digs_dig] at h
  exact h

theorem scan_skel (t : List UInt8) (r r' : Rd) (h : scanB t r = some r') : skel r.1 = fskel t ++ skel r'.1 := by
  induction t generalizing r with
  | nil => simp [scanB] at h; subst h; rfl
  | cons x t ih =>
    rw [scanB] at h
    cases hl : letterB x with
    | true =>
      simp only [hl, if_true] at h
      obtain ⟨r1, h1, h2⟩ := Option.bind_eq_some_iff.1 h
      have := ih r1 h2
      obtain ⟨v, -, rfl⟩ := Option.map_eq_some_iff.1 h1
      have e : (setOf x v (past r.1, r.2)).1 = past r.1 := by
        unfold setOf; repeat' split
        all_goals rfl
      rw [e, skel_past] at this
      rw [this, fskel, fskel, List.filter_cons]
      simp [hl]
    | false =>
      simp only [hl, Bool.false_eq_true, if_false] at h
      obtain ⟨r1, h1, h2⟩ := Option.bind_eq_some_iff.1 h
      have := ih r1 h2
      obtain ⟨s, q⟩ := r
      unfold litV at h1
      split at h1
      · rename_i hp
        cases h1
        cases s with
        | nil => simp at hp
        | cons y s =>
          simp at hp
          subst hp
          simp only [List.length_cons, List.length_nil, List.drop_succ_cons, List.drop_zero] at this
          simp only [fskel, skel, List.filter_cons, hl, Bool.not_false, Bool.true_and] at this ⊢
          split
          · rw [this]; rfl
          · rw [this]
      · cases h1

theorem row_skel {t : List UInt8} {r r' : Rd} (h : rowB t r = some r') : skel r.1 = fskel t ∧ r'.1 = [] := by
  obtain ⟨r1, h1, h2⟩ := Option.bind_eq_some_iff.1 h
  unfold endV at h2
  split at h2
  · rename_i he
    injection h2 with e
    subst e
    have := scan_skel t r _ h1
    rw [he] at this
    exact ⟨by simpa [skel] using this, he⟩
  · cases h2

/-- Each letter is followed by a byte that is no letter and no digit, or by none. -/
def headOk (x : UInt8) : List UInt8 → Bool
  | [] => true
  | y :: _ => !letterB x || (!letterB y && !isDig y)
def goodT : List UInt8 → Bool
  | [] => true
  | x :: t => headOk x t && goodT t

theorem good_opens {x : UInt8} {t : List UInt8} (h : goodT (x :: t) = true) (hx : letterB x = true) (c' t' f' k' : Nat) : opens (render c' t' f' k' t) := by
  cases t with
  | nil => exact opens_nil
  | cons y t =>
    simp only [goodT, headOk, hx, Bool.not_true, Bool.false_or, Bool.and_eq_true, Bool.not_eq_true'] at h
    rw [render, List.flatMap_cons, rend_plain h.1.1]
    exact opens_cons h.1.2
theorem good_tail {x : UInt8} {t : List UInt8} (h : goodT (x :: t) = true) : goodT t = true := by
  rw [goodT, Bool.and_eq_true] at h
  exact h.2

theorem numFrom_dec (most n : Nat) (hn : n ≤ most) (h20 : n < 10 ^ 20) : numFrom most 0 (dec n) = some n := by
  by_cases h0 : n = 0
  · subst h0; rw [dec_zero]; simp [numFrom, isDig]
  · rw [dec_pos n (by omega)]; exact numFrom_decZ most n hn h20

theorem numAhead_dec (most n : Nat) (r : List UInt8) (hn : n ≤ most) (h20 : n < 10 ^ 20) (hr : opens r) : numAhead most (dec n ++ r) = some n ∧ past (dec n ++ r) = r := by
  have e := digs_app (dec n) r (dec_dig n h20) hr
  constructor
  · rw [numAhead, e, if_neg (dec_ne n h20), numFrom_dec most n hn h20]
  · rw [past, e]; simp

theorem scan_render (c t f k : Nat) (hc : c ≤ 65535) (ht : t ≤ 255) (hf : f ≤ 255) (hk : k ≤ 4294967295) (s : List UInt8) (hg : goodT s = true) (c0 t0 f0 k0 : Nat) :
    scanB s (render c t f k s, c0, t0, f0, k0) = some ([], if s.contains 67 then c else c0, if s.contains 84 then t else t0, if s.contains 70 then f else f0, if s.contains 75 then k else k0) := by
  induction s generalizing c0 t0 f0 k0 with
  | nil => rfl
  | cons x s ih =>
    have ih := ih (good_tail hg)
    rw [scanB]
    have er : render c t f k (x :: s) = rend c t f k x ++ render c t f k s := by simp [render]
    rw [er]
    cases hl : letterB x with
    | true =>
      have ho := good_opens hg hl c t f k
      simp only [if_true]
      simp only [letterB, Bool.or_eq_true, beq_iff_eq] at hl
      rcases hl with rfl | rfl | rfl | rfl
      · obtain ⟨h1, h2⟩ := numAhead_dec 65535 c _ hc (by omega) ho
        have e : rend c t f k 67 = dec c := rfl
        simp only [numV, mostOf, setOf, e, if_true, h1, h2, Option.map_some, Option.bind_some, ih]
        simp
      · obtain ⟨h1, h2⟩ := numAhead_dec 255 t _ ht (by omega) ho
        have e : rend c t f k 84 = dec t := rfl
        have n1 : (84 : UInt8) = 67 ↔ False := by decide
        simp only [numV, mostOf, setOf, e, n1, if_true, if_false, h1, h2, Option.map_some, Option.bind_some, ih]
        simp
      · obtain ⟨h1, h2⟩ := numAhead_dec 255 f _ hf (by omega) ho
        have e : rend c t f k 70 = dec f := rfl
        have n1 : (70 : UInt8) = 67 ↔ False := by decide
        have n2 : (70 : UInt8) = 84 ↔ False := by decide
        simp only [numV, mostOf, setOf, e, n1, n2, if_true, if_false, h1, h2, Option.map_some, Option.bind_some, ih]
        simp
      · obtain ⟨h1, h2⟩ := numAhead_dec 4294967295 k _ hk (by omega) ho
        have e : rend c t f k 75 = dec k := rfl
        have n1 : (75 : UInt8) = 67 ↔ False := by decide
        have n2 : (75 : UInt8) = 84 ↔ False := by decide
        have n3 : (75 : UInt8) = 70 ↔ False := by decide
        simp only [numV, mostOf, setOf, e, n1, n2, n3, if_false, h1, h2, Option.map_some, Option.bind_some, ih]
        simp
    | false =>
      rw [rend_plain hl]
      simp only [Bool.false_eq_true, if_false]
      have e : litV [x] ([x] ++ render c t f k s, c0, t0, f0, k0) = some (render c t f k s, c0, t0, f0, k0) := by simp [litV]
      rw [e, Option.bind_some, ih]
      simp only [letterB, Bool.or_eq_false_iff, beq_eq_false_iff_ne] at hl
      obtain ⟨n1, n2, n3, n4⟩ := hl
      simp only [List.contains_cons]
      rw [beq_eq_false_iff_ne.2 (Ne.symm n1), beq_eq_false_iff_ne.2 (Ne.symm n2), beq_eq_false_iff_ne.2 (Ne.symm n3), beq_eq_false_iff_ne.2 (Ne.symm n4)]
      rfl

/-- All rows: those of the table, and the raw one. -/
def rowsT : List (Nat × List UInt8) := fText ++ [(0, rawT)]
def startR (s : List UInt8) (r : Nat × List UInt8) : Rd := (s, r.1, 0, 0, 0)
def inR (r : Rd) : In := mkI r.2.1 r.2.2.1 r.2.2.2.1 r.2.2.2.2
/-- The first row that takes a line. -/
def readT (s : List UInt8) : Option Rd := rowsT.findSome? fun r => rowB r.2 (startR s r)

theorem rows_good : rowsT.all (fun r => goodT r.2) = true := by decide +kernel
theorem rows_code : fText.all (fun r => !r.2.contains 67) = true := by decide +kernel
theorem rows_apart : rowsT.all (fun a => rowsT.all fun b => (fskel a.2 != fskel b.2) || a == b) = true := by decide +kernel

theorem rows_same {a b : Nat × List UInt8} (ha : a ∈ rowsT) (hb : b ∈ rowsT) (h : fskel a.2 = fskel b.2) : a = b := by
  have := List.all_eq_true.1 (List.all_eq_true.1 rows_apart a ha) b hb
  simpa [h] using this

theorem row_takes (c t f k : Nat) (hc : c ≤ 65535) (ht : t ≤ 255) (hf : f ≤ 255) (hk : k ≤ 4294967295) : ∃ r ∈ rowsT, rowB r.2 (startR (lineN c t f k) r) = some ([], c, t, f, k) := by
  rw [← lineT_eq, lineT]
  cases h : rawB c t f k with
  | true =>
    refine ⟨(0, rawT), by simp [rowsT], ?_⟩
    rw [find_raw h]
    simp only [Option.map_none, Option.getD_none, rowB, startR]
    rw [scan_render c t f k hc ht hf hk rawT (by decide)]
    rfl
  | false =>
    obtain ⟨h1, -, -⟩ := form_parts h
    obtain ⟨hm, -, -, -, h5, h6, h7⟩ := f_shape h1
    have hmem : (c, fOf c) ∈ rowsT := by simp [rowsT, hm]
    refine ⟨(c, fOf c), hmem, ?_⟩
    rw [find_form h]
    have hg : goodT (fOf c) = true := List.all_eq_true.1 rows_good _ hmem
    have h67 : (fOf c).contains 67 = false := by
      have := List.all_eq_true.1 rows_code _ hm
      simpa using this
    simp only [Option.map_some, Option.getD_some, rowB, startR]
    rw [scan_render c t f k hc ht hf hk (fOf c) hg, h5, h6, h7, h67]
    have hs := shows_raw (t := t) (f := f) (k := k) h1
    rw [h] at hs
    simp only [showsB, h5, h6, h7, Bool.not_false, Bool.and_eq_true, Bool.or_eq_true, beq_iff_eq] at hs
    obtain ⟨s1, s2, s3⟩ := hs
    have e1 : (if usesK c = true then k else 0) = k := by split <;> rename_i hu <;> simp_all
    have e2 : (if usesJ c = true then t else 0) = t := by split <;> rename_i hu <;> simp_all
    have e3 : (if usesJ c = true then f else 0) = f := by split <;> rename_i hu <;> simp_all
    rw [e1, e2, e3]
    rfl

theorem findSome_one {α β : Type} {l : List α} {p : α → Option β} {y : β} (hex : ∃ a ∈ l, p a = some y) (hu : ∀ b ∈ l, ∀ z, p b = some z → z = y) : l.findSome? p = some y := by
  cases h : l.findSome? p with
  | none =>
    obtain ⟨a, ha, hy⟩ := hex
    rw [List.findSome?_eq_none_iff.1 h a ha] at hy
    cases hy
  | some z =>
    obtain ⟨b, hb, hz⟩ := List.exists_of_findSome?_eq_some h
    rw [hu b hb z hz]

theorem readT_line (c t f k : Nat) (hc : c ≤ 65535) (ht : t ≤ 255) (hf : f ≤ 255) (hk : k ≤ 4294967295) : readT (lineN c t f k) = some ([], c, t, f, k) := by
  obtain ⟨r, hr, h⟩ := row_takes c t f k hc ht hf hk
  refine findSome_one ⟨r, hr, h⟩ ?_
  intro b hb z hz
  have e1 := (row_skel h).1
  have e2 := (row_skel hz).1
  have e : r = b := rows_same hr hb (e1.symm.trans e2)
  subst e
  rw [h] at hz
  exact (Option.some.inj hz).symm

/-- A line counts, if it is the text of what was read. -/
theorem readT_V (s : List UInt8) : readV s = match readT s with | none => none | some r => if lineV (inR r) = s then some (inR r) else none := by
  cases h : readV s with
  | some x =>
    have hl := read_iff.1 h
    obtain ⟨h1, h2, h3, h4⟩ := x.bounds
    have e := readT_line x.code.toNat x.jt.toNat x.jf.toNat x.k.toNat h1 h2 h3 h4
    have hl' : lineN x.code.toNat x.jt.toNat x.jf.toNat x.k.toNat = s := hl
    rw [hl'] at e
    rw [e]
    simp only [inR, mkI_eta]
    rw [if_pos hl]
  | none =>
    cases hr : readT s with
    | none => rfl
    | some r =>
      simp only
      rw [if_neg]
      intro hl
      rw [read_iff.2 hl] at h
      cases h

/-- What the numbers read of a line are at most. -/
def RdOk (r : Rd) : Prop := r.2.1 ≤ 65535 ∧ r.2.2.1 ≤ 255 ∧ r.2.2.2.1 ≤ 255 ∧ r.2.2.2.2 ≤ 4294967295

theorem numAhead_le {most n : Nat} {s : List UInt8} (h : numAhead most s = some n) : n ≤ most := by
  unfold numAhead at h
  split at h
  · cases h
  · exact numFrom_le 0 _ n (by omega) h

theorem numV_ok {x : UInt8} {r r' : Rd} (hr : RdOk r) (h : numV x r = some r') : RdOk r' := by
  obtain ⟨v, hv, rfl⟩ := Option.map_eq_some_iff.1 h
  have := numAhead_le hv
  obtain ⟨h1, h2, h3, h4⟩ := hr
  unfold mostOf at this
  unfold setOf
  split
  · rename_i e; rw [if_pos e] at this; exact ⟨this, h2, h3, h4⟩
  · rename_i e
    rw [if_neg e] at this
    split
    · rename_i e; rw [if_pos e] at this; exact ⟨h1, this, h3, h4⟩
    · rename_i e
      rw [if_neg e] at this
      split
      · rename_i e; rw [if_pos e] at this; exact ⟨h1, h2, this, h4⟩
      · rename_i e; rw [if_neg e] at this; exact ⟨h1, h2, h3, this⟩

theorem litV_ok {l : List UInt8} {r r' : Rd} (hr : RdOk r) (h : litV l r = some r') : RdOk r' := by
  unfold litV at h
  split at h
  · cases h; exact hr
  · cases h

theorem scan_ok {t : List UInt8} {r r' : Rd} (hr : RdOk r) (h : scanB t r = some r') : RdOk r' := by
  induction t generalizing r with
  | nil => simp [scanB] at h; subst h; exact hr
  | cons x t ih =>
    rw [scanB] at h
    obtain ⟨r1, h1, h2⟩ := Option.bind_eq_some_iff.1 h
    refine ih ?_ h2
    split at h1
    · exact numV_ok hr h1
    · exact litV_ok hr h1

theorem row_ok {t : List UInt8} {r r' : Rd} (hr : RdOk r) (h : rowB t r = some r') : RdOk r' := by
  obtain ⟨r1, h1, h2⟩ := Option.bind_eq_some_iff.1 h
  have := scan_ok hr h1
  unfold endV at h2
  split at h2
  · cases h2; exact this
  · cases h2

/-- The lines of a text, one by one. -/
def cutL (s : List UInt8) : List UInt8 := s.takeWhile fun x => x != 10
def cutR (s : List UInt8) : List UInt8 := (s.dropWhile fun x => x != 10).drop 1

theorem linesG_cut (cur s : List UInt8) (h : cur ≠ [] ∨ s ≠ []) : linesG cur s = (cur ++ cutL s) :: linesV (cutR s) := by
  induction s generalizing cur with
  | nil =>
    have hc : cur ≠ [] := by simpa using h
    simp [linesG, hc, cutL, cutR, linesV]
  | cons c s ih =>
    rw [linesG]
    by_cases h10 : c = 10
    · subst h10
      simp [cutL, cutR, linesV]
    · rw [if_neg h10, ih (cur ++ [c]) (.inl (by simp))]
      have e : (c != 10) = true := by simpa using h10
      simp [cutL, cutR, e]

theorem lines_cut (s : List UInt8) (h : s ≠ []) : linesV s = cutL s :: linesV (cutR s) := by
  have := linesG_cut [] s (.inr h)
  simpa [linesV] using this

theorem cutL_len (s : List UInt8) : (cutL s).length ≤ s.length := by
  have := (List.takeWhile_sublist (l := s) (p := fun x : UInt8 => x != 10)).length_le
  exact this
theorem cutR_len (s : List UInt8) (h : s ≠ []) : (cutR s).length < s.length := by
  cases s with
  | nil => exact absurd rfl h
  | cons c s =>
    have := (List.dropWhile_sublist (l := s) (p := fun x : UInt8 => x != 10)).length_le
    simp only [cutR, List.dropWhile_cons]
    split
    · simp only [List.length_drop, List.length_cons]; omega
    · simp

end Go.Proofs.YtcapmbeabfhjoaaDoor
