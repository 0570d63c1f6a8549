/-
  Numbers as texts: no Go text here. The document's own Number; rows of texts. Hex, the document's and the program's: two digits a byte. Unhex, the document's and the program's: the bytes of a text of digits, or none. What chapter 10 says of a source's tokens: no Go text here.
-/
import Derived.Test.YtnojpepjloceoaaGreatLotP14
import Derived.Test.YtnojpepjloceoaaGreatLotP4
import Derived.Test.YtnojpepjloceoaaGreatLotP3
import Derived.Laws.IdiomStrings
namespace Go.Proofs.YtnojpepjloceoaaGreat
open Go.RowKit
set_option maxRecDepth 100000

def isDig (c : UInt8) : Bool := decide (48 ≤ c.toNat) && decide (c.toNat ≤ 57)

theorem dg_dig {n : Nat} (h : n < 10) : isDig (dg n) = true := by
  have := dg_nat h
  simp [isDig, this]; omega

/-- What Number says: the number that digits say behind v; none: there is another letter, or it is too great. -/
def numFrom (most : Nat) : Nat → List UInt8 → Option Nat
  | v, [] => some v
  | v, c :: r => if isDig c = true then (if most < 10 * v + (c.toNat - 48) then none else numFrom most (10 * v + (c.toNat - 48)) r) else none
def numberV (most : Nat) (s : List UInt8) : Option Nat := if s = [] ∨ (1 < s.length ∧ s.head? = some 48) then none else numFrom most 0 s

theorem numFrom_snoc (most v : Nat) (a : List UInt8) (c : UInt8) : numFrom most v (a ++ [c]) = (numFrom most v a).bind fun u => numFrom most u [c] := by
  induction a generalizing v with
  | nil => rfl
  | cons x a ih =>
    simp only [List.cons_append, numFrom]
    split
    · split
      · rfl
      · exact ih _
    · rfl

theorem numFrom_decZ (most n : Nat) (hn : n ≤ most) (h20 : n < 10 ^ 20) : numFrom most 0 (decZ n) = some n := by
  induction n using Nat.strongRecOn with
  | _ n ih =>
    by_cases h0 : n = 0
    · subst h0; rfl
    · rw [decZ_step n (by omega) h20, numFrom_snoc, ih (n / 10) (by omega) (by omega) (by omega)]
      have h10 : n % 10 < 10 := by omega
      have e := dg_nat h10
      have hv : 10 * (n / 10) + ((dg (n % 10)).toNat - 48) = n := by omega
      simp only [Option.bind_some, numFrom, dg_dig h10, hv]
      simp [show ¬ most < n by omega]

theorem decZ_head (n : Nat) (h0 : 0 < n) (h20 : n < 10 ^ 20) : ∃ c r, decZ n = c :: r ∧ c ≠ 48 ∧ isDig c = true := by
  induction n using Nat.strongRecOn with
  | _ n ih =>
    rw [decZ_step n h0 h20]
    by_cases h : n / 10 = 0
    · have h10 : n % 10 < 10 := by omega
      have e := dg_nat h10
      refine ⟨dg (n % 10), [], by simp [decZ, h], ?_, dg_dig h10⟩
      intro hc
      have := congrArg UInt8.toNat hc
      simp at this
      omega
    · obtain ⟨c, r, hr, hc⟩ := ih (n / 10) (by omega) (by omega) (by omega)
      exact ⟨c, r ++ [dg (n % 10)], by rw [hr]; rfl, hc⟩

theorem dec_pos (n : Nat) (h0 : 0 < n) : dec n = decZ n := by rw [decZ, if_neg (by omega)]

theorem dec_zero : dec 0 = [48] := by decide

theorem dec_ne (n : Nat) (h20 : n < 10 ^ 20) : dec n ≠ [] := by rw [dec_step n h20]; simp

theorem dec_dig (n : Nat) (h20 : n < 10 ^ 20) : ∀ c ∈ dec n, isDig c = true := by
  have key : ∀ n, n < 10 ^ 20 → ∀ c ∈ decZ n, isDig c = true := by
    intro n
    induction n using Nat.strongRecOn with
    | _ n ih =>
      intro h c hc
      by_cases h0 : n = 0
      · subst h0; simp [decZ] at hc
      · rw [decZ_step n (by omega) h] at hc
        rcases List.mem_append.1 hc with hc | hc
        · exact ih (n / 10) (by omega) (by omega) c hc
        · simp only [List.mem_singleton] at hc
          subst hc
          exact dg_dig (by omega)
  by_cases h0 : n = 0
  · subst h0; rw [dec_zero]; decide
  · rw [dec_pos n (by omega)]; exact key n h20

theorem numberV_dec (most n : Nat) (hn : n ≤ most) (h20 : n < 10 ^ 20) : numberV most (dec n) = some n := by
  by_cases h0 : n = 0
  · subst h0; rw [dec_zero]; simp [numberV, numFrom, isDig]
  · have hd := dec_pos n (by omega)
    obtain ⟨c, r, hr, hc, -⟩ := decZ_head n (by omega) h20
    rw [hd, numberV, if_neg, numFrom_decZ most n hn h20]
    rw [hr]
    simp [hc]

end Go.Proofs.YtnojpepjloceoaaGreat

namespace Go.Proofs.YtnojpepjloceoaaGreat
open Go.RowKit
set_option maxRecDepth 100000

/-- The letters of a text. -/
def sl (s : ByteArray) : List UInt8 := s.data.toList

theorem sl_len (s : ByteArray) : (sl s).length = s.size := by simp [sl]
theorem sl_str (xs : List UInt8) : sl ⟨xs.toArray⟩ = xs := rfl
theorem str_sl (s : ByteArray) : Value.string s = str (sl s) := by simp [sl, str]
theorem sl_drop (s : ByteArray) (k : Nat) (hk : k < s.size) : (sl s).drop k = s[k] :: (sl s).drop (k + 1) := by
  rw [List.drop_eq_getElem_cons (by rw [sl_len]; exact hk)]
  rfl

theorem ret_num {a b : Int} {x y : Bool} (h : a = b) (h' : x = y) : Ending.returned (.tuple #[.int .u64 a, .bool x]) = .returned (.tuple #[.int .u64 b, .bool y]) := by rw [h, h']

theorem sl_extract (s : ByteArray) (i k : Nat) : sl (s.extract i k) = ((sl s).drop i).take (k - i) := by
  simp [sl, ByteArray.data_extract, Array.toList_extract, List.extract]

theorem numFrom_le {most : Nat} : ∀ (v : Nat) (d : List UInt8) (n : Nat), v ≤ most → numFrom most v d = some n → n ≤ most
  | v, [], n, hv, h => by simp [numFrom] at h; omega
  | v, c :: d, n, hv, h => by
    rw [numFrom] at h
    split at h
    · split at h
      · cases h
      · exact numFrom_le _ d n (by omega) h
    · cases h

theorem numberV_le {most n : Nat} {d : List UInt8} (h : numberV most d = some n) : n ≤ most := by
  unfold numberV at h
  split at h
  · cases h
  · exact numFrom_le 0 d n (Nat.zero_le _) h

theorem sl_at (s : ByteArray) (j : Nat) (hj : j < s.size) : (sl s)[j]? = some s[j] := by
  rw [List.getElem?_eq_getElem (by rw [sl_len]; exact hj)]
  rfl
theorem take_grow (s : ByteArray) (g j : Nat) (hgj : g ≤ j) (hj : j < s.size) : ((sl s).drop g).take (j + 1 - g) = ((sl s).drop g).take (j - g) ++ [s[j]] := by
  rw [show j + 1 - g = (j - g) + 1 by omega, List.take_add_one, List.getElem?_drop, show g + (j - g) = j by omega, sl_at s j hj]
  rfl

theorem info9 : (Tryz.prog.info? 9).map (fun i => (i.zero, i.size, i.bytes)) = some (some (.string ⟨#[]⟩), 1, 16) := by kernel_rfl

abbrev SOwns (w : World) (base : Nat) (v : Value) (ls : List (List UInt8)) : Prop := w.ownsRow base 9 1 v ls.length (ls.map str)

end Go.Proofs.YtnojpepjloceoaaGreat

namespace Go.Proofs.YtnojpepjloceoaaGreat
open Go.RowKit
set_option maxRecDepth 100000

/-- A digit of base 16. -/
def hexD (n : Nat) : UInt8 := if n < 10 then UInt8.ofNat (48 + n) else UInt8.ofNat (87 + n)

/-- What Hex says. -/
def hexS (xs : List UInt8) : List UInt8 := xs.flatMap fun c => [hexD (c.toNat / 16), hexD (c.toNat % 16)]

theorem hexS_succ (xs : List UInt8) (k : Nat) (hk : k < xs.length) : hexS (xs.take (k + 1)) = hexS (xs.take k) ++ [hexD (xs[k].toNat / 16), hexD (xs[k].toNat % 16)] := by
  rw [List.take_succ_eq_append_getElem hk]; simp only [hexS, List.flatMap_append, List.flatMap_cons, List.flatMap_nil, List.append_nil]

theorem hexS_len (xs : List UInt8) : (hexS xs).length = 2 * xs.length := by
  induction xs with
  | nil => rfl
  | cons x xs ih => simp only [hexS, List.flatMap_cons, List.length_append, List.length_cons, List.length_nil] at *; omega

/-- 'string(b)', b the call's own. -/
theorem run_str {P : Program} {w : World} {base : Nat} {v : Value} {ys : List UInt8} (h : Owns w base v ys) (src dst : TypeId) (hs : P.underlying src = some (.slice 5)) (he : P.underlying 5 = some (.int .u8)) (hd : P.underlying dst = some .string) :
    (convert src dst v).run P w = .ok (.string ⟨ys.toArray⟩) w := by
  obtain ⟨ao, cap, rfl, hc, _⟩ := h.shape
  cases ao with
  | none =>
    have e := hc.1 rfl
    subst e
    show (convert src dst (.slice none 0 cap)).run P w = _
    rw [run_convert_bytes_string w src dst 5 none 0 cap hs he hd]
    simp [Conv.bytesToString]
    rfl
  | some ad => exact run_convert_bytes_back w src dst 5 ad cap ys hs he hd (fun j hj => hc.2 ad rfl j hj)

/-- The sixteen digits. -/
def hexT : ByteArray := ⟨#[48, 49, 50, 51, 52, 53, 54, 55, 56, 57, 97, 98, 99, 100, 101, 102]⟩

theorem hexT_at (i : Nat) (h : i < hexT.size) : hexT[i] = hexD i := by
  have h' : i < 16 := h
  have key : ∀ j : Fin 16, hexT[j.val]'(j.isLt) = hexD j.val := by decide +kernel
  exact key ⟨i, h'⟩

end Go.Proofs.YtnojpepjloceoaaGreat

namespace Go.Proofs.YtnojpepjloceoaaGreat
open Go.RowKit
set_option maxRecDepth 100000

/-- Is it a digit of base 16, a small one? -/
def digOk (c : Nat) : Bool := decide ((48 ≤ c ∧ c ≤ 57) ∨ (97 ≤ c ∧ c ≤ 102))
/-- Which? -/
def digV (c : Nat) : Nat := if 48 ≤ c ∧ c ≤ 57 then c - 48 else if 97 ≤ c ∧ c ≤ 102 then c - 87 else 0

theorem digV_lt (c : Nat) : digV c < 16 := by unfold digV; split <;> (try split) <;> omega

theorem dig_dec {c : Nat} (h : 48 ≤ c ∧ c ≤ 57) : digOk c = true ∧ digV c = c - 48 := ⟨decide_eq_true (.inl h), by simp [digV, h]⟩
theorem dig_let {c : Nat} (h : 97 ≤ c ∧ c ≤ 102) : digOk c = true ∧ digV c = c - 87 := ⟨decide_eq_true (.inr h), by unfold digV; rw [if_neg (by omega), if_pos h]⟩
theorem dig_no {c : Nat} (h1 : ¬ (48 ≤ c ∧ c ≤ 57)) (h2 : ¬ (97 ≤ c ∧ c ≤ 102)) : digOk c = false ∧ digV c = 0 := ⟨decide_eq_false (by omega), by unfold digV; rw [if_neg h1, if_neg h2]⟩

theorem ret_digit {a b : Int} {x y : Bool} (h : a = b) (h' : x = y) : Ending.returned (.tuple #[.int .u8 a, .bool x]) = .returned (.tuple #[.int .u8 b, .bool y]) := by rw [h, h']

/-- A text's byte, as a number. -/
def gd (s : ByteArray) (i : Nat) : Nat := (s.data.toList.getD i 0).toNat

theorem gd_eq (s : ByteArray) (i : Nat) (h : i < s.size) : s[i].toNat = gd s i := by
  have h' : i < s.data.toList.length := by simpa using h
  unfold gd
  rw [List.getD_eq_getElem?_getD, List.getElem?_eq_getElem h']
  rfl

theorem gd_lt (s : ByteArray) (i : Nat) : gd s i < 256 := UInt8.toNat_lt _

/-- Are the first k pairs digits? -/
def okTo (s : ByteArray) : Nat → Bool
  | 0 => true
  | k + 1 => okTo s k && (digOk (gd s (2 * k)) && digOk (gd s (2 * k + 1)))

/-- The bytes of the first k pairs. -/
def decTo (s : ByteArray) : Nat → List UInt8
  | 0 => []
  | k + 1 => decTo s k ++ [UInt8.ofNat (16 * digV (gd s (2 * k)) + digV (gd s (2 * k + 1)))]

theorem decTo_len (s : ByteArray) (k : Nat) : (decTo s k).length = k := by
  induction k with
  | zero => rfl
  | succ k ih => simp [decTo, ih]

theorem okTo_no (s : ByteArray) (k n : Nat) (hk : k < n) (h : (digOk (gd s (2 * k)) && digOk (gd s (2 * k + 1))) = false) : okTo s n = false := by
  induction n with
  | zero => omega
  | succ n ih =>
    by_cases e : k = n
    · subst e
      simp only [okTo, h, Bool.and_false]
    · simp only [okTo, ih (by omega), Bool.false_and]

def unOk (s : ByteArray) : Bool := decide (s.size % 2 = 0) && okTo s (s.size / 2)
def unV (s : ByteArray) : List UInt8 := if unOk s = true then decTo s (s.size / 2) else []

theorem un_odd {s : ByteArray} (h : s.size % 2 ≠ 0) : unOk s = false ∧ unV s = [] := by
  have e : unOk s = false := by simp [unOk, h]
  exact ⟨e, by simp [unV, e]⟩

theorem un_bad {s : ByteArray} {k : Nat} (hk : 2 * k < s.size) (he : s.size % 2 = 0) (h : (digOk (gd s (2 * k)) && digOk (gd s (2 * k + 1))) = false) : unOk s = false ∧ unV s = [] := by
  have e : unOk s = false := by simp only [unOk, okTo_no s k (s.size / 2) (by omega) h, Bool.and_false]
  exact ⟨e, by simp [unV, e]⟩

theorem un_good {s : ByteArray} {k : Nat} (hk : 2 * k = s.size) (h : okTo s k = true) : unOk s = true ∧ unV s = decTo s k := by
  have e2 : s.size / 2 = k := by omega
  have e : unOk s = true := by simp only [unOk, e2, h, Bool.and_true, decide_eq_true_eq]; omega
  exact ⟨e, by simp [unV, e, e2]⟩

theorem bytes_join (a b : Nat) (ha : a < 16) (hb : b < 16) : bits .or .u8 ((a : Int) * 16) (b : Int) = ((16 * a + b : Nat) : Int) := by
  rw [show ((a : Int) * 16) = ((a * 16 : Nat) : Int) by omega, u8_or_nat _ _ (by omega) (by omega), nat_join 4 _ _ (by omega) (by omega)]
  omega

end Go.Proofs.YtnojpepjloceoaaGreat

namespace Go.Proofs.YtnojpepjloceoaaGreat
open Go.RowKit
set_option maxRecDepth 100000

def blankB (c : UInt8) : Bool := c == 32 || c == 9 || c == 10 || c == 13
def letB (c : UInt8) : Bool := decide (97 ≤ c.toNat) && decide (c.toNat ≤ 122)
/-- The bytes of a run: of an address of IP6, of one of IP, of a word. -/
def sixB (c : UInt8) : Bool := digOk c.toNat || c == 58
def quadB (c : UInt8) : Bool := isDig c || c == 46
def wordB (c : UInt8) : Bool := isDig c || letB c

/-- A number in base 16, behind v. -/
def hexL : Nat → List UInt8 → Option Nat
  | v, [] => some v
  | v, c :: r => if digOk c.toNat = true then (if 4294967295 < 16 * v + digV c.toNat then none else hexL (16 * v + digV c.toNat) r) else none
def numV (s : List UInt8) : Option Nat := if 2 < s.length ∧ s.getD 0 0 = 48 ∧ s.getD 1 0 = 120 then hexL 0 (s.drop 2) else numberV 4294967295 s

def twosL : List (List UInt8) := [[60, 60], [62, 62], [60, 61], [62, 61], [61, 61], [33, 61], [38, 38], [124, 124]]
def onesL : List UInt8 := [40, 41, 91, 93, 58, 43, 45, 42, 47, 37, 38, 124, 94, 60, 62, 61, 33]
def signV (s : List UInt8) : List UInt8 := if s.take 2 ∈ twosL then s.take 2 else if s.head?.all (onesL.contains ·) = true then s.take 1 else []

/-- The token at a place at which no blank stands: its kind, its text, its number. -/
def tokV (s : List UInt8) : Except Int (Nat × List UInt8 × Nat) :=
  if 2 ≤ (s.takeWhile sixB).count 58 then .ok (4, s.takeWhile sixB, 0)
  else if s.head?.any isDig = true then
    (if 46 ∈ s.takeWhile quadB then .ok (3, s.takeWhile quadB, 0)
    else match numV (s.takeWhile wordB) with
      | none => .error 102
      | some n => .ok (1, s.takeWhile wordB, n))
  else if s.head?.any letB = true then .ok (2, s.takeWhile wordB, 0)
  else if signV s = [] then .error 101 else .ok (5, signV s, 0)

structure Tk where
  kind : Nat
  pos : Nat
  text : List UInt8
  num : Nat

/-- The tokens from a place on, or the first error and its place. -/
def lexF : Nat → Nat → List UInt8 → Except (Nat × Int) (List Tk)
  | 0, p, _ => .ok [⟨0, p, [], 0⟩]
  | _ + 1, p, [] => .ok [⟨0, p, [], 0⟩]
  | k + 1, p, c :: r =>
    if blankB c = true then lexF k (p + 1) r
    else match tokV (c :: r) with
      | .error e => .error (p, e)
      | .ok (q, t, n) => match lexF k (p + t.length) ((c :: r).drop t.length) with
        | .error e => .error e
        | .ok ts => .ok (⟨q, p, t, n⟩ :: ts)
def lexR (p : Nat) (s : List UInt8) : Except (Nat × Int) (List Tk) := lexF s.length p s
/-- P10.1. -/
def lexV (s : List UInt8) : Except (Nat × Int) (List Tk) := if 65536 < s.length then .error (0, 100) else lexR 0 s

theorem blank_not {c : UInt8} (h : blankB c = true) : sixB c = false ∧ quadB c = false ∧ wordB c = false ∧ isDig c = false ∧ letB c = false ∧ onesL.contains c = false := by
  unfold blankB at h
  simp only [Bool.or_eq_true, beq_iff_eq] at h
  rcases h with ((rfl | rfl) | rfl) | rfl <;> decide

theorem takeWhile_len {α : Type} (p : α → Bool) : ∀ (l : List α), (l.takeWhile p).length ≤ l.length
  | [] => Nat.le_refl _
  | x :: r => by
    rw [List.takeWhile_cons]
    split
    · simp only [List.length_cons]
      exact Nat.succ_le_succ (takeWhile_len p r)
    · simp
theorem takeWhile_pre {α : Type} (p : α → Bool) (l : List α) : l.takeWhile p = l.take (l.takeWhile p).length := by
  induction l with
  | nil => rfl
  | cons x r ih =>
    rw [List.takeWhile_cons]
    split
    · simp only [List.length_cons, List.take_succ_cons]
      rw [← ih]
    · simp
theorem takeWhile_twice {α : Type} (p : α → Bool) (l : List α) : (l.takeWhile p).takeWhile p = l.takeWhile p := by
  induction l with
  | nil => rfl
  | cons x r ih =>
    by_cases h : p x = true
    · rw [List.takeWhile_cons_of_pos h, List.takeWhile_cons_of_pos h, ih]
    · rw [List.takeWhile_cons_of_neg h]
      rfl
/-- Behind a blank, or at the end, a run ends. -/
theorem takeWhile_end {α : Type} (p : α → Bool) (t r : List α) (h : r = [] ∨ ∃ b r', r = b :: r' ∧ p b = false) : (t ++ r).takeWhile p = t.takeWhile p := by
  induction t with
  | nil =>
    rcases h with rfl | ⟨b, r', rfl, hb⟩
    · rfl
    · rw [List.nil_append, List.takeWhile_cons_of_neg (by rw [hb]; simp)]
      rfl
  | cons x t ih =>
    rw [List.cons_append]
    by_cases hx : p x = true
    · rw [List.takeWhile_cons_of_pos hx, List.takeWhile_cons_of_pos hx, ih]
    · rw [List.takeWhile_cons_of_neg hx, List.takeWhile_cons_of_neg hx]
theorem takeWhile_all {α : Type} (p : α → Bool) (l : List α) (h : ∀ x ∈ l, p x = true) : l.takeWhile p = l := by
  induction l with
  | nil => rfl
  | cons x r ih =>
    rw [List.takeWhile_cons_of_pos (h x (List.mem_cons_self ..)), ih (fun y hy => h y (List.mem_cons_of_mem _ hy))]
theorem takeWhile_mem {α : Type} (p : α → Bool) (l : List α) {x : α} (h : x ∈ l.takeWhile p) : p x = true := by
  induction l with
  | nil => simp at h
  | cons y r ih =>
    by_cases hy : p y = true
    · rw [List.takeWhile_cons_of_pos hy] at h
      rcases List.mem_cons.1 h with rfl | h
      · exact hy
      · exact ih h
    · rw [List.takeWhile_cons_of_neg hy] at h
      simp at h
theorem takeWhile_head {α : Type} (p : α → Bool) (c : α) (r : List α) (h : p c = true) : ∃ t, (c :: r).takeWhile p = c :: t := ⟨_, List.takeWhile_cons_of_pos h⟩

/-- What ends a token: a blank, or the source's end. -/
def endsB (r : List UInt8) : Prop := r = [] ∨ ∃ b r', r = b :: r' ∧ blankB b = true
theorem sign_end {t r : List UInt8} (ht : t ≠ []) (h : endsB r) : signV (t ++ r) = signV t := by
  rcases h with rfl | ⟨b, r', rfl, hb⟩
  · rw [List.append_nil]
  · cases t with
    | nil => exact absurd rfl ht
    | cons c t =>
      cases t with
      | nil =>
        have h1 : ¬ (([c] ++ b :: r').take 2 ∈ twosL) := by
          show ¬ ([c, b] ∈ twosL)
          unfold blankB at hb
          simp only [Bool.or_eq_true, beq_iff_eq] at hb
          simp only [twosL, List.mem_cons, List.not_mem_nil, or_false, List.cons.injEq, and_true]
          rcases hb with ((rfl | rfl) | rfl) | rfl <;> simp
        have h2 : ¬ ([c].take 2 ∈ twosL) := by simp [twosL]
        unfold signV
        rw [if_neg h1, if_neg h2]
        rfl
      | cons d t =>
        unfold signV
        rfl
/-- A token's text tells it, whatever blank stands behind. -/
theorem tok_end {t r : List UInt8} (ht : t ≠ []) (h : endsB r) : tokV (t ++ r) = tokV t := by
  have hb : ∀ p : UInt8 → Bool, (∀ b, blankB b = true → p b = false) → (t ++ r).takeWhile p = t.takeWhile p := fun p hp => takeWhile_end p t r (by
    rcases h with h | ⟨b, r', h1, h2⟩
    · exact .inl h
    · exact .inr ⟨b, r', h1, hp b h2⟩)
  have hh : (t ++ r).head? = t.head? := by
    cases t with
    | nil => exact absurd rfl ht
    | cons c t => rfl
  unfold tokV
  rw [hb sixB (fun b hb => (blank_not hb).1), hb quadB (fun b hb => (blank_not hb).2.1), hb wordB (fun b hb => (blank_not hb).2.2.1), hh, sign_end ht h]

end Go.Proofs.YtnojpepjloceoaaGreat
