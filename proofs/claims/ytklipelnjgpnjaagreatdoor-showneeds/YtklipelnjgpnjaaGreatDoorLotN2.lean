import Derived.Test.YtklipelnjgpnjaaGreatDoorLotN1
import Derived.Laws.Rows
import Derived.Laws.ResultCell
import Derived.Deep.DeepCutAuto
import Derived.ChangeKeysEq
import Derived.Laws.StructEq
import Derived.Deep.MidRow
set_option maxHeartbeats 64000000
set_option maxRecDepth 100000
namespace Go.Proofs.YtklipelnjgpnjaaGreatDoor
open Go.RowKit
def F9 (c : Nat) : Bool := decide ((48 ≤ c ∧ c ≤ 57) ∨ (97 ≤ c ∧ c ≤ 102))
def q8 (c : Nat) : Nat := if 48 ≤ c ∧ c ≤ 57 then c - 48 else if 97 ≤ c ∧ c ≤ 102 then c - 87 else 0
theorem a5v (c : Nat) : q8 c < 16 := by unfold q8; split <;> (try split) <;> omega
theorem a7R {c : Nat} (h : 48 ≤ c ∧ c ≤ 57) : F9 c = true ∧ q8 c = c - 48 := ⟨decide_eq_true (.inl h), by simp [q8, h]⟩
theorem a7S {c : Nat} (h : 97 ≤ c ∧ c ≤ 102) : F9 c = true ∧ q8 c = c - 87 := ⟨decide_eq_true (.inr h), by unfold q8; rw [if_neg (by omega), if_pos h]⟩
theorem a7T {c : Nat} (h1 : ¬ (48 ≤ c ∧ c ≤ 57)) (h2 : ¬ (97 ≤ c ∧ c ≤ 102)) : F9 c = false ∧ q8 c = 0 := ⟨decide_eq_false (by omega), by unfold q8; rw [if_neg h1, if_neg h2]⟩
theorem a9B {a b : Int} {x y : Bool} (h : a = b) (h' : x = y) : Ending.returned (.tuple #[.int .u8 a, .bool x]) = .returned (.tuple #[.int .u8 b, .bool y]) := by rw [h, h']
theorem a7U (c : Nat) (w : World) (hc : c < 256) :
  Calls Tryz.prog 252 #[.int .u8 c] w fun e w' => e = .returned (.tuple #[.int .u8 (q8 c), .bool (F9 c)]) ∧ w = w' := by
 by_cases h1 : 48 ≤ c ∧ c ≤ 57
 ·obtain ⟨e1, e2⟩ := a7R h1
  rw [e1, e2]
  clear e1 e2
  obtain ⟨h1a, h1b⟩ := h1
  go_enter Tryz.func252, Tryz.ntmps252
  go_wp2
  go_ret2
  exact ⟨a9B (by omega) rfl, rfl⟩
 ·by_cases h2 : 97 ≤ c ∧ c ≤ 102
  ·obtain ⟨e1, e2⟩ := a7S h2
   rw [e1, e2]
   clear e1 e2
   obtain ⟨h2a, h2b⟩ := h2
   have h57 : 57 < c := by omega
   clear h1
   go_enter Tryz.func252, Tryz.ntmps252
   go_wp2
   go_ret2
   exact ⟨a9B (by omega) rfl, rfl⟩
  ·obtain ⟨e1, e2⟩ := a7T h1 h2
   rw [e1, e2]
   clear e1 e2
   go_enter Tryz.func252, Tryz.ntmps252
   go_wp2
   all_goals
    first
     | (exfalso; omega)
     | (go_ret2; exact ⟨rfl, rfl⟩)
def gd (s : ByteArray) (i : Nat) : Nat := (s.data.toList.getD i 0).toNat
theorem a8d (s : ByteArray) (i : Nat) (h : i < s.size) : s[i].toNat = gd s i := by
 have h' : i < s.data.toList.length := by simpa using h
 unfold gd
 rw [List.getD_eq_getElem?_getD, List.getElem?_eq_getElem h']
 rfl
theorem a8f (s : ByteArray) (i : Nat) : gd s i < 256 := UInt8.toNat_lt _
def a0N (s : ByteArray) : Nat → Bool
 | 0 => true
 | k + 1 => a0N s k && (F9 (gd s (2 * k)) && F9 (gd s (2 * k + 1)))
def a0q (s : ByteArray) : Nat → List UInt8
 | 0 => []
 | k + 1 => a0q s k ++ [UInt8.ofNat (16 * q8 (gd s (2 * k)) + q8 (gd s (2 * k + 1)))]
theorem an9 (s : ByteArray) (k : Nat) : (a0q s k).length = k := by
 induction k with
 | zero => rfl
 | succ k ih => simp [a0q, ih]
theorem aG9 (s : ByteArray) (k n : Nat) (hk : k < n) (h : (F9 (gd s (2 * k)) && F9 (gd s (2 * k + 1))) = false) : a0N s n = false := by
 induction n with
 | zero => omega
 | succ n ih =>
  by_cases e : k = n
  ·subst e
   simp only [a0N, h, Bool.and_false]
  ·simp only [a0N, ih (by omega), Bool.false_and]
def a0e (s : ByteArray) : Bool := decide (s.size % 2 = 0) && a0N s (s.size / 2)
def unV (s : ByteArray) : List UInt8 := if a0e s = true then a0q s (s.size / 2) else []
theorem aZ2 {s : ByteArray} (h : s.size % 2 ≠ 0) : a0e s = false ∧ unV s = [] := by
 have e : a0e s = false := by simp [a0e, h]
 exact ⟨e, by simp [unV, e]⟩
theorem ac8 {s : ByteArray} {k : Nat} (hk : 2 * k < s.size) (he : s.size % 2 = 0) (h : (F9 (gd s (2 * k)) && F9 (gd s (2 * k + 1))) = false) : a0e s = false ∧ unV s = [] := by
 have e : a0e s = false := by simp only [a0e, aG9 s k (s.size / 2) (by omega) h, Bool.and_false]
 exact ⟨e, by simp [unV, e]⟩
theorem aZ1 {s : ByteArray} {k : Nat} (hk : 2 * k = s.size) (h : a0N s k = true) : a0e s = true ∧ unV s = a0q s k := by
 have e2 : s.size / 2 = k := by omega
 have e : a0e s = true := by simp only [a0e, e2, h, Bool.and_true, decide_eq_true_eq]; omega
 exact ⟨e, by simp [unV, e, e2]⟩
theorem al7 (a b : Nat) (ha : a < 16) (hb : b < 16) : bits .or .u8 ((a : Int) * 16) (b : Int) = ((16 * a + b : Nat) : Int) := by
 rw [show ((a : Int) * 16) = ((a * 16 : Nat) : Int) by omega, u8_or_nat _ _ (by omega) (by omega), nat_join 4 _ _ (by omega) (by omega)]
 omega
theorem aZ3 (s : ByteArray) (w : World) (hs : s.size ≤ 9223372036854775807) (hm : s.size ≤ 281474976710656) :
  Calls Tryz.prog 247 #[.string s] w fun e w' => ae6 w w' e (unV s) (a0e s) := by
 obtain ⟨i0, hi, hz0, hz1, hz2⟩ := info_parts a1f
 by_cases hev : s.size % 2 = 0
 case neg =>
  obtain ⟨e1, e2⟩ := aZ2 hev
  rw [e1, e2]
  clear e1 e2
  have h1 : (((s.size : Int) % 2) != 0) = true := by rw [bne_iff_ne]; omega
  go_enter Tryz.func247, Tryz.ntmps247
  go_wp2
  go_ret2
  exact ⟨_, rfl, World.ownsRow_nil _ _ _ _, World.grownBy.refl _ _⟩
 case pos =>
  have h1 : (((s.size : Int) % 2) != 0) = false := by simp; omega
  have HE : Hid (s.size % 2 = 0) := hev
  clear hev
  go_enter Tryz.func247, Tryz.ntmps247
  go_wp2_with (at_make; refine wpList_make_own _ rfl (.const (.int .i64 0)) (.tmp 16) 115 rfl w.heap.size 5 i0 (.int .u8 0) 1 Tryz.underlying115 hi hz0 hz1 .i64 .i64 _ (s.size / 2) rfl rfl ?r1 ?r2 ?r3 ?r4 ?r5)
  case r1 => omega
  case r2 => rw [hz2]; omega
  case r3 => unfold maxLen; omega
  case r4 => exact Nat.le_refl _
  case r5 =>
   intro w1 k1 k2
   have O1 : m9 w1 w.heap.size (.slice (some ⟨w.heap.size, 0, none⟩) 0 (s.size / 2)) (a0q s 0) := k1
   clear k1
   go_wp2
   go_loopw [4, 5] (fun v i wr => ∃ m k : Nat, m = 2 * k ∧ m ≤ s.size ∧ i = .int .i64 m ∧ a0N s k = true ∧ m9 wr w.heap.size v (a0q s k) ∧ w.grownBy wr none) (fun _ i _ => s.size - (intOf i).toNat)
   case atStart => exact ⟨0, 0, rfl, Nat.zero_le _, rfl, rfl, O1, k2⟩
   case round =>
    clear O1 k2
    obtain ⟨m, k, hmk, hk, rfl, hok, O, G⟩ := hrel
    have HM : Hid (m = 2 * k) := hmk
    have HO : Hid (a0N s k = true) := hok
    have hk1 : k < 281474976710656 := by omega
    by_cases hlt : m < s.size
    ·have hlt1 : m + 1 < s.size := by have := HE.out; omega
     clear hmk hok
     go_wp2_with fail
     rw [a8d s m hlt]
     refine (a7U (gd s m) _ (a8f s m)).mono ?_
     rintro e w2 ⟨rfl, rfl⟩
     go_wp2_with fail
     rw [a8d s (m + 1) hlt1]
     refine (a7U (gd s (m + 1)) _ (a8f s (m + 1))).mono ?_
     rintro e w2 ⟨rfl, rfl⟩
     have hv1 := a5v (gd s m)
     have hv2 := a5v (gd s (m + 1))
     have HJ : Hid (bits .or .u8 ((q8 (gd s m) : Int) * 16) (q8 (gd s (m + 1)) : Int) = ((16 * q8 (gd s m) + q8 (gd s (m + 1)) : Nat) : Int)) := al7 _ _ hv1 hv2
     cases hd1 : F9 (gd s m) with
     | false =>
      obtain ⟨e1, e2⟩ := ac8 (k := k) (by have := HM.out; omega) HE.out (by rw [← HM.out, hd1, Bool.false_and])
      go_wp2
      go_ret2
      rw [e1, e2]
      exact ⟨_, rfl, World.ownsRow_nil _ _ _ _, G⟩
     | true =>
      cases hd2 : F9 (gd s (m + 1)) with
      | false =>
       obtain ⟨e1, e2⟩ := ac8 (k := k) (by have := HM.out; omega) HE.out (by rw [← HM.out, hd2, Bool.and_false])
       go_wp2
       go_ret2
       rw [e1, e2]
       exact ⟨_, rfl, World.ownsRow_nil _ _ _ _, G⟩
      | true =>
       have HD : Hid (a0q s (k + 1) = a0q s k ++ [UInt8.ofNat (16 * q8 (gd s m) + q8 (gd s (m + 1)))]) := by
        have e := HM.out
        show a0q s (k + 1) = _
        rw [e]
        rfl
       have HO' : Hid (a0N s (k + 1) = true) := by
        show a0N s (k + 1) = true
        have e := HM.out
        subst e
        simp only [a0N, HO.out, hd1, hd2, Bool.and_self]
       have hj : bits .or .u8 ((q8 (gd s m) : Int) * 16) (q8 (gd s (m + 1)) : Int) = ((UInt8.ofNat (16 * q8 (gd s m) + q8 (gd s (m + 1)))).toNat : Int) := by
        rw [HJ.out]
        simp
        omega
       have hl := an9 s k
       generalize UInt8.ofNat (16 * q8 (gd s m) + q8 (gd s (m + 1))) = t at *
       clear HJ hd1 hd2
       generalize q8 (gd s m) = a1 at *
       generalize q8 (gd s (m + 1)) = a2 at *
       have HL : Hid ((a0q s k).length = k) := hl
       clear hl
       go_wp2_with (at_builtin; refine b0w rfl (.tmp 45) (.tmp 50) 115 rfl i0 Tryz.underlying115 hi hz0 hz1 hz2 w.heap.size u4 (a0q s k) rfl ?q1 (some ⟨wr.heap.size, 0, none⟩) 1 [t] rfl (by simp) ?q2 ?q3 ?q4 ?q5)
       case q1 => exact O.alloc _
       case q2 => exact am3 wr [t]
       case q3 =>
        have e := HM.out
        rw [HL.out]
        simp
        omega
       case q4 => have := G.size; simp; omega
       case q5 =>
        intro v' w' k1 k2
        have G' : w.grownBy w' none := V0 G (d3 (World.grownBy_alloc wr _ _) k2) (fun x hx => (O.lt x hx).1)
        rw [← HD.out] at k1
        clear k2 G O hj
        go_wp2
        go_roundw
        case rel => exact ⟨m + 2, k + 1, by have := HM.out; omega, by omega, by go_num, HO'.out, k1, G'⟩
        case measure => simp [intOf]; omega
    ·obtain ⟨e1, e2⟩ := aZ1 (s := s) (k := k) (by omega) hok
     clear hmk hok
     go_wp2
     go_ret2
     rw [e1, e2]
     exact ⟨_, rfl, O, G⟩
def I3 (c : UInt8) : Bool := c == 32 || c == 9 || c == 10 || c == 13
def a0Y (c : UInt8) : Bool := decide (97 ≤ c.toNat) && decide (c.toNat ≤ 122)
def m7 (c : UInt8) : Bool := F9 c.toNat || c == 58
def t8 (c : UInt8) : Bool := H9 c || c == 46
def j9 (c : UInt8) : Bool := H9 c || a0Y c
def a2a : Nat → List UInt8 → Option Nat
 | v, [] => some v
 | v, c :: r => if F9 c.toNat = true then (if 4294967295 < 16 * v + q8 c.toNat then none else a2a (16 * v + q8 c.toNat) r) else none
def a12 (s : List UInt8) : Option Nat := if 2 < s.length ∧ s.getD 0 0 = 48 ∧ s.getD 1 0 = 120 then a2a 0 (s.drop 2) else B5 4294967295 s
def a1o : List (List UInt8) := [[60, 60], [62, 62], [60, 61], [62, 61], [61, 61], [33, 61], [38, 38], [124, 124]]
def a1N : List UInt8 := [40, 41, 91, 93, 58, 43, 45, 42, 47, 37, 38, 124, 94, 60, 62, 61, 33]
def M5 (s : List UInt8) : List UInt8 := if s.take 2 ∈ a1o then s.take 2 else if s.head?.all (a1N.contains ·) = true then s.take 1 else []
def o6 (s : List UInt8) : Except Int (Nat × List UInt8 × Nat) :=
 if 2 ≤ (s.takeWhile m7).count 58 then .ok (4, s.takeWhile m7, 0)
 else if s.head?.any H9 = true then
  (if 46 ∈ s.takeWhile t8 then .ok (3, s.takeWhile t8, 0)
  else match a12 (s.takeWhile j9) with
   | none => .error 102
   | some n => .ok (1, s.takeWhile j9, n))
 else if s.head?.any a0Y = true then .ok (2, s.takeWhile j9, 0)
 else if M5 s = [] then .error 101 else .ok (5, M5 s, 0)
structure Tk where
 kind : Nat
 pos : Nat
 text : List UInt8
 num : Nat
def a0u : Nat → Nat → List UInt8 → Except (Nat × Int) (List Tk)
 | 0, p, _ => .ok [⟨0, p, [], 0⟩]
 | _ + 1, p, [] => .ok [⟨0, p, [], 0⟩]
 | k + 1, p, c :: r =>
  if I3 c = true then a0u k (p + 1) r
  else match o6 (c :: r) with
   | .error e => .error (p, e)
   | .ok (q, t, n) => match a0u k (p + t.length) ((c :: r).drop t.length) with
    | .error e => .error e
    | .ok ts => .ok (⟨q, p, t, n⟩ :: ts)
def J6 (p : Nat) (s : List UInt8) : Except (Nat × Int) (List Tk) := a0u s.length p s
def O0 (s : List UInt8) : Except (Nat × Int) (List Tk) := if 65536 < s.length then .error (0, 100) else J6 0 s
theorem a2C {α : Type} (p : α → Bool) : ∀ (l : List α), (l.takeWhile p).length ≤ l.length
 | [] => Nat.le_refl _
 | x :: r => by
  rw [List.takeWhile_cons]
  split
  ·simp only [List.length_cons]
   exact Nat.succ_le_succ (a2C p r)
  ·simp
theorem a3O {α : Type} (p : α → Bool) (l : List α) : l.takeWhile p = l.take (l.takeWhile p).length := by
 induction l with
 | nil => rfl
 | cons x r ih =>
  rw [List.takeWhile_cons]
  split
  ·simp only [List.length_cons, List.take_succ_cons]
   rw [← ih]
  ·simp
theorem a4Q {α : Type} (p : α → Bool) (l : List α) : (l.takeWhile p).takeWhile p = l.takeWhile p := by
 induction l with
 | nil => rfl
 | cons x r ih =>
  by_cases h : p x = true
  ·rw [List.takeWhile_cons_of_pos h, List.takeWhile_cons_of_pos h, ih]
  ·rw [List.takeWhile_cons_of_neg h]
   rfl
theorem ab4 {α : Type} (p : α → Bool) (l : List α) (h : ∀ x ∈ l, p x = true) : l.takeWhile p = l := by
 induction l with
 | nil => rfl
 | cons x r ih =>
  rw [List.takeWhile_cons_of_pos (h x (List.mem_cons_self ..)), ih (fun y hy => h y (List.mem_cons_of_mem _ hy))]
theorem a2D {α : Type} (p : α → Bool) (l : List α) {x : α} (h : x ∈ l.takeWhile p) : p x = true := by
 induction l with
 | nil => simp at h
 | cons y r ih =>
  by_cases hy : p y = true
  ·rw [List.takeWhile_cons_of_pos hy] at h
   rcases List.mem_cons.1 h with rfl | h
   ·exact hy
   ·exact ih h
  ·rw [List.takeWhile_cons_of_neg hy] at h
   simp at h
theorem ab5 {α : Type} (p : α → Bool) (c : α) (r : List α) (h : p c = true) : ∃ t, (c :: r).takeWhile p = c :: t := ⟨_, List.takeWhile_cons_of_pos h⟩
def a0B (b : UInt8) : List UInt8 → List UInt8 → List (List UInt8)
 | cur, [] => [cur]
 | cur, c :: r => if c = b then cur :: a0B b [] r else a0B b (cur ++ [c]) r
def j4 (b : UInt8) (s : List UInt8) : List (List UInt8) := a0B b [] s
theorem a6E (b : UInt8) (cur s : List UInt8) : (a0B b cur s).length ≤ s.length + 1 := by
 induction s generalizing cur with
 | nil => simp [a0B]
 | cons c r ih =>
  rw [a0B]
  split
  ·have := ih []; simp; omega
  ·have := ih (cur ++ [c]); simp; omega
def o7 (b : UInt8) : List (List UInt8) → List UInt8
 | [] => []
 | x :: r => if r = [] then x else x ++ b :: o7 b r
theorem a8B (b : UInt8) (x : List UInt8) : o7 b [x] = x := by simp [o7]
theorem a5S (b : UInt8) (x y : List UInt8) (r : List (List UInt8)) : o7 b (x :: y :: r) = x ++ b :: o7 b (y :: r) := by
 rw [o7, if_neg (by simp)]
theorem ax5 (b : UInt8) (ls : List (List UInt8)) (x : List UInt8) : o7 b (ls ++ [x]) = if ls = [] then x else o7 b ls ++ (b :: x) := by
 induction ls with
 | nil => simp [o7]
 | cons y r ih =>
  rw [if_neg (by simp), List.cons_append, o7, if_neg (by simp), ih]
  split
  ·rename_i h
   subst h
   rw [a8B]
  ·rename_i h
   rw [o7, if_neg h]
   simp
theorem aV6 (b : UInt8) (cur x : List UInt8) (h : b ∉ x) : a0B b cur x = [cur ++ x] := by
 induction x generalizing cur with
 | nil => simp [a0B]
 | cons c r ih =>
  have hc : c ≠ b := fun e => h (by rw [e]; simp)
  rw [a0B, if_neg hc, ih _ (fun e => h (by simp [e]))]
  simp
theorem aV5 (b : UInt8) (cur x r : List UInt8) (h : b ∉ x) : a0B b cur (x ++ b :: r) = (cur ++ x) :: a0B b [] r := by
 induction x generalizing cur with
 | nil => simp [a0B]
 | cons c x ih =>
  have hc : c ≠ b := fun e => h (by rw [e]; simp)
  rw [List.cons_append, a0B, if_neg hc, ih _ (fun e => h (by simp [e]))]
  simp
def T7 {α β : Type} (f : α → Option β) : List α → Option (List β)
 | [] => some []
 | x :: r => (f x).bind fun v => (T7 f r).map fun vs => v :: vs
theorem a7g {α β : Type} {f : α → Option β} {xs : List α} {vs : List β} (h : T7 f xs = some vs) : vs.length = xs.length := by
 induction xs generalizing vs with
 | nil => simp [T7] at h; subst h; rfl
 | cons x r ih =>
  simp only [T7] at h
  cases hx : f x with
  | none => rw [hx] at h; cases h
  | some v =>
   rw [hx] at h
   cases hr : T7 f r with
   | none => rw [hr] at h; cases h
   | some us =>
    rw [hr] at h
    simp only [Option.bind_some, Option.map_some, Option.some.injEq] at h
    subst h
    simp [ih hr]
theorem af8 {α β : Type} {f : α → Option β} {xs : List α} {i : Nat} (hi : i < xs.length) (h : f xs[i] = none) : T7 f xs = none := by
 induction xs generalizing i with
 | nil => simp at hi
 | cons x r ih =>
  simp only [T7]
  cases i with
  | zero => rw [show f x = none from h]; rfl
  | succ i =>
   rw [ih (i := i) (by simpa using hi) (by simpa using h)]
   cases f x <;> rfl
def L1 (s : List UInt8) : Option (List UInt8) := if (j4 46 s).length = 4 then (T7 (B5 255) (j4 46 s)).map fun ns => ns.map UInt8.ofNat else none
def T3 (a : List UInt8) : List UInt8 := o7 46 (a.map fun x => dec x.toNat)
def a0W : Nat → List UInt8 → Option Nat
 | v, [] => some v
 | v, c :: r => if F9 c.toNat = true then a0W (16 * v + q8 c.toNat) r else none
def I1 (s : List UInt8) : Option Nat := if s.length < 1 ∨ 4 < s.length then none else a0W 0 s
def o5 (s : List UInt8) : Option (List Nat) := if s = [] then some [] else if 8 < (j4 58 s).length then none else T7 I1 (j4 58 s)
def a09 : List UInt8 → Option Nat
 | [] => none
 | a :: r => if a = 58 ∧ r.head? = some 58 then some 0 else (a09 r).map fun k => k + 1
def j3 (gs : List Nat) : List UInt8 := gs.flatMap fun g => [UInt8.ofNat (g / 256), UInt8.ofNat g]
def J7 (s : List UInt8) : Option (List UInt8) := match a09 s with
 | none => (o5 s).bind fun x => if x.length = 8 then some (j3 x) else none
 | some k => (o5 (s.take k)).bind fun x => (o5 (s.drop (k + 2))).bind fun y => if x.length + y.length ≤ 7 then some (j3 (x ++ List.replicate (8 - x.length - y.length) 0 ++ y)) else none
def d8 : List UInt8 → List Nat
 | h :: l :: r => (256 * h.toNat + l.toNat) :: d8 r
 | _ => []
theorem a9m (a : List UInt8) : ∀ g ∈ d8 a, g < 65536 := by
 intro g hg
 induction a using d8.induct with
 | case1 h l r ih =>
  rw [d8] at hg
  rcases List.mem_cons.1 hg with rfl | hg
  ·have := h.toNat_lt; have := l.toNat_lt; omega
  ·exact ih hg
 | case2 a hn =>
  rw [d8] at hg
  ·cases hg
  ·exact hn
theorem a3I : ∀ (n : Nat) (a : List UInt8), a.length = 2 * n → (d8 a).length = n
 | 0, [], _ => rfl
 | n + 1, h :: l :: r, e => by rw [d8, List.length_cons, a3I n r (by simp at e; omega)]
def a1X (gs : List Nat) : Nat := (gs.takeWhile fun g => g == 0).length
def a4s : Option (Nat × Nat) → Nat
 | none => 1
 | some p => p.2
def U7 : Nat → List Nat → Option (Nat × Nat) → Option (Nat × Nat)
 | _, [], acc => acc
 | i, g :: r, acc => U7 (i + 1) r (if a4s acc < a1X (g :: r) then some (i, a1X (g :: r)) else acc)
def a1m : List UInt8 → List UInt8
 | [] => []
 | a :: r => if a = 48 ∧ r ≠ [] then a1m r else a :: r
def a25 (g : Nat) : List UInt8 := [D9 (g / 4096 % 16), D9 (g / 256 % 16), D9 (g / 16 % 16), D9 (g % 16)]
def j6 (g : Nat) : List UInt8 := a1m (a25 g)
def a01 (gs : List Nat) : List UInt8 := match U7 0 gs none with
 | none => o7 58 (gs.map j6)
 | some p => o7 58 ((gs.take p.1).map j6) ++ (58 :: 58 :: o7 58 ((gs.drop (p.1 + p.2)).map j6))
theorem a2S {n : Nat} (h : n < 16) : F9 (D9 n).toNat = true ∧ q8 (D9 n).toNat = n ∧ D9 n ≠ 58 ∧ (D9 n = 48 → n = 0) := by
 have key : ∀ j : Fin 16, F9 (D9 j.val).toNat = true ∧ q8 (D9 j.val).toNat = j.val ∧ D9 j.val ≠ 58 ∧ (D9 j.val = 48 → j.val = 0) := by decide +kernel
 exact key ⟨n, h⟩
def a9v (x : List UInt8) : Prop := 58 ∉ x ∧ x ≠ [] ∧ x.length ≤ 4 ∧ (x.head? = some 48 → x.length = 1)
theorem aW6 (x : List UInt8) (h58 : 58 ∉ x) (hne : x ≠ []) (hl : x.length ≤ 4) : a9v (a1m x) := by
 induction x with
 | nil => exact absurd rfl hne
 | cons a r ih =>
  rw [a1m]
  split
  ·rename_i h
   exact ih (fun e => h58 (by simp [e])) h.2 (by simp at hl; omega)
  ·rename_i h
   refine ⟨h58, by simp, hl, fun e => ?_⟩
   simp only [List.head?_cons, Option.some.injEq] at e
   by_cases hr : r = []
   ·rw [hr]; rfl
   ·exact absurd ⟨e, hr⟩ h
theorem as3 (g : Nat) : 58 ∉ a25 g := by
 intro h
 simp only [a25, List.mem_cons, List.not_mem_nil, or_false] at h
 rcases h with h | h | h | h
 ·exact (a2S (n := g / 4096 % 16) (by omega)).2.2.1 h.symm
 ·exact (a2S (n := g / 256 % 16) (by omega)).2.2.1 h.symm
 ·exact (a2S (n := g / 16 % 16) (by omega)).2.2.1 h.symm
 ·exact (a2S (n := g % 16) (by omega)).2.2.1 h.symm
theorem a4K (g : Nat) : a9v (j6 g) := aW6 _ (as3 g) (by simp [a25]) (by simp [a25])
theorem b0E (gs : List Nat) : a1X gs ≤ gs.length := (List.takeWhile_sublist _).length_le
theorem b0F (gs : List Nat) : gs.take (a1X gs) = List.replicate (a1X gs) 0 := by
 unfold a1X
 induction gs with
 | nil => rfl
 | cons g r ih =>
  simp only [List.takeWhile_cons]
  split
  ·rename_i h
   simp only [List.length_cons, List.take_succ_cons, List.replicate_succ, ih]
   rw [eq_of_beq h]
  ·rfl
theorem ah9 (gs : List Nat) (i : Nat) (acc : Option (Nat × Nat)) (all : List Nat) (hall : all.drop i = gs) (hi : i ≤ all.length)
  (hacc : ∀ p, acc = some p → 2 ≤ p.2 ∧ p.1 + p.2 ≤ all.length ∧ (all.drop p.1).take p.2 = List.replicate p.2 0) :
  ∀ p, U7 i gs acc = some p → 2 ≤ p.2 ∧ p.1 + p.2 ≤ all.length ∧ (all.drop p.1).take p.2 = List.replicate p.2 0 := by
 induction gs generalizing i acc with
 | nil => exact hacc
 | cons g r ih =>
  rw [U7]
  have hlen : (g :: r).length = all.length - i := by rw [← hall, List.length_drop]
  refine ih (i + 1) _ ?_ (by simp at hlen; omega) ?_
  ·rw [← List.drop_drop, hall]; rfl
  ·intro p hp
   split at hp
   ·rename_i hlt
    simp only [Option.some.injEq] at hp
    subst hp
    have h1 : 1 ≤ a4s acc := by
     cases acc with
     | none => exact Nat.le_refl _
     | some q => have := (hacc q rfl).1; simp only [a4s]; omega
    have h2 := b0E (g :: r)
    refine ⟨by simp only; omega, by simp only; omega, ?_⟩
    simp only
    rw [hall]
    exact b0F _
   ·exact hacc p hp
theorem a7A (gs : List Nat) (p : Nat × Nat) (h : U7 0 gs none = some p) : 2 ≤ p.2 ∧ p.1 + p.2 ≤ gs.length ∧ gs = gs.take p.1 ++ List.replicate p.2 0 ++ gs.drop (p.1 + p.2) := by
 obtain ⟨h1, h2, h3⟩ := ah9 gs 0 none gs rfl (Nat.zero_le _) (fun p hp => by cases hp) p h
 refine ⟨h1, h2, ?_⟩
 rw [← h3, List.append_assoc, ← List.drop_drop, List.take_append_drop, List.take_append_drop]
theorem a2b (b : UInt8) (ls : List (List UInt8)) (k : Nat) (h : ∀ l ∈ ls, l.length ≤ k) : (o7 b ls).length ≤ (k + 1) * ls.length := by
 induction ls with
 | nil => simp [o7]
 | cons x r ih =>
  have h1 := h x (by simp)
  have h2 := ih (fun l hl => h l (by simp [hl]))
  rw [o7]
  split
  ·simp only [List.length_cons]
   have : (k + 1) * (r.length + 1) = (k + 1) * r.length + (k + 1) := by rw [Nat.mul_succ]
   omega
  ·simp only [List.length_append, List.length_cons]
   have : (k + 1) * (r.length + 1) = (k + 1) * r.length + (k + 1) := by rw [Nat.mul_succ]
   omega
theorem ax4 (b : UInt8) (ls : List (List UInt8)) (k : Nat) (h : ∀ l ∈ ls, l.length ≤ k) (hne : ls ≠ []) : (o7 b ls).length + 1 ≤ (k + 1) * ls.length := by
 induction ls with
 | nil => exact absurd rfl hne
 | cons x r ih =>
  have h1 := h x (by simp)
  rw [o7]
  have : (k + 1) * (r.length + 1) = (k + 1) * r.length + (k + 1) := by rw [Nat.mul_succ]
  split
  ·simp only [List.length_cons]
   omega
  ·rename_i hr
   have h2 := ih (fun l hl => h l (by simp [hl])) hr
   simp only [List.length_append, List.length_cons]
   omega
theorem aN5 (gs : List Nat) (h8 : gs.length = 8) : (a01 gs).length ≤ 39 := by
 have hp : ∀ (zs : List Nat), ∀ l ∈ zs.map j6, l.length ≤ 4 := fun zs l hl => by
  obtain ⟨g, -, rfl⟩ := List.mem_map.1 hl
  exact (a4K g).2.2.1
 unfold a01
 cases hb : U7 0 gs none with
 | none =>
  simp only
  have := ax4 58 (gs.map j6) 4 (hp gs) (by intro e; have := congrArg List.length e; simp at this; rw [this] at h8; simp at h8)
  rw [List.length_map] at this
  omega
 | some p =>
  obtain ⟨h1, h2, -⟩ := a7A gs p hb
  have e1 := a2b 58 ((gs.take p.1).map j6) 4 (hp _)
  have e2 := a2b 58 ((gs.drop (p.1 + p.2)).map j6) 4 (hp _)
  rw [List.length_map, List.length_take] at e1
  rw [List.length_map, List.length_drop] at e2
  simp only [List.length_append, List.length_cons]
  omega
structure Nd where
 kind : Nat
 op : Nat
 n : Nat
 m : Nat
 size : Nat
 of : Nat
 side : Nat
 addr : List UInt8
 bits : Nat
def nd0 : Nd := ⟨0, 0, 0, 0, 0, 0, 0, List.replicate 16 0, 0⟩
def ndK (k : Nat) : Nd := { nd0 with kind := k }
abbrev Er := Nat × Int
abbrev Out := Except Er (List (Nd × Nat) × List Tk)
def d6 {α β : Type} (x : Except Er α) (f : α → Except Er β) : Except Er β := match x with
 | .error e => .error e
 | .ok y => f y
theorem M6 {α β : Type} (y : α) (f : α → Except Er β) : d6 (.ok y) f = f y := rfl
theorem ab9 {α β : Type} (e : Er) (f : α → Except Er β) : d6 (.error e : Except Er α) f = .error e := rfl
def hdT (ts : List Tk) : Tk := ts.headD ⟨0, 0, [], 0⟩
def isB (ts : List Tk) (x : List UInt8) : Bool := ((hdT ts).kind == 5 || (hdT ts).kind == 2) && (hdT ts).text == x
def q9 {α : Type} (ts : List Tk) (e : Int) : Except Er α := .error ((hdT ts).pos, if (hdT ts).kind = 0 then 110 else e)
def m3 (x : List UInt8) (ts : List Tk) : Except Er (List Tk) := if isB ts x = true then .ok ts.tail else q9 ts 111
def j7 (ts : List Tk) : Except Er (Nat × List Tk) := if (hdT ts).kind = 1 then .ok ((hdT ts).num, ts.tail) else q9 ts 111
def D6 {α : Type} (nest : Nat) (ts : List Tk) (x : Except Er α) : Except Er α := if nest = 200 then .error ((hdT ts).pos, 113) else x
def a0G : List UInt8 := [110, 111, 116]
def a0m : List UInt8 := [97, 110, 100]
def wOr : List UInt8 := [111, 114]
def V7 : List UInt8 := [115, 114, 99]
def R0 : List UInt8 := [100, 115, 116]
def a0Q : List UInt8 := [104, 111, 115, 116]
def a19 : List UInt8 := [110, 101, 116]
def S0 : List UInt8 := [112, 111, 114, 116]
def M1 : List UInt8 := [112, 111, 114, 116, 114, 97, 110, 103, 101]
def J2 : List UInt8 := [112, 114, 111, 116, 111]
def a3k : List UInt8 := [108, 101, 110]
def a3j : List UInt8 := [105, 110, 98, 111, 117, 110, 100]
def a3l : List UInt8 := [111, 117, 116, 98, 111, 117, 110, 100]
def a3a (x : List UInt8) : Option Nat :=
 if x = [61] ∨ x = [61, 61] then some 1 else if x = [33, 61] then some 2 else if x = [60] then some 3 else if x = [60, 61] then some 4 else if x = [62] then some 5 else if x = [62, 61] then some 6 else none
def x7 (k : Nat) (x : List UInt8) : Option Nd :=
 if k = 1 then (if x = wOr ∨ x = [124, 124] then some (ndK 8) else none)
 else if k = 2 then (if x = a0m ∨ x = [38, 38] then some (ndK 7) else none)
 else if k = 4 then (a3a x).map fun o => { ndK 6 with op := o }
 else if k = 5 then (if x = [124] then some { ndK 4 with op := 7 } else none)
 else if k = 6 then (if x = [94] then some { ndK 4 with op := 8 } else none)
 else if k = 7 then (if x = [38] then some { ndK 4 with op := 6 } else none)
 else if k = 8 then (if x = [60, 60] then some { ndK 4 with op := 9 } else if x = [62, 62] then some { ndK 4 with op := 10 } else none)
 else if k = 9 then (if x = [43] then some { ndK 4 with op := 1 } else if x = [45] then some { ndK 4 with op := 2 } else none)
 else if k = 10 then (if x = [42] then some { ndK 4 with op := 3 } else if x = [47] then some { ndK 4 with op := 4 } else if x = [37] then some { ndK 4 with op := 5 } else none)
 else none
def D5 (x : List UInt8) : Nat :=
 if x = [112, 112, 112] then 1 else if x = [105, 112] then 2 else if x = [105, 112, 54] then 3 else if x = [116, 99, 112] then 4 else if x = [117, 100, 112] then 5
 else if x = [105, 99, 109, 112] then 6 else if x = [105, 99, 109, 112, 54] then 7 else if x = [108, 99, 112] then 8 else if x = [112, 97, 112] then 9 else if x = [99, 104, 97, 112] then 10
 else if x = [105, 112, 99, 112] then 11 else if x = [105, 112, 54, 99, 112] then 12 else if x = [109, 112] then 13 else 0
def a0g (kind : Nat) (ts : List Tk) : Except Er (Nd × List Tk) :=
 if (hdT ts).kind = 3 then (match L1 (hdT ts).text with
  | some a => .ok ({ ndK kind with of := 2, addr := a ++ List.replicate 12 0 }, ts.tail)
  | none => q9 ts 112)
 else if (hdT ts).kind = 4 then (match J7 (hdT ts).text with
  | some a => .ok ({ ndK kind with of := 3, addr := a }, ts.tail)
  | none => q9 ts 112)
 else q9 ts 111
def s0 (ts : List Tk) : Nat := if isB ts V7 = true then 1 else if isB ts R0 = true then 2 else 0
def o9 (ts : List Tk) : List Tk := if s0 ts = 0 then ts else ts.tail
def a02 (of at' side : Nat) (ts : List Tk) : Out :=
 if isB ts S0 = true then d6 (j7 ts.tail) fun p => .ok ([({ ndK 16 with of := of, side := side, n := p.1, m := p.1 }, at')], p.2)
 else if isB ts M1 = true then d6 (j7 ts.tail) fun p => d6 (m3 [45] p.2) fun r => d6 (j7 r) fun q => .ok ([({ ndK 16 with of := of, side := side, n := p.1, m := q.1 }, at')], q.2)
 else if of = 0 ∧ isB ts a0Q = true then d6 (a0g 14 ts.tail) fun p => .ok ([({ p.1 with side := side }, at')], p.2)
 else if of = 0 ∧ isB ts a19 = true then d6 (a0g 15 ts.tail) fun p => d6 (m3 [47] p.2) fun r => d6 (j7 r) fun q => .ok ([({ p.1 with bits := q.1, side := side }, at')], q.2)
 else q9 ts 111
def a1i (of at' : Nat) (ts : List Tk) : Out := a02 of at' (s0 ts) (o9 ts)
def L7 (ts : List Tk) : Out :=
 if (hdT ts).text = a3k then .ok ([(ndK 2, (hdT ts).pos)], ts.tail)
 else if (hdT ts).text = a3j then .ok ([({ ndK 10 with side := 1 }, (hdT ts).pos)], ts.tail)
 else if (hdT ts).text = a3l then .ok ([({ ndK 10 with side := 2 }, (hdT ts).pos)], ts.tail)
 else if (hdT ts).text = J2 then d6 (j7 ts.tail) fun p => .ok ([({ ndK 12 with n := p.1 }, (hdT ts).pos)], p.2)
 else if (hdT ts).text ∈ [V7, R0, a0Q, a19, S0, M1] then a1i 0 (hdT ts).pos ts
 else q9 ts 111
def a0z (ts : List Tk) : Except Er (Nat × List Tk) :=
 if isB ts [58] = true then d6 (j7 ts.tail) fun p => d6 (m3 [93] p.2) fun r => .ok (p.1, r)
 else d6 (m3 [93] ts) fun r => .ok (1, r)
def T2 (rec : Nat → List Tk → Out) (nest of at' : Nat) (ts : List Tk) : Out :=
 if isB ts [91] = true ∧ of ≠ 13 then D6 nest ts (d6 (rec (nest + 1) ts.tail) fun p => d6 (a0z p.2) fun q => .ok (p.1 ++ [({ ndK 3 with of := of, size := q.1 }, at')], q.2))
 else if of = 1 then q9 ts 111
 else if (of = 2 ∨ of = 3) ∧ isB ts J2 = true then d6 (j7 ts.tail) fun p => .ok ([({ ndK 13 with of := of, n := p.1 }, at')], p.2)
 else if (of = 4 ∨ of = 5) ∧ (isB ts V7 = true ∨ isB ts R0 = true ∨ isB ts S0 = true ∨ isB ts M1 = true) then a1i of at' ts
 else .ok ([({ ndK 11 with of := of }, at')], ts)
def L3 (rec : Nat → List Tk → Out) (nest : Nat) (ts : List Tk) : Out :=
 if (hdT ts).kind = 1 then .ok ([({ ndK 1 with n := (hdT ts).num }, (hdT ts).pos)], ts.tail)
 else if isB ts [40] = true then D6 nest ts (d6 (rec (nest + 1) ts.tail) fun p => d6 (m3 [41] p.2) fun r => .ok (p.1, r))
 else if (hdT ts).kind ≠ 2 then q9 ts 111
 else if D5 (hdT ts).text ≠ 0 then T2 rec nest (D5 (hdT ts).text) (hdT ts).pos ts.tail
 else L7 ts
def opT (k : Nat) (ts : List Tk) : Option Nd := if (hdT ts).kind = 5 ∨ (hdT ts).kind = 2 then x7 k (hdT ts).text else none
def x8 (rec : List Tk → Out) (k : Nat) : Nat → List (Nd × Nat) → List Tk → Out
 | 0, ns, ts => .ok (ns, ts)
 | f + 1, ns, ts => match opT k ts with
  | none => .ok (ns, ts)
  | some nd => d6 (rec ts.tail) fun p => if k = 4 then .ok (ns ++ p.1 ++ [(nd, (hdT ts).pos)], p.2) else x8 rec k f (ns ++ p.1 ++ [(nd, (hdT ts).pos)]) p.2
def N0 (rec : Nat → Nat → List Tk → Out) (k nest : Nat) (ts : List Tk) : Out :=
 if k = 3 ∧ (isB ts a0G = true ∨ isB ts [33] = true) then D6 nest ts (d6 (rec 3 (nest + 1) ts.tail) fun p => .ok (p.1 ++ [(ndK 9, (hdT ts).pos)], p.2))
 else if k = 11 ∧ isB ts [45] = true then D6 nest ts (d6 (rec 11 (nest + 1) ts.tail) fun p => .ok (p.1 ++ [(ndK 5, (hdT ts).pos)], p.2))
 else if k = 3 ∨ k = 11 then rec (k + 1) nest ts
 else if k = 12 then L3 (rec 1) nest ts
 else d6 (rec (k + 1) nest ts) fun p => x8 (rec (k + 1) nest) k p.2.length p.1 p.2
def d7 : Nat → Nat → Nat → List Tk → Out
 | 0 => fun _ _ _ => .error (0, 0)
 | f + 1 => N0 (d7 f)
theorem T4 (f k nest : Nat) (ts : List Tk) : d7 (f + 1) k nest ts = N0 (d7 f) k nest ts := rfl
def a0i (k : Nat) (ts : List Tk) : Nat := 13 * ts.length + (13 - k)
def a14 (ts : List Tk) : Except Er (List (Nd × Nat)) := d6 (d7 (a0i 1 ts) 1 0 ts) fun p => if (hdT p.2).kind = 0 then .ok p.1 else q9 p.2 111
def U2 (s : List UInt8) : Except Er (List (Nd × Nat)) := d6 (O0 s) a14
theorem au0 (s : List UInt8) (v n : Nat) (h : a0W v s = some n) : n < (v + 1) * 16 ^ s.length := by
 induction s generalizing v with
 | nil => simp [a0W] at h; subst h; simp
 | cons c r ih =>
  rw [a0W] at h
  split at h
  ·have h1 := ih _ h
   have h2 := a5v c.toNat
   have h3 : (16 * v + q8 c.toNat + 1) * 16 ^ r.length ≤ (16 * (v + 1)) * 16 ^ r.length := Nat.mul_le_mul_right _ (by omega)
   rw [List.length_cons, Nat.pow_succ, Nat.mul_comm (16 ^ r.length) 16, ← Nat.mul_assoc, Nat.mul_comm (v + 1) 16]
   omega
  ·cases h
theorem a8l {s : List UInt8} {n : Nat} (h : I1 s = some n) : n < 65536 := by
 unfold I1 at h
 split at h
 ·cases h
 ·have h1 := au0 s 0 n h
  have h2 : 16 ^ s.length ≤ 16 ^ 4 := Nat.pow_le_pow_right (by decide) (by omega)
  omega
def a5I : Option Nat → Int
 | none => -1
 | some k => k
theorem a8y : (Tryz.prog.info? 3).map (fun i => (i.zero, i.size, i.bytes)) = some (some (.int .i64 0), 1, 8) := by kernel_rfl
def AAt (w : World) (g t : Nat) (xs : List UInt8) : Prop := w.heap[g]? = some (.cells (xs.map bv).toArray t (0, 0))
theorem AAt.cell {w : World} {g t : Nat} {xs : List UInt8} (h : AAt w g t xs) {i : Nat} (hi : i < xs.length) : w.cell? ⟨g, i, none⟩ = some (.int .u8 (xs[i].toNat : Int)) := by
 unfold AAt at h
 rw [cell_of_row w g i _ t (0, 0) h]
 simp [hi, bv]
theorem AAt.free {w : World} {g t : Nat} {xs : List UInt8} (h : AAt w g t xs) (i : Nat) : w.frozen? ⟨g, i, none⟩ = false := by
 unfold AAt at h
 simp [World.frozen?, h]
theorem AAt.lt {w : World} {g t : Nat} {xs : List UInt8} (h : AAt w g t xs) : g < w.heap.size := by
 unfold AAt at h
 by_cases hb : g < w.heap.size
 ·exact hb
 ·rw [Array.getElem?_eq_none (by omega)] at h; cases h
theorem AAt.grown {w w' : World} {g t : Nat} {xs : List UInt8} {row : Option Nat} (h : AAt w g t xs) (G : w.grownBy w' row) (hr : row ≠ some g) : AAt w' g t xs := by
 have := G.block g h.lt (Ne.symm hr)
 unfold AAt at *
 rw [this, h]
theorem AAt.set {w : World} {g t : Nat} {xs : List UInt8} (h : AAt w g t xs) (i n : Nat) (hn : n < 256) : AAt (w.setCell ⟨g, i, none⟩ (.int .u8 (n : Int))) g t (xs.set i (UInt8.ofNat n)) := by
 unfold AAt at *
 have e : bv (UInt8.ofNat n) = .int .u8 (n : Int) := by
  unfold bv
  rw [UInt8.toNat_ofNat_of_lt' (by simpa using hn)]
 simp only [World.setCell, Array.getElem?_modify, h, if_true, Option.map_some]
 rw [List.map_set, e]
 simp
theorem AAt.alloc (w : World) (t : Nat) (xs : List UInt8) : AAt (w.alloc (.cells (xs.map bv).toArray t)) w.heap.size t xs := heap_alloc_new w _
theorem AAt.drew {w : World} {g t : Nat} {xs : List UInt8} (h : AAt w g t xs) : AAt w.drew g t xs := h
theorem AAt.setRow {w : World} {g t : Nat} {xs : List UInt8} (h : AAt w g t xs) (ys : List UInt8) : AAt (w.setRow g (ys.map bv).toArray) g t ys := by
 unfold AAt at *
 exact setRow_heap w g _ _ t _ h
theorem a8q (w : World) (g k : Nat) (cs : Array Value) (h : k ≠ g) : (w.setRow g cs).heap[k]? = w.heap[k]? := by
 simp [World.setRow, Array.getElem?_modify, Ne.symm h]
theorem a29 {w W : World} {row : Option Nat} (G : w.grownBy W row) (g : Nat) (cs : Array Value) (hg : row = some g ∨ w.heap.size ≤ g) : w.grownBy (W.setRow g cs) row := by
 refine ⟨G.os, G.tape, G.output, by rw [setRow_size]; exact G.size, fun i hi hr => ?_⟩
 have : i ≠ g := by
  rintro rfl
  rcases hg with hg | hg
  ·exact hr hg.symm
  ·omega
 rw [a8q _ _ _ _ this]
 exact G.block i hi hr
theorem AAt.other {w : World} {g t k : Nat} {xs : List UInt8} (h : AAt w g t xs) (cs : Array Value) (hk : g ≠ k) : AAt (w.setRow k cs) g t xs := by
 unfold AAt at *
 rw [a8q _ _ _ _ hk]
 exact h
theorem AAt.setOther {w : World} {g t k i : Nat} {xs : List UInt8} (h : AAt w g t xs) (u : Value) (hk : g ≠ k) : AAt (w.setCell ⟨k, i, none⟩ u) g t xs := by
 unfold AAt at *
 simp only [World.setCell, Array.getElem?_modify, if_neg (Ne.symm hk)]
 exact h
theorem a0o (xs : List UInt8) : (xs.map bv).toArray.all (·.oneCell') = true := by
 rw [Array.all_eq_true_iff_forall_mem]
 intro v hv
 exact a0p xs v (by simpa using hv)
theorem S2 (xs : List UInt8) : (xs.map bv).toArray.size = xs.length := by simp
def a3N : Value → Nat
 | .string s => s.size
 | _ => 0
def a41 (n : Nat) (r : Option (List UInt8)) : Value := .agg ((r.getD (List.replicate n 0)).map bv).toArray
def a48 (r : Option (List UInt8)) : Int := if r.isSome = true then 0 else 60
theorem a2w {P : Program} {fn : Func} {p u : Tmp} {ty : TypeId} (h : fn.results = #[.cell p ty, .tmp u]) (tmps : Array Value) (w : World) (g : Nat) (xs : List UInt8) (n : Nat) (e : TypeId) (hp : tmps.getD p undef = .pointer (some ⟨g, 0, none⟩)) (A : AAt w g ty xs)
  (hu : P.underlying ty = some (.array n e)) (hi : (P.info? ty).map (·.size) = some xs.length) : (results fn tmps).run P w = .ok (.tuple #[.agg (xs.map bv).toArray, tmps.getD u undef]) w := by
 rw [results_cell_tmp h, hp]
 have := run_loadVar_row (P := P) w g ty ty (xs.map bv).toArray (0, 0) _ A hu rfl (by rw [S2]; exact hi)
 simp only [asAddr, Sem.run_pure, Result.andThen, this]
theorem a3L : (Tryz.prog.info? 114).map (·.size) = some 4 := by kernel_rfl
theorem T5 : (Tryz.prog.info? 41).map (·.size) = some 16 := by kernel_rfl
theorem a5R {P : Program} (d : Nat) (e : TypeId) (he : P.underlying e = some (.int .u8)) (hk : P.plainKey e = true) (xs ys : List UInt8) (w : World) (hl : xs.length = ys.length) :
  ∀ (m k : Nat), k + m = xs.length → (Op.eqItems (d + 1) e 1 (xs.map bv).toArray (ys.map bv).toArray (List.range' k m)).run P w = .ok (decide (xs.drop k = ys.drop k)) w
 | 0, k, h => by
  have e1 : xs.drop k = ys.drop k := by rw [List.drop_eq_nil_of_le (by omega), List.drop_eq_nil_of_le (by omega)]
  simp only [List.range'_zero, Op.eqItems, Sem.run_pure]
  rw [decide_eq_true e1]
 | m + 1, k, h => by
  have hx : k < xs.length := by omega
  have hy : k < ys.length := by omega
  have p1 := run_part_plain (P := P) w hk (xs := (xs.map bv).toArray) (off := k * 1) (v := bv xs[k]) (by simp [hx])
  have p2 := run_part_plain (P := P) w hk (xs := (ys.map bv).toArray) (off := k * 1) (v := bv ys[k]) (by simp [hy])
  have p3 : (Op.equalIn (d + 1) e (bv xs[k]) (bv ys[k])).run P w = .ok ((xs[k].toNat : Int) == (ys[k].toNat : Int)) w := run_equalIn_int w d e .u8 .u8 _ _ he
  have ih := a5R d e he hk xs ys w hl m (k + 1) (by omega)
  rw [List.range'_succ]
  simp only [Op.eqItems, Sem.run_bind, p1, p2, p3, Result.andThen_ok]
  rw [List.drop_eq_getElem_cons hx, List.drop_eq_getElem_cons hy]
  by_cases hq : xs[k] = ys[k]
  ·rw [hq, show ((ys[k].toNat : Int) == (ys[k].toNat : Int)) = true by simp]
   simp only [Bool.not_true, Bool.false_eq_true, if_false]
   rw [ih]
   simp only [List.cons.injEq, true_and]
  ·have : ((xs[k].toNat : Int) == (ys[k].toNat : Int)) = false := by
    rw [beq_eq_false_iff_ne]
    intro e
    exact hq (UInt8.toNat_inj.1 (by omega))
   rw [this]
   simp only [Bool.not_false, if_true, Sem.run_pure]
   rw [decide_eq_false (fun e => hq (List.cons.inj e).1)]
theorem ap5 {P : Program} {t e : TypeId} {n : Nat} {i : TypeInfo} (hu : P.underlying t = some (.array n e)) (hi : P.info? e = some i) (he : P.underlying e = some (.int .u8)) (hk : P.plainKey e = true) (hc : P.cellsOf e = 1) (xs ys : List UInt8) (hx : xs.length = n) (hy : ys.length = n) (w : World) :
  (Op.equalIn 10000 t (.agg (xs.map bv).toArray) (.agg (ys.map bv).toArray)).run P w = .ok (decide (xs = ys)) w := by
 rw [show (10000 : Nat) = 9999 + 1 from rfl, run_equalIn_array w 9999 _ _ hu hi, hc, List.range_eq_range', show (9999 : Nat) = 9998 + 1 from rfl, a5R 9998 e he hk xs ys w (by omega) n 0 (by omega)]
 rfl
def adr (x : Nd) (i : Nat) : Value := .int .u8 ((x.addr.getD i 0).toNat : Int)
def Nd.cells (x : Nd) : List Value := [.int .i64 (x.kind : Int), .int .i64 (x.op : Int), .int .u32 (x.n : Int), .int .u32 (x.m : Int), .int .i64 (x.size : Int), .int .i64 (x.of : Int), .int .i64 (x.side : Int),
 adr x 0, adr x 1, adr x 2, adr x 3, adr x 4, adr x 5, adr x 6, adr x 7, adr x 8, adr x 9, adr x 10, adr x 11, adr x 12, adr x 13, adr x 14, adr x 15, .int .i64 (x.bits : Int)]
theorem Nd.cells_len (x : Nd) : x.cells.length = 24 := rfl
def a0r (xs : List Nd) : List Value := xs.flatMap Nd.cells
theorem ar4 : a0r [] = [] := rfl
theorem a89 (x : Nd) (xs : List Nd) : a0r (x :: xs) = x.cells ++ a0r xs := rfl
theorem ar3 (xs ys : List Nd) : a0r (xs ++ ys) = a0r xs ++ a0r ys := by simp only [a0r, List.flatMap_append]
theorem ar5 (x : Nd) : a0r [x] = x.cells := by rw [a89, ar4, List.append_nil]
theorem Nd.cells_one (x : Nd) : ∀ u ∈ x.cells, u.oneCell' = true := by
 intro u hu
 simp only [Nd.cells, adr, List.mem_cons, List.not_mem_nil, or_false] at hu
 rcases hu with rfl | rfl | rfl | rfl | rfl | rfl | rfl | rfl | rfl | rfl | rfl | rfl | rfl | rfl | rfl | rfl | rfl | rfl | rfl | rfl | rfl | rfl | rfl | rfl <;> rfl
theorem a3d : (Tryz.prog.info? 43).map (·.size) = some 24 := by kernel_rfl
theorem a8z : (Tryz.prog.info? 43).map (fun i => (i.zero, i.size, i.bytes)) = some (some (.agg nd0.cells.toArray), 24, 72) := by kernel_rfl
abbrev a5b (w : World) (base : Nat) (v : Value) (xs : List Nd) : Prop := w.ownsRow base 43 24 v xs.length (a0r xs)

end Go.Proofs.YtklipelnjgpnjaaGreatDoor
