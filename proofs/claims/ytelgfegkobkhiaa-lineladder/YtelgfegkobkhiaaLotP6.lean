/-
  The document's own Reach. The document's own Get. The document's own numbers of the machine: Shift, Operate, size, read. The document's own question of a jump: Holds.
-/
import Derived.Test.YtelgfegkobkhiaaLotP5
import Derived.Test.YtelgfegkobkhiaaLotP2
namespace Go.Proofs.Ytelgfegkobkhiaa
open Go.RowKit
set_option maxRecDepth 100000

/-- What one instruction adds. -/
def stepB (x : In) (i : Nat) (bs : List Bool) : List Bool :=
  if bs.getD i false = false ∨ retB x.code.toNat = true then bs
  else if ((x.code.toNat : Int) == 5) = true then bs.set (i + 1 + x.k.toNat) true
  else if jumpB x.code.toNat = true then (bs.set (i + 1 + x.jt.toNat) true).set (i + 1 + x.jf.toNat) true
  else bs.set (i + 1) true
def reachTo (xs : List In) : Nat → List Bool
  | 0 => (List.replicate xs.length false).set 0 true
  | i + 1 => match xs[i]? with
    | some x => stepB x i (reachTo xs i)
    | none => reachTo xs i
/-- P4.2. -/
def reachV (xs : List In) : List Bool := if (checkV xs).2 = 0 then reachTo xs xs.length else []

theorem stepB_len (x : In) (i : Nat) (bs : List Bool) : (stepB x i bs).length = bs.length := by
  unfold stepB
  split
  · rfl
  · split
    · simp
    · split <;> simp

theorem reachTo_len (xs : List In) (i : Nat) : (reachTo xs i).length = xs.length := by
  induction i with
  | zero => simp [reachTo]
  | succ i ih =>
    rw [reachTo]
    cases xs[i]? with
    | none => exact ih
    | some x => rw [stepB_len, ih]

theorem reachTo_succ {xs : List In} {i : Nat} (h : i < xs.length) : reachTo xs (i + 1) = stepB xs[i] i (reachTo xs i) := by
  rw [reachTo, List.getElem?_eq_getElem h]

theorem firstBad_none {n i : Nat} {xs : List In} (h : firstBad n i xs = none) : ∀ j (hj : j < xs.length), badV n (i + j) xs[j] = 0 := by
  induction xs generalizing i with
  | nil => intro j hj; simp at hj
  | cons x xs ih =>
    rw [firstBad] at h
    split at h
    · rename_i h0
      intro j hj
      cases j with
      | zero => simpa using h0
      | succ j =>
        have := ih h j (by simpa using hj)
        simpa [Nat.add_assoc, Nat.add_comm, Nat.add_left_comm] using this
    · cases h

theorem firstBad_some {n i : Nat} {xs : List In} {r : Nat × Int} (h : firstBad n i xs = some r) : r.2 ≠ 0 := by
  induction xs generalizing i with
  | nil => simp [firstBad] at h
  | cons x xs ih =>
    rw [firstBad] at h
    split at h
    · exact ih h
    · rename_i h0
      simp only [Option.some.injEq] at h
      subst h
      exact h0

/-- A program that is taken. -/
theorem taken {xs : List In} (h : (checkV xs).2 = 0) : 0 < xs.length ∧ xs.length ≤ 4096 ∧ (∀ j (hj : j < xs.length), badV xs.length j xs[j] = 0) ∧ lastB xs = true := by
  unfold checkV at h
  split at h
  · simp at h
  · split at h
    · simp at h
    · cases hf : firstBad xs.length 0 xs with
      | some r => rw [hf] at h; exact absurd h (firstBad_some hf)
      | none =>
        rw [hf, endV] at h
        refine ⟨by omega, by omega, fun j hj => ?_, ?_⟩
        · have := firstBad_none hf j hj
          simpa using this
        · split at h
          · assumption
          · simp at h

theorem bad_zero {n i : Nat} {x : In} (h : badV n i x = 0) : faultV x.code.toNat x.k.toNat = 0 ∧ jumpBad x.code.toNat x.jt.toNat x.jf.toNat x.k.toNat (n - 1 - i) = false := by
  unfold badV at h
  split at h
  · rename_i h0
    split at h
    · simp at h
    · rename_i h1
      exact ⟨h0, by simpa using h1⟩
  · exact absurd h (by assumption)

theorem jumpBad_out {c : Int} {t f k room : Nat} (h : jumpBad c t f k room = false) : ((c == 5) = true → k < room) ∧ (jumpB c = true → t < room ∧ f < room) := by
  unfold jumpBad at h
  simp only [Bool.or_eq_false_iff, Bool.and_eq_false_iff, decide_eq_false_iff_not, Nat.not_le] at h
  refine ⟨fun h5 => ?_, fun hj => ?_⟩
  · rcases h.1 with q | q
    · rw [h5] at q; cases q
    · exact q
  · rcases h.2 with q | q
    · rw [hj] at q; cases q
    · exact q

theorem last_ret {xs : List In} (h : lastB xs = true) {j : Nat} (hj : j < xs.length) (hr : retB xs[j].code.toNat = false) : j + 1 < xs.length := by
  apply Classical.byContradiction
  intro hn
  obtain rfl : j = xs.length - 1 := by omega
  rw [lastB, List.getLast?_eq_getElem?, List.getElem?_eq_getElem hj] at h
  simp only at h
  rw [hr] at h
  cases h

end Go.Proofs.Ytelgfegkobkhiaa

namespace Go.Proofs.Ytelgfegkobkhiaa
open Go.RowKit
set_option maxRecDepth 100000

set_option maxHeartbeats 400000 in
theorem in_any (n : Nat) (p s : Int) (w : World) (hn : n ≤ 140737488355328) (hs : s = 1 ∨ s = 2 ∨ s = 4) :
    Calls Try.prog 63 #[.int .i64 n, .int .i64 p, .int .i64 s] w fun e w' => e = .returned (.bool (okB n p s)) ∧ w = w' := by
  rcases hs with rfl | rfl | rfl
  all_goals
    go_enter Try.func63, Try.ntmps63
    go_wp2
    all_goals
      go_ret
      first
        | exact ⟨ret_bool (okB_of (by omega)), rfl⟩
        | exact ⟨ret_bool (okB_no (by omega)), rfl⟩

set_option maxHeartbeats 400000 in
theorem refget_any (a : Option Addr) (ca : Nat) (xs : List UInt8) (p s : Int) (w : World) (ha : Cells w a xs) (hn : xs.length ≤ 140737488355328) :
    Calls Try.prog 59 #[.slice a xs.length ca, .int .i64 p, .int .i64 s] w fun e w' => e = .returned (.tuple #[.int .u32 (getV xs p s), .bool (okB xs.length p s)]) ∧ w = w' := by
  by_cases h : s = 1 ∨ s = 2 ∨ s = 4
  case neg =>
    have hok : okB xs.length p s = false := (okB_no (by omega)).symm
    have h1 : (s != 1) = true := by rw [bne_iff_ne]; omega
    have h2 : (s != 2) = true := by rw [bne_iff_ne]; omega
    have h3 : (s != 4) = true := by rw [bne_iff_ne]; omega
    have hg : getV xs p s = 0 := by simp [getV, hok]
    rw [hok, hg]
    clear hok hg
    go_enter Try.func59, Try.ntmps59
    go_wp2
    go_ret2
    exact ⟨rfl, rfl⟩
  case pos =>
    obtain ⟨S, rfl⟩ : ∃ S : Nat, s = S := ⟨s.toNat, by omega⟩
    have hS : (S : Int) = 1 ∨ (S : Int) = 2 ∨ (S : Int) = 4 := h
    have key := three_tests hS
    have HS : Hid ((S : Int) = 1 ∨ (S : Int) = 2 ∨ (S : Int) = 4) := hS
    clear hS h
    cases hok : okB xs.length p S with
    | false =>
      have hg : getV xs p S = 0 := by simp [getV, hok]
      rw [hg]
      clear hg
      rcases key with h1 | ⟨h1, h2⟩ | ⟨h1, h2, h3⟩
      all_goals
        go_enter Try.func59, Try.ntmps59
        go_wp2_with (go_at_call 63; refine (in_any xs.length p _ _ hn HS.out).mono ?_; rintro e w' ⟨rfl, rfl⟩)
        go_ret2
        exact ⟨rfl, rfl⟩
    | true =>
      have hy := okB_yes hok
      obtain ⟨P, rfl⟩ := Int.eq_ofNat_of_zero_le hy.2.1
      have hP : P + S ≤ xs.length := by omega
      have hS4 : S ≤ 4 := by omega
      clear hy
      have hg : getV xs P S = numAt xs P S := by simp [getV, hok]
      rw [hg]
      clear hg
      rcases key with h1 | ⟨h1, h2⟩ | ⟨h1, h2, h3⟩
      all_goals
        go_enter Try.func59, Try.ntmps59
        go_wp2_with (go_at_call 63; refine (in_any xs.length P _ _ hn HS.out).mono ?_; rintro e w' ⟨rfl, rfl⟩)
        go_loop [8, 9] (fun v i => ∃ k : Nat, k ≤ S ∧ i = .int .i64 k ∧ v = .int .u32 (numAt xs P k)) (fun _ i => S - (intOf i).toNat)
        case atStart => exact ⟨0, Nat.zero_le _, rfl, rfl⟩
        case round =>
          obtain ⟨k, hk, rfl, rfl⟩ := hrel
          by_cases hlt : k < S
          · obtain ⟨b, o, rfl, h1⟩ := ha.addr (k := P + k) (by omega)
            have c1 := h1 (P + k) (by omega)
            clear ha h1
            go_wp2
            go_round
            case rel => exact ⟨k + 1, by omega, by go_num, numAt_step xs P k (by omega) (by omega)⟩
            case measure => simp [intOf]; omega
          · obtain rfl : k = S := by omega
            go_wp2
            go_ret2
            exact ⟨rfl, rfl⟩

end Go.Proofs.Ytelgfegkobkhiaa

namespace Go.Proofs.Ytelgfegkobkhiaa
open Go.RowKit
set_option maxRecDepth 100000

/-- A number shifted. -/
def shiftV (a b : Nat) (left : Bool) : Nat := if 31 < b then 0 else if left = true then a * 2 ^ b % 4294967296 else a / 2 ^ b

set_option maxHeartbeats 400000 in
theorem shift_any (a b : Nat) (left : Bool) (w : World) (_ha : a ≤ 4294967295) (hb : b ≤ 4294967295) :
    Calls Try.prog 60 #[.int .u32 a, .int .u32 b, .bool left] w fun e w' => e = .returned (.int .u32 (shiftV a b left : Int)) ∧ w = w' := by
  by_cases h : 31 < b
  · have h' : (31 : Int) < (b : Int) := by omega
    have e : shiftV a b left = 0 := by simp [shiftV, h]
    rw [e]
    go_enter Try.func60, Try.ntmps60
    go_wp2
    go_ret
    exact ⟨rfl, rfl⟩
  · have h' : ¬ ((31 : Int) < (b : Int)) := by omega
    cases left with
    | true =>
      go_enter Try.func60, Try.ntmps60
      go_wp2
      go_ret
      exact ⟨ret_int (by simp [shiftV, h]), rfl⟩
    | false =>
      go_enter Try.func60, Try.ntmps60
      go_wp2
      go_ret
      exact ⟨ret_int (by simp [shiftV, h]), rfl⟩

theorem shiftV_le (a b : Nat) (left : Bool) (ha : a ≤ 4294967295) : shiftV a b left ≤ 4294967295 := by
  unfold shiftV
  split
  · omega
  · split
    · omega
    · exact Nat.le_trans (Nat.div_le_self _ _) ha

/-- Two numbers by an operation, its bit 8 struck: the number, the fault. -/
def operV (d : Int) (a b : Nat) : Nat × Int :=
  if d == 4 then ((a + b) % 4294967296, 0) else if d == 20 then ((a + 4294967296 - b) % 4294967296, 0) else if d == 36 then (a * b % 4294967296, 0)
  else if d == 68 then (a ||| b, 0) else if d == 84 then (a &&& b, 0) else if d == 164 then (a ^^^ b, 0) else if d == 100 then (shiftV a b true, 0) else if d == 116 then (shiftV a b false, 0)
  else if b == 0 then (0, 2) else if d == 52 then (a / b, 0) else (a % b, 0)

theorem ret_oper {x y : Int} {u v : Int} (h : x = y) (h' : u = v) : Ending.returned (.tuple #[.int .u32 x, .int .i64 u]) = .returned (.tuple #[.int .u32 y, .int .i64 v]) := by rw [h, h']

set_option maxHeartbeats 1000000 in
theorem operate_any (c : Int) (a b : Nat) (w : World) (ha : a ≤ 4294967295) (hb : b ≤ 4294967295) :
    Calls Try.prog 54 #[.int .u16 c, .int .u32 a, .int .u32 b] w fun e w' => e = .returned (.tuple #[.int .u32 ((operV (bits .andNot .u16 c 8) a b).1 : Int), .int .i64 (operV (bits .andNot .u16 c 8) a b).2]) ∧ w = w' := by
  generalize hd : bits .andNot .u16 c 8 = d
  have e1 := u32_or_nat a b (by omega) (by omega)
  have e2 := u32_and_nat a b (by omega) (by omega)
  have e3 := u32_xor_nat a b (by omega) (by omega)
  have hsub : ((a : Int) - (b : Int)) % 4294967296 = ((a + 4294967296 - b : Nat) : Int) % 4294967296 := by omega
  by_cases hb0 : b = 0
  · have hz : ((b : Int) == 0) = true := by rw [hb0]; rfl
    have hz2 : (b == 0) = true := by rw [hb0]; rfl
    clear hb0
    go_enter Try.func54, Try.ntmps54
    go_wp2_with (go_at_call 60; refine (shift_any a b _ _ ha hb).mono ?_; rintro e w' ⟨rfl, rfl⟩)
    all_goals
      go_ret2
      refine ⟨ret_oper ?_ ?_, rfl⟩
      all_goals first
        | (simp [operV, *]; done)
        | (simp [operV, *]; omega)
  · have hz : ((b : Int) == 0) = false := by rw [beq_eq_false_iff_ne]; omega
    have hz2 : (b == 0) = false := by rw [beq_eq_false_iff_ne]; exact hb0
    have hz3 : ¬ ((b : Int) = 0) := by omega
    have q0 : a / b ≤ a := Nat.div_le_self _ _
    have q3 : a % b ≤ a := Nat.mod_le _ _
    have q1 : (a : Int) / (b : Int) % 4294967296 = (a : Int) / (b : Int) := by
      rw [← Int.natCast_ediv]
      clear hsub e1 e2 e3
      generalize a / b = q at *
      omega
    have q2 : (a : Int) % (b : Int) % 4294967296 = (a : Int) % (b : Int) := by
      rw [← Int.natCast_emod]
      clear hsub e1 e2 e3
      generalize a % b = q at *
      omega
    clear q0 q3
    go_enter Try.func54, Try.ntmps54
    go_wp2_with (go_at_call 60; refine (shift_any a b _ _ ha hb).mono ?_; rintro e w' ⟨rfl, rfl⟩)
    all_goals
      go_ret2
      refine ⟨ret_oper ?_ ?_, rfl⟩
      all_goals first
        | (simp [operV, *]; done)
        | (simp [operV, *]; omega)

/-- How many bytes a load reads. -/
def sizeV (c : Int) : Nat := if (c == 32 || c == 64) = true then 4 else if (c == 40 || c == 72) = true then 2 else 1

set_option maxHeartbeats 400000 in
theorem size_any (c : Int) (w : World) : Calls Try.prog 53 #[.int .u16 c] w fun e w' => e = .returned (.int .i64 (sizeV c : Int)) ∧ w = w' := by
  go_enter Try.func53, Try.ntmps53
  go_wp2
  all_goals
    go_ret
    exact ⟨ret_int (by simp [sizeV, *]), rfl⟩

/-- A load from a place on: the number, the fault. -/
def readAtV (xs : List UInt8) (p S : Nat) : Nat × Int := if okB xs.length p S = true then (numAt xs p S, 0) else (0, 1)

set_option maxHeartbeats 400000 in
theorem read_at (a : Option Addr) (ca : Nat) (xs : List UInt8) (p S : Nat) (w : World) (ha : Cells w a xs) (hn : xs.length ≤ 140737488355328) (hp : p ≤ 18446744073709551615) :
    Calls Try.prog 52 #[.slice a xs.length ca, .int .u64 p, .int .i64 S] w fun e w' => e = .returned (.tuple #[.int .u32 ((readAtV xs p S).1 : Int), .int .i64 (readAtV xs p S).2]) ∧ w = w' := by
  by_cases h : xs.length < p
  · have h' : (xs.length : Int) < (p : Int) := by omega
    have hok : okB xs.length p S = false := decide_eq_false (by omega)
    have e : readAtV xs p S = (0, 1) := by rw [readAtV, hok]; rfl
    rw [e]
    clear ha
    go_enter Try.func52, Try.ntmps52
    go_wp2
    go_ret2
    exact ⟨rfl, rfl⟩
  · have h' : ¬ ((xs.length : Int) < (p : Int)) := by omega
    have HG := refget_any a ca xs p S w ha hn
    cases hok : okB xs.length p S with
    | true =>
      have e : readAtV xs p S = (numAt xs p S, 0) := by rw [readAtV, hok]; rfl
      have g : getV xs p S = numAt xs p S := by simp [getV, hok]
      rw [hok, g] at HG
      rw [e]
      have HGG : Hid (Calls Try.prog 59 #[.slice a xs.length ca, .int .i64 (p : Int), .int .i64 (S : Int)] w fun e w' => e = .returned (.tuple #[.int .u32 (numAt xs p S), .bool true]) ∧ w = w') := HG
      clear HG ha g
      go_enter Try.func52, Try.ntmps52
      go_wp2_with fail
      refine HGG.out.mono ?_
      rintro e w' ⟨rfl, rfl⟩
      go_wp2
      go_ret2
      exact ⟨rfl, rfl⟩
    | false =>
      have e : readAtV xs p S = (0, 1) := by rw [readAtV, hok]; rfl
      rw [hok] at HG
      rw [e]
      obtain ⟨q, hq⟩ : ∃ q, getV xs p S = q := ⟨_, rfl⟩
      rw [hq] at HG
      have HGG : Hid (Calls Try.prog 59 #[.slice a xs.length ca, .int .i64 (p : Int), .int .i64 (S : Int)] w fun e w' => e = .returned (.tuple #[.int .u32 q, .bool false]) ∧ w = w') := HG
      clear HG ha hq
      go_enter Try.func52, Try.ntmps52
      go_wp2_with fail
      refine HGG.out.mono ?_
      rintro e w' ⟨rfl, rfl⟩
      go_wp2
      go_ret2
      exact ⟨rfl, rfl⟩

end Go.Proofs.Ytelgfegkobkhiaa

namespace Go.Proofs.Ytelgfegkobkhiaa
open Go.RowKit
set_option maxRecDepth 100000

/-- The other number: X's, or K. -/
def sideV (c : Int) (k x : Nat) : Nat := if byxB c = true then x else k
/-- Is a jump's question true? d: its code, its bit 8 struck. -/
def holdsV (d : Int) (a b : Nat) : Bool := if d == 21 then a == b else if d == 37 then decide (b < a) else if d == 53 then decide (b ≤ a) else (a &&& b) != 0

theorem cast_beq (a b : Nat) : ((a : Int) == (b : Int)) = (a == b) := by
  by_cases h : a = b
  · subst h; simp
  · have h1 : (a == b) = false := by rw [beq_eq_false_iff_ne]; exact h
    rw [h1, beq_eq_false_iff_ne]
    omega
theorem cast_bne (a : Nat) : ((a : Int) != 0) = (a != 0) := by
  have := cast_beq a 0
  simp only [bne]
  rw [← this]
  rfl

set_option maxHeartbeats 1000000 in
theorem holds_q (c : Int) (t f k a x : Nat) (w : World) (hk : k ≤ 4294967295) (ha : a ≤ 4294967295) (hx : x ≤ 4294967295) :
    Calls Try.prog 42 #[.agg #[.int .u16 c, .int .u8 t, .int .u8 f, .int .u32 k], .int .u32 a, .int .u32 x] w fun e w' => e = .returned (.bool (holdsV (bits .andNot .u16 c 8) a (sideV c k x))) ∧ w.grownBy w' none := by
  have G0 : w.grownBy (w.alloc (.cells #[.int .u16 c, .int .u8 t, .int .u8 f, .int .u32 k] 45)) none := World.grownBy_alloc _ _ _
  cases hb : byxB c with
  | true =>
    have e : sideV c k x = x := by simp [sideV, hb]
    rw [e]
    have e2 := u32_and_nat a x (by omega) (by omega)
    generalize hd : bits .andNot .u16 c 8 = d
    go_enter Try.func42, Try.ntmps42
    go_wp2_with (go_at_call 51; refine (byx_any _ _).mono ?_; rintro e w' ⟨rfl, rfl⟩)
    all_goals
      go_ret
      exact ⟨ret_bool (by simp [holdsV, cast_beq, cast_bne, *]), G0⟩
  | false =>
    have e : sideV c k x = k := by simp [sideV, hb]
    rw [e]
    have e2 := u32_and_nat a k (by omega) (by omega)
    generalize hd : bits .andNot .u16 c 8 = d
    go_enter Try.func42, Try.ntmps42
    go_wp2_with (go_at_call 51; refine (byx_any _ _).mono ?_; rintro e w' ⟨rfl, rfl⟩)
    all_goals
      go_ret
      exact ⟨ret_bool (by simp [holdsV, cast_beq, cast_bne, *]), G0⟩

end Go.Proofs.Ytelgfegkobkhiaa
