/-
  The document's own numbers of the machine: Shift, Operate, size, read.
-/
import Derived.Test.YtaldhnionkacmaaCodes
import Derived.Test.YtaldhnionkacmaaGetR
namespace Go.Proofs.Ytaldhnionkacmaa
open Go.RowKit
set_option maxRecDepth 100000

/-- A number shifted. -/
def shiftV (a b : Nat) (left : Bool) : Nat := if 31 < b then 0 else if left = true then a * 2 ^ b % 4294967296 else a / 2 ^ b

set_option maxHeartbeats 400000 in
theorem shift_any (a b : Nat) (left : Bool) (w : World) (_ha : a ≤ 4294967295) (hb : b ≤ 4294967295) :
    Calls Try.prog 58 #[.int .u32 a, .int .u32 b, .bool left] w fun e w' => e = .returned (.int .u32 (shiftV a b left : Int)) ∧ w = w' := by
  by_cases h : 31 < b
  · have h' : (31 : Int) < (b : Int) := by omega
    have e : shiftV a b left = 0 := by simp [shiftV, h]
    rw [e]
    go_enter Try.func58, Try.ntmps58
    go_wp2
    go_ret
    exact ⟨rfl, rfl⟩
  · have h' : ¬ ((31 : Int) < (b : Int)) := by omega
    cases left with
    | true =>
      go_enter Try.func58, Try.ntmps58
      go_wp2
      go_ret
      exact ⟨ret_int (by simp [shiftV, h]), rfl⟩
    | false =>
      go_enter Try.func58, Try.ntmps58
      go_wp2
      go_ret
      exact ⟨ret_int (by simp [shiftV, h]), rfl⟩

theorem shiftV_le (a b : Nat) (left : Bool) (ha : a ≤ 4294967295) : shiftV a b left ≤ 4294967295 := by
  unfold shiftV
  split
  · omega
  · split
    · omega
    · exact Nat.le_trans (Nat.div_le_self _ _) ha

/-- Two numbers by an operation, its bit 8 struck: the number, the fault. -/
def operV (d : Int) (a b : Nat) : Nat × Int :=
  if d == 4 then ((a + b) % 4294967296, 0) else if d == 20 then ((a + 4294967296 - b) % 4294967296, 0) else if d == 36 then (a * b % 4294967296, 0)
  else if d == 68 then (a ||| b, 0) else if d == 84 then (a &&& b, 0) else if d == 164 then (a ^^^ b, 0) else if d == 100 then (shiftV a b true, 0) else if d == 116 then (shiftV a b false, 0)
  else if b == 0 then (0, 2) else if d == 52 then (a / b, 0) else (a % b, 0)

theorem ret_oper {x y : Int} {u v : Int} (h : x = y) (h' : u = v) : Ending.returned (.tuple #[.int .u32 x, .int .i64 u]) = .returned (.tuple #[.int .u32 y, .int .i64 v]) := by rw [h, h']

set_option maxHeartbeats 1000000 in
theorem operate_any (c : Int) (a b : Nat) (w : World) (ha : a ≤ 4294967295) (hb : b ≤ 4294967295) :
    Calls Try.prog 45 #[.int .u16 c, .int .u32 a, .int .u32 b] w fun e w' => e = .returned (.tuple #[.int .u32 ((operV (bits .andNot .u16 c 8) a b).1 : Int), .int .i64 (operV (bits .andNot .u16 c 8) a b).2]) ∧ w = w' := by
  generalize hd : bits .andNot .u16 c 8 = d
  have e1 := u32_or_nat a b (by omega) (by omega)
  have e2 := u32_and_nat a b (by omega) (by omega)
  have e3 := u32_xor_nat a b (by omega) (by omega)
  have hsub : ((a : Int) - (b : Int)) % 4294967296 = ((a + 4294967296 - b : Nat) : Int) % 4294967296 := by omega
  by_cases hb0 : b = 0
  · have hz : ((b : Int) == 0) = true := by rw [hb0]; rfl
    have hz2 : (b == 0) = true := by rw [hb0]; rfl
    clear hb0
    go_enter Try.func45, Try.ntmps45
    go_wp2_with (go_at_call 58; refine (shift_any a b _ _ ha hb).mono ?_; rintro e w' ⟨rfl, rfl⟩)
    all_goals
      go_ret2
      refine ⟨ret_oper ?_ ?_, rfl⟩
      all_goals first
        | (simp [operV, *]; done)
        | (simp [operV, *]; omega)
  · have hz : ((b : Int) == 0) = false := by rw [beq_eq_false_iff_ne]; omega
    have hz2 : (b == 0) = false := by rw [beq_eq_false_iff_ne]; exact hb0
    have hz3 : ¬ ((b : Int) = 0) := by omega
    have q0 : a / b ≤ a := Nat.div_le_self _ _
    have q3 : a % b ≤ a := Nat.mod_le _ _
    have q1 : (a : Int) / (b : Int) % 4294967296 = (a : Int) / (b : Int) := by
      rw [← Int.natCast_ediv]
      clear hsub e1 e2 e3
      generalize a / b = q at *
      omega
    have q2 : (a : Int) % (b : Int) % 4294967296 = (a : Int) % (b : Int) := by
      rw [← Int.natCast_emod]
      clear hsub e1 e2 e3
      generalize a % b = q at *
      omega
    clear q0 q3
    go_enter Try.func45, Try.ntmps45
    go_wp2_with (go_at_call 58; refine (shift_any a b _ _ ha hb).mono ?_; rintro e w' ⟨rfl, rfl⟩)
    all_goals
      go_ret2
      refine ⟨ret_oper ?_ ?_, rfl⟩
      all_goals first
        | (simp [operV, *]; done)
        | (simp [operV, *]; omega)

/-- How many bytes a load reads. -/
def sizeV (c : Int) : Nat := if (c == 32 || c == 64) = true then 4 else if (c == 40 || c == 72) = true then 2 else 1

set_option maxHeartbeats 400000 in
theorem size_any (c : Int) (w : World) : Calls Try.prog 44 #[.int .u16 c] w fun e w' => e = .returned (.int .i64 (sizeV c : Int)) ∧ w = w' := by
  go_enter Try.func44, Try.ntmps44
  go_wp2
  all_goals
    go_ret
    exact ⟨ret_int (by simp [sizeV, *]), rfl⟩

/-- A load from a place on: the number, the fault. -/
def readAtV (xs : List UInt8) (p S : Nat) : Nat × Int := if okB xs.length p S = true then (numAt xs p S, 0) else (0, 1)

set_option maxHeartbeats 400000 in
theorem read_at (a : Option Addr) (ca : Nat) (xs : List UInt8) (p S : Nat) (w : World) (ha : Cells w a xs) (hn : xs.length ≤ 140737488355328) (hp : p ≤ 18446744073709551615) :
    Calls Try.prog 43 #[.slice a xs.length ca, .int .u64 p, .int .i64 S] w fun e w' => e = .returned (.tuple #[.int .u32 ((readAtV xs p S).1 : Int), .int .i64 (readAtV xs p S).2]) ∧ w = w' := by
  by_cases h : xs.length < p
  · have h' : (xs.length : Int) < (p : Int) := by omega
    have hok : okB xs.length p S = false := decide_eq_false (by omega)
    have e : readAtV xs p S = (0, 1) := by rw [readAtV, hok]; rfl
    rw [e]
    clear ha
    go_enter Try.func43, Try.ntmps43
    go_wp2
    go_ret2
    exact ⟨rfl, rfl⟩
  · have h' : ¬ ((xs.length : Int) < (p : Int)) := by omega
    have HG := refget_any a ca xs p S w ha hn
    cases hok : okB xs.length p S with
    | true =>
      have e : readAtV xs p S = (numAt xs p S, 0) := by rw [readAtV, hok]; rfl
      have g : getV xs p S = numAt xs p S := by simp [getV, hok]
      rw [hok, g] at HG
      rw [e]
      have HGG : Hid (Calls Try.prog 57 #[.slice a xs.length ca, .int .i64 (p : Int), .int .i64 (S : Int)] w fun e w' => e = .returned (.tuple #[.int .u32 (numAt xs p S), .bool true]) ∧ w = w') := HG
      clear HG ha g
      go_enter Try.func43, Try.ntmps43
      go_wp2_with fail
      refine HGG.out.mono ?_
      rintro e w' ⟨rfl, rfl⟩
      go_wp2
      go_ret2
      exact ⟨rfl, rfl⟩
    | false =>
      have e : readAtV xs p S = (0, 1) := by rw [readAtV, hok]; rfl
      rw [hok] at HG
      rw [e]
      obtain ⟨q, hq⟩ : ∃ q, getV xs p S = q := ⟨_, rfl⟩
      rw [hq] at HG
      have HGG : Hid (Calls Try.prog 57 #[.slice a xs.length ca, .int .i64 (p : Int), .int .i64 (S : Int)] w fun e w' => e = .returned (.tuple #[.int .u32 q, .bool false]) ∧ w = w') := HG
      clear HG ha hq
      go_enter Try.func43, Try.ntmps43
      go_wp2_with fail
      refine HGG.out.mono ?_
      rintro e w' ⟨rfl, rfl⟩
      go_wp2
      go_ret2
      exact ⟨rfl, rfl⟩

end Go.Proofs.Ytaldhnionkacmaa
