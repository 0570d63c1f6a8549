/-
  The document's own answers on codes: Jump, Operation, Load, ByX, Known, Class, Uses. Instructions in memory: four cells each. SameInsns of two lists that read alike answers true.
-/
import Derived.Test.YtpoleldfoahpoaaGreatBase
namespace Go.Proofs.YtpoleldfoahpoaaGreat
open Go.RowKit
set_option maxRecDepth 100000

def jumpB (c : Int) : Bool := c == 21 || c == 29 || c == 37 || c == 45 || c == 53 || c == 61 || c == 69 || c == 77
def operB (c : Int) : Bool := c == 4 || c == 12 || c == 20 || c == 28 || c == 36 || c == 44 || c == 52 || c == 60 || c == 68 || c == 76 || c == 84 || c == 92 || c == 100 || c == 108 || c == 116 || c == 124 || c == 148 || c == 156 || c == 164 || c == 172
def loadB (c : Int) : Bool := c == 32 || c == 40 || c == 48 || c == 64 || c == 72 || c == 80 || c == 177
def plainB (c : Int) : Bool := (c == 0 || c == 32 || c == 40 || c == 48 || c == 64 || c == 72 || c == 80 || c == 96 || c == 128) || (c == 1 || c == 97 || c == 129 || c == 177 || c == 2 || c == 3 || c == 132 || c == 6 || c == 22 || c == 7 || c == 135 || c == 5)
def knownB (c : Int) : Bool := plainB c || (jumpB c || operB c)

set_option maxHeartbeats 1000000 in
theorem jump_any (c : Int) (w : World) : Calls Tryz.prog 58 #[.int .u16 c] w fun e w' => e = .returned (.bool (jumpB c)) ∧ w = w' := by
  go_enter Tryz.func58, Tryz.ntmps58
  go_wp2
  all_goals
    go_ret
    exact ⟨ret_bool (by simp [jumpB, *]), rfl⟩

set_option maxHeartbeats 1000000 in
theorem load_any (c : Int) (w : World) : Calls Tryz.prog 75 #[.int .u16 c] w fun e w' => e = .returned (.bool (loadB c)) ∧ w = w' := by
  go_enter Tryz.func75, Tryz.ntmps75
  go_wp2
  all_goals
    go_ret
    exact ⟨ret_bool (by simp [loadB, *]), rfl⟩

set_option maxHeartbeats 2000000 in
theorem oper_any (c : Int) (w : World) : Calls Tryz.prog 85 #[.int .u16 c] w fun e w' => e = .returned (.bool (operB c)) ∧ w = w' := by
  go_enter Tryz.func85, Tryz.ntmps85
  go_wp2
  all_goals
    go_ret
    exact ⟨ret_bool (by simp [operB, *]), rfl⟩

set_option maxHeartbeats 2000000 in
theorem refknown_any (c : Int) (w : World) : Calls Tryz.prog 70 #[.int .u16 c] w fun e w' => e = .returned (.bool (knownB c)) ∧ w = w' := by
  cases hj : jumpB c with
  | true =>
    go_enter Tryz.func70, Tryz.ntmps70
    go_wp2_with (first | (go_at_call 58; refine (jump_any _ _).mono ?_; rintro e w' ⟨rfl, rfl⟩) | (go_at_call 85; refine (oper_any _ _).mono ?_; rintro e w' ⟨rfl, rfl⟩))
    all_goals
      go_ret
      exact ⟨ret_bool (by simp [knownB, plainB, *]), rfl⟩
  | false =>
    go_enter Tryz.func70, Tryz.ntmps70
    go_wp2_with (first | (go_at_call 58; refine (jump_any _ _).mono ?_; rintro e w' ⟨rfl, rfl⟩) | (go_at_call 85; refine (oper_any _ _).mono ?_; rintro e w' ⟨rfl, rfl⟩))
    all_goals
      go_ret
      exact ⟨ret_bool (by simp [knownB, plainB, *]), rfl⟩

/-- Its bit 8. -/
def bit8 (c : Int) : Bool := bits .and .u16 c 8 != 0
def byxB (c : Int) : Bool := (jumpB c || operB c) && bit8 c

set_option maxHeartbeats 1000000 in
theorem byx_any (c : Int) (w : World) : Calls Tryz.prog 64 #[.int .u16 c] w fun e w' => e = .returned (.bool (byxB c)) ∧ w = w' := by
  cases hj : jumpB c with
  | true =>
    go_enter Tryz.func64, Tryz.ntmps64
    go_wp2_with (first | (go_at_call 58; refine (jump_any _ _).mono ?_; rintro e w' ⟨rfl, rfl⟩) | (go_at_call 85; refine (oper_any _ _).mono ?_; rintro e w' ⟨rfl, rfl⟩))
    all_goals
      go_ret
      exact ⟨ret_bool (by simp [byxB, bit8, *]), rfl⟩
  | false =>
    cases ho : operB c with
    | true =>
      go_enter Tryz.func64, Tryz.ntmps64
      go_wp2_with (first | (go_at_call 58; refine (jump_any _ _).mono ?_; rintro e w' ⟨rfl, rfl⟩) | (go_at_call 85; refine (oper_any _ _).mono ?_; rintro e w' ⟨rfl, rfl⟩))
      all_goals
        go_ret
        exact ⟨ret_bool (by simp [byxB, bit8, *]), rfl⟩
    | false =>
      go_enter Tryz.func64, Tryz.ntmps64
      go_wp2_with (first | (go_at_call 58; refine (jump_any _ _).mono ?_; rintro e w' ⟨rfl, rfl⟩) | (go_at_call 85; refine (oper_any _ _).mono ?_; rintro e w' ⟨rfl, rfl⟩))
      all_goals
        go_ret
        exact ⟨ret_bool (by simp [byxB, bit8, *]), rfl⟩

/-- What Class says. -/
def classV (c : Int) : Int := if knownB c = true then c % 8 else -1

theorem and7 (c : Int) (h0 : 0 ≤ c) (h1 : c ≤ 65535) : bits .and .u16 c 7 = c % 8 := by
  obtain ⟨n, rfl⟩ := Int.eq_ofNat_of_zero_le h0
  have h := u16_and_nat n 7 (by omega) (by omega)
  rw [show n &&& 7 = n % 8 from Nat.and_two_pow_sub_one_eq_mod n 3] at h
  rw [show (7 : Int) = ((7 : Nat) : Int) by rfl, h]
  omega

set_option maxHeartbeats 1000000 in
theorem refclass_any (c : Int) (w : World) (h0 : 0 ≤ c) (h1 : c ≤ 65535) : Calls Tryz.prog 51 #[.int .u16 c] w fun e w' => e = .returned (.int .i64 (classV c)) ∧ w = w' := by
  have hb := and7 c h0 h1
  have b0 : 0 ≤ c % 8 := by omega
  have b1 : c % 8 < 8 := by omega
  cases hk : knownB c with
  | true =>
    go_enter Tryz.func51, Tryz.ntmps51
    go_wp2_with (go_at_call 70; refine (refknown_any _ _).mono ?_; rintro e w' ⟨rfl, rfl⟩)
    go_ret
    exact ⟨by simp [classV, hk], rfl⟩
  | false =>
    go_enter Tryz.func51, Tryz.ntmps51
    go_wp2_with (go_at_call 70; refine (refknown_any _ _).mono ?_; rintro e w' ⟨rfl, rfl⟩)
    go_ret
    exact ⟨by simp [classV, hk], rfl⟩

/-- What Uses says, answer by answer. -/
def noKB (c : Int) : Bool := c == 128 || c == 129 || c == 132 || c == 22 || c == 7 || c == 135
def usesK (c : Int) : Bool := knownB c && (!byxB c && !noKB c)
def usesJ (c : Int) : Bool := knownB c && jumpB c
def usesF (c : Int) : Bool := knownB c && (loadB c || c == 60 || c == 156)

theorem cret_three {a b c x y z : Bool} (h1 : a = x) (h2 : b = y) (h3 : c = z) : Ending.returned (.tuple #[.bool a, .bool b, .bool c]) = .returned (.tuple #[.bool x, .bool y, .bool z]) := by rw [h1, h2, h3]

set_option maxHeartbeats 2000000 in
theorem refuses_any (c : Int) (w : World) : Calls Tryz.prog 57 #[.int .u16 c] w fun e w' => e = .returned (.tuple #[.bool (usesK c), .bool (usesJ c), .bool (usesF c)]) ∧ w = w' := by
  cases hk : knownB c with
  | false =>
    go_enter Tryz.func57, Tryz.ntmps57
    go_wp2_with (go_at_call 70; refine (refknown_any _ _).mono ?_; rintro e w' ⟨rfl, rfl⟩)
    go_ret3
    exact ⟨by simp [usesK, usesJ, usesF, hk], rfl⟩
  | true =>
    cases hl : loadB c <;> cases h6 : (c == 60) <;> cases h5 : (c == 156)
    all_goals
      go_enter Tryz.func57, Tryz.ntmps57
      go_wp2_with (first | (go_at_call 70; refine (refknown_any _ _).mono ?_; rintro e w' ⟨rfl, rfl⟩) | (go_at_call 64; refine (byx_any _ _).mono ?_; rintro e w' ⟨rfl, rfl⟩) | (go_at_call 58; refine (jump_any _ _).mono ?_; rintro e w' ⟨rfl, rfl⟩) | (go_at_call 75; refine (load_any _ _).mono ?_; rintro e w' ⟨rfl, rfl⟩))
      all_goals
        go_ret3
        exact ⟨cret_three (by simp [usesK, noKB, *]) (by simp [usesJ, *]) (by simp [usesF, *]), rfl⟩

end Go.Proofs.YtpoleldfoahpoaaGreat

namespace Go.Proofs.YtpoleldfoahpoaaGreat
open Go.RowKit
set_option maxRecDepth 100000

/-- An instruction. -/
structure In where
  code : UInt16
  jt : UInt8
  jf : UInt8
  k : UInt32

def In.cells (x : In) : List Value := [.int .u16 (x.code.toNat : Int), .int .u8 (x.jt.toNat : Int), .int .u8 (x.jf.toNat : Int), .int .u32 (x.k.toNat : Int)]

/-- The cells of a list of them. -/
def flat (xs : List In) : List Value := xs.flatMap In.cells

theorem flat_nil : flat [] = [] := rfl
theorem flat_cons (x : In) (xs : List In) : flat (x :: xs) = x.cells ++ flat xs := rfl
theorem flat_append (xs ys : List In) : flat (xs ++ ys) = flat xs ++ flat ys := by simp only [flat, List.flatMap_append]

theorem flat_len (xs : List In) : (flat xs).length = xs.length * 4 := by
  induction xs with
  | nil => rfl
  | cons x xs ih => rw [flat_cons, List.length_append, ih, List.length_cons]; simp [In.cells]; omega

theorem flat_get (xs : List In) (i j : Nat) (hi : i < xs.length) (hj : j < 4) : (flat xs)[i * 4 + j]? = (xs[i].cells)[j]? := by
  induction xs generalizing i with
  | nil => simp at hi
  | cons x xs ih =>
    rw [flat_cons]
    have hl : x.cells.length = 4 := rfl
    cases i with
    | zero => rw [List.getElem?_append_left (by omega)]; simp
    | succ i =>
      rw [List.getElem?_append_right (by omega), hl, show (i + 1) * 4 + j - 4 = i * 4 + j by omega, ih i (by simpa using hi)]
      simp

theorem flat_one (xs : List In) : ∀ u ∈ flat xs, u.oneCell' = true := by
  intro u hu
  obtain ⟨x, _, hx⟩ := List.mem_flatMap.1 hu
  simp only [In.cells, List.mem_cons, List.not_mem_nil, or_false] at hx
  rcases hx with rfl | rfl | rfl | rfl <;> rfl

theorem CV.insns {w : World} {ao : Option Addr} {xs : List In} (h : CV w ao (flat xs)) {k : Nat} (hk : k < xs.length) :
    ∃ b off, ao = some ⟨b, off, none⟩ ∧ ∀ i (hi : i < xs.length), w.cell? ⟨b, off + i * 4, none⟩ = some (.int .u16 (xs[i].code.toNat : Int)) ∧ w.cell? ⟨b, off + i * 4 + 1, none⟩ = some (.int .u8 (xs[i].jt.toNat : Int)) ∧
      w.cell? ⟨b, off + i * 4 + 2, none⟩ = some (.int .u8 (xs[i].jf.toNat : Int)) ∧ w.cell? ⟨b, off + i * 4 + 3, none⟩ = some (.int .u32 (xs[i].k.toNat : Int)) := by
  have hl := flat_len xs
  obtain ⟨b, off, hao, hc⟩ := h.addr (k := k * 4) (by omega)
  refine ⟨b, off, hao, fun i hi => ?_⟩
  have key : ∀ j (hj : j < 4), w.cell? ⟨b, off + i * 4 + j, none⟩ = (xs[i].cells)[j]? := fun j hj => by
    rw [← flat_get xs i j hi hj, Nat.add_assoc, hc (i * 4 + j) (by omega), List.getElem?_eq_getElem (by omega)]
  exact ⟨key 0 (by omega), key 1 (by omega), key 2 (by omega), key 3 (by omega)⟩

end Go.Proofs.YtpoleldfoahpoaaGreat

namespace Go.Proofs.YtpoleldfoahpoaaGreat
open Go.RowKit
set_option maxRecDepth 100000

set_option maxHeartbeats 400000 in
theorem isame_any (a b : Option Addr) (ca cb : Nat) (xs : List In) (w : World) (ha : CV w a (flat xs)) (hb : CV w b (flat xs)) (hm : xs.length ≤ 9223372036854775807) :
    Calls Tryz.prog 33 #[.slice a xs.length ca, .slice b xs.length cb] w fun e w' => e = .returned (.bool true) ∧ ∃ n, w' = w.drewN n := by
  have hne : ((xs.length : Int) != (xs.length : Int)) = false := by simp
  go_enter Tryz.func33, Tryz.ntmps33
  go_wp2
  go_loopw [5] (fun i wr => ∃ k : Nat, k ≤ xs.length ∧ i = .int .i64 k ∧ ∃ n, wr = w.drewN n) (fun i _ => xs.length - (intOf i).toNat)
  case atStart => exact ⟨0, Nat.zero_le _, rfl, 0, rfl⟩
  case round =>
    obtain ⟨k, hk, rfl, n, rfl⟩ := hrel
    by_cases hlt : k < xs.length
    · obtain ⟨b1, o1, rfl, h1⟩ := ha.insns hlt
      obtain ⟨b2, o2, rfl, h2⟩ := hb.insns hlt
      obtain ⟨c1, c2, c3, c4⟩ := h1 k hlt
      obtain ⟨d1, d2, d3, d4⟩ := h2 k hlt
      clear ha hb h1 h2
      generalize xs[k] = x at *
      have hl : (k : Int) < (xs.length : Int) := by omega
      go_wp2
      go_quiet (fail)
      go_wp2
      go_roundw
      case rel => exact ⟨k + 1, by omega, by go_num, _, by rfl⟩
      case measure => simp [intOf]; omega
    · go_wp2
      go_ret
      exact ⟨rfl, n, rfl⟩

end Go.Proofs.YtpoleldfoahpoaaGreat
