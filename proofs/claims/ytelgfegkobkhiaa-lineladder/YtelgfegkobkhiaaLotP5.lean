/-
  The document's own Check. The document's own Check, walked. Lists of bools: SameBools, SpoilBools.
-/
import Derived.Test.YtelgfegkobkhiaaLotP2
import Derived.Test.YtelgfegkobkhiaaICopy
import Derived.Handy
namespace Go.Proofs.Ytelgfegkobkhiaa
open Go.RowKit
set_option maxRecDepth 100000

def memB (c : Int) : Bool := c == 2 || c == 3 || c == 96 || c == 97
def divB (c : Int) : Bool := c == 52 || c == 148
def shfB (c : Int) : Bool := c == 100 || c == 116
def retB (c : Int) : Bool := c == 6 || c == 22

/-- What is wrong with an instruction by itself. -/
def faultV (c : Int) (k : Nat) : Int :=
  if knownB c = false then 42 else if (memB c && decide (16 ≤ k)) = true then 43 else if (divB c && k == 0) = true then 44 else if (shfB c && decide (31 < k)) = true then 45 else 0

theorem retB_any (c : Int) (w : World) : Calls Try.prog 31 #[.int .u16 c] w fun e w' => e = .returned (.bool (retB c)) ∧ w = w' := by
  go_enter Try.func31, Try.ntmps31
  go_wp2
  all_goals
    go_ret
    exact ⟨ret_bool (by simp [retB, *]), rfl⟩

set_option maxHeartbeats 1000000 in
theorem fault_any (c : Int) (t f k : Nat) (w : World) :
    Calls Try.prog 29 #[.agg #[.int .u16 c, .int .u8 t, .int .u8 f, .int .u32 k]] w fun e w' => e = .returned (.int .i64 (faultV c k)) ∧ w.grownBy w' none := by
  have G0 : w.grownBy (w.alloc (.cells #[.int .u16 c, .int .u8 t, .int .u8 f, .int .u32 k] 45)) none := World.grownBy_alloc _ _ _
  cases hkn : knownB c with
  | false =>
    have e : faultV c k = 42 := by simp [faultV, hkn]
    rw [e]
    go_enter Try.func29, Try.ntmps29
    go_wp2_with (go_at_call 44; refine (refknown_any _ _).mono ?_; rintro e w' ⟨rfl, rfl⟩)
    go_ret
    exact ⟨rfl, G0⟩
  | true =>
    by_cases hs : c = 2 ∨ c = 3 ∨ c = 96 ∨ c = 97 ∨ c = 52 ∨ c = 148 ∨ c = 100 ∨ c = 116
    · have k16 : ((16 : Int) ≤ (k : Int)) ∨ ¬ ((16 : Int) ≤ (k : Int)) := by omega
      have k31 : ((31 : Int) < (k : Int)) ∨ ¬ ((31 : Int) < (k : Int)) := by omega
      have k0 : (((k : Int) == 0) = true ∧ k = 0) ∨ (((k : Int) == 0) = false ∧ k ≠ 0) := by
        by_cases h : k = 0
        · exact .inl ⟨by rw [h]; rfl, h⟩
        · exact .inr ⟨by rw [beq_eq_false_iff_ne]; omega, h⟩
      rcases hs with rfl | rfl | rfl | rfl | rfl | rfl | rfl | rfl
      · clear k31 k0
        have e1 : 16 ≤ k ∨ k < 16 := by omega
        rcases k16 with h | h
        all_goals
          go_enter Try.func29, Try.ntmps29
          go_wp2_with (go_at_call 44; refine (refknown_any _ _).mono ?_; rintro e w' ⟨rfl, rfl⟩)
          go_ret
          refine ⟨ret_int (by simp only [faultV, hkn, memB, divB, shfB]; simp; omega), G0⟩
      · clear k31 k0
        have e1 : 16 ≤ k ∨ k < 16 := by omega
        rcases k16 with h | h
        all_goals
          go_enter Try.func29, Try.ntmps29
          go_wp2_with (go_at_call 44; refine (refknown_any _ _).mono ?_; rintro e w' ⟨rfl, rfl⟩)
          go_ret
          refine ⟨ret_int (by simp only [faultV, hkn, memB, divB, shfB]; simp; omega), G0⟩
      · clear k31 k0
        have e1 : 16 ≤ k ∨ k < 16 := by omega
        rcases k16 with h | h
        all_goals
          go_enter Try.func29, Try.ntmps29
          go_wp2_with (go_at_call 44; refine (refknown_any _ _).mono ?_; rintro e w' ⟨rfl, rfl⟩)
          go_ret
          refine ⟨ret_int (by simp only [faultV, hkn, memB, divB, shfB]; simp; omega), G0⟩
      · clear k31 k0
        have e1 : 16 ≤ k ∨ k < 16 := by omega
        rcases k16 with h | h
        all_goals
          go_enter Try.func29, Try.ntmps29
          go_wp2_with (go_at_call 44; refine (refknown_any _ _).mono ?_; rintro e w' ⟨rfl, rfl⟩)
          go_ret
          refine ⟨ret_int (by simp only [faultV, hkn, memB, divB, shfB]; simp; omega), G0⟩
      · clear k31 k16
        rcases k0 with ⟨h, h'⟩ | ⟨h, h'⟩
        all_goals
          go_enter Try.func29, Try.ntmps29
          go_wp2_with (go_at_call 44; refine (refknown_any _ _).mono ?_; rintro e w' ⟨rfl, rfl⟩)
          go_ret
          exact ⟨ret_int (by simp [faultV, hkn, memB, divB, shfB, h']), World.grownBy_alloc _ _ _⟩
      · clear k31 k16
        rcases k0 with ⟨h, h'⟩ | ⟨h, h'⟩
        all_goals
          go_enter Try.func29, Try.ntmps29
          go_wp2_with (go_at_call 44; refine (refknown_any _ _).mono ?_; rintro e w' ⟨rfl, rfl⟩)
          go_ret
          exact ⟨ret_int (by simp [faultV, hkn, memB, divB, shfB, h']), World.grownBy_alloc _ _ _⟩
      · clear k0 k16
        rcases k31 with h | h
        all_goals
          go_enter Try.func29, Try.ntmps29
          go_wp2_with (go_at_call 44; refine (refknown_any _ _).mono ?_; rintro e w' ⟨rfl, rfl⟩)
          go_ret
          refine ⟨ret_int (by simp only [faultV, hkn, memB, divB, shfB]; simp; omega), G0⟩
      · clear k0 k16
        rcases k31 with h | h
        all_goals
          go_enter Try.func29, Try.ntmps29
          go_wp2_with (go_at_call 44; refine (refknown_any _ _).mono ?_; rintro e w' ⟨rfl, rfl⟩)
          go_ret
          refine ⟨ret_int (by simp only [faultV, hkn, memB, divB, shfB]; simp; omega), G0⟩
    · have q1 : (c == 2) = false := by rw [beq_eq_false_iff_ne]; omega
      have q2 : (c == 3) = false := by rw [beq_eq_false_iff_ne]; omega
      have q3 : (c == 96) = false := by rw [beq_eq_false_iff_ne]; omega
      have q4 : (c == 97) = false := by rw [beq_eq_false_iff_ne]; omega
      have q5 : (c == 52) = false := by rw [beq_eq_false_iff_ne]; omega
      have q6 : (c == 148) = false := by rw [beq_eq_false_iff_ne]; omega
      have q7 : (c == 100) = false := by rw [beq_eq_false_iff_ne]; omega
      have q8 : (c == 116) = false := by rw [beq_eq_false_iff_ne]; omega
      have e : faultV c k = 0 := by simp [faultV, hkn, memB, divB, shfB, q1, q2, q3, q4, q5, q6, q7, q8]
      rw [e]
      clear hs
      go_enter Try.func29, Try.ntmps29
      go_wp2_with (go_at_call 44; refine (refknown_any _ _).mono ?_; rintro e w' ⟨rfl, rfl⟩)
      go_ret
      exact ⟨rfl, G0⟩

end Go.Proofs.Ytelgfegkobkhiaa

namespace Go.Proofs.Ytelgfegkobkhiaa
open Go.RowKit
set_option maxRecDepth 100000

/-- Does a jump go too far? room: how many instructions stand behind. -/
def jumpBad (c : Int) (t f k room : Nat) : Bool := (c == 5 && decide (room ≤ k)) || (jumpB c && (decide (room ≤ t) || decide (room ≤ f)))
/-- What is wrong with the instruction at place i of n. -/
def badV (n i : Nat) (x : In) : Int := if faultV x.code.toNat x.k.toNat = 0 then (if jumpBad x.code.toNat x.jt.toNat x.jf.toNat x.k.toNat (n - 1 - i) = true then 46 else 0) else faultV x.code.toNat x.k.toNat
/-- The first place where something is wrong. -/
def firstBad (n : Nat) : Nat → List In → Option (Nat × Int)
  | _, [] => none
  | i, x :: r => if badV n i x = 0 then firstBad n (i + 1) r else some (i, badV n i x)
def lastB (xs : List In) : Bool := match xs.getLast? with
  | some x => retB x.code.toNat
  | none => false
/-- What is said behind the search. -/
def endV (xs : List In) : Option (Nat × Int) → Nat × Int
  | some r => r
  | none => if lastB xs = true then (0, 0) else (xs.length - 1, 47)
/-- P4.1. -/
def checkV (xs : List In) : Nat × Int := if xs.length = 0 then (0, 40) else if 4096 < xs.length then (4096, 41) else endV xs (firstBad xs.length 0 xs)

theorem jump_not5 {c : Int} (h : (c == 5) = true) : jumpB c = false := by
  have e := eq_of_beq h
  subst e
  decide

set_option maxRecDepth 100000 in
set_option maxHeartbeats 2000000 in
theorem refcheck_any (a : Option Addr) (ca : Nat) (xs : List In) (w : World) (ha : CV w a (flat xs)) :
    Calls Try.prog 14 #[.slice a xs.length ca] w fun e w' => e = .returned (.tuple #[.int .i64 ((checkV xs).1 : Int), .int .i64 (checkV xs).2]) ∧ w.grownBy w' none := by
  have H : Hid (CV w a (flat xs)) := ha
  clear ha
  by_cases h0 : xs.length = 0
  · have e : checkV xs = (0, 40) := by rw [checkV, if_pos h0]
    rw [e]
    have h0' : ((xs.length : Int) == 0) = true := by rw [h0]; rfl
    have H0 : Hid (xs.length = 0) := h0
    clear h0
    go_enter Try.func14, Try.ntmps14
    go_wp2
    go_ret2
    exact ⟨rfl, World.grownBy.refl _ _⟩
  · have h0' : ((xs.length : Int) == 0) = false := by rw [beq_eq_false_iff_ne]; omega
    by_cases h4 : 4096 < xs.length
    · have e : checkV xs = (4096, 41) := by rw [checkV, if_neg h0, if_pos h4]
      rw [e]
      have h4' : (4096 : Int) < (xs.length : Int) := by omega
      go_enter Try.func14, Try.ntmps14
      go_wp2
      go_ret2
      exact ⟨rfl, World.grownBy.refl _ _⟩
    · have h4' : ¬ ((4096 : Int) < (xs.length : Int)) := by omega
      obtain ⟨ans, hans⟩ : ∃ ans, firstBad xs.length 0 xs = ans := ⟨_, rfl⟩
      have e : checkV xs = endV xs ans := by rw [checkV, if_neg h0, if_neg h4, hans]
      rw [e]
      have HF : Hid (firstBad xs.length 0 xs = ans) := hans
      clear hans e
      go_enter Try.func14, Try.ntmps14
      go_wp2
      go_loopw [5] (fun i wr => ∃ j : Nat, j ≤ xs.length ∧ i = .int .i64 j ∧ firstBad xs.length j (xs.drop j) = ans ∧ w.grownBy wr none) (fun i _ => xs.length - (intOf i).toNat)
      case atStart => exact ⟨0, Nat.zero_le _, rfl, HF.out, World.grownBy.refl _ _⟩
      case round =>
        obtain ⟨j, hj, rfl, hi, G⟩ := hrel
        have HI : Hid (firstBad xs.length j (xs.drop j) = ans) := hi
        clear hi
        by_cases hlt : j < xs.length
        · obtain ⟨b, o, rfl, hc⟩ := H.out.insns hlt
          obtain ⟨c0, c1, c2, c3⟩ := hc j hlt
          have HX : Hid (ans = if badV xs.length j xs[j] = 0 then firstBad xs.length (j + 1) (xs.drop (j + 1)) else some (j, badV xs.length j xs[j])) := by
            show ans = _
            rw [← HI.out, List.drop_eq_getElem_cons hlt, firstBad]
          clear hc
          generalize xs[j] = x at *
          have b0 := x.code.toNat_lt
          have b1 := x.jt.toNat_lt
          have b2 := x.jf.toNat_lt
          have b3 := x.k.toNat_lt
          have HBV : Hid (badV xs.length j x = if faultV x.code.toNat x.k.toNat = 0 then (if jumpBad x.code.toNat x.jt.toNat x.jf.toNat x.k.toNat (xs.length - 1 - j) = true then 46 else 0) else faultV x.code.toNat x.k.toNat) := rfl
          generalize badV xs.length j x = bd at *
          generalize x.code.toNat = c at *
          generalize x.jt.toNat = t at *
          generalize x.jf.toNat = f at *
          generalize x.k.toNat = k at *
          have hl : (j : Int) < (xs.length : Int) := by omega
          have g0 : wr.cell? ⟨b, o + j * 4, none⟩ = some (.int .u16 (c : Int)) := G.cell c0 (by simp)
          have g1 : wr.cell? ⟨b, o + j * 4 + 1, none⟩ = some (.int .u8 (t : Int)) := G.cell c1 (by simp)
          have g2 : wr.cell? ⟨b, o + j * 4 + 2, none⟩ = some (.int .u8 (f : Int)) := G.cell c2 (by simp)
          have g3 : wr.cell? ⟨b, o + j * 4 + 3, none⟩ = some (.int .u32 (k : Int)) := G.cell c3 (by simp)
          go_wp2_with fail
          refine (fault_any c t f k _).mono ?_
          rintro e w1 ⟨rfl, K1⟩
          have G1 := grown_trans G K1
          have y0 : w1.cell? ⟨b, o + j * 4, none⟩ = some (.int .u16 (c : Int)) := G1.cell c0 (by simp)
          have y1 : w1.cell? ⟨b, o + j * 4 + 1, none⟩ = some (.int .u8 (t : Int)) := G1.cell c1 (by simp)
          have y2 : w1.cell? ⟨b, o + j * 4 + 2, none⟩ = some (.int .u8 (f : Int)) := G1.cell c2 (by simp)
          have y3 : w1.cell? ⟨b, o + j * 4 + 3, none⟩ = some (.int .u32 (k : Int)) := G1.cell c3 (by simp)
          clear g0 g1 g2 g3 c0 c1 c2 c3 G K1
          obtain ⟨fv, hfv⟩ : ∃ fv, faultV c k = fv := ⟨_, rfl⟩
          rw [hfv]
          have HFV : Hid (faultV c k = fv) := hfv
          clear hfv
          by_cases hz : fv = 0
          · subst hz
            have rr : ((xs.length - 1 - j : Nat) : Int) = (xs.length : Int) - 1 - (j : Int) := by omega
            by_cases h5 : (c : Int) = 5
            · have h5b : ((c : Int) == 5) = true := by rw [h5]; rfl
              have hjb := jump_not5 h5b
              by_cases hr : xs.length - 1 - j ≤ k
              · have hr' : (xs.length : Int) - 1 - (j : Int) ≤ (k : Int) := by omega
                have HA : Hid (ans = some (j, 46)) := by
                  show ans = _
                  have e1 : bd = 46 := by rw [HBV.out, HFV.out, if_pos rfl, if_pos (by rw [jumpBad, h5b]; simp; omega)]
                  rw [HX.out, e1]
                  rfl
                go_wp2_with (go_at_call 30; refine (jump_any _ _).mono ?_; rintro e w' ⟨rfl, rfl⟩)
                go_ret2
                exact ⟨by rw [HA.out]; rfl, G1⟩
              · have hr' : ¬ ((xs.length : Int) - 1 - (j : Int) ≤ (k : Int)) := by omega
                have HA : Hid (ans = firstBad xs.length (j + 1) (xs.drop (j + 1))) := by
                  show ans = _
                  have e1 : bd = 0 := by rw [HBV.out, HFV.out, if_pos rfl, if_neg (by rw [show jumpBad c t f k (xs.length - 1 - j) = false by rw [jumpBad, hjb, decide_eq_false hr]; simp]; simp)]
                  rw [HX.out, e1, if_pos rfl]
                go_wp2_with (go_at_call 30; refine (jump_any _ _).mono ?_; rintro e w' ⟨rfl, rfl⟩)
                go_roundw
                case rel => exact ⟨j + 1, by omega, by go_num, HA.out.symm, G1⟩
                case measure => simp [intOf]; omega
            · have h5b : ((c : Int) == 5) = false := by rw [beq_eq_false_iff_ne]; exact h5
              cases hjb : jumpB c with
              | false =>
                have HA : Hid (ans = firstBad xs.length (j + 1) (xs.drop (j + 1))) := by
                  show ans = _
                  have e1 : bd = 0 := by rw [HBV.out, HFV.out, if_pos rfl, if_neg (by rw [show jumpBad c t f k (xs.length - 1 - j) = false by rw [jumpBad, hjb, h5b]; simp]; simp)]
                  rw [HX.out, e1, if_pos rfl]
                go_wp2_with (go_at_call 30; refine (jump_any _ _).mono ?_; rintro e w' ⟨rfl, rfl⟩)
                go_roundw
                case rel => exact ⟨j + 1, by omega, by go_num, HA.out.symm, G1⟩
                case measure => simp [intOf]; omega
              | true =>
                by_cases ht : xs.length - 1 - j ≤ t
                · have ht' : (xs.length : Int) - 1 - (j : Int) ≤ (t : Int) := by omega
                  have HA : Hid (ans = some (j, 46)) := by
                    show ans = _
                    have e1 : bd = 46 := by rw [HBV.out, HFV.out, if_pos rfl, if_pos (by rw [jumpBad, hjb, decide_eq_true ht]; simp)]
                    rw [HX.out, e1]
                    rfl
                  go_wp2_with (go_at_call 30; refine (jump_any _ _).mono ?_; rintro e w' ⟨rfl, rfl⟩)
                  go_ret2
                  exact ⟨by rw [HA.out]; rfl, G1⟩
                · have ht' : ¬ ((xs.length : Int) - 1 - (j : Int) ≤ (t : Int)) := by omega
                  have ht2 : decide ((xs.length : Int) - 1 - (j : Int) ≤ (t : Int)) = false := decide_eq_false ht'
                  by_cases hf : xs.length - 1 - j ≤ f
                  · have hf' : (xs.length : Int) - 1 - (j : Int) ≤ (f : Int) := by omega
                    have HA : Hid (ans = some (j, 46)) := by
                      show ans = _
                      have e1 : bd = 46 := by rw [HBV.out, HFV.out, if_pos rfl, if_pos (by rw [jumpBad, hjb, decide_eq_true hf]; simp)]
                      rw [HX.out, e1]
                      rfl
                    go_wp2_with (go_at_call 30; refine (jump_any _ _).mono ?_; rintro e w' ⟨rfl, rfl⟩)
                    go_ret2
                    exact ⟨by rw [HA.out]; rfl, G1⟩
                  · have hf' : ¬ ((xs.length : Int) - 1 - (j : Int) ≤ (f : Int)) := by omega
                    have HA : Hid (ans = firstBad xs.length (j + 1) (xs.drop (j + 1))) := by
                      show ans = _
                      have e1 : bd = 0 := by rw [HBV.out, HFV.out, if_pos rfl, if_neg (by rw [show jumpBad c t f k (xs.length - 1 - j) = false by rw [jumpBad, hjb, h5b, decide_eq_false ht, decide_eq_false hf]; rfl]; simp)]
                      rw [HX.out, e1, if_pos rfl]
                    go_wp2_with (go_at_call 30; refine (jump_any _ _).mono ?_; rintro e w' ⟨rfl, rfl⟩)
                    go_roundw
                    case rel => exact ⟨j + 1, by omega, by go_num, HA.out.symm, G1⟩
                    case measure => simp [intOf]; omega
          · have hzb : (fv != 0) = true := by rw [bne_iff_ne]; exact hz
            have HA : Hid (ans = some (j, fv)) := by
              show ans = _
              have e1 : bd = fv := by rw [HBV.out, HFV.out, if_neg hz]
              rw [HX.out, e1, if_neg hz]
            clear hz
            go_wp2
            go_ret2
            exact ⟨by rw [HA.out]; rfl, G1⟩
        · obtain rfl : j = xs.length := by omega
          have HA : Hid (ans = none) := by
            show ans = none
            rw [← HI.out, List.drop_length, firstBad]
          have hm : xs.length - 1 < xs.length := by omega
          obtain ⟨b, o, rfl, hc⟩ := H.out.insns hm
          obtain ⟨c0, -, -, -⟩ := hc (xs.length - 1) hm
          have HL : Hid (lastB xs = retB (xs[xs.length - 1].code.toNat)) := by
            show lastB xs = _
            rw [lastB, List.getLast?_eq_getElem?, List.getElem?_eq_getElem hm]
          clear hc
          generalize xs[xs.length - 1] = x at *
          have b0 := x.code.toNat_lt
          generalize x.code.toNat = c at *
          have g0 : wr.cell? ⟨b, o + (xs.length - 1) * 4, none⟩ = some (.int .u16 (c : Int)) := G.cell c0 (by simp)
          have i0 : (0 : Int) ≤ (xs.length : Int) - 1 := by omega
          have i1 : (xs.length : Int) - 1 < (xs.length : Int) := by omega
          have i2 : ((xs.length : Int) - 1).toNat = xs.length - 1 := by omega
          clear c0
          cases hrt : retB c with
          | true =>
            go_wp2_with (go_at_call 31; refine (retB_any _ _).mono ?_; rintro e w' ⟨rfl, rfl⟩)
            go_ret2
            exact ⟨by rw [HA.out, endV, HL.out, hrt]; rfl, G⟩
          | false =>
            go_wp2_with (go_at_call 31; refine (retB_any _ _).mono ?_; rintro e w' ⟨rfl, rfl⟩)
            go_ret2
            refine ⟨?_, G⟩
            rw [HA.out, endV, HL.out, hrt]
            have e9 : ((xs.length - 1 : Nat) : Int) = (xs.length : Int) - 1 := by omega
            simp only [Bool.false_eq_true, if_false, e9]
            rfl

end Go.Proofs.Ytelgfegkobkhiaa

namespace Go.Proofs.Ytelgfegkobkhiaa
open Go.RowKit
set_option maxRecDepth 100000

theorem info4 : (Try.prog.info? 4).map (fun i => (i.zero, i.size, i.bytes)) = some (some (.bool false), 1, 1) := by kernel_rfl

abbrev BOwns (w : World) (base : Nat) (v : Value) (bs : List Bool) : Prop := w.ownsRow base 4 1 v bs.length (bs.map Value.bool)

theorem CV.bools {w : World} {ao : Option Addr} {bs : List Bool} (h : CV w ao (bs.map Value.bool)) {k : Nat} (hk : k < bs.length) :
    ∃ b off, ao = some ⟨b, off, none⟩ ∧ ∀ i (hi : i < bs.length), w.cell? ⟨b, off + i, none⟩ = some (.bool bs[i]) := by
  obtain ⟨b, off, hao, hc⟩ := h.addr (k := k) (by simpa using hk)
  exact ⟨b, off, hao, fun i hi => by rw [hc i (by simpa using hi)]; simp⟩

/-- The two loops of SpoilBools, behind its append. -/
def BSpoilRel (w : World) (row : Option Nat) (g g' n n' : Nat) (wr : World) : Prop := BlkN wr 4 g n ∧ BlkN wr 4 g' n' ∧ w.grownBy wr row

theorem BSpoilRel.set {w wr : World} {row : Option Nat} {g g' n n' : Nat} (h : BSpoilRel w row g g' n n' wr) {p : Addr} (hp : row = some p.block ∨ w.heap.size ≤ p.block) (u : Value) : BSpoilRel w row g g' n n' (wr.setCell p u) :=
  ⟨h.1.setCell _ _, h.2.1.setCell _ _, grown_setCell h.2.2 _ _ hp⟩

end Go.Proofs.Ytelgfegkobkhiaa
