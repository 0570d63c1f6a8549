/-
  The document's own Check, walked.
-/
import Derived.Test.YtaldhnionkacmaaChkR
namespace Go.Proofs.Ytaldhnionkacmaa
open Go.RowKit
set_option maxRecDepth 100000

/-- Does a jump go too far? room: how many instructions stand behind. -/
def jumpBad (c : Int) (t f k room : Nat) : Bool := (c == 5 && decide (room ≤ k)) || (jumpB c && (decide (room ≤ t) || decide (room ≤ f)))
/-- What is wrong with the instruction at place i of n. -/
def badV (n i : Nat) (x : In) : Int := if faultV x.code.toNat x.k.toNat = 0 then (if jumpBad x.code.toNat x.jt.toNat x.jf.toNat x.k.toNat (n - 1 - i) = true then 46 else 0) else faultV x.code.toNat x.k.toNat
/-- The first place where something is wrong. -/
def firstBad (n : Nat) : Nat → List In → Option (Nat × Int)
  | _, [] => none
  | i, x :: r => if badV n i x = 0 then firstBad n (i + 1) r else some (i, badV n i x)
def lastB (xs : List In) : Bool := match xs.getLast? with
  | some x => retB x.code.toNat
  | none => false
/-- What is said behind the search. -/
def endV (xs : List In) : Option (Nat × Int) → Nat × Int
  | some r => r
  | none => if lastB xs = true then (0, 0) else (xs.length - 1, 47)
/-- P4.1. -/
def checkV (xs : List In) : Nat × Int := if xs.length = 0 then (0, 40) else if 4096 < xs.length then (4096, 41) else endV xs (firstBad xs.length 0 xs)

theorem jump_not5 {c : Int} (h : (c == 5) = true) : jumpB c = false := by
  have e := eq_of_beq h
  subst e
  decide

set_option maxRecDepth 100000 in
set_option maxHeartbeats 2000000 in
theorem refcheck_any (a : Option Addr) (ca : Nat) (xs : List In) (w : World) (ha : CV w a (flat xs)) :
    Calls Try.prog 41 #[.slice a xs.length ca] w fun e w' => e = .returned (.tuple #[.int .i64 ((checkV xs).1 : Int), .int .i64 (checkV xs).2]) ∧ w.grownBy w' none := by
  have H : Hid (CV w a (flat xs)) := ha
  clear ha
  by_cases h0 : xs.length = 0
  · have e : checkV xs = (0, 40) := by rw [checkV, if_pos h0]
    rw [e]
    have h0' : ((xs.length : Int) == 0) = true := by rw [h0]; rfl
    have H0 : Hid (xs.length = 0) := h0
    clear h0
    go_enter Try.func41, Try.ntmps41
    go_wp2
    go_ret2
    exact ⟨rfl, World.grownBy.refl _ _⟩
  · have h0' : ((xs.length : Int) == 0) = false := by rw [beq_eq_false_iff_ne]; omega
    by_cases h4 : 4096 < xs.length
    · have e : checkV xs = (4096, 41) := by rw [checkV, if_neg h0, if_pos h4]
      rw [e]
      have h4' : (4096 : Int) < (xs.length : Int) := by omega
      go_enter Try.func41, Try.ntmps41
      go_wp2
      go_ret2
      exact ⟨rfl, World.grownBy.refl _ _⟩
    · have h4' : ¬ ((4096 : Int) < (xs.length : Int)) := by omega
      obtain ⟨ans, hans⟩ : ∃ ans, firstBad xs.length 0 xs = ans := ⟨_, rfl⟩
      have e : checkV xs = endV xs ans := by rw [checkV, if_neg h0, if_neg h4, hans]
      rw [e]
      have HF : Hid (firstBad xs.length 0 xs = ans) := hans
      clear hans e
      go_enter Try.func41, Try.ntmps41
      go_wp2
      go_loopw [5] (fun i wr => ∃ j : Nat, j ≤ xs.length ∧ i = .int .i64 j ∧ firstBad xs.length j (xs.drop j) = ans ∧ w.grownBy wr none) (fun i _ => xs.length - (intOf i).toNat)
      case atStart => exact ⟨0, Nat.zero_le _, rfl, HF.out, World.grownBy.refl _ _⟩
      case round =>
        obtain ⟨j, hj, rfl, hi, G⟩ := hrel
        have HI : Hid (firstBad xs.length j (xs.drop j) = ans) := hi
        clear hi
        by_cases hlt : j < xs.length
        · obtain ⟨b, o, rfl, hc⟩ := H.out.insns hlt
          obtain ⟨c0, c1, c2, c3⟩ := hc j hlt
          have HX : Hid (ans = if badV xs.length j xs[j] = 0 then firstBad xs.length (j + 1) (xs.drop (j + 1)) else some (j, badV xs.length j xs[j])) := by
            show ans = _
            rw [← HI.out, List.drop_eq_getElem_cons hlt, firstBad]
          clear hc
          generalize xs[j] = x at *
          have b0 := x.code.toNat_lt
          have b1 := x.jt.toNat_lt
          have b2 := x.jf.toNat_lt
          have b3 := x.k.toNat_lt
          have HBV : Hid (badV xs.length j x = if faultV x.code.toNat x.k.toNat = 0 then (if jumpBad x.code.toNat x.jt.toNat x.jf.toNat x.k.toNat (xs.length - 1 - j) = true then 46 else 0) else faultV x.code.toNat x.k.toNat) := rfl
          generalize badV xs.length j x = bd at *
          generalize x.code.toNat = c at *
          generalize x.jt.toNat = t at *
          generalize x.jf.toNat = f at *
          generalize x.k.toNat = k at *
          have hl : (j : Int) < (xs.length : Int) := by omega
          have g0 : wr.cell? ⟨b, o + j * 4, none⟩ = some (.int .u16 (c : Int)) := G.cell c0 (by simp)
          have g1 : wr.cell? ⟨b, o + j * 4 + 1, none⟩ = some (.int .u8 (t : Int)) := G.cell c1 (by simp)
          have g2 : wr.cell? ⟨b, o + j * 4 + 2, none⟩ = some (.int .u8 (f : Int)) := G.cell c2 (by simp)
          have g3 : wr.cell? ⟨b, o + j * 4 + 3, none⟩ = some (.int .u32 (k : Int)) := G.cell c3 (by simp)
          go_wp2_with fail
          refine (fault_any c t f k _).mono ?_
          rintro e w1 ⟨rfl, K1⟩
          have G1 := grown_trans G K1
          have y0 : w1.cell? ⟨b, o + j * 4, none⟩ = some (.int .u16 (c : Int)) := G1.cell c0 (by simp)
          have y1 : w1.cell? ⟨b, o + j * 4 + 1, none⟩ = some (.int .u8 (t : Int)) := G1.cell c1 (by simp)
          have y2 : w1.cell? ⟨b, o + j * 4 + 2, none⟩ = some (.int .u8 (f : Int)) := G1.cell c2 (by simp)
          have y3 : w1.cell? ⟨b, o + j * 4 + 3, none⟩ = some (.int .u32 (k : Int)) := G1.cell c3 (by simp)
          clear g0 g1 g2 g3 c0 c1 c2 c3 G K1
          obtain ⟨fv, hfv⟩ : ∃ fv, faultV c k = fv := ⟨_, rfl⟩
          rw [hfv]
          have HFV : Hid (faultV c k = fv) := hfv
          clear hfv
          by_cases hz : fv = 0
          · subst hz
            have rr : ((xs.length - 1 - j : Nat) : Int) = (xs.length : Int) - 1 - (j : Int) := by omega
            by_cases h5 : (c : Int) = 5
            · have h5b : ((c : Int) == 5) = true := by rw [h5]; rfl
              have hjb := jump_not5 h5b
              by_cases hr : xs.length - 1 - j ≤ k
              · have hr' : (xs.length : Int) - 1 - (j : Int) ≤ (k : Int) := by omega
                have HA : Hid (ans = some (j, 46)) := by
                  show ans = _
                  have e1 : bd = 46 := by rw [HBV.out, HFV.out, if_pos rfl, if_pos (by rw [jumpBad, h5b]; simp; omega)]
                  rw [HX.out, e1]
                  rfl
                go_wp2_with (go_at_call 25; refine (jump_any _ _).mono ?_; rintro e w' ⟨rfl, rfl⟩)
                go_ret2
                exact ⟨by rw [HA.out]; rfl, G1⟩
              · have hr' : ¬ ((xs.length : Int) - 1 - (j : Int) ≤ (k : Int)) := by omega
                have HA : Hid (ans = firstBad xs.length (j + 1) (xs.drop (j + 1))) := by
                  show ans = _
                  have e1 : bd = 0 := by rw [HBV.out, HFV.out, if_pos rfl, if_neg (by rw [show jumpBad c t f k (xs.length - 1 - j) = false by rw [jumpBad, hjb, decide_eq_false hr]; simp]; simp)]
                  rw [HX.out, e1, if_pos rfl]
                go_wp2_with (go_at_call 25; refine (jump_any _ _).mono ?_; rintro e w' ⟨rfl, rfl⟩)
                go_roundw
                case rel => exact ⟨j + 1, by omega, by go_num, HA.out.symm, G1⟩
                case measure => simp [intOf]; omega
            · have h5b : ((c : Int) == 5) = false := by rw [beq_eq_false_iff_ne]; exact h5
              cases hjb : jumpB c with
              | false =>
                have HA : Hid (ans = firstBad xs.length (j + 1) (xs.drop (j + 1))) := by
                  show ans = _
                  have e1 : bd = 0 := by rw [HBV.out, HFV.out, if_pos rfl, if_neg (by rw [show jumpBad c t f k (xs.length - 1 - j) = false by rw [jumpBad, hjb, h5b]; simp]; simp)]
                  rw [HX.out, e1, if_pos rfl]
                go_wp2_with (go_at_call 25; refine (jump_any _ _).mono ?_; rintro e w' ⟨rfl, rfl⟩)
                go_roundw
                case rel => exact ⟨j + 1, by omega, by go_num, HA.out.symm, G1⟩
                case measure => simp [intOf]; omega
              | true =>
                by_cases ht : xs.length - 1 - j ≤ t
                · have ht' : (xs.length : Int) - 1 - (j : Int) ≤ (t : Int) := by omega
                  have HA : Hid (ans = some (j, 46)) := by
                    show ans = _
                    have e1 : bd = 46 := by rw [HBV.out, HFV.out, if_pos rfl, if_pos (by rw [jumpBad, hjb, decide_eq_true ht]; simp)]
                    rw [HX.out, e1]
                    rfl
                  go_wp2_with (go_at_call 25; refine (jump_any _ _).mono ?_; rintro e w' ⟨rfl, rfl⟩)
                  go_ret2
                  exact ⟨by rw [HA.out]; rfl, G1⟩
                · have ht' : ¬ ((xs.length : Int) - 1 - (j : Int) ≤ (t : Int)) := by omega
                  have ht2 : decide ((xs.length : Int) - 1 - (j : Int) ≤ (t : Int)) = false := decide_eq_false ht'
                  by_cases hf : xs.length - 1 - j ≤ f
                  · have hf' : (xs.length : Int) - 1 - (j : Int) ≤ (f : Int) := by omega
                    have HA : Hid (ans = some (j, 46)) := by
                      show ans = _
                      have e1 : bd = 46 := by rw [HBV.out, HFV.out, if_pos rfl, if_pos (by rw [jumpBad, hjb, decide_eq_true hf]; simp)]
                      rw [HX.out, e1]
                      rfl
                    go_wp2_with (go_at_call 25; refine (jump_any _ _).mono ?_; rintro e w' ⟨rfl, rfl⟩)
                    go_ret2
                    exact ⟨by rw [HA.out]; rfl, G1⟩
                  · have hf' : ¬ ((xs.length : Int) - 1 - (j : Int) ≤ (f : Int)) := by omega
                    have HA : Hid (ans = firstBad xs.length (j + 1) (xs.drop (j + 1))) := by
                      show ans = _
                      have e1 : bd = 0 := by rw [HBV.out, HFV.out, if_pos rfl, if_neg (by rw [show jumpBad c t f k (xs.length - 1 - j) = false by rw [jumpBad, hjb, h5b, decide_eq_false ht, decide_eq_false hf]; rfl]; simp)]
                      rw [HX.out, e1, if_pos rfl]
                    go_wp2_with (go_at_call 25; refine (jump_any _ _).mono ?_; rintro e w' ⟨rfl, rfl⟩)
                    go_roundw
                    case rel => exact ⟨j + 1, by omega, by go_num, HA.out.symm, G1⟩
                    case measure => simp [intOf]; omega
          · have hzb : (fv != 0) = true := by rw [bne_iff_ne]; exact hz
            have HA : Hid (ans = some (j, fv)) := by
              show ans = _
              have e1 : bd = fv := by rw [HBV.out, HFV.out, if_neg hz]
              rw [HX.out, e1, if_neg hz]
            clear hz
            go_wp2
            go_ret2
            exact ⟨by rw [HA.out]; rfl, G1⟩
        · obtain rfl : j = xs.length := by omega
          have HA : Hid (ans = none) := by
            show ans = none
            rw [← HI.out, List.drop_length, firstBad]
          have hm : xs.length - 1 < xs.length := by omega
          obtain ⟨b, o, rfl, hc⟩ := H.out.insns hm
          obtain ⟨c0, -, -, -⟩ := hc (xs.length - 1) hm
          have HL : Hid (lastB xs = retB (xs[xs.length - 1].code.toNat)) := by
            show lastB xs = _
            rw [lastB, List.getLast?_eq_getElem?, List.getElem?_eq_getElem hm]
          clear hc
          generalize xs[xs.length - 1] = x at *
          have b0 := x.code.toNat_lt
          generalize x.code.toNat = c at *
          have g0 : wr.cell? ⟨b, o + (xs.length - 1) * 4, none⟩ = some (.int .u16 (c : Int)) := G.cell c0 (by simp)
          have i0 : (0 : Int) ≤ (xs.length : Int) - 1 := by omega
          have i1 : (xs.length : Int) - 1 < (xs.length : Int) := by omega
          have i2 : ((xs.length : Int) - 1).toNat = xs.length - 1 := by omega
          clear c0
          cases hrt : retB c with
          | true =>
            go_wp2_with (go_at_call 39; refine (retB_any _ _).mono ?_; rintro e w' ⟨rfl, rfl⟩)
            go_ret2
            exact ⟨by rw [HA.out, endV, HL.out, hrt]; rfl, G⟩
          | false =>
            go_wp2_with (go_at_call 39; refine (retB_any _ _).mono ?_; rintro e w' ⟨rfl, rfl⟩)
            go_ret2
            refine ⟨?_, G⟩
            rw [HA.out, endV, HL.out, hrt]
            have e9 : ((xs.length - 1 : Nat) : Int) = (xs.length : Int) - 1 := by omega
            simp only [Bool.false_eq_true, if_false, e9]
            rfl

end Go.Proofs.Ytaldhnionkacmaa
