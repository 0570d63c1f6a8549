/-
  The document's own reading of bytes: Blank, digit, letter, in, run, count.
-/
import Derived.Test.YthmfpodibgheiaaDoorLexW
namespace Go.Proofs.YthmfpodibgheiaaDoor
open Go.RowKit
set_option maxRecDepth 100000

theorem blank_nat (c : UInt8) : blankB c = (decide (c.toNat = 32) || decide (c.toNat = 9) || decide (c.toNat = 10) || decide (c.toNat = 13)) := by
  have : ∀ d : Fin 256, blankB (UInt8.ofNat d.val) = (decide ((UInt8.ofNat d.val).toNat = 32) || decide ((UInt8.ofNat d.val).toNat = 9) || decide ((UInt8.ofNat d.val).toNat = 10) || decide ((UInt8.ofNat d.val).toNat = 13)) := by decide
  have k := this ⟨c.toNat, c.toNat_lt⟩
  simpa using k

set_option maxHeartbeats 1000000 in
theorem refblank_any (c : UInt8) (w : World) : Calls Tryd.prog 14 #[.int .u8 (c.toNat : Int)] w fun e w' => e = .returned (.bool (blankB c)) ∧ w = w' := by
  rw [blank_nat]
  generalize c.toNat = n
  by_cases h1 : n = 32
  · subst h1
    go_enter Tryd.func14, Tryd.ntmps14
    go_wp2
    go_ret
    exact ⟨rfl, rfl⟩
  · by_cases h2 : n = 9
    · subst h2
      go_enter Tryd.func14, Tryd.ntmps14
      go_wp2
      go_ret
      exact ⟨rfl, rfl⟩
    · by_cases h3 : n = 10
      · subst h3
        go_enter Tryd.func14, Tryd.ntmps14
        go_wp2
        go_ret
        exact ⟨rfl, rfl⟩
      · by_cases h4 : n = 13
        · subst h4
          go_enter Tryd.func14, Tryd.ntmps14
          go_wp2
          go_ret
          exact ⟨rfl, rfl⟩
        · have e1 : ((n : Int) == 32) = false := by rw [beq_eq_false_iff_ne]; omega
          have e2 : ((n : Int) == 9) = false := by rw [beq_eq_false_iff_ne]; omega
          have e3 : ((n : Int) == 10) = false := by rw [beq_eq_false_iff_ne]; omega
          have e4 : ((n : Int) == 13) = false := by rw [beq_eq_false_iff_ne]; omega
          rw [decide_eq_false h1, decide_eq_false h2, decide_eq_false h3, decide_eq_false h4]
          clear h1 h2 h3 h4
          go_enter Tryd.func14, Tryd.ntmps14
          go_wp2
          go_ret
          exact ⟨rfl, rfl⟩

theorem refdig_any (c : UInt8) (w : World) : Calls Tryd.prog 25 #[.int .u8 (c.toNat : Int)] w fun e w' => e = .returned (.bool (isDig c)) ∧ w = w' := by
  unfold isDig
  generalize c.toNat = n
  by_cases h1 : 48 ≤ n
  · have e1 : (48 : Int) ≤ (n : Int) := by omega
    by_cases h2 : n ≤ 57
    · have e2 : (n : Int) ≤ 57 := by omega
      rw [decide_eq_true h1, decide_eq_true h2]
      go_enter Tryd.func25, Tryd.ntmps25
      go_wp2
      go_ret
      exact ⟨rfl, rfl⟩
    · have e2 : ¬ (n : Int) ≤ 57 := by omega
      rw [decide_eq_true h1, decide_eq_false h2]
      go_enter Tryd.func25, Tryd.ntmps25
      go_wp2
      go_ret
      exact ⟨rfl, rfl⟩
  · have e1 : ¬ (48 : Int) ≤ (n : Int) := by omega
    rw [decide_eq_false h1]
    go_enter Tryd.func25, Tryd.ntmps25
    go_wp2
    go_ret
    exact ⟨rfl, rfl⟩

theorem reflet_any (c : UInt8) (w : World) : Calls Tryd.prog 27 #[.int .u8 (c.toNat : Int)] w fun e w' => e = .returned (.bool (letB c)) ∧ w = w' := by
  unfold letB
  generalize c.toNat = n
  by_cases h1 : 97 ≤ n
  · have e1 : (97 : Int) ≤ (n : Int) := by omega
    by_cases h2 : n ≤ 122
    · have e2 : (n : Int) ≤ 122 := by omega
      rw [decide_eq_true h1, decide_eq_true h2]
      go_enter Tryd.func27, Tryd.ntmps27
      go_wp2
      go_ret
      exact ⟨rfl, rfl⟩
    · have e2 : ¬ (n : Int) ≤ 122 := by omega
      rw [decide_eq_true h1, decide_eq_false h2]
      go_enter Tryd.func27, Tryd.ntmps27
      go_wp2
      go_ret
      exact ⟨rfl, rfl⟩
  · have e1 : ¬ (97 : Int) ≤ (n : Int) := by omega
    rw [decide_eq_false h1]
    go_enter Tryd.func27, Tryd.ntmps27
    go_wp2
    go_ret
    exact ⟨rfl, rfl⟩

/-- The bytes of a kind of run. -/
def kindB (k : Nat) : UInt8 → Bool := if k = 1 then sixB else if k = 2 then quadB else wordB
theorem eq_nat (c : UInt8) (k : Nat) (hk : k < 256) : (c == UInt8.ofNat k) = decide (c.toNat = k) := by
  rw [Bool.eq_iff_iff, beq_iff_eq, decide_eq_true_eq]
  constructor
  · rintro rfl; simp; omega
  · intro h; rw [← h]; simp

set_option maxHeartbeats 1000000 in
theorem refin_any (c : UInt8) (k : Nat) (hk : k = 1 ∨ k = 2 ∨ k = 3) (w : World) : Calls Tryd.prog 33 #[.int .u8 (c.toNat : Int), .int .i64 (k : Int)] w fun e w' => e = .returned (.bool (kindB k c)) ∧ w = w' := by
  rcases hk with rfl | rfl | rfl
  · have e : kindB 1 c = (digOk c.toNat || decide (c.toNat = 58)) := by show (digOk c.toNat || c == 58) = _; rw [show (c == 58) = _ from eq_nat c 58 (by omega)]
    rw [e]
    have CD := refdigit_any c.toNat w c.toNat_lt
    generalize c.toNat = n at *
    have hn : (0 : Int) ≤ (digV n : Int) := by omega
    cases hd : digOk n with
    | true =>
      rw [hd, if_pos rfl] at CD
      go_enter Tryd.func33, Tryd.ntmps33
      go_wp2_with fail
      refine CD.mono ?_
      rintro e w1 ⟨rfl, rfl⟩
      go_wp2
      go_ret
      exact ⟨rfl, rfl⟩
    | false =>
      rw [hd, if_neg (by simp)] at CD
      by_cases h58 : n = 58
      · subst h58
        go_enter Tryd.func33, Tryd.ntmps33
        go_wp2_with fail
        refine CD.mono ?_
        rintro e w1 ⟨rfl, rfl⟩
        go_wp2
        go_ret
        exact ⟨rfl, rfl⟩
      · have e1 : ((n : Int) == 58) = false := by rw [beq_eq_false_iff_ne]; omega
        rw [decide_eq_false h58]
        go_enter Tryd.func33, Tryd.ntmps33
        go_wp2_with fail
        refine CD.mono ?_
        rintro e w1 ⟨rfl, rfl⟩
        go_wp2
        go_ret
        exact ⟨rfl, rfl⟩
  · have e : kindB 2 c = (isDig c || decide (c.toNat = 46)) := by show (isDig c || c == 46) = _; rw [show (c == 46) = _ from eq_nat c 46 (by omega)]
    rw [e]
    have CD := refdig_any c w
    generalize c.toNat = n at *
    cases hd : isDig c with
    | true =>
      rw [hd] at CD
      go_enter Tryd.func33, Tryd.ntmps33
      go_wp2_with fail
      refine CD.mono ?_
      rintro e w1 ⟨rfl, rfl⟩
      go_wp2
      go_ret
      exact ⟨rfl, rfl⟩
    | false =>
      rw [hd] at CD
      by_cases h58 : n = 46
      · subst h58
        go_enter Tryd.func33, Tryd.ntmps33
        go_wp2_with fail
        refine CD.mono ?_
        rintro e w1 ⟨rfl, rfl⟩
        go_wp2
        go_ret
        exact ⟨rfl, rfl⟩
      · have e1 : ((n : Int) == 46) = false := by rw [beq_eq_false_iff_ne]; omega
        rw [decide_eq_false h58]
        go_enter Tryd.func33, Tryd.ntmps33
        go_wp2_with fail
        refine CD.mono ?_
        rintro e w1 ⟨rfl, rfl⟩
        go_wp2
        go_ret
        exact ⟨rfl, rfl⟩
  · have e : kindB 3 c = (isDig c || letB c) := rfl
    rw [e]
    have CD := refdig_any c w
    have CL := reflet_any c w
    generalize c.toNat = n at *
    cases hd : isDig c with
    | true =>
      rw [hd] at CD
      go_enter Tryd.func33, Tryd.ntmps33
      go_wp2_with fail
      refine CD.mono ?_
      rintro e w1 ⟨rfl, rfl⟩
      go_wp2
      go_ret
      exact ⟨rfl, rfl⟩
    | false =>
      rw [hd] at CD
      go_enter Tryd.func33, Tryd.ntmps33
      go_wp2_with fail
      refine CD.mono ?_
      rintro e w1 ⟨rfl, rfl⟩
      go_wp2_with fail
      refine CL.mono ?_
      rintro e w1 ⟨rfl, rfl⟩
      go_wp2
      go_ret
      exact ⟨rfl, rfl⟩

end Go.Proofs.YthmfpodibgheiaaDoor
