import Derived.Test.YtcodofamdhcfiaaGreatTyF
import Derived.Test.YtcodofamdhcfiaaGreatLotP9
namespace Go.Proofs.YtcodofamdhcfiaaGreat
open Go.RowKit
set_option maxRecDepth 100000
def arI (k : Int) : Int := match arG k with
 | some a => (a : Int)
 | none => -1
set_option maxHeartbeats 4000000 in
theorem arity12_any (k : Int) (w : World) : Calls Tryz.prog 32 #[.int .i64 k] w fun e w' => e = .returned (.int .i64 (arI k)) ∧ w' = w := by
 cases ha : arG k with
 | some a =>
  have e : arI k = (a : Int) := by unfold arI; rw [ha]
  rw [e]
  clear e
  rcases arG_cases ha with ⟨rfl, rfl | rfl | rfl⟩ | ⟨rfl, rfl | rfl | rfl | rfl⟩ | ⟨rfl, rfl | rfl | rfl | rfl | rfl | rfl | rfl | rfl | rfl⟩
  all_goals
   clear ha
   go_enter Tryz.func32, Tryz.ntmps32
   go_wp2
   go_ret
   exact ⟨rfl, rfl⟩
 | none =>
  have e : arI k = -1 := by unfold arI; rw [ha]
  rw [e]
  have hn := arG_none.1 ha
  have t1 : (k == 1) = false := by rw [beq_eq_false_iff_ne]; omega
  have t2 : (k == 2) = false := by rw [beq_eq_false_iff_ne]; omega
  have t3 : (k == 3) = false := by rw [beq_eq_false_iff_ne]; omega
  have t4 : (k == 4) = false := by rw [beq_eq_false_iff_ne]; omega
  have t5 : (k == 5) = false := by rw [beq_eq_false_iff_ne]; omega
  have t6 : (k == 6) = false := by rw [beq_eq_false_iff_ne]; omega
  have t7 : (k == 7) = false := by rw [beq_eq_false_iff_ne]; omega
  have t8 : (k == 8) = false := by rw [beq_eq_false_iff_ne]; omega
  have t9 : (k == 9) = false := by rw [beq_eq_false_iff_ne]; omega
  have t10 : (k == 10) = false := by rw [beq_eq_false_iff_ne]; omega
  have t11 : (k == 11) = false := by rw [beq_eq_false_iff_ne]; omega
  have t12 : (k == 12) = false := by rw [beq_eq_false_iff_ne]; omega
  have t13 : (k == 13) = false := by rw [beq_eq_false_iff_ne]; omega
  have t14 : (k == 14) = false := by rw [beq_eq_false_iff_ne]; omega
  have t15 : (k == 15) = false := by rw [beq_eq_false_iff_ne]; omega
  have t16 : (k == 16) = false := by rw [beq_eq_false_iff_ne]; omega
  clear e hn ha
  go_enter Tryz.func32, Tryz.ntmps32
  go_wp2
  go_ret
  exact ⟨rfl, rfl⟩
theorem truth12_any (k : Int) (w : World) : Calls Tryz.prog 154 #[.int .i64 k] w fun e w' => e = .returned (.bool (truthG k)) ∧ w' = w := by
 go_enter Tryz.func154, Tryz.ntmps154
 go_wp2
 go_ret
 exact ⟨rfl, rfl⟩
theorem wants12_any (k : Int) (w : World) : Calls Tryz.prog 153 #[.int .i64 k] w fun e w' => e = .returned (.bool (wantsG k)) ∧ w' = w := by
 have h4 : k = 7 ∨ k = 8 ∨ k = 9 ∨ (k ≠ 7 ∧ k ≠ 8 ∧ k ≠ 9) := by omega
 rcases h4 with rfl | rfl | rfl | ⟨h7, h8, h9⟩
 ·go_enter Tryz.func153, Tryz.ntmps153
  go_wp2
  go_ret
  exact ⟨rfl, rfl⟩
 ·go_enter Tryz.func153, Tryz.ntmps153
  go_wp2
  go_ret
  exact ⟨rfl, rfl⟩
 ·go_enter Tryz.func153, Tryz.ntmps153
  go_wp2
  go_ret
  exact ⟨rfl, rfl⟩
 ·have hw : wantsG k = false := by unfold wantsG; rw [decide_eq_false_iff_not]; omega
  rw [hw]
  have t7 : (k == 7) = false := by rw [beq_eq_false_iff_ne]; exact h7
  have t8 : (k == 8) = false := by rw [beq_eq_false_iff_ne]; exact h8
  have t9 : (k == 9) = false := by rw [beq_eq_false_iff_ne]; exact h9
  clear hw h7 h8 h9
  go_enter Tryz.func153, Tryz.ntmps153
  go_wp2
  go_ret
  exact ⟨rfl, rfl⟩
theorem between_any (x lo hi : Int) (w : World) : Calls Tryz.prog 164 #[.int .i64 x, .int .i64 lo, .int .i64 hi] w fun e w' => e = .returned (.bool (inG x lo hi)) ∧ w' = w := by
 unfold inG
 by_cases h1 : lo ≤ x
 ·have t1 : decide (lo ≤ x) = true := decide_eq_true h1
  clear h1
  rw [t1, Bool.true_and]
  go_enter Tryz.func164, Tryz.ntmps164
  go_wp2
  go_ret
  exact ⟨rfl, rfl⟩
 ·have t1 : decide (lo ≤ x) = false := decide_eq_false h1
  clear h1
  rw [t1, Bool.false_and]
  go_enter Tryz.func164, Tryz.ntmps164
  go_wp2
  go_ret
  exact ⟨rfl, rfl⟩
set_option maxHeartbeats 4000000 in
theorem refarith_any (op : Int) (a b : Nat) (ha : a ≤ 4294967295) (hb : b ≤ 4294967295) (ho : 1 ≤ op ∧ op ≤ 10) (hz : divG op = true → b ≠ 0) (w : World) :
  Calls Tryz.prog 72 #[.int .i64 op, .int .u32 (a : Int), .int .u32 (b : Int)] w fun e w' => e = .returned (.tuple #[.int .u32 (arithG op a b : Int), .bool true]) ∧ w = w' := by
 have h : op = 1 ∨ op = 2 ∨ op = 3 ∨ op = 4 ∨ op = 5 ∨ op = 6 ∨ op = 7 ∨ op = 8 ∨ op = 9 ∨ op = 10 := by omega
 clear ho
 rcases h with rfl | rfl | rfl | rfl | rfl | rfl | rfl | rfl | rfl | rfl
 ·have CO := operate_any 4 a b w ha hb
  have hd : bits .andNot .u16 4 8 = 4 := by decide
  have he : operV 4 a b = (arithG 1 a b, 0) := by simp [operV, arithG]
  rw [hd, he] at CO
  obtain ⟨v, hv⟩ : ∃ v, arithG 1 a b = v := ⟨_, rfl⟩
  rw [hv] at CO ⊢
  clear hd he hv hz
  go_enter Tryz.func72, Tryz.ntmps72
  go_wp2_with fail
  refine CO.mono ?_
  rintro e w1 ⟨rfl, rfl⟩
  go_wp2
  go_ret2
  exact ⟨rfl, rfl⟩
 ·have CO := operate_any 20 a b w ha hb
  have hd : bits .andNot .u16 20 8 = 20 := by decide
  have he : operV 20 a b = (arithG 2 a b, 0) := by simp [operV, arithG]
  rw [hd, he] at CO
  obtain ⟨v, hv⟩ : ∃ v, arithG 2 a b = v := ⟨_, rfl⟩
  rw [hv] at CO ⊢
  clear hd he hv hz
  go_enter Tryz.func72, Tryz.ntmps72
  go_wp2_with fail
  refine CO.mono ?_
  rintro e w1 ⟨rfl, rfl⟩
  go_wp2
  go_ret2
  exact ⟨rfl, rfl⟩
 ·have CO := operate_any 36 a b w ha hb
  have hd : bits .andNot .u16 36 8 = 36 := by decide
  have he : operV 36 a b = (arithG 3 a b, 0) := by simp [operV, arithG]
  rw [hd, he] at CO
  obtain ⟨v, hv⟩ : ∃ v, arithG 3 a b = v := ⟨_, rfl⟩
  rw [hv] at CO ⊢
  clear hd he hv hz
  go_enter Tryz.func72, Tryz.ntmps72
  go_wp2_with fail
  refine CO.mono ?_
  rintro e w1 ⟨rfl, rfl⟩
  go_wp2
  go_ret2
  exact ⟨rfl, rfl⟩
 ·have CO := operate_any 52 a b w ha hb
  have hd : bits .andNot .u16 52 8 = 52 := by decide
  have hb0 : (b == 0) = false := by rw [beq_eq_false_iff_ne]; exact hz rfl
  have he : operV 52 a b = (arithG 4 a b, 0) := by simp [operV, arithG, hb0]
  rw [hd, he] at CO
  obtain ⟨v, hv⟩ : ∃ v, arithG 4 a b = v := ⟨_, rfl⟩
  rw [hv] at CO ⊢
  clear hd he hv hz hb0
  go_enter Tryz.func72, Tryz.ntmps72
  go_wp2_with fail
  refine CO.mono ?_
  rintro e w1 ⟨rfl, rfl⟩
  go_wp2
  go_ret2
  exact ⟨rfl, rfl⟩
 ·have CO := operate_any 148 a b w ha hb
  have hd : bits .andNot .u16 148 8 = 148 := by decide
  have hb0 : (b == 0) = false := by rw [beq_eq_false_iff_ne]; exact hz rfl
  have he : operV 148 a b = (arithG 5 a b, 0) := by simp [operV, arithG, hb0]
  rw [hd, he] at CO
  obtain ⟨v, hv⟩ : ∃ v, arithG 5 a b = v := ⟨_, rfl⟩
  rw [hv] at CO ⊢
  clear hd he hv hz hb0
  go_enter Tryz.func72, Tryz.ntmps72
  go_wp2_with fail
  refine CO.mono ?_
  rintro e w1 ⟨rfl, rfl⟩
  go_wp2
  go_ret2
  exact ⟨rfl, rfl⟩
 ·have CO := operate_any 84 a b w ha hb
  have hd : bits .andNot .u16 84 8 = 84 := by decide
  have he : operV 84 a b = (arithG 6 a b, 0) := by simp [operV, arithG]
  rw [hd, he] at CO
  obtain ⟨v, hv⟩ : ∃ v, arithG 6 a b = v := ⟨_, rfl⟩
  rw [hv] at CO ⊢
  clear hd he hv hz
  go_enter Tryz.func72, Tryz.ntmps72
  go_wp2_with fail
  refine CO.mono ?_
  rintro e w1 ⟨rfl, rfl⟩
  go_wp2
  go_ret2
  exact ⟨rfl, rfl⟩
 ·have CO := operate_any 68 a b w ha hb
  have hd : bits .andNot .u16 68 8 = 68 := by decide
  have he : operV 68 a b = (arithG 7 a b, 0) := by simp [operV, arithG]
  rw [hd, he] at CO
  obtain ⟨v, hv⟩ : ∃ v, arithG 7 a b = v := ⟨_, rfl⟩
  rw [hv] at CO ⊢
  clear hd he hv hz
  go_enter Tryz.func72, Tryz.ntmps72
  go_wp2_with fail
  refine CO.mono ?_
  rintro e w1 ⟨rfl, rfl⟩
  go_wp2
  go_ret2
  exact ⟨rfl, rfl⟩
 ·have CO := operate_any 164 a b w ha hb
  have hd : bits .andNot .u16 164 8 = 164 := by decide
  have he : operV 164 a b = (arithG 8 a b, 0) := by simp [operV, arithG]
  rw [hd, he] at CO
  obtain ⟨v, hv⟩ : ∃ v, arithG 8 a b = v := ⟨_, rfl⟩
  rw [hv] at CO ⊢
  clear hd he hv hz
  go_enter Tryz.func72, Tryz.ntmps72
  go_wp2_with fail
  refine CO.mono ?_
  rintro e w1 ⟨rfl, rfl⟩
  go_wp2
  go_ret2
  exact ⟨rfl, rfl⟩
 ·have CO := operate_any 100 a b w ha hb
  have hd : bits .andNot .u16 100 8 = 100 := by decide
  have he : operV 100 a b = (arithG 9 a b, 0) := by simp [operV, arithG]
  rw [hd, he] at CO
  obtain ⟨v, hv⟩ : ∃ v, arithG 9 a b = v := ⟨_, rfl⟩
  rw [hv] at CO ⊢
  clear hd he hv hz
  go_enter Tryz.func72, Tryz.ntmps72
  go_wp2_with fail
  refine CO.mono ?_
  rintro e w1 ⟨rfl, rfl⟩
  go_wp2
  go_ret2
  exact ⟨rfl, rfl⟩
 ·have CO := operate_any 116 a b w ha hb
  have hd : bits .andNot .u16 116 8 = 116 := by decide
  have he : operV 116 a b = (arithG 10 a b, 0) := by simp [operV, arithG]
  rw [hd, he] at CO
  obtain ⟨v, hv⟩ : ∃ v, arithG 10 a b = v := ⟨_, rfl⟩
  rw [hv] at CO ⊢
  clear hd he hv hz
  go_enter Tryz.func72, Tryz.ntmps72
  go_wp2_with fail
  refine CO.mono ?_
  rintro e w1 ⟨rfl, rfl⟩
  go_wp2
  go_ret2
  exact ⟨rfl, rfl⟩

end Go.Proofs.YtcodofamdhcfiaaGreat
