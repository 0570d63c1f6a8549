/-
  Package lex as landed: kinds of bytes, and what the runs' closures say of a byte.
-/
import Derived.Test.YtcmeejoabiedaaaDoorLexY
namespace Go.Proofs.YtcmeejoabiedaaaDoor
open Go.RowKit
set_option maxRecDepth 100000

def kindN (n : Nat) : Nat :=
  if n = 32 ∨ n = 9 ∨ n = 10 ∨ n = 13 then 1 else if 48 ≤ n ∧ n ≤ 57 then 2 else if 97 ≤ n ∧ n ≤ 102 then 3 else if 103 ≤ n ∧ n ≤ 122 then 4 else if n = 58 then 5 else if n = 46 then 6 else 0

theorem ret_knd {a b : Int} (h : a = b) : Ending.returned (.int .i64 a) = .returned (.int .i64 b) := by rw [h]

set_option maxHeartbeats 1000000 in
theorem kind_any (n : Nat) (w : World) :
    Calls Tryd.prog 8 #[.int .u8 (n : Int)] w fun e w' => e = .returned (.int .i64 (kindN n : Int)) ∧ w = w' := by
  have e1 : ∀ k : Nat, ((n : Int) == (k : Int)) = decide (n = k) := fun k => by
    by_cases h : n = k
    · subst h; simp
    · rw [beq_eq_false_iff_ne.2 (by omega), decide_eq_false h]
  have d32 := e1 32
  have d9 := e1 9
  have d10 := e1 10
  have d13 := e1 13
  have d58 := e1 58
  have d46 := e1 46
  clear e1
  unfold kindN
  by_cases hb : n = 32 ∨ n = 9 ∨ n = 10 ∨ n = 13
  · rw [if_pos hb]
    rcases hb with rfl | rfl | rfl | rfl <;>
    · go_enter Tryd.func8, Tryd.ntmps8
      go_wp2
      go_ret
      exact ⟨rfl, rfl⟩
  rw [if_neg hb]
  have b32 : ((n : Int) == 32) = false := by rw [beq_eq_false_iff_ne]; omega
  have b9 : ((n : Int) == 9) = false := by rw [beq_eq_false_iff_ne]; omega
  have b10 : ((n : Int) == 10) = false := by rw [beq_eq_false_iff_ne]; omega
  have b13 : ((n : Int) == 13) = false := by rw [beq_eq_false_iff_ne]; omega
  clear d32 d9 d10 d13 d58 d46 hb
  by_cases hd : 48 ≤ n ∧ n ≤ 57
  · rw [if_pos hd]
    have i1 : (48 : Int) ≤ (n : Int) := by omega
    have i2 : (n : Int) ≤ 57 := by omega
    clear hd
    go_enter Tryd.func8, Tryd.ntmps8
    go_wp2
    go_ret
    exact ⟨rfl, rfl⟩
  rw [if_neg hd]
  by_cases hx : 97 ≤ n ∧ n ≤ 102
  · rw [if_pos hx]
    have i1 : (48 : Int) ≤ (n : Int) := by omega
    have i2 : ¬ (n : Int) ≤ 57 := by omega
    have i3 : (97 : Int) ≤ (n : Int) := by omega
    have i4 : (n : Int) ≤ 102 := by omega
    clear hd hx
    go_enter Tryd.func8, Tryd.ntmps8
    go_wp2
    go_ret
    exact ⟨rfl, rfl⟩
  rw [if_neg hx]
  by_cases hl : 103 ≤ n ∧ n ≤ 122
  · rw [if_pos hl]
    have i1 : (48 : Int) ≤ (n : Int) := by omega
    have i2 : ¬ (n : Int) ≤ 57 := by omega
    have i3 : (97 : Int) ≤ (n : Int) := by omega
    have i4 : ¬ (n : Int) ≤ 102 := by omega
    have i5 : (103 : Int) ≤ (n : Int) := by omega
    have i6 : (n : Int) ≤ 122 := by omega
    clear hd hx hl
    go_enter Tryd.func8, Tryd.ntmps8
    go_wp2
    go_ret
    exact ⟨rfl, rfl⟩
  rw [if_neg hl]
  by_cases h58 : n = 58
  · rw [if_pos h58]
    subst h58
    clear b32 b9 b10 b13 hd hx hl
    go_enter Tryd.func8, Tryd.ntmps8
    go_wp2
    go_ret
    exact ⟨rfl, rfl⟩
  rw [if_neg h58]
  have b58 : ((n : Int) == 58) = false := by rw [beq_eq_false_iff_ne]; omega
  by_cases h46 : n = 46
  · rw [if_pos h46]
    subst h46
    clear b32 b9 b10 b13 hd hx hl b58
    go_enter Tryd.func8, Tryd.ntmps8
    go_wp2
    go_ret
    exact ⟨rfl, rfl⟩
  rw [if_neg h46]
  have b46 : ((n : Int) == 46) = false := by rw [beq_eq_false_iff_ne]; omega
  have c1 : (decide ((48 : Int) ≤ (n : Int)) && decide ((n : Int) ≤ 57)) = false := by simp; omega
  have c2 : (decide ((97 : Int) ≤ (n : Int)) && decide ((n : Int) ≤ 102)) = false := by simp; omega
  have c3 : (decide ((103 : Int) ≤ (n : Int)) && decide ((n : Int) ≤ 122)) = false := by simp; omega
  have hs : n < 48 ∨ (57 < n ∧ n < 97) ∨ 122 < n := by omega
  clear h58 h46 hl c1 c2 c3
  rcases hs with h | ⟨h, h'⟩ | h
  · have i1 : ¬ (48 : Int) ≤ (n : Int) := by omega
    have i3 : ¬ (97 : Int) ≤ (n : Int) := by omega
    have i5 : ¬ (103 : Int) ≤ (n : Int) := by omega
    clear hd hx h
    go_enter Tryd.func8, Tryd.ntmps8
    go_wp2
    go_ret
    exact ⟨rfl, rfl⟩
  · have i1 : (48 : Int) ≤ (n : Int) := by omega
    have i2 : ¬ (n : Int) ≤ 57 := by omega
    have i3 : ¬ (97 : Int) ≤ (n : Int) := by omega
    have i5 : ¬ (103 : Int) ≤ (n : Int) := by omega
    clear hd hx h h'
    go_enter Tryd.func8, Tryd.ntmps8
    go_wp2
    go_ret
    exact ⟨rfl, rfl⟩
  · have i1 : (48 : Int) ≤ (n : Int) := by omega
    have i2 : ¬ (n : Int) ≤ 57 := by omega
    have i3 : (97 : Int) ≤ (n : Int) := by omega
    have i4 : ¬ (n : Int) ≤ 102 := by omega
    have i5 : (103 : Int) ≤ (n : Int) := by omega
    have i6 : ¬ (n : Int) ≤ 122 := by omega
    clear hd hx h
    go_enter Tryd.func8, Tryd.ntmps8
    go_wp2
    go_ret
    exact ⟨rfl, rfl⟩

theorem kind_blank (c : UInt8) : ((kindN c.toNat : Int) == 1) = blankB c := by
  have h : ∀ k : Fin 256, ((kindN k.1 : Int) == 1) = blankB (UInt8.ofNat k.1) := by decide +kernel
  have := h ⟨c.toNat, c.toNat_lt⟩
  simpa using this
theorem kind_is (c : UInt8) : kindN c.toNat ≤ 6 ∧ sixB c = decide (kindN c.toNat = 2 ∨ kindN c.toNat = 3 ∨ kindN c.toNat = 5) ∧ quadB c = decide (kindN c.toNat = 2 ∨ kindN c.toNat = 6) ∧ wordB c = decide (kindN c.toNat = 2 ∨ kindN c.toNat = 3 ∨ kindN c.toNat = 4) ∧
    decide (c = 58) = decide (kindN c.toNat = 5) ∧ decide (c = 46) = decide (kindN c.toNat = 6) ∧ isDig c = decide (kindN c.toNat = 2) ∧ letB c = decide (kindN c.toNat = 3 ∨ kindN c.toNat = 4) := by
  have h : ∀ k : Fin 256, kindN k.1 ≤ 6 ∧ sixB (UInt8.ofNat k.1) = decide (kindN k.1 = 2 ∨ kindN k.1 = 3 ∨ kindN k.1 = 5) ∧ quadB (UInt8.ofNat k.1) = decide (kindN k.1 = 2 ∨ kindN k.1 = 6) ∧ wordB (UInt8.ofNat k.1) = decide (kindN k.1 = 2 ∨ kindN k.1 = 3 ∨ kindN k.1 = 4) ∧
    decide (UInt8.ofNat k.1 = 58) = decide (kindN k.1 = 5) ∧ decide (UInt8.ofNat k.1 = 46) = decide (kindN k.1 = 6) ∧ isDig (UInt8.ofNat k.1) = decide (kindN k.1 = 2) ∧ letB (UInt8.ofNat k.1) = decide (kindN k.1 = 3 ∨ kindN k.1 = 4) := by decide +kernel
  have := h ⟨c.toNat, c.toNat_lt⟩
  simpa only [UInt8.ofNat_toNat] using this

set_option maxHeartbeats 400000 in
theorem isblank_any (c : UInt8) (w : World) :
    Calls Tryd.prog 7 #[.int .u8 (c.toNat : Int)] w fun e w' => e = .returned (.bool (blankB c)) ∧ w = w' := by
  rw [← kind_blank c]
  have C := kind_any c.toNat w
  generalize kindN c.toNat = q at *
  go_enter Tryd.func7, Tryd.ntmps7
  go_wp2_with fail
  refine C.mono ?_
  rintro e w1 ⟨rfl, rfl⟩
  clear C
  go_wp2
  go_ret
  exact ⟨rfl, rfl⟩

set_option maxHeartbeats 400000 in
theorem isword_any (c : UInt8) (w : World) :
    Calls Tryd.prog 19 #[.int .u8 (c.toNat : Int)] w fun e w' => e = .returned (.bool (wordB c)) ∧ w = w' := by
  have hk := (kind_is c).1
  rw [(kind_is c).2.2.2.1]
  have C := kind_any c.toNat w
  generalize kindN c.toNat = q at *
  have hq : q = 0 ∨ q = 1 ∨ q = 2 ∨ q = 3 ∨ q = 4 ∨ q = 5 ∨ q = 6 := by omega
  clear hk
  rcases hq with rfl | rfl | rfl | rfl | rfl | rfl | rfl <;>
  · go_enter Tryd.func19, Tryd.ntmps19
    go_wp2_with fail
    refine C.mono ?_
    rintro e w1 ⟨rfl, rfl⟩
    clear C
    go_wp2
    go_ret
    exact ⟨rfl, rfl⟩

end Go.Proofs.YtcmeejoabiedaaaDoor
