/-
  Package lex as landed: kinds of bytes, and what the runs' closures say of a byte. Package lex as landed: the closures that count, and the run with each closure.
-/
import Derived.Test.YtbdmpjnlgdahmaaGreatDoorLotP13
namespace Go.Proofs.YtbdmpjnlgdahmaaGreatDoor
open Go.RowKit
set_option maxRecDepth 100000

def kindN (n : Nat) : Nat :=
  if n = 32 ∨ n = 9 ∨ n = 10 ∨ n = 13 then 1 else if 48 ≤ n ∧ n ≤ 57 then 2 else if 97 ≤ n ∧ n ≤ 102 then 3 else if 103 ≤ n ∧ n ≤ 122 then 4 else if n = 58 then 5 else if n = 46 then 6 else 0

theorem ret_knd {a b : Int} (h : a = b) : Ending.returned (.int .i64 a) = .returned (.int .i64 b) := by rw [h]

set_option maxHeartbeats 1000000 in
theorem kind_any (n : Nat) (w : World) :
    Calls Tryz.prog 32 #[.int .u8 (n : Int)] w fun e w' => e = .returned (.int .i64 (kindN n : Int)) ∧ w = w' := by
  have e1 : ∀ k : Nat, ((n : Int) == (k : Int)) = decide (n = k) := fun k => by
    by_cases h : n = k
    · subst h; simp
    · rw [beq_eq_false_iff_ne.2 (by omega), decide_eq_false h]
  have d32 := e1 32
  have d9 := e1 9
  have d10 := e1 10
  have d13 := e1 13
  have d58 := e1 58
  have d46 := e1 46
  clear e1
  unfold kindN
  by_cases hb : n = 32 ∨ n = 9 ∨ n = 10 ∨ n = 13
  · rw [if_pos hb]
    rcases hb with rfl | rfl | rfl | rfl <;>
    · go_enter Tryz.func32, Tryz.ntmps32
      go_wp2
      go_ret
      exact ⟨rfl, rfl⟩
  rw [if_neg hb]
  have b32 : ((n : Int) == 32) = false := by rw [beq_eq_false_iff_ne]; omega
  have b9 : ((n : Int) == 9) = false := by rw [beq_eq_false_iff_ne]; omega
  have b10 : ((n : Int) == 10) = false := by rw [beq_eq_false_iff_ne]; omega
  have b13 : ((n : Int) == 13) = false := by rw [beq_eq_false_iff_ne]; omega
  clear d32 d9 d10 d13 d58 d46 hb
  by_cases hd : 48 ≤ n ∧ n ≤ 57
  · rw [if_pos hd]
    have i1 : (48 : Int) ≤ (n : Int) := by omega
    have i2 : (n : Int) ≤ 57 := by omega
    clear hd
    go_enter Tryz.func32, Tryz.ntmps32
    go_wp2
    go_ret
    exact ⟨rfl, rfl⟩
  rw [if_neg hd]
  by_cases hx : 97 ≤ n ∧ n ≤ 102
  · rw [if_pos hx]
    have i1 : (48 : Int) ≤ (n : Int) := by omega
    have i2 : ¬ (n : Int) ≤ 57 := by omega
    have i3 : (97 : Int) ≤ (n : Int) := by omega
    have i4 : (n : Int) ≤ 102 := by omega
    clear hd hx
    go_enter Tryz.func32, Tryz.ntmps32
    go_wp2
    go_ret
    exact ⟨rfl, rfl⟩
  rw [if_neg hx]
  by_cases hl : 103 ≤ n ∧ n ≤ 122
  · rw [if_pos hl]
    have i1 : (48 : Int) ≤ (n : Int) := by omega
    have i2 : ¬ (n : Int) ≤ 57 := by omega
    have i3 : (97 : Int) ≤ (n : Int) := by omega
    have i4 : ¬ (n : Int) ≤ 102 := by omega
    have i5 : (103 : Int) ≤ (n : Int) := by omega
    have i6 : (n : Int) ≤ 122 := by omega
    clear hd hx hl
    go_enter Tryz.func32, Tryz.ntmps32
    go_wp2
    go_ret
    exact ⟨rfl, rfl⟩
  rw [if_neg hl]
  by_cases h58 : n = 58
  · rw [if_pos h58]
    subst h58
    clear b32 b9 b10 b13 hd hx hl
    go_enter Tryz.func32, Tryz.ntmps32
    go_wp2
    go_ret
    exact ⟨rfl, rfl⟩
  rw [if_neg h58]
  have b58 : ((n : Int) == 58) = false := by rw [beq_eq_false_iff_ne]; omega
  by_cases h46 : n = 46
  · rw [if_pos h46]
    subst h46
    clear b32 b9 b10 b13 hd hx hl b58
    go_enter Tryz.func32, Tryz.ntmps32
    go_wp2
    go_ret
    exact ⟨rfl, rfl⟩
  rw [if_neg h46]
  have b46 : ((n : Int) == 46) = false := by rw [beq_eq_false_iff_ne]; omega
  have c1 : (decide ((48 : Int) ≤ (n : Int)) && decide ((n : Int) ≤ 57)) = false := by simp; omega
  have c2 : (decide ((97 : Int) ≤ (n : Int)) && decide ((n : Int) ≤ 102)) = false := by simp; omega
  have c3 : (decide ((103 : Int) ≤ (n : Int)) && decide ((n : Int) ≤ 122)) = false := by simp; omega
  have hs : n < 48 ∨ (57 < n ∧ n < 97) ∨ 122 < n := by omega
  clear h58 h46 hl c1 c2 c3
  rcases hs with h | ⟨h, h'⟩ | h
  · have i1 : ¬ (48 : Int) ≤ (n : Int) := by omega
    have i3 : ¬ (97 : Int) ≤ (n : Int) := by omega
    have i5 : ¬ (103 : Int) ≤ (n : Int) := by omega
    clear hd hx h
    go_enter Tryz.func32, Tryz.ntmps32
    go_wp2
    go_ret
    exact ⟨rfl, rfl⟩
  · have i1 : (48 : Int) ≤ (n : Int) := by omega
    have i2 : ¬ (n : Int) ≤ 57 := by omega
    have i3 : ¬ (97 : Int) ≤ (n : Int) := by omega
    have i5 : ¬ (103 : Int) ≤ (n : Int) := by omega
    clear hd hx h h'
    go_enter Tryz.func32, Tryz.ntmps32
    go_wp2
    go_ret
    exact ⟨rfl, rfl⟩
  · have i1 : (48 : Int) ≤ (n : Int) := by omega
    have i2 : ¬ (n : Int) ≤ 57 := by omega
    have i3 : (97 : Int) ≤ (n : Int) := by omega
    have i4 : ¬ (n : Int) ≤ 102 := by omega
    have i5 : (103 : Int) ≤ (n : Int) := by omega
    have i6 : ¬ (n : Int) ≤ 122 := by omega
    clear hd hx h
    go_enter Tryz.func32, Tryz.ntmps32
    go_wp2
    go_ret
    exact ⟨rfl, rfl⟩

theorem kind_blank (c : UInt8) : ((kindN c.toNat : Int) == 1) = blankB c := by
  have h : ∀ k : Fin 256, ((kindN k.1 : Int) == 1) = blankB (UInt8.ofNat k.1) := by decide +kernel
  have := h ⟨c.toNat, c.toNat_lt⟩
  simpa using this
theorem kind_is (c : UInt8) : kindN c.toNat ≤ 6 ∧ sixB c = decide (kindN c.toNat = 2 ∨ kindN c.toNat = 3 ∨ kindN c.toNat = 5) ∧ quadB c = decide (kindN c.toNat = 2 ∨ kindN c.toNat = 6) ∧ wordB c = decide (kindN c.toNat = 2 ∨ kindN c.toNat = 3 ∨ kindN c.toNat = 4) ∧
    decide (c = 58) = decide (kindN c.toNat = 5) ∧ decide (c = 46) = decide (kindN c.toNat = 6) ∧ isDig c = decide (kindN c.toNat = 2) ∧ letB c = decide (kindN c.toNat = 3 ∨ kindN c.toNat = 4) := by
  have h : ∀ k : Fin 256, kindN k.1 ≤ 6 ∧ sixB (UInt8.ofNat k.1) = decide (kindN k.1 = 2 ∨ kindN k.1 = 3 ∨ kindN k.1 = 5) ∧ quadB (UInt8.ofNat k.1) = decide (kindN k.1 = 2 ∨ kindN k.1 = 6) ∧ wordB (UInt8.ofNat k.1) = decide (kindN k.1 = 2 ∨ kindN k.1 = 3 ∨ kindN k.1 = 4) ∧
    decide (UInt8.ofNat k.1 = 58) = decide (kindN k.1 = 5) ∧ decide (UInt8.ofNat k.1 = 46) = decide (kindN k.1 = 6) ∧ isDig (UInt8.ofNat k.1) = decide (kindN k.1 = 2) ∧ letB (UInt8.ofNat k.1) = decide (kindN k.1 = 3 ∨ kindN k.1 = 4) := by decide +kernel
  have := h ⟨c.toNat, c.toNat_lt⟩
  simpa only [UInt8.ofNat_toNat] using this

set_option maxHeartbeats 400000 in
theorem isblank_any (c : UInt8) (w : World) :
    Calls Tryz.prog 31 #[.int .u8 (c.toNat : Int)] w fun e w' => e = .returned (.bool (blankB c)) ∧ w = w' := by
  rw [← kind_blank c]
  have C := kind_any c.toNat w
  generalize kindN c.toNat = q at *
  go_enter Tryz.func31, Tryz.ntmps31
  go_wp2_with fail
  refine C.mono ?_
  rintro e w1 ⟨rfl, rfl⟩
  clear C
  go_wp2
  go_ret
  exact ⟨rfl, rfl⟩

set_option maxHeartbeats 400000 in
theorem isword_any (c : UInt8) (w : World) :
    Calls Tryz.prog 74 #[.int .u8 (c.toNat : Int)] w fun e w' => e = .returned (.bool (wordB c)) ∧ w = w' := by
  have hk := (kind_is c).1
  rw [(kind_is c).2.2.2.1]
  have C := kind_any c.toNat w
  generalize kindN c.toNat = q at *
  have hq : q = 0 ∨ q = 1 ∨ q = 2 ∨ q = 3 ∨ q = 4 ∨ q = 5 ∨ q = 6 := by omega
  clear hk
  rcases hq with rfl | rfl | rfl | rfl | rfl | rfl | rfl <;>
  · go_enter Tryz.func74, Tryz.ntmps74
    go_wp2_with fail
    refine C.mono ?_
    rintro e w1 ⟨rfl, rfl⟩
    clear C
    go_wp2
    go_ret
    exact ⟨rfl, rfl⟩

end Go.Proofs.YtbdmpjnlgdahmaaGreatDoor

namespace Go.Proofs.YtbdmpjnlgdahmaaGreatDoor
open Go.RowKit
set_option maxRecDepth 100000

set_option maxHeartbeats 1000000 in
theorem issix_any (c : UInt8) (g k : Nat) (hk : k ≤ 140737488355328) (w : World) (A : VAt w g 3 #[.int .i64 (k : Int)]) :
    Calls Tryz.prog 70 #[.int .u8 (c.toNat : Int), .pointer (some ⟨g, 0, none⟩)] w fun e w' => e = .returned (.bool (sixB c)) ∧ VAt w' g 3 #[.int .i64 ((k + (if c = 58 then 1 else 0) : Nat) : Int)] ∧ w.grownBy w' (some g) := by
  have hq := (kind_is c).1
  have h5 := (kind_is c).2.2.2.2.1
  rw [(kind_is c).2.1]
  have C := kind_any c.toNat w
  generalize kindN c.toNat = q at *
  have A0 : w.cell? ⟨g, 0, none⟩ = some (.int .i64 (k : Int)) := A.cell 0
  have hfz := A.free 0
  have hw1 : IntKind.i64.wrap ((k : Int) + 1) = ((k + 1 : Nat) : Int) := by rw [IntKind.wrap_i64]; omega
  have AS : VAt (w.setCell ⟨g, 0, none⟩ (.int .i64 ((k + 1 : Nat) : Int))) g 3 #[.int .i64 ((k + 1 : Nat) : Int)] := A.set 0 _
  have HA : Hid (VAt w g 3 #[.int .i64 (k : Int)]) := A
  have HAS : Hid _ := AS
  clear A AS
  by_cases hc : c = 58
  · rw [if_pos hc]
    rw [decide_eq_true hc] at h5
    obtain rfl : q = 5 := of_decide_eq_true h5.symm
    clear hq h5 hc
    go_enter Tryz.func70, Tryz.ntmps70
    go_wp2_with fail
    refine C.mono ?_
    rintro e w1 ⟨rfl, rfl⟩
    clear C
    go_wp2
    go_ret
    exact ⟨rfl, HAS.out, grown_set1 _ _ _⟩
  · rw [if_neg hc]
    rw [decide_eq_false hc] at h5
    have h5' : q ≠ 5 := of_decide_eq_false h5.symm
    have hs : q = 0 ∨ q = 1 ∨ q = 2 ∨ q = 3 ∨ q = 4 ∨ q = 6 := by omega
    clear hq h5 hc h5' HAS hw1
    rcases hs with rfl | rfl | rfl | rfl | rfl | rfl <;>
    · go_enter Tryz.func70, Tryz.ntmps70
      go_wp2_with fail
      refine C.mono ?_
      rintro e w1 ⟨rfl, rfl⟩
      clear C
      go_wp2
      go_ret
      exact ⟨rfl, HA.out, World.grownBy.refl _ _⟩

set_option maxHeartbeats 1000000 in
theorem isquad_any (c : UInt8) (g : Nat) (k : Bool) (w : World) (A : VAt w g 4 #[.bool k]) :
    Calls Tryz.prog 71 #[.int .u8 (c.toNat : Int), .pointer (some ⟨g, 0, none⟩)] w fun e w' => e = .returned (.bool (quadB c)) ∧ VAt w' g 4 #[.bool (k || decide (c = 46))] ∧ w.grownBy w' (some g) := by
  have hq := (kind_is c).1
  have h5 := (kind_is c).2.2.2.2.2.1
  rw [h5, (kind_is c).2.2.1]
  have C := kind_any c.toNat w
  generalize kindN c.toNat = q at *
  have A0 : w.cell? ⟨g, 0, none⟩ = some (.bool k) := A.cell 0
  have hfz := A.free 0
  have HA : Hid (∀ b, VAt (w.setCell ⟨g, 0, none⟩ (.bool b)) g 4 #[.bool b]) := fun b => A.set 0 (.bool b)
  clear A h5
  have hs : q = 0 ∨ q = 1 ∨ q = 2 ∨ q = 3 ∨ q = 4 ∨ q = 5 ∨ q = 6 := by omega
  clear hq
  cases k <;>
  · rcases hs with rfl | rfl | rfl | rfl | rfl | rfl | rfl <;>
    · go_enter Tryz.func71, Tryz.ntmps71
      go_wp2_with fail
      refine C.mono ?_
      rintro e w1 ⟨rfl, rfl⟩
      clear C
      go_wp2
      go_ret
      exact ⟨rfl, HA.out _, grown_set1 _ _ _⟩

set_option maxHeartbeats 1000000 in
theorem runblank_any (s : ByteArray) (hs : s.size ≤ 140737488355328) (w : World) :
    Calls Tryz.prog 30 #[.string s, .func (.func 31) #[] #[]] w fun e w' => e = .returned (str ((sl s).takeWhile blankB)) ∧ w = w' := by
  have HIN : Hid (∀ (c : UInt8) (W : World), Calls Tryz.prog 31 #[.int .u8 (c.toNat : Int)] W fun e w' => e = .returned (.bool (blankB c)) ∧ W = w') := fun c W => isblank_any c W
  obtain ⟨ans, hans⟩ : ∃ ans, (sl s).takeWhile blankB = ans := ⟨_, rfl⟩
  have HA : Hid ((sl s).takeWhile blankB = ans) := hans
  rw [hans]
  clear hans
  go_enter Tryz.func30, Tryz.ntmps30
  go_wp2
  go_loopw [5] (fun i wr => ∃ j : Nat, j ≤ s.size ∧ i = .int .i64 j ∧ Hid ((sl s).take j ++ ((sl s).drop j).takeWhile blankB = ans) ∧ wr = w) (fun i _ => s.size - (intOf i).toNat)
  case atStart => exact ⟨0, Nat.zero_le _, rfl, HA, rfl⟩
  case round =>
    obtain ⟨j, h2, rfl, HJ, rfl⟩ := hrel
    have z1 : (0 : Int) ≤ (j : Int) := by omega
    have z3 : (j : Int) ≤ (s.size : Int) := by omega
    by_cases hlt : j < s.size
    · have hji : (j : Int) < (s.size : Int) := by omega
      have HD : Hid ((sl s).drop j = s[j] :: (sl s).drop (j + 1)) := sl_drop s j hlt
      have CI := HIN.out s[j] wr
      cases hp : blankB s[j] with
      | true =>
        rw [hp] at CI
        have HN : Hid ((sl s).take (j + 1) ++ ((sl s).drop (j + 1)).takeWhile blankB = ans) := by
          show _ = ans
          rw [← HJ.out, HD.out, List.takeWhile_cons_of_pos hp, List.take_add_one, sl_get s j hlt, Option.toList_some, List.append_assoc]
          rfl
        clear HJ HD
        go_wp2_with fail
        refine CI.mono ?_
        rintro e w1 ⟨rfl, rfl⟩
        clear CI
        go_wp2
        go_roundw
        case rel => exact ⟨j + 1, by omega, by go_num, HN, by first | rfl | trivial⟩
        case measure => simp [intOf]; omega
      | false =>
        rw [hp] at CI
        have hE : sl (s.extract 0 j) = ans := by
          rw [sl_extract, ← HJ.out, HD.out, List.takeWhile_cons_of_neg (by rw [hp]; simp), List.append_nil]
          simp
        have HE : Hid (Value.string (s.extract 0 j) = str ans) := by show Value.string (s.extract 0 j) = str ans; rw [str_sl, hE]
        clear HJ HD hE
        go_wp2_with fail
        refine CI.mono ?_
        rintro e w1 ⟨rfl, rfl⟩
        clear CI
        go_wp2
        go_ret
        exact ⟨by rw [HE.out]; rfl, rfl⟩
    · obtain rfl : j = s.size := by omega
      have hji : ¬ (s.size : Int) < (s.size : Int) := by omega
      have hE : sl s = ans := by
        rw [← HJ.out, List.drop_eq_nil_of_le (i := s.size) (by rw [sl_len]; exact Nat.le_refl _), ← sl_len]
        simp
      have HE : Hid (Value.string s = str ans) := by show Value.string s = str ans; rw [str_sl, hE]
      clear HJ hE
      go_wp2
      go_ret
      exact ⟨by show Ending.returned (Value.string s) = _; rw [HE.out], rfl⟩

set_option maxHeartbeats 1000000 in
theorem runword_any (s : ByteArray) (hs : s.size ≤ 140737488355328) (w : World) :
    Calls Tryz.prog 30 #[.string s, .func (.func 74) #[] #[]] w fun e w' => e = .returned (str ((sl s).takeWhile wordB)) ∧ w = w' := by
  have HIN : Hid (∀ (c : UInt8) (W : World), Calls Tryz.prog 74 #[.int .u8 (c.toNat : Int)] W fun e w' => e = .returned (.bool (wordB c)) ∧ W = w') := fun c W => isword_any c W
  obtain ⟨ans, hans⟩ : ∃ ans, (sl s).takeWhile wordB = ans := ⟨_, rfl⟩
  have HA : Hid ((sl s).takeWhile wordB = ans) := hans
  rw [hans]
  clear hans
  go_enter Tryz.func30, Tryz.ntmps30
  go_wp2
  go_loopw [5] (fun i wr => ∃ j : Nat, j ≤ s.size ∧ i = .int .i64 j ∧ Hid ((sl s).take j ++ ((sl s).drop j).takeWhile wordB = ans) ∧ wr = w) (fun i _ => s.size - (intOf i).toNat)
  case atStart => exact ⟨0, Nat.zero_le _, rfl, HA, rfl⟩
  case round =>
    obtain ⟨j, h2, rfl, HJ, rfl⟩ := hrel
    have z1 : (0 : Int) ≤ (j : Int) := by omega
    have z3 : (j : Int) ≤ (s.size : Int) := by omega
    by_cases hlt : j < s.size
    · have hji : (j : Int) < (s.size : Int) := by omega
      have HD : Hid ((sl s).drop j = s[j] :: (sl s).drop (j + 1)) := sl_drop s j hlt
      have CI := HIN.out s[j] wr
      cases hp : wordB s[j] with
      | true =>
        rw [hp] at CI
        have HN : Hid ((sl s).take (j + 1) ++ ((sl s).drop (j + 1)).takeWhile wordB = ans) := by
          show _ = ans
          rw [← HJ.out, HD.out, List.takeWhile_cons_of_pos hp, List.take_add_one, sl_get s j hlt, Option.toList_some, List.append_assoc]
          rfl
        clear HJ HD
        go_wp2_with fail
        refine CI.mono ?_
        rintro e w1 ⟨rfl, rfl⟩
        clear CI
        go_wp2
        go_roundw
        case rel => exact ⟨j + 1, by omega, by go_num, HN, by first | rfl | trivial⟩
        case measure => simp [intOf]; omega
      | false =>
        rw [hp] at CI
        have hE : sl (s.extract 0 j) = ans := by
          rw [sl_extract, ← HJ.out, HD.out, List.takeWhile_cons_of_neg (by rw [hp]; simp), List.append_nil]
          simp
        have HE : Hid (Value.string (s.extract 0 j) = str ans) := by show Value.string (s.extract 0 j) = str ans; rw [str_sl, hE]
        clear HJ HD hE
        go_wp2_with fail
        refine CI.mono ?_
        rintro e w1 ⟨rfl, rfl⟩
        clear CI
        go_wp2
        go_ret
        exact ⟨by rw [HE.out]; rfl, rfl⟩
    · obtain rfl : j = s.size := by omega
      have hji : ¬ (s.size : Int) < (s.size : Int) := by omega
      have hE : sl s = ans := by
        rw [← HJ.out, List.drop_eq_nil_of_le (i := s.size) (by rw [sl_len]; exact Nat.le_refl _), ← sl_len]
        simp
      have HE : Hid (Value.string s = str ans) := by show Value.string s = str ans; rw [str_sl, hE]
      clear HJ hE
      go_wp2
      go_ret
      exact ⟨by show Ending.returned (Value.string s) = _; rw [HE.out], rfl⟩

set_option maxHeartbeats 1000000 in
theorem runsix_any (s : ByteArray) (g : Nat) (hs : s.size ≤ 140737488355328) (w : World) (A : VAt w g 3 #[.int .i64 0]) :
    Calls Tryz.prog 30 #[.string s, .func (.func 70) #[] #[.pointer (some ⟨g, 0, none⟩)]] w fun e w' => e = .returned (str ((sl s).takeWhile sixB)) ∧ VAt w' g 3 #[.int .i64 (((sl s).takeWhile sixB).count 58 : Int)] ∧ w.grownBy w' (some g) := by
  have HIN : Hid (∀ (c : UInt8) (k : Nat) (W : World), k ≤ 140737488355328 → VAt W g 3 #[.int .i64 (k : Int)] → Calls Tryz.prog 70 #[.int .u8 (c.toNat : Int), .pointer (some ⟨g, 0, none⟩)] W fun e w' => e = .returned (.bool (sixB c)) ∧ VAt w' g 3 #[.int .i64 ((k + (if c = 58 then 1 else 0) : Nat) : Int)] ∧ W.grownBy w' (some g)) := fun c k W hk A => issix_any c g k hk W A
  obtain ⟨N, hN⟩ : ∃ N, ((sl s).takeWhile sixB).count 58 = N := ⟨_, rfl⟩
  have HN0 : Hid (0 + (((sl s).drop 0).takeWhile sixB).count 58 = N) := by show 0 + _ = N; rw [Nat.zero_add, List.drop_zero]; exact hN
  rw [hN]
  clear hN
  obtain ⟨ans, hans⟩ : ∃ ans, (sl s).takeWhile sixB = ans := ⟨_, rfl⟩
  have HA : Hid ((sl s).takeWhile sixB = ans) := hans
  rw [hans]
  clear hans
  go_enter Tryz.func30, Tryz.ntmps30
  go_wp2
  go_loopw [5] (fun i wr => ∃ j k : Nat, j ≤ s.size ∧ k ≤ j ∧ i = .int .i64 j ∧ Hid ((sl s).take j ++ ((sl s).drop j).takeWhile sixB = ans) ∧ Hid (k + (((sl s).drop j).takeWhile sixB).count 58 = N) ∧ Hid (VAt wr g 3 #[.int .i64 (k : Int)] ∧ w.grownBy wr (some g))) (fun i _ => s.size - (intOf i).toNat)
  case atStart => exact ⟨0, 0, Nat.zero_le _, Nat.le_refl _, rfl, HA, HN0, A, World.grownBy.refl _ _⟩
  case round =>
    clear A HN0 HA
    obtain ⟨j, k, h2, hkj, rfl, HJ, HC, HW⟩ := hrel
    have z1 : (0 : Int) ≤ (j : Int) := by omega
    have z3 : (j : Int) ≤ (s.size : Int) := by omega
    by_cases hlt : j < s.size
    · have hji : (j : Int) < (s.size : Int) := by omega
      have HD : Hid ((sl s).drop j = s[j] :: (sl s).drop (j + 1)) := sl_drop s j hlt
      have CI := HIN.out s[j] k wr (by omega) HW.out.1
      cases hp : sixB s[j] with
      | true =>
        rw [hp] at CI
        have HN : Hid ((sl s).take (j + 1) ++ ((sl s).drop (j + 1)).takeWhile sixB = ans) := by
          show _ = ans
          rw [← HJ.out, HD.out, List.takeWhile_cons_of_pos hp, List.take_add_one, sl_get s j hlt, Option.toList_some, List.append_assoc]
          rfl
        have HM : Hid (k + (if s[j] = 58 then 1 else 0) + (((sl s).drop (j + 1)).takeWhile sixB).count 58 = N) := by
          show _ = N
          rw [← HC.out, HD.out, List.takeWhile_cons_of_pos hp, List.count_cons]
          by_cases h58 : s[j] = 58
          · rw [if_pos h58, if_pos (by simp [h58])]; omega
          · rw [if_neg h58, if_neg (by simpa using h58)]; omega
        have HL : Hid (k + (if s[j] = 58 then 1 else 0) ≤ j + 1) := by show _ ≤ j + 1; split <;> omega
        generalize (k + (if s[j] = 58 then 1 else 0)) = k1 at *
        clear HJ HD
        go_wp2_with fail
        refine CI.mono ?_
        rintro e w1 ⟨rfl, A1, K1⟩
        have HW1 : Hid (VAt w1 g _ _ ∧ w.grownBy w1 (some g)) := ⟨A1, grown_trans HW.out.2 K1⟩
        clear CI A1 K1 HW HC
        go_wp2
        go_roundw
        case rel => exact ⟨j + 1, k1, by omega, HL.out, by go_num, HN, HM, HW1⟩
        case measure => simp [intOf]; omega
      | false =>
        rw [hp] at CI
        have hE : sl (s.extract 0 j) = ans := by
          rw [sl_extract, ← HJ.out, HD.out, List.takeWhile_cons_of_neg (by rw [hp]; simp), List.append_nil]
          simp
        have HE : Hid (Value.string (s.extract 0 j) = str ans) := by show Value.string (s.extract 0 j) = str ans; rw [str_sl, hE]
        have hk : k + (if s[j] = 58 then 1 else 0) = N := by
          have h58 : ¬ s[j] = 58 := fun e => by rw [e] at hp; exact absurd hp (by decide)
          rw [if_neg h58, ← HC.out, HD.out, List.takeWhile_cons_of_neg (by rw [hp]; simp)]
          rfl
        rw [hk] at CI
        clear hk
        clear HJ HD hE
        go_wp2_with fail
        refine CI.mono ?_
        rintro e w1 ⟨rfl, A1, K1⟩
        have HW1 : Hid (VAt w1 g _ _ ∧ w.grownBy w1 (some g)) := ⟨A1, grown_trans HW.out.2 K1⟩
        clear CI A1 K1 HW HC
        go_wp2
        go_ret
        exact ⟨by rw [HE.out]; rfl, HW1.out.1, HW1.out.2⟩
    · obtain rfl : j = s.size := by omega
      have hji : ¬ (s.size : Int) < (s.size : Int) := by omega
      have hE : sl s = ans := by
        rw [← HJ.out, List.drop_eq_nil_of_le (i := s.size) (by rw [sl_len]; exact Nat.le_refl _), ← sl_len]
        simp
      have HE : Hid (Value.string s = str ans) := by show Value.string s = str ans; rw [str_sl, hE]
      obtain rfl : k = N := by
        have := HC.out
        rw [List.drop_eq_nil_of_le (i := s.size) (by rw [sl_len]; exact Nat.le_refl _)] at this
        simpa using this
      clear HC
      clear HJ hE
      go_wp2
      go_ret
      exact ⟨by show Ending.returned (Value.string s) = _; rw [HE.out], HW.out.1, HW.out.2⟩

set_option maxHeartbeats 1000000 in
theorem runquad_any (s : ByteArray) (g : Nat) (hs : s.size ≤ 140737488355328) (w : World) (A : VAt w g 4 #[.bool false]) :
    Calls Tryz.prog 30 #[.string s, .func (.func 71) #[] #[.pointer (some ⟨g, 0, none⟩)]] w fun e w' => e = .returned (str ((sl s).takeWhile quadB)) ∧ VAt w' g 4 #[.bool (((sl s).takeWhile quadB).contains 46)] ∧ w.grownBy w' (some g) := by
  have HIN : Hid (∀ (c : UInt8) (k : Bool) (W : World), VAt W g 4 #[.bool k] → Calls Tryz.prog 71 #[.int .u8 (c.toNat : Int), .pointer (some ⟨g, 0, none⟩)] W fun e w' => e = .returned (.bool (quadB c)) ∧ VAt w' g 4 #[.bool (k || decide (c = 46))] ∧ W.grownBy w' (some g)) := fun c k W A => isquad_any c g k W A
  obtain ⟨N, hN⟩ : ∃ N, ((sl s).takeWhile quadB).contains 46 = N := ⟨_, rfl⟩
  have HN0 : Hid ((false || (((sl s).drop 0).takeWhile quadB).contains 46) = N) := by show (false || _) = N; rw [Bool.false_or, List.drop_zero]; exact hN
  rw [hN]
  clear hN
  obtain ⟨ans, hans⟩ : ∃ ans, (sl s).takeWhile quadB = ans := ⟨_, rfl⟩
  have HA : Hid ((sl s).takeWhile quadB = ans) := hans
  rw [hans]
  clear hans
  go_enter Tryz.func30, Tryz.ntmps30
  go_wp2
  go_loopw [5] (fun i wr => ∃ (j : Nat) (k : Bool), j ≤ s.size ∧ i = .int .i64 j ∧ Hid ((sl s).take j ++ ((sl s).drop j).takeWhile quadB = ans) ∧ Hid ((k || (((sl s).drop j).takeWhile quadB).contains 46) = N) ∧ Hid (VAt wr g 4 #[.bool k] ∧ w.grownBy wr (some g))) (fun i _ => s.size - (intOf i).toNat)
  case atStart => exact ⟨0, false, Nat.zero_le _, rfl, HA, HN0, A, World.grownBy.refl _ _⟩
  case round =>
    clear A HN0 HA
    obtain ⟨j, k, h2, rfl, HJ, HC, HW⟩ := hrel
    have z1 : (0 : Int) ≤ (j : Int) := by omega
    have z3 : (j : Int) ≤ (s.size : Int) := by omega
    by_cases hlt : j < s.size
    · have hji : (j : Int) < (s.size : Int) := by omega
      have HD : Hid ((sl s).drop j = s[j] :: (sl s).drop (j + 1)) := sl_drop s j hlt
      have CI := HIN.out s[j] k wr HW.out.1
      cases hp : quadB s[j] with
      | true =>
        rw [hp] at CI
        have HN : Hid ((sl s).take (j + 1) ++ ((sl s).drop (j + 1)).takeWhile quadB = ans) := by
          show _ = ans
          rw [← HJ.out, HD.out, List.takeWhile_cons_of_pos hp, List.take_add_one, sl_get s j hlt, Option.toList_some, List.append_assoc]
          rfl
        have HM : Hid (((k || decide (s[j] = 46)) || (((sl s).drop (j + 1)).takeWhile quadB).contains 46) = N) := by
          show _ = N
          rw [← HC.out, HD.out, List.takeWhile_cons_of_pos hp, List.contains_cons, Bool.or_assoc]
          congr 2
          by_cases h46 : s[j] = 46
          · rw [h46]; rfl
          · rw [decide_eq_false h46, beq_eq_false_iff_ne.2 (fun e => h46 e.symm)]
        generalize (k || decide (s[j] = 46)) = k1 at *
        clear HJ HD
        go_wp2_with fail
        refine CI.mono ?_
        rintro e w1 ⟨rfl, A1, K1⟩
        have HW1 : Hid (VAt w1 g _ _ ∧ w.grownBy w1 (some g)) := ⟨A1, grown_trans HW.out.2 K1⟩
        clear CI A1 K1 HW HC
        go_wp2
        go_roundw
        case rel => exact ⟨j + 1, k1, by omega, by go_num, HN, HM, HW1⟩
        case measure => simp [intOf]; omega
      | false =>
        rw [hp] at CI
        have hE : sl (s.extract 0 j) = ans := by
          rw [sl_extract, ← HJ.out, HD.out, List.takeWhile_cons_of_neg (by rw [hp]; simp), List.append_nil]
          simp
        have HE : Hid (Value.string (s.extract 0 j) = str ans) := by show Value.string (s.extract 0 j) = str ans; rw [str_sl, hE]
        have hk : (k || decide (s[j] = 46)) = N := by
          have h46 : ¬ s[j] = 46 := fun e => by rw [e] at hp; exact absurd hp (by decide)
          rw [decide_eq_false h46, ← HC.out, HD.out, List.takeWhile_cons_of_neg (by rw [hp]; simp)]
          simp
        rw [hk] at CI
        clear hk
        clear HJ HD hE
        go_wp2_with fail
        refine CI.mono ?_
        rintro e w1 ⟨rfl, A1, K1⟩
        have HW1 : Hid (VAt w1 g _ _ ∧ w.grownBy w1 (some g)) := ⟨A1, grown_trans HW.out.2 K1⟩
        clear CI A1 K1 HW HC
        go_wp2
        go_ret
        exact ⟨by rw [HE.out]; rfl, HW1.out.1, HW1.out.2⟩
    · obtain rfl : j = s.size := by omega
      have hji : ¬ (s.size : Int) < (s.size : Int) := by omega
      have hE : sl s = ans := by
        rw [← HJ.out, List.drop_eq_nil_of_le (i := s.size) (by rw [sl_len]; exact Nat.le_refl _), ← sl_len]
        simp
      have HE : Hid (Value.string s = str ans) := by show Value.string s = str ans; rw [str_sl, hE]
      obtain rfl : k = N := by
        have := HC.out
        rw [List.drop_eq_nil_of_le (i := s.size) (by rw [sl_len]; exact Nat.le_refl _)] at this
        simpa using this
      clear HC
      clear HJ hE
      go_wp2
      go_ret
      exact ⟨by show Ending.returned (Value.string s) = _; rw [HE.out], HW.out.1, HW.out.2⟩

end Go.Proofs.YtbdmpjnlgdahmaaGreatDoor
