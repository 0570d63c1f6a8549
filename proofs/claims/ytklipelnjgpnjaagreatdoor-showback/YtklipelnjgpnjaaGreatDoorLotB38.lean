import Derived.Test.YtklipelnjgpnjaaGreatDoorLotB37
import Derived.Lib.ConvBytes
import Derived.Test.YtklipelnjgpnjaaGreatDoorLotB3
set_option maxHeartbeats 64000000
set_option maxRecDepth 100000
namespace Go.Proofs.YtklipelnjgpnjaaGreatDoor
open Go.RowKit
theorem az1 (c : UInt8) (g k : Nat) (hk : k ≤ 140737488355328) (w : World) (A : VAt w g 3 #[.int .i64 (k : Int)]) :
  Calls Tryz.prog 145 #[.int .u8 (c.toNat : Int), .pointer (some ⟨g, 0, none⟩)] w fun e w' => e = .returned (.bool (k6 c)) ∧ VAt w' g 3 #[.int .i64 ((k + (if c = 58 then 1 else 0) : Nat) : Int)] ∧ w.grownBy w' (some g) := by
 have hq := (a1L c).1
 have h5 := (a1L c).2.2.2.2.1
 rw [(a1L c).2.1]
 have C := a3U c.toNat w
 generalize x0 c.toNat = q at *
 have A0 : w.cell? ⟨g, 0, none⟩ = some (.int .i64 (k : Int)) := A.cell 0
 have hfz := A.free 0
 have hw1 : IntKind.i64.wrap ((k : Int) + 1) = ((k + 1 : Nat) : Int) := by rw [IntKind.wrap_i64]; omega
 have AS : VAt (w.setCell ⟨g, 0, none⟩ (.int .i64 ((k + 1 : Nat) : Int))) g 3 #[.int .i64 ((k + 1 : Nat) : Int)] := A.set 0 _
 have HA : Hid (VAt w g 3 #[.int .i64 (k : Int)]) := A
 have HAS : Hid _ := AS
 clear A AS
 by_cases hc : c = 58
 ·rw [if_pos hc]
  rw [decide_eq_true hc] at h5
  obtain rfl : q = 5 := of_decide_eq_true h5.symm
  clear hq h5 hc
  go_enter Tryz.func145, Tryz.ntmps145
  go_wp2_with fail
  refine C.mono ?_
  rintro e w1 ⟨rfl, rfl⟩
  clear C
  go_wp2
  go_ret
  exact ⟨rfl, HAS.out, a4M _ _ _⟩
 ·rw [if_neg hc]
  rw [decide_eq_false hc] at h5
  have h5' : q ≠ 5 := of_decide_eq_false h5.symm
  have hs : q = 0 ∨ q = 1 ∨ q = 2 ∨ q = 3 ∨ q = 4 ∨ q = 6 := by omega
  clear hq h5 hc h5' HAS hw1
  rcases hs with rfl | rfl | rfl | rfl | rfl | rfl <;>
  ·go_enter Tryz.func145, Tryz.ntmps145
   go_wp2_with fail
   refine C.mono ?_
   rintro e w1 ⟨rfl, rfl⟩
   clear C
   go_wp2
   go_ret
   exact ⟨rfl, HA.out, World.grownBy.refl _ _⟩
theorem az0 (c : UInt8) (g : Nat) (k : Bool) (w : World) (A : VAt w g 4 #[.bool k]) :
  Calls Tryz.prog 146 #[.int .u8 (c.toNat : Int), .pointer (some ⟨g, 0, none⟩)] w fun e w' => e = .returned (.bool (t8 c)) ∧ VAt w' g 4 #[.bool (k || decide (c = 46))] ∧ w.grownBy w' (some g) := by
 have hq := (a1L c).1
 have h5 := (a1L c).2.2.2.2.2.1
 rw [h5, (a1L c).2.2.1]
 have C := a3U c.toNat w
 generalize x0 c.toNat = q at *
 have A0 : w.cell? ⟨g, 0, none⟩ = some (.bool k) := A.cell 0
 have hfz := A.free 0
 have HA : Hid (∀ b, VAt (w.setCell ⟨g, 0, none⟩ (.bool b)) g 4 #[.bool b]) := fun b => A.set 0 (.bool b)
 clear A h5
 have hs : q = 0 ∨ q = 1 ∨ q = 2 ∨ q = 3 ∨ q = 4 ∨ q = 5 ∨ q = 6 := by omega
 clear hq
 cases k <;>
 ·rcases hs with rfl | rfl | rfl | rfl | rfl | rfl | rfl <;>
  ·go_enter Tryz.func146, Tryz.ntmps146
   go_wp2_with fail
   refine C.mono ?_
   rintro e w1 ⟨rfl, rfl⟩
   clear C
   go_wp2
   go_ret
   exact ⟨rfl, HA.out _, a4M _ _ _⟩
theorem aT2 (s : ByteArray) (hs : s.size ≤ 140737488355328) (w : World) :
  Calls Tryz.prog 81 #[.string s, .func (.func 82) #[] #[]] w fun e w' => e = .returned (str ((sl s).takeWhile I8)) ∧ w = w' := by
 have HIN : Hid (∀ (c : UInt8) (W : World), Calls Tryz.prog 82 #[.int .u8 (c.toNat : Int)] W fun e w' => e = .returned (.bool (I8 c)) ∧ W = w') := fun c W => ay9 c W
 obtain ⟨ans, hans⟩ : ∃ ans, (sl s).takeWhile I8 = ans := ⟨_, rfl⟩
 have HA : Hid ((sl s).takeWhile I8 = ans) := hans
 rw [hans]
 clear hans
 go_enter Tryz.func81, Tryz.ntmps81
 go_wp2
 go_loopw [5] (fun i wr => ∃ j : Nat, j ≤ s.size ∧ i = .int .i64 j ∧ Hid ((sl s).take j ++ ((sl s).drop j).takeWhile I8 = ans) ∧ wr = w) (fun i _ => s.size - (intOf i).toNat)
 case atStart => exact ⟨0, Nat.zero_le _, rfl, HA, rfl⟩
 case round =>
  obtain ⟨j, h2, rfl, HJ, rfl⟩ := hrel
  have z1 : (0 : Int) ≤ (j : Int) := by omega
  have z3 : (j : Int) ≤ (s.size : Int) := by omega
  by_cases hlt : j < s.size
  ·have hji : (j : Int) < (s.size : Int) := by omega
   have HD : Hid ((sl s).drop j = s[j] :: (sl s).drop (j + 1)) := a0v s j hlt
   have CI := HIN.out s[j] wr
   cases hp : I8 s[j] with
   | true =>
    rw [hp] at CI
    have HN : Hid ((sl s).take (j + 1) ++ ((sl s).drop (j + 1)).takeWhile I8 = ans) := by
     show _ = ans
     rw [← HJ.out, HD.out, List.takeWhile_cons_of_pos hp, List.take_add_one, a2g s j hlt, Option.toList_some, List.append_assoc]
     rfl
    clear HJ HD
    go_wp2_with fail
    refine CI.mono ?_
    rintro e w1 ⟨rfl, rfl⟩
    clear CI
    go_wp2
    go_roundw
    case rel => exact ⟨j + 1, by omega, by go_num, HN, by first | rfl | trivial⟩
    case measure => simp [intOf]; omega
   | false =>
    rw [hp] at CI
    have hE : sl (s.extract 0 j) = ans := by
     rw [a2P, ← HJ.out, HD.out, List.takeWhile_cons_of_neg (by rw [hp]; simp), List.append_nil]
     simp
    have HE : Hid (Value.string (s.extract 0 j) = str ans) := by show Value.string (s.extract 0 j) = str ans; rw [a0W, hE]
    clear HJ HD hE
    go_wp2_with fail
    refine CI.mono ?_
    rintro e w1 ⟨rfl, rfl⟩
    clear CI
    go_wp2
    go_ret
    exact ⟨by rw [HE.out]; rfl, rfl⟩
  ·obtain rfl : j = s.size := by omega
   have hji : ¬ (s.size : Int) < (s.size : Int) := by omega
   have hE : sl s = ans := by
    rw [← HJ.out, List.drop_eq_nil_of_le (i := s.size) (by rw [q7]; exact Nat.le_refl _), ← q7]
    simp
   have HE : Hid (Value.string s = str ans) := by show Value.string s = str ans; rw [a0W, hE]
   clear HJ hE
   go_wp2
   go_ret
   exact ⟨by show Ending.returned (Value.string s) = _; rw [HE.out], rfl⟩
theorem aT5 (s : ByteArray) (hs : s.size ≤ 140737488355328) (w : World) :
  Calls Tryz.prog 81 #[.string s, .func (.func 149) #[] #[]] w fun e w' => e = .returned (str ((sl s).takeWhile l0)) ∧ w = w' := by
 have HIN : Hid (∀ (c : UInt8) (W : World), Calls Tryz.prog 149 #[.int .u8 (c.toNat : Int)] W fun e w' => e = .returned (.bool (l0 c)) ∧ W = w') := fun c W => az2 c W
 obtain ⟨ans, hans⟩ : ∃ ans, (sl s).takeWhile l0 = ans := ⟨_, rfl⟩
 have HA : Hid ((sl s).takeWhile l0 = ans) := hans
 rw [hans]
 clear hans
 go_enter Tryz.func81, Tryz.ntmps81
 go_wp2
 go_loopw [5] (fun i wr => ∃ j : Nat, j ≤ s.size ∧ i = .int .i64 j ∧ Hid ((sl s).take j ++ ((sl s).drop j).takeWhile l0 = ans) ∧ wr = w) (fun i _ => s.size - (intOf i).toNat)
 case atStart => exact ⟨0, Nat.zero_le _, rfl, HA, rfl⟩
 case round =>
  obtain ⟨j, h2, rfl, HJ, rfl⟩ := hrel
  have z1 : (0 : Int) ≤ (j : Int) := by omega
  have z3 : (j : Int) ≤ (s.size : Int) := by omega
  by_cases hlt : j < s.size
  ·have hji : (j : Int) < (s.size : Int) := by omega
   have HD : Hid ((sl s).drop j = s[j] :: (sl s).drop (j + 1)) := a0v s j hlt
   have CI := HIN.out s[j] wr
   cases hp : l0 s[j] with
   | true =>
    rw [hp] at CI
    have HN : Hid ((sl s).take (j + 1) ++ ((sl s).drop (j + 1)).takeWhile l0 = ans) := by
     show _ = ans
     rw [← HJ.out, HD.out, List.takeWhile_cons_of_pos hp, List.take_add_one, a2g s j hlt, Option.toList_some, List.append_assoc]
     rfl
    clear HJ HD
    go_wp2_with fail
    refine CI.mono ?_
    rintro e w1 ⟨rfl, rfl⟩
    clear CI
    go_wp2
    go_roundw
    case rel => exact ⟨j + 1, by omega, by go_num, HN, by first | rfl | trivial⟩
    case measure => simp [intOf]; omega
   | false =>
    rw [hp] at CI
    have hE : sl (s.extract 0 j) = ans := by
     rw [a2P, ← HJ.out, HD.out, List.takeWhile_cons_of_neg (by rw [hp]; simp), List.append_nil]
     simp
    have HE : Hid (Value.string (s.extract 0 j) = str ans) := by show Value.string (s.extract 0 j) = str ans; rw [a0W, hE]
    clear HJ HD hE
    go_wp2_with fail
    refine CI.mono ?_
    rintro e w1 ⟨rfl, rfl⟩
    clear CI
    go_wp2
    go_ret
    exact ⟨by rw [HE.out]; rfl, rfl⟩
  ·obtain rfl : j = s.size := by omega
   have hji : ¬ (s.size : Int) < (s.size : Int) := by omega
   have hE : sl s = ans := by
    rw [← HJ.out, List.drop_eq_nil_of_le (i := s.size) (by rw [q7]; exact Nat.le_refl _), ← q7]
    simp
   have HE : Hid (Value.string s = str ans) := by show Value.string s = str ans; rw [a0W, hE]
   clear HJ hE
   go_wp2
   go_ret
   exact ⟨by show Ending.returned (Value.string s) = _; rw [HE.out], rfl⟩
theorem aT4 (s : ByteArray) (g : Nat) (hs : s.size ≤ 140737488355328) (w : World) (A : VAt w g 3 #[.int .i64 0]) :
  Calls Tryz.prog 81 #[.string s, .func (.func 145) #[] #[.pointer (some ⟨g, 0, none⟩)]] w fun e w' => e = .returned (str ((sl s).takeWhile k6)) ∧ VAt w' g 3 #[.int .i64 (((sl s).takeWhile k6).count 58 : Int)] ∧ w.grownBy w' (some g) := by
 have HIN : Hid (∀ (c : UInt8) (k : Nat) (W : World), k ≤ 140737488355328 → VAt W g 3 #[.int .i64 (k : Int)] → Calls Tryz.prog 145 #[.int .u8 (c.toNat : Int), .pointer (some ⟨g, 0, none⟩)] W fun e w' => e = .returned (.bool (k6 c)) ∧ VAt w' g 3 #[.int .i64 ((k + (if c = 58 then 1 else 0) : Nat) : Int)] ∧ W.grownBy w' (some g)) := fun c k W hk A => az1 c g k hk W A
 obtain ⟨N, hN⟩ : ∃ N, ((sl s).takeWhile k6).count 58 = N := ⟨_, rfl⟩
 have HN0 : Hid (0 + (((sl s).drop 0).takeWhile k6).count 58 = N) := by show 0 + _ = N; rw [Nat.zero_add, List.drop_zero]; exact hN
 rw [hN]
 clear hN
 obtain ⟨ans, hans⟩ : ∃ ans, (sl s).takeWhile k6 = ans := ⟨_, rfl⟩
 have HA : Hid ((sl s).takeWhile k6 = ans) := hans
 rw [hans]
 clear hans
 go_enter Tryz.func81, Tryz.ntmps81
 go_wp2
 go_loopw [5] (fun i wr => ∃ j k : Nat, j ≤ s.size ∧ k ≤ j ∧ i = .int .i64 j ∧ Hid ((sl s).take j ++ ((sl s).drop j).takeWhile k6 = ans) ∧ Hid (k + (((sl s).drop j).takeWhile k6).count 58 = N) ∧ Hid (VAt wr g 3 #[.int .i64 (k : Int)] ∧ w.grownBy wr (some g))) (fun i _ => s.size - (intOf i).toNat)
 case atStart => exact ⟨0, 0, Nat.zero_le _, Nat.le_refl _, rfl, HA, HN0, A, World.grownBy.refl _ _⟩
 case round =>
  clear A HN0 HA
  obtain ⟨j, k, h2, hkj, rfl, HJ, HC, HW⟩ := hrel
  have z1 : (0 : Int) ≤ (j : Int) := by omega
  have z3 : (j : Int) ≤ (s.size : Int) := by omega
  by_cases hlt : j < s.size
  ·have hji : (j : Int) < (s.size : Int) := by omega
   have HD : Hid ((sl s).drop j = s[j] :: (sl s).drop (j + 1)) := a0v s j hlt
   have CI := HIN.out s[j] k wr (by omega) HW.out.1
   cases hp : k6 s[j] with
   | true =>
    rw [hp] at CI
    have HN : Hid ((sl s).take (j + 1) ++ ((sl s).drop (j + 1)).takeWhile k6 = ans) := by
     show _ = ans
     rw [← HJ.out, HD.out, List.takeWhile_cons_of_pos hp, List.take_add_one, a2g s j hlt, Option.toList_some, List.append_assoc]
     rfl
    have HM : Hid (k + (if s[j] = 58 then 1 else 0) + (((sl s).drop (j + 1)).takeWhile k6).count 58 = N) := by
     show _ = N
     rw [← HC.out, HD.out, List.takeWhile_cons_of_pos hp, List.count_cons]
     by_cases h58 : s[j] = 58
     ·rw [if_pos h58, if_pos (by simp [h58])]; omega
     ·rw [if_neg h58, if_neg (by simpa using h58)]; omega
    have HL : Hid (k + (if s[j] = 58 then 1 else 0) ≤ j + 1) := by show _ ≤ j + 1; split <;> omega
    generalize (k + (if s[j] = 58 then 1 else 0)) = k1 at *
    clear HJ HD
    go_wp2_with fail
    refine CI.mono ?_
    rintro e w1 ⟨rfl, A1, K1⟩
    have HW1 : Hid (VAt w1 g _ _ ∧ w.grownBy w1 (some g)) := ⟨A1, d3 HW.out.2 K1⟩
    clear CI A1 K1 HW HC
    go_wp2
    go_roundw
    case rel => exact ⟨j + 1, k1, by omega, HL.out, by go_num, HN, HM, HW1⟩
    case measure => simp [intOf]; omega
   | false =>
    rw [hp] at CI
    have hE : sl (s.extract 0 j) = ans := by
     rw [a2P, ← HJ.out, HD.out, List.takeWhile_cons_of_neg (by rw [hp]; simp), List.append_nil]
     simp
    have HE : Hid (Value.string (s.extract 0 j) = str ans) := by show Value.string (s.extract 0 j) = str ans; rw [a0W, hE]
    have hk : k + (if s[j] = 58 then 1 else 0) = N := by
     have h58 : ¬ s[j] = 58 := fun e => by rw [e] at hp; exact absurd hp (by decide)
     rw [if_neg h58, ← HC.out, HD.out, List.takeWhile_cons_of_neg (by rw [hp]; simp)]
     rfl
    rw [hk] at CI
    clear hk
    clear HJ HD hE
    go_wp2_with fail
    refine CI.mono ?_
    rintro e w1 ⟨rfl, A1, K1⟩
    have HW1 : Hid (VAt w1 g _ _ ∧ w.grownBy w1 (some g)) := ⟨A1, d3 HW.out.2 K1⟩
    clear CI A1 K1 HW HC
    go_wp2
    go_ret
    exact ⟨by rw [HE.out]; rfl, HW1.out.1, HW1.out.2⟩
  ·obtain rfl : j = s.size := by omega
   have hji : ¬ (s.size : Int) < (s.size : Int) := by omega
   have hE : sl s = ans := by
    rw [← HJ.out, List.drop_eq_nil_of_le (i := s.size) (by rw [q7]; exact Nat.le_refl _), ← q7]
    simp
   have HE : Hid (Value.string s = str ans) := by show Value.string s = str ans; rw [a0W, hE]
   obtain rfl : k = N := by
    have := HC.out
    rw [List.drop_eq_nil_of_le (i := s.size) (by rw [q7]; exact Nat.le_refl _)] at this
    simpa using this
   clear HC
   clear HJ hE
   go_wp2
   go_ret
   exact ⟨by show Ending.returned (Value.string s) = _; rw [HE.out], HW.out.1, HW.out.2⟩
theorem aT3 (s : ByteArray) (g : Nat) (hs : s.size ≤ 140737488355328) (w : World) (A : VAt w g 4 #[.bool false]) :
  Calls Tryz.prog 81 #[.string s, .func (.func 146) #[] #[.pointer (some ⟨g, 0, none⟩)]] w fun e w' => e = .returned (str ((sl s).takeWhile t8)) ∧ VAt w' g 4 #[.bool (((sl s).takeWhile t8).contains 46)] ∧ w.grownBy w' (some g) := by
 have HIN : Hid (∀ (c : UInt8) (k : Bool) (W : World), VAt W g 4 #[.bool k] → Calls Tryz.prog 146 #[.int .u8 (c.toNat : Int), .pointer (some ⟨g, 0, none⟩)] W fun e w' => e = .returned (.bool (t8 c)) ∧ VAt w' g 4 #[.bool (k || decide (c = 46))] ∧ W.grownBy w' (some g)) := fun c k W A => az0 c g k W A
 obtain ⟨N, hN⟩ : ∃ N, ((sl s).takeWhile t8).contains 46 = N := ⟨_, rfl⟩
 have HN0 : Hid ((false || (((sl s).drop 0).takeWhile t8).contains 46) = N) := by show (false || _) = N; rw [Bool.false_or, List.drop_zero]; exact hN
 rw [hN]
 clear hN
 obtain ⟨ans, hans⟩ : ∃ ans, (sl s).takeWhile t8 = ans := ⟨_, rfl⟩
 have HA : Hid ((sl s).takeWhile t8 = ans) := hans
 rw [hans]
 clear hans
 go_enter Tryz.func81, Tryz.ntmps81
 go_wp2
 go_loopw [5] (fun i wr => ∃ (j : Nat) (k : Bool), j ≤ s.size ∧ i = .int .i64 j ∧ Hid ((sl s).take j ++ ((sl s).drop j).takeWhile t8 = ans) ∧ Hid ((k || (((sl s).drop j).takeWhile t8).contains 46) = N) ∧ Hid (VAt wr g 4 #[.bool k] ∧ w.grownBy wr (some g))) (fun i _ => s.size - (intOf i).toNat)
 case atStart => exact ⟨0, false, Nat.zero_le _, rfl, HA, HN0, A, World.grownBy.refl _ _⟩
 case round =>
  clear A HN0 HA
  obtain ⟨j, k, h2, rfl, HJ, HC, HW⟩ := hrel
  have z1 : (0 : Int) ≤ (j : Int) := by omega
  have z3 : (j : Int) ≤ (s.size : Int) := by omega
  by_cases hlt : j < s.size
  ·have hji : (j : Int) < (s.size : Int) := by omega
   have HD : Hid ((sl s).drop j = s[j] :: (sl s).drop (j + 1)) := a0v s j hlt
   have CI := HIN.out s[j] k wr HW.out.1
   cases hp : t8 s[j] with
   | true =>
    rw [hp] at CI
    have HN : Hid ((sl s).take (j + 1) ++ ((sl s).drop (j + 1)).takeWhile t8 = ans) := by
     show _ = ans
     rw [← HJ.out, HD.out, List.takeWhile_cons_of_pos hp, List.take_add_one, a2g s j hlt, Option.toList_some, List.append_assoc]
     rfl
    have HM : Hid (((k || decide (s[j] = 46)) || (((sl s).drop (j + 1)).takeWhile t8).contains 46) = N) := by
     show _ = N
     rw [← HC.out, HD.out, List.takeWhile_cons_of_pos hp, List.contains_cons, Bool.or_assoc]
     congr 2
     by_cases h46 : s[j] = 46
     ·rw [h46]; rfl
     ·rw [decide_eq_false h46, beq_eq_false_iff_ne.2 (fun e => h46 e.symm)]
    generalize (k || decide (s[j] = 46)) = k1 at *
    clear HJ HD
    go_wp2_with fail
    refine CI.mono ?_
    rintro e w1 ⟨rfl, A1, K1⟩
    have HW1 : Hid (VAt w1 g _ _ ∧ w.grownBy w1 (some g)) := ⟨A1, d3 HW.out.2 K1⟩
    clear CI A1 K1 HW HC
    go_wp2
    go_roundw
    case rel => exact ⟨j + 1, k1, by omega, by go_num, HN, HM, HW1⟩
    case measure => simp [intOf]; omega
   | false =>
    rw [hp] at CI
    have hE : sl (s.extract 0 j) = ans := by
     rw [a2P, ← HJ.out, HD.out, List.takeWhile_cons_of_neg (by rw [hp]; simp), List.append_nil]
     simp
    have HE : Hid (Value.string (s.extract 0 j) = str ans) := by show Value.string (s.extract 0 j) = str ans; rw [a0W, hE]
    have hk : (k || decide (s[j] = 46)) = N := by
     have h46 : ¬ s[j] = 46 := fun e => by rw [e] at hp; exact absurd hp (by decide)
     rw [decide_eq_false h46, ← HC.out, HD.out, List.takeWhile_cons_of_neg (by rw [hp]; simp)]
     simp
    rw [hk] at CI
    clear hk
    clear HJ HD hE
    go_wp2_with fail
    refine CI.mono ?_
    rintro e w1 ⟨rfl, A1, K1⟩
    have HW1 : Hid (VAt w1 g _ _ ∧ w.grownBy w1 (some g)) := ⟨A1, d3 HW.out.2 K1⟩
    clear CI A1 K1 HW HC
    go_wp2
    go_ret
    exact ⟨by rw [HE.out]; rfl, HW1.out.1, HW1.out.2⟩
  ·obtain rfl : j = s.size := by omega
   have hji : ¬ (s.size : Int) < (s.size : Int) := by omega
   have hE : sl s = ans := by
    rw [← HJ.out, List.drop_eq_nil_of_le (i := s.size) (by rw [q7]; exact Nat.le_refl _), ← q7]
    simp
   have HE : Hid (Value.string s = str ans) := by show Value.string s = str ans; rw [a0W, hE]
   obtain rfl : k = N := by
    have := HC.out
    rw [List.drop_eq_nil_of_le (i := s.size) (by rw [q7]; exact Nat.le_refl _)] at this
    simpa using this
   clear HC
   clear HJ hE
   go_wp2
   go_ret
   exact ⟨by show Ending.returned (Value.string s) = _; rw [HE.out], HW.out.1, HW.out.2⟩
def a2N (s : List UInt8) : List UInt8 := if 2 ≤ (s.takeWhile k6).count 58 then s.takeWhile k6 else []
def a2J (s : List UInt8) : List UInt8 := if (s.takeWhile t8).contains 46 = true then s.takeWhile t8 else []
theorem aW8 (s : ByteArray) (hs : s.size ≤ 140737488355328) (w : World) :
  Calls Tryz.prog 118 #[.string s] w fun e w' => e = .returned (str (a2N (sl s))) ∧ w.grownBy w' none := by
 have hmf : ∀ (fn : Fn) (first cap : Array Value) (w : World), (Instr.makeFunc fn first cap).run Tryz.prog w = .ok (.func fn first cap) w := fun _ _ _ _ => rfl
 have A1 : VAt (w.alloc (.cells #[.int .i64 0] 3)) w.heap.size 3 #[.int .i64 0] := VAt.alloc w 3 #[.int .i64 0]
 have G1 : w.grownBy (w.alloc (.cells #[.int .i64 0] 3)) none := World.grownBy_alloc w _ none
 have C := aT4 s w.heap.size hs _ A1
 have HG : Hid (w.grownBy _ none) := G1
 clear A1 G1
 have hsix : a2N (sl s) = if 2 ≤ ((sl s).takeWhile k6).count 58 then (sl s).takeWhile k6 else [] := rfl
 rw [hsix]
 clear hsix
 generalize ((sl s).takeWhile k6).count 58 = N at *
 generalize (sl s).takeWhile k6 = ans at *
 by_cases hN : 2 ≤ N
 ·rw [if_pos hN]
  have hN' : ¬ (N : Int) < 2 := by omega
  clear hN
  go_enter Tryz.func118, Tryz.ntmps118
  go_wp2_with fail
  refine C.mono ?_
  rintro e w2 ⟨rfl, A2, K2⟩
  have c2 : w2.cell? ⟨w.heap.size, 0, none⟩ = some (.int .i64 (N : Int)) := A2.cell 0
  have HG2 : Hid (w.grownBy w2 none) := Z3 HG.out K2 (fun x hx => by injection hx with hx; omega)
  clear C A2 K2 HG
  go_wp2
  go_ret
  exact ⟨rfl, HG2.out⟩
 ·rw [if_neg hN]
  have hN' : (N : Int) < 2 := by omega
  clear hN
  go_enter Tryz.func118, Tryz.ntmps118
  go_wp2_with fail
  refine C.mono ?_
  rintro e w2 ⟨rfl, A2, K2⟩
  have c2 : w2.cell? ⟨w.heap.size, 0, none⟩ = some (.int .i64 (N : Int)) := A2.cell 0
  have HG2 : Hid (w.grownBy w2 none) := Z3 HG.out K2 (fun x hx => by injection hx with hx; omega)
  clear C A2 K2 HG
  go_wp2
  go_ret
  exact ⟨rfl, HG2.out⟩
theorem aQ6 (s : ByteArray) (hs : s.size ≤ 140737488355328) (w : World) :
  Calls Tryz.prog 119 #[.string s] w fun e w' => e = .returned (str (a2J (sl s))) ∧ w.grownBy w' none := by
 have hmf : ∀ (fn : Fn) (first cap : Array Value) (w : World), (Instr.makeFunc fn first cap).run Tryz.prog w = .ok (.func fn first cap) w := fun _ _ _ _ => rfl
 have A1 : VAt (w.alloc (.cells #[.bool false] 4)) w.heap.size 4 #[.bool false] := VAt.alloc w 4 #[.bool false]
 have G1 : w.grownBy (w.alloc (.cells #[.bool false] 4)) none := World.grownBy_alloc w _ none
 have C := aT3 s w.heap.size hs _ A1
 have HG : Hid (w.grownBy _ none) := G1
 clear A1 G1
 have hquad : a2J (sl s) = if ((sl s).takeWhile t8).contains 46 = true then (sl s).takeWhile t8 else [] := rfl
 rw [hquad]
 clear hquad
 generalize ((sl s).takeWhile t8).contains 46 = N at *
 generalize (sl s).takeWhile t8 = ans at *
 cases N with
 | true =>
  rw [if_pos rfl]
  go_enter Tryz.func119, Tryz.ntmps119
  go_wp2_with fail
  refine C.mono ?_
  rintro e w2 ⟨rfl, A2, K2⟩
  have c2 : w2.cell? ⟨w.heap.size, 0, none⟩ = some (.bool true) := A2.cell 0
  have HG2 : Hid (w.grownBy w2 none) := Z3 HG.out K2 (fun x hx => by injection hx with hx; omega)
  clear C A2 K2 HG
  go_wp2
  go_ret
  exact ⟨rfl, HG2.out⟩
 | false =>
  rw [if_neg (by simp)]
  go_enter Tryz.func119, Tryz.ntmps119
  go_wp2_with fail
  refine C.mono ?_
  rintro e w2 ⟨rfl, A2, K2⟩
  have c2 : w2.cell? ⟨w.heap.size, 0, none⟩ = some (.bool false) := A2.cell 0
  have HG2 : Hid (w.grownBy w2 none) := Z3 HG.out K2 (fun x hx => by injection hx with hx; omega)
  clear C A2 K2 HG
  go_wp2
  go_ret
  exact ⟨rfl, HG2.out⟩
theorem aF7 (s : ByteArray) (hs : s.size ≤ 140737488355328) (w : World) :
  Calls Tryz.prog 121 #[.string s] w fun e w' => e = .returned (str ((sl s).takeWhile l0)) ∧ w = w' := by
 have C := aT5 s hs w
 go_enter Tryz.func121, Tryz.ntmps121
 go_wp2_with fail
 refine C.mono ?_
 rintro e w2 ⟨rfl, rfl⟩
 clear C
 go_wp2
 go_ret
 exact ⟨rfl, rfl⟩
def a0S : List (List UInt8) := L0 ++ a0Q.map fun c => [c]
def Tab (w : World) : Prop := (∃ ao cap, w.cell? ⟨0, 0, none⟩ = some (.slice ao 25 cap) ∧ CV w ao (a0S.map str)) ∧ (∃ t v, w.cell? ⟨2, 0, none⟩ = some (.iface t v)) ∧ ∃ t v, w.cell? ⟨3, 0, none⟩ = some (.iface t v)
theorem Tab.grown {w w' : World} (T : Tab w) (G : w.grownBy w' none) : Tab w' := by
 obtain ⟨⟨ao, cap, h1, h2⟩, ⟨t, v, h3⟩, t', u, h4⟩ := T
 exact ⟨⟨ao, cap, G.cell h1 (by simp), h2.keptNone G⟩, ⟨t, v, G.cell h3 (by simp)⟩, t', u, G.cell h4 (by simp)⟩
theorem a88 {w w' : World} (h : Below w.heap.size w w') : w.grownBy w' none := ⟨h.os, h.tape, h.output, h.size, fun k hk _ => h.block k hk⟩
theorem a6f (n : Nat) : ∀ (L : List (List UInt8)) (_ : ∀ x ∈ L, x.length = n) (s : List UInt8), L.find? (fun x => x.isPrefixOf s) = if s.take n ∈ L then some (s.take n) else none
 | [], _, s => by simp
 | x :: L, h, s => by
  have hx : x.length = n := h x (List.mem_cons_self ..)
  have ih := a6f n L (fun y hy => h y (List.mem_cons_of_mem _ hy)) s
  by_cases hp : x.isPrefixOf s = true
  ·have e : x = s.take n := by
    have := List.prefix_iff_eq_take.1 (List.isPrefixOf_iff_prefix.1 hp)
    rw [hx] at this
    exact this
   rw [List.find?_cons_of_pos (p := fun x : List UInt8 => x.isPrefixOf s) hp, if_pos (by rw [← e]; exact List.mem_cons_self ..), ← e]
  ·rw [List.find?_cons_of_neg (p := fun x : List UInt8 => x.isPrefixOf s) hp, ih]
   have e : ¬ s.take n = x := fun e => hp (List.isPrefixOf_iff_prefix.2 (by rw [← e]; exact List.take_prefix ..))
   by_cases hm : s.take n ∈ L
   ·rw [if_pos hm, if_pos (List.mem_cons_of_mem _ hm)]
   ·rw [if_neg hm, if_neg (by simp [e, hm])]
def a12 (L : List (List UInt8)) (s : List UInt8) : List UInt8 := match L.find? (fun x => x.isPrefixOf s) with
 | some x => x
 | none => []
theorem aW4 (s : List UInt8) : L6 s = a12 a0S s := by
 unfold a12 a0S
 rw [List.find?_append, a6f 2 L0 (by decide), a6f 1 (a0Q.map fun c => [c]) (by decide)]
 unfold L6
 by_cases h2 : s.take 2 ∈ L0
 ·rw [if_pos h2, if_pos h2]
  rfl
 ·rw [if_neg h2, if_neg h2, Option.none_or]
  cases s with
  | nil => decide
  | cons c r =>
   have e1 : (c :: r).take 1 = [c] := rfl
   rw [e1]
   by_cases hc : a0Q.contains c = true
   ·rw [if_pos (by simpa using hc), if_pos (by simpa using hc)]
   ·rw [if_neg (by simpa using hc), if_neg (by simpa using hc)]
theorem at2 {L : List (List UInt8)} {K s : List UInt8} (h : K.isPrefixOf s = true) : a12 (K :: L) s = K := by
 unfold a12; rw [List.find?_cons_of_pos (p := fun x : List UInt8 => x.isPrefixOf s) h]
theorem a8A {L : List (List UInt8)} {K s : List UInt8} (h : K.isPrefixOf s = false) : a12 (K :: L) s = a12 L s := by
 unfold a12; rw [List.find?_cons_of_neg (p := fun x : List UInt8 => x.isPrefixOf s) (by rw [h]; simp)]
theorem aP9 {K s : List UInt8} (h : K.isPrefixOf s = true) : s.take K.length = K := (List.prefix_iff_eq_take.1 (List.isPrefixOf_iff_prefix.1 h)).symm
theorem a9V {K s : List UInt8} {a b : UInt8} : (a :: K).isPrefixOf (b :: s) = (a == b && K.isPrefixOf s) := rfl
theorem aW3 (s : ByteArray) (hs : s.size ≤ 140737488355328) (w : World) (T : Tab w) :
  Calls Tryz.prog 122 #[.string s] w fun e w' => e = .returned (str (L6 (sl s))) ∧ w.grownBy w' none := by
 obtain ⟨⟨ao, cap, h1, h2⟩, -⟩ := T
 rw [aW4]
 obtain ⟨ans, hans⟩ : ∃ ans, a12 a0S (sl s) = ans := ⟨_, rfl⟩
 rw [hans]
 have HA : Hid (a12 (a0S.drop 0) (sl s) = ans) := hans
 have HC : Hid (CV w ao (a0S.map str)) := h2
 have hlen : Hid (a0S.length = 25) := rfl
 have hmost : Hid (∀ K ∈ a0S, K.length ≤ 2) := by show ∀ K ∈ a0S, K.length ≤ 2; decide
 clear hans h2
 generalize a0S = L at *
 go_enter Tryz.func122, Tryz.ntmps122
 go_wp2; go_step3
 go_wp2; go_step3
 go_wp2
 clear h1
 go_loopw [8] (fun i wr => ∃ j : Nat, j ≤ 25 ∧ i = .int .i64 j ∧ Hid (a12 (L.drop j) (sl s) = ans) ∧ w.grownBy wr none) (fun i _ => 25 - (intOf i).toNat)
 case atStart => exact ⟨0, Nat.zero_le _, rfl, HA, World.grownBy.refl _ _⟩
 case round =>
  clear HA
  obtain ⟨j, hj, rfl, HI, G⟩ := hrel
  by_cases hlt : j < 25
  ·have hji : (j : Int) < 25 := by omega
   have hjl : j < L.length := by rw [hlen.out]; exact hlt
   have HD : Hid (L.drop j = L[j] :: L.drop (j + 1)) := List.drop_eq_getElem_cons hjl
   obtain ⟨bb, o, rfl, hc⟩ := HC.out.addr (k := j) (by rw [List.length_map]; exact hjl)
   have hcj := hc j (by rw [List.length_map]; exact hjl)
   rw [List.getElem_map] at hcj
   have hk2 := hmost.out L[j] (List.getElem_mem hjl)
   have c0 : wr.cell? ⟨bb, o + j, none⟩ = some (str L[j]) := G.cell hcj (by simp)
   clear hc hcj HC hmost hlen
   generalize L[j] = K at *
   obtain ⟨KB, hKB⟩ : ∃ KB : ByteArray, ⟨K.toArray⟩ = KB := ⟨_, rfl⟩
   have hsl : sl KB = K := by rw [← hKB]; rfl
   have hsz : KB.size = K.length := by rw [← q7, hsl]
   have HK : Hid (sl KB = K) := hsl
   have hst : str K = .string KB := by rw [str, hKB]
   rw [hst] at c0
   have hki : (KB.size : Int) ≤ 2 := by omega
   have HSZ : Hid (KB.size = K.length) := hsz
   have HG : Hid (w.grownBy wr none) := G
   clear hKB hsl hst G hsz
   go_wp2
   clear c0
   go_loopw [14] (fun i wr => ∃ q : Nat, q ≤ KB.size ∧ i = .int .i64 q ∧ Hid (K.isPrefixOf (sl s) = (K.drop q).isPrefixOf ((sl s).drop q)) ∧ w.grownBy wr none) (fun i _ => KB.size - (intOf i).toNat)
   case atStart => exact ⟨0, Nat.zero_le _, rfl, rfl, HG.out⟩
   case round =>
    clear HG
    obtain ⟨q, hq, rfl, HQ, G⟩ := hrel
    have HG : Hid (w.grownBy wr none) := G
    clear G
    have z0 : (0 : Int) ≤ (q : Int) := by omega
    by_cases hqk : q < KB.size
    ·have hqi : (q : Int) < (KB.size : Int) := by omega
     have HKD : Hid (K.drop q = KB[q] :: K.drop (q + 1)) := by show K.drop q = _; rw [← HK.out]; exact a0v KB q hqk
     by_cases hqs : q < s.size
     ·have hqsi : ¬ (s.size : Int) ≤ (q : Int) := by omega
      have hqs' : (q : Int) < (s.size : Int) := by omega
      have HSD : Hid ((sl s).drop q = s[q] :: (sl s).drop (q + 1)) := a0v s q hqs
      by_cases he : s[q] = KB[q]
      ·have heb : ((s[q].toNat : Int) != (KB[q].toNat : Int)) = false := by rw [he]; simp
       have HN : Hid (K.isPrefixOf (sl s) = (K.drop (q + 1)).isPrefixOf ((sl s).drop (q + 1))) := by
        show _ = _
        rw [HQ.out, HKD.out, HSD.out, a9V, he]
        simp
       clear HQ HKD HSD he
       go_wp2
       go_quiet (fail)
       go_wp2
       go_roundw
       case rel => exact ⟨q + 1, by omega, by go_num, HN, d3 HG.out (f9 _ _ none)⟩
       case measure => simp [intOf]; omega
      ·have heb : ((s[q].toNat : Int) != (KB[q].toNat : Int)) = true := by
        simp only [bne_iff_ne, ne_eq]
        intro e
        exact he (UInt8.toNat_inj.1 (by omega))
       have HN : Hid (K.isPrefixOf (sl s) = false) := by
        show _ = _
        rw [HQ.out, HKD.out, HSD.out, a9V]
        simp only [Bool.and_eq_false_iff, beq_eq_false_iff_ne]
        exact .inl (fun e => he e.symm)
       clear HQ HKD HSD he
       go_wp2
       go_quiet (fail)
       go_wp2
       go_roundw
       case rel => exact ⟨j + 1, by omega, by go_num, by show a12 (L.drop (j + 1)) (sl s) = ans; rw [← HI.out, HD.out, a8A HN.out], d3 HG.out (f9 _ _ none)⟩
       case measure => simp [intOf]; omega
     ·have hqsi : (s.size : Int) ≤ (q : Int) := by omega
      have HN : Hid (K.isPrefixOf (sl s) = false) := by
       show _ = _
       rw [HQ.out, HKD.out, List.drop_eq_nil_of_le («as» := sl s) (i := q) (by rw [q7]; omega)]
       rfl
      clear HQ HKD
      go_wp2
      go_quiet (fail)
      go_wp2
      go_roundw
      case rel => exact ⟨j + 1, by omega, by go_num, by show a12 (L.drop (j + 1)) (sl s) = ans; rw [← HI.out, HD.out, a8A HN.out], d3 HG.out (f9 _ _ none)⟩
      case measure => simp [intOf]; omega
    ·obtain rfl : q = KB.size := by omega
     have hqi : ¬ (KB.size : Int) < (KB.size : Int) := by omega
     have HN : Hid (K.isPrefixOf (sl s) = true) := by
      show _ = _
      rw [HQ.out, List.drop_eq_nil_of_le («as» := K) (by rw [HSZ.out]; exact Nat.le_refl _)]
      rfl
     have hle : KB.size ≤ s.size := by
      have := List.IsPrefix.length_le (List.isPrefixOf_iff_prefix.1 HN.out)
      rw [q7] at this
      rw [HSZ.out]
      exact this
     have hle' : (KB.size : Int) ≤ (s.size : Int) := by omega
     have HE : Hid (Value.string (s.extract 0 KB.size) = str ans) := by
      show _ = _
      rw [a0W, a2P, ← HI.out, HD.out, at2 HN.out, HSZ.out]
      congr 1
      simpa using aP9 HN.out
     clear HQ hqk
     go_wp2
     go_ret
     exact ⟨by rw [HE.out]; rfl, HG.out⟩
  ·obtain rfl : j = 25 := by omega
   have HE : Hid (([] : List UInt8) = ans) := by
    show _ = _
    rw [← HI.out, List.drop_eq_nil_of_le (by rw [hlen.out]; exact Nat.le_refl _)]
    rfl
   go_wp2
   rw [Exit.noGoto_ret]
   go_ret
   exact ⟨by rw [← HE.out]; rfl, G⟩
def V8 (n : Nat) : Nat := if n ≤ 57 then n - 48 else n - 87
def pU (b : Nat) : Nat → List UInt8 → Option Nat
 | v, [] => some v
 | v, c :: r => if V8 c.toNat < b then (if 4294967295 < v * b + V8 c.toNat then none else pU b (v * b + V8 c.toNat) r) else none
theorem a5G {c : UInt8} (h : l0 c = true) : (48 ≤ c.toNat ∧ c.toNat ≤ 57) ∨ (97 ≤ c.toNat ∧ c.toNat ≤ 122) := by
 simp only [l0, D8, a0j, Bool.or_eq_true, Bool.and_eq_true, decide_eq_true_eq] at h
 exact h
theorem a9o (n : Nat) (h1 : 97 ≤ n) (h2 : n ≤ 122) (w : World) :
  Calls Tryz.prog 189 #[.int .u8 (n : Int)] w fun e w' => e = .returned (.int .u8 (n : Int)) ∧ w = w' := by
 have h : ∀ k : Fin 26, bits .or .u8 ((97 + k.1 : Nat) : Int) 32 = ((97 + k.1 : Nat) : Int) := by decide +kernel
 have h3 := h ⟨n - 97, by omega⟩
 simp only [show 97 + (n - 97) = n by omega] at h3
 clear h
 go_enter Tryz.func189, Tryz.ntmps189
 go_wp2
 go_ret
 exact ⟨P7 (by first | exact h3 | rfl), rfl⟩
def a4q (r : Option Nat) (e : Ending) : Prop := ∃ (n : Int) (er : Value), e = .returned (.tuple #[.int .u64 n, er]) ∧ ((r = none ∧ (er = .iface 190 (.int .i64 1) ∨ er = .iface 190 (.int .i64 2))) ∨ (∃ m : Nat, r = some m ∧ n = (m : Int) ∧ er = .nilIface))
theorem a8f (w : World) (e : TypeId) (s : ByteArray) : w.grownBy (Lib.bytesWorld w e s) none :=
 ⟨rfl, rfl, rfl, by rw [Lib.bytesWorld_size]; omega, fun k hk _ => Lib.bytesWorld_at_old w e s k hk⟩
theorem ay4 (t : ByteArray) (hne : t.size ≠ 0) (hmax : t.size ≤ 140737488355328) (ht : ∀ c ∈ sl t, l0 c = true) (w : World) :
  Calls Tryz.prog 171 #[.string t, .int .i64 10, .int .i64 32] w fun e w' => a4q (pU 10 0 (sl t)) e ∧ w.grownBy w' none := by
 have hemp : t.toList.isEmpty = false := by
  rw [← decide_eq_emptyBytes]
  exact decide_eq_false (fun h => hne (by rw [h]; rfl))
 have hcv := Lib.run_convert_string_bytes (P := Tryz.prog) w 9 115 5 t (u := .string) Tryz.underlying9 Tryz.underlying115 Tryz.underlying5
 have HB : Hid (∀ j (hj : j < t.size), (Lib.bytesWorld w 5 t).cell? ⟨w.heap.size, j, none⟩ = some (.int .u8 (t[j].toNat : Int))) := fun j hj => by
  have := Lib.bytesWorld_cell w 5 t j hj
  rw [this]
  congr 3
  have h2 := a2g t j hj
  show (t.data.toList.getD j 0).toNat = _
  rw [List.getD_eq_getElem?_getD, show t.data.toList[j]? = some t[j] from h2]
  rfl
 have HG : Hid (w.grownBy (Lib.bytesWorld w 5 t) none) := a8f _ _ _
 generalize Lib.bytesWorld w 5 t = W1 at *
 have HWD : Hid (∀ j (hj : j < t.size), l0 t[j] = true) := fun j hj => ht _ (List.mem_of_getElem? (a2g t j hj))
 obtain ⟨ans, hans⟩ : ∃ ans, pU 10 0 (sl t) = ans := ⟨_, rfl⟩
 have HA : Hid (pU 10 0 ((sl t).drop 0) = ans) := by show _ = ans; rw [List.drop_zero]; exact hans
 rw [hans]
 have HL : Hid (∀ (n : Nat), 97 ≤ n → n ≤ 122 → ∀ w : World, Calls Tryz.prog 189 #[.int .u8 (n : Int)] w fun e w' => e = .returned (.int .u8 (n : Int)) ∧ w = w') := fun n h1 h2 w => a9o n h1 h2 w
 have hmv : IntKind.u64.wrap (IntKind.u64.wrap 4294967296 - 1) = 4294967295 := by
  rw [IntKind.wrap_u64, IntKind.wrap_u64]
  decide
 clear hans ht hne
 go_enter Tryz.func171, Tryz.ntmps171
 go_wp2
 go_loopw [12, 13, 101] (fun vu vn vi wr => ∃ (k acc : Nat) (a : Int), vu = .bool false ∧ vn = .int .u64 a ∧ vi = .int .i64 k ∧ k ≤ t.size ∧ Hid (a = (acc : Int) ∧ acc ≤ 4294967295 ∧ pU 10 acc ((sl t).drop k) = ans) ∧ wr = W1) (fun _ _ vi _ => t.size - (intOf vi).toNat)
 case atStart => exact ⟨0, 0, 0, rfl, rfl, rfl, Nat.zero_le _, ⟨rfl, Nat.zero_le _, HA.out⟩, rfl⟩
 case round =>
  clear HA hcv
  obtain ⟨k, acc, a, rfl, rfl, rfl, hk, hh, rfl⟩ := hrel
  obtain ⟨ha, hacc, hdec⟩ := hh.out
  clear hh
  have a0 : 0 ≤ a := by omega
  have a1 : a ≤ 4294967295 := by omega
  have z0 : (0 : Int) ≤ (k : Int) := by omega
  by_cases hkn : k < t.size
  ·have hki : (k : Int) < (t.size : Int) := by omega
   have hc := HB.out k hkn
   have hwd := a5G (HWD.out k hkn)
   rw [a0v t k hkn, pU] at hdec
   have hc256 : t[k].toNat < 256 := t[k].toNat_lt
   generalize t[k].toNat = c at *
   have HB' : Hid _ := HB
   clear HB HWD
   have icut : a < 1844674407370955162 := by omega
   have b95 : ((c : Int) == 95) = false := by rw [beq_eq_false_iff_ne]; omega
   rcases hwd with ⟨hd0, hd1⟩ | ⟨hd0, hd1⟩
   ·have hdv : V8 c = c - 48 := by rw [V8, if_pos hd1]
    have i0 : (48 : Int) ≤ (c : Int) := by omega
    have i1 : (c : Int) ≤ 57 := by omega
    have hw0 : IntKind.u8.wrap ((c : Int) - 48) = (c : Int) - 48 := by rw [IntKind.wrap_u8]; omega
    rw [hdv, if_pos (by omega)] at hdec
    by_cases hov : 4294967295 < acc * 10 + (c - 48)
    ·rw [if_pos hov] at hdec
     subst hdec
     have iov : 4294967295 < a * 10 + ((c : Int) - 48) := by omega
     clear hov ha hacc hdv HB' HL hd0 hd1
     go_wp2
     go_ret2
     exact ⟨⟨_, _, rfl, .inl ⟨rfl, .inl rfl⟩⟩, HG.out⟩
    ·rw [if_neg hov] at hdec
     have HN : Hid (a * 10 + ((c : Int) - 48) = ((acc * 10 + (c - 48) : Nat) : Int) ∧ acc * 10 + (c - 48) ≤ 4294967295 ∧ pU 10 (acc * 10 + (c - 48)) ((sl t).drop (k + 1)) = ans) := ⟨by omega, by omega, hdec⟩
     have iov : a * 10 + ((c : Int) - 48) ≤ 4294967295 := by omega
     clear hov ha hacc hdec hdv HB' HL hd0 hd1
     go_wp2
     go_roundw
     case rel => exact ⟨k + 1, acc * 10 + (c - 48), a * 10 + ((c : Int) - 48), rfl, by first | rfl | (congr 1; omega), by go_num, by omega, HN, by first | rfl | trivial⟩
     case measure => simp [intOf]; omega
   ·have hdv : V8 c = c - 87 := by rw [V8, if_neg (by omega)]
    have i0 : (48 : Int) ≤ (c : Int) := by omega
    have i1 : ¬ (c : Int) ≤ 57 := by omega
    have i2 : (97 : Int) ≤ (c : Int) := by omega
    have i3 : (c : Int) ≤ 122 := by omega
    have hw0 : IntKind.u8.wrap ((c : Int) - 97) = (c : Int) - 97 := by rw [IntKind.wrap_u8]; omega
    have hw1 : IntKind.u8.wrap ((c : Int) - 97 + 10) = (c : Int) - 87 := by rw [IntKind.wrap_u8]; omega
    have CL := HL.out c hd0 hd1
    rw [hdv] at hdec
    by_cases hbg : c - 87 < 10
    ·exact absurd hbg (by omega)
    ·rw [if_neg hbg] at hdec
     subst hdec
     have ibg : ¬ (c : Int) - 87 < 10 := by omega
     clear ha hacc hdv HB' HL hd0 hd1 hbg
     go_wp2_with (go_at_call 189; refine (CL _).mono ?_; rintro e w' ⟨rfl, rfl⟩)
     go_ret2
     exact ⟨⟨_, _, rfl, .inl ⟨rfl, .inr rfl⟩⟩, HG.out⟩
  ·obtain rfl : k = t.size := by omega
   have hki : ¬ (t.size : Int) < (t.size : Int) := by omega
   rw [List.drop_eq_nil_of_le (by rw [q7]; exact Nat.le_refl _), pU] at hdec
   subst hdec
   have HN : Hid (a = (acc : Int)) := ha
   clear ha hacc HB HWD HL
   go_wp2
   go_ret2
   exact ⟨⟨_, _, rfl, .inr ⟨acc, rfl, HN.out, rfl⟩⟩, HG.out⟩
theorem ay5 (t : ByteArray) (hne : t.size ≠ 0) (hmax : t.size ≤ 140737488355328) (ht : ∀ c ∈ sl t, l0 c = true) (w : World) :
  Calls Tryz.prog 171 #[.string t, .int .i64 16, .int .i64 32] w fun e w' => a4q (pU 16 0 (sl t)) e ∧ w.grownBy w' none := by
 have hemp : t.toList.isEmpty = false := by
  rw [← decide_eq_emptyBytes]
  exact decide_eq_false (fun h => hne (by rw [h]; rfl))
 have hcv := Lib.run_convert_string_bytes (P := Tryz.prog) w 9 115 5 t (u := .string) Tryz.underlying9 Tryz.underlying115 Tryz.underlying5
 have HB : Hid (∀ j (hj : j < t.size), (Lib.bytesWorld w 5 t).cell? ⟨w.heap.size, j, none⟩ = some (.int .u8 (t[j].toNat : Int))) := fun j hj => by
  have := Lib.bytesWorld_cell w 5 t j hj
  rw [this]
  congr 3
  have h2 := a2g t j hj
  show (t.data.toList.getD j 0).toNat = _
  rw [List.getD_eq_getElem?_getD, show t.data.toList[j]? = some t[j] from h2]
  rfl
 have HG : Hid (w.grownBy (Lib.bytesWorld w 5 t) none) := a8f _ _ _
 generalize Lib.bytesWorld w 5 t = W1 at *
 have HWD : Hid (∀ j (hj : j < t.size), l0 t[j] = true) := fun j hj => ht _ (List.mem_of_getElem? (a2g t j hj))
 obtain ⟨ans, hans⟩ : ∃ ans, pU 16 0 (sl t) = ans := ⟨_, rfl⟩
 have HA : Hid (pU 16 0 ((sl t).drop 0) = ans) := by show _ = ans; rw [List.drop_zero]; exact hans
 rw [hans]
 have HL : Hid (∀ (n : Nat), 97 ≤ n → n ≤ 122 → ∀ w : World, Calls Tryz.prog 189 #[.int .u8 (n : Int)] w fun e w' => e = .returned (.int .u8 (n : Int)) ∧ w = w') := fun n h1 h2 w => a9o n h1 h2 w
 have hmv : IntKind.u64.wrap (IntKind.u64.wrap 4294967296 - 1) = 4294967295 := by
  rw [IntKind.wrap_u64, IntKind.wrap_u64]
  decide
 clear hans ht hne
 go_enter Tryz.func171, Tryz.ntmps171
 go_wp2
 go_loopw [12, 13, 101] (fun vu vn vi wr => ∃ (k acc : Nat) (a : Int), vu = .bool false ∧ vn = .int .u64 a ∧ vi = .int .i64 k ∧ k ≤ t.size ∧ Hid (a = (acc : Int) ∧ acc ≤ 4294967295 ∧ pU 16 acc ((sl t).drop k) = ans) ∧ wr = W1) (fun _ _ vi _ => t.size - (intOf vi).toNat)
 case atStart => exact ⟨0, 0, 0, rfl, rfl, rfl, Nat.zero_le _, ⟨rfl, Nat.zero_le _, HA.out⟩, rfl⟩
 case round =>
  clear HA hcv
  obtain ⟨k, acc, a, rfl, rfl, rfl, hk, hh, rfl⟩ := hrel
  obtain ⟨ha, hacc, hdec⟩ := hh.out
  clear hh
  have a0 : 0 ≤ a := by omega
  have a1 : a ≤ 4294967295 := by omega
  have z0 : (0 : Int) ≤ (k : Int) := by omega
  by_cases hkn : k < t.size
  ·have hki : (k : Int) < (t.size : Int) := by omega
   have hc := HB.out k hkn
   have hwd := a5G (HWD.out k hkn)
   rw [a0v t k hkn, pU] at hdec
   have hc256 : t[k].toNat < 256 := t[k].toNat_lt
   generalize t[k].toNat = c at *
   have HB' : Hid _ := HB
   clear HB HWD
   have icut : a < 1152921504606846976 := by omega
   have b95 : ((c : Int) == 95) = false := by rw [beq_eq_false_iff_ne]; omega
   rcases hwd with ⟨hd0, hd1⟩ | ⟨hd0, hd1⟩
   ·have hdv : V8 c = c - 48 := by rw [V8, if_pos hd1]
    have i0 : (48 : Int) ≤ (c : Int) := by omega
    have i1 : (c : Int) ≤ 57 := by omega
    have hw0 : IntKind.u8.wrap ((c : Int) - 48) = (c : Int) - 48 := by rw [IntKind.wrap_u8]; omega
    rw [hdv, if_pos (by omega)] at hdec
    by_cases hov : 4294967295 < acc * 16 + (c - 48)
    ·rw [if_pos hov] at hdec
     subst hdec
     have iov : 4294967295 < a * 16 + ((c : Int) - 48) := by omega
     clear hov ha hacc hdv HB' HL hd0 hd1
     go_wp2
     go_ret2
     exact ⟨⟨_, _, rfl, .inl ⟨rfl, .inl rfl⟩⟩, HG.out⟩
    ·rw [if_neg hov] at hdec
     have HN : Hid (a * 16 + ((c : Int) - 48) = ((acc * 16 + (c - 48) : Nat) : Int) ∧ acc * 16 + (c - 48) ≤ 4294967295 ∧ pU 16 (acc * 16 + (c - 48)) ((sl t).drop (k + 1)) = ans) := ⟨by omega, by omega, hdec⟩
     have iov : a * 16 + ((c : Int) - 48) ≤ 4294967295 := by omega
     clear hov ha hacc hdec hdv HB' HL hd0 hd1
     go_wp2
     go_roundw
     case rel => exact ⟨k + 1, acc * 16 + (c - 48), a * 16 + ((c : Int) - 48), rfl, by first | rfl | (congr 1; omega), by go_num, by omega, HN, by first | rfl | trivial⟩
     case measure => simp [intOf]; omega
   ·have hdv : V8 c = c - 87 := by rw [V8, if_neg (by omega)]
    have i0 : (48 : Int) ≤ (c : Int) := by omega
    have i1 : ¬ (c : Int) ≤ 57 := by omega
    have i2 : (97 : Int) ≤ (c : Int) := by omega
    have i3 : (c : Int) ≤ 122 := by omega
    have hw0 : IntKind.u8.wrap ((c : Int) - 97) = (c : Int) - 97 := by rw [IntKind.wrap_u8]; omega
    have hw1 : IntKind.u8.wrap ((c : Int) - 97 + 10) = (c : Int) - 87 := by rw [IntKind.wrap_u8]; omega
    have CL := HL.out c hd0 hd1
    rw [hdv] at hdec
    by_cases hbg : c - 87 < 16
    ·rw [if_pos hbg] at hdec
     by_cases hov : 4294967295 < acc * 16 + (c - 87)
     ·rw [if_pos hov] at hdec
      subst hdec
      have iov : 4294967295 < a * 16 + ((c : Int) - 87) := by omega
      have ibg : (c : Int) - 87 < 16 := by omega
      clear hov ha hacc hdv HB' HL hd0 hd1 hbg
      go_wp2_with (go_at_call 189; refine (CL _).mono ?_; rintro e w' ⟨rfl, rfl⟩)
      go_ret2
      exact ⟨⟨_, _, rfl, .inl ⟨rfl, .inl rfl⟩⟩, HG.out⟩
     ·rw [if_neg hov] at hdec
      have HN : Hid (a * 16 + ((c : Int) - 87) = ((acc * 16 + (c - 87) : Nat) : Int) ∧ acc * 16 + (c - 87) ≤ 4294967295 ∧ pU 16 (acc * 16 + (c - 87)) ((sl t).drop (k + 1)) = ans) := ⟨by omega, by omega, hdec⟩
      have iov : a * 16 + ((c : Int) - 87) ≤ 4294967295 := by omega
      have ibg : (c : Int) - 87 < 16 := by omega
      clear hov ha hacc hdec hdv HB' HL hd0 hd1 hbg
      go_wp2_with (go_at_call 189; refine (CL _).mono ?_; rintro e w' ⟨rfl, rfl⟩)
      go_roundw
      case rel => exact ⟨k + 1, acc * 16 + (c - 87), a * 16 + ((c : Int) - 87), rfl, by first | rfl | (congr 1; omega), by go_num, by omega, HN, by first | rfl | trivial⟩
      case measure => simp [intOf]; omega
    ·rw [if_neg hbg] at hdec
     subst hdec
     have ibg : ¬ (c : Int) - 87 < 16 := by omega
     clear ha hacc hdv HB' HL hd0 hd1 hbg
     go_wp2_with (go_at_call 189; refine (CL _).mono ?_; rintro e w' ⟨rfl, rfl⟩)
     go_ret2
     exact ⟨⟨_, _, rfl, .inl ⟨rfl, .inr rfl⟩⟩, HG.out⟩
  ·obtain rfl : k = t.size := by omega
   have hki : ¬ (t.size : Int) < (t.size : Int) := by omega
   rw [List.drop_eq_nil_of_le (by rw [q7]; exact Nat.le_refl _), pU] at hdec
   subst hdec
   have HN : Hid (a = (acc : Int)) := ha
   clear ha hacc HB HWD HL
   go_wp2
   go_ret2
   exact ⟨⟨_, _, rfl, .inr ⟨acc, rfl, HN.out, rfl⟩⟩, HG.out⟩
theorem ay3 (b : Nat) (w : World) :
  Calls Tryz.prog 171 #[.string ⟨#[]⟩, .int .i64 (b : Int), .int .i64 32] w fun e w' => a4q none e ∧ w = w' := by
 go_enter Tryz.func171, Tryz.ntmps171
 go_wp2
 go_ret2
 exact ⟨⟨_, _, rfl, .inl ⟨rfl, .inr rfl⟩⟩, rfl⟩
theorem ar1 {c : UInt8} (h : l0 c = true) : J6 c.toNat = decide (V8 c.toNat < 16) ∧ (J6 c.toNat = true → z6 c.toNat = V8 c.toNat) := by
 have hn := a5G h
 generalize c.toNat = n at *
 unfold V8
 by_cases h1 : n ≤ 57
 ·have := a8p (c := n) (by omega)
  rw [if_pos h1, this.1, decide_eq_true (by omega)]
  exact ⟨rfl, fun _ => this.2⟩
 ·rw [if_neg h1]
  by_cases h2 : n ≤ 102
  ·have := a8q (c := n) (by omega)
   rw [this.1, decide_eq_true (by omega)]
   exact ⟨rfl, fun _ => this.2⟩
  ·have := a8r (c := n) (by omega) (by omega)
   rw [this.1, decide_eq_false (by omega)]
   exact ⟨rfl, fun h => by cases h⟩
theorem ar0 {c : UInt8} (h : l0 c = true) : D8 c = decide (V8 c.toNat < 10) ∧ (D8 c = true → c.toNat - 48 = V8 c.toNat) := by
 have hn := a5G h
 unfold D8 V8
 generalize c.toNat = n at *
 by_cases h1 : n ≤ 57
 ·rw [if_pos h1, decide_eq_true h1, decide_eq_true (show 48 ≤ n by omega), decide_eq_true (show n - 48 < 10 by omega)]
  exact ⟨rfl, fun _ => rfl⟩
 ·rw [if_neg h1, decide_eq_false h1, decide_eq_false (show ¬ n - 87 < 10 by omega)]
  simp
theorem a8Z : ∀ (l : List UInt8) (v : Nat), (∀ c ∈ l, l0 c = true) → a2u v l = pU 16 v l
 | [], _, _ => rfl
 | c :: r, v, h => by
  have hd := ar1 (h c (List.mem_cons_self ..))
  rw [a2u, pU]
  cases ho : J6 c.toNat with
  | false =>
   rw [if_neg (by simp), if_neg (by have := hd.1; rw [ho] at this; simpa using this.symm)]
  | true =>
   have e := hd.2 ho
   have hlt : V8 c.toNat < 16 := by have := hd.1; rw [ho] at this; simpa using this.symm
   rw [if_pos rfl, if_pos hlt, e, Nat.mul_comm 16 v]
   split
   ·rfl
   ·exact a8Z r _ (fun x hx => h x (List.mem_cons_of_mem _ hx))
theorem a8n : ∀ (l : List UInt8) (v : Nat), (∀ c ∈ l, l0 c = true) → J8 4294967295 v l = pU 10 v l
 | [], _, _ => rfl
 | c :: r, v, h => by
  have hd := ar0 (h c (List.mem_cons_self ..))
  rw [J8, pU]
  cases ho : D8 c with
  | false =>
   rw [if_neg (by simp), if_neg (by have := hd.1; rw [ho] at this; simpa using this.symm)]
  | true =>
   have e := hd.2 ho
   have hlt : V8 c.toNat < 10 := by have := hd.1; rw [ho] at this; simpa using this.symm
   rw [if_pos rfl, if_pos hlt, e, Nat.mul_comm 10 v]
   split
   ·rfl
   ·exact a8n r _ (fun x hx => h x (List.mem_cons_of_mem _ hx))
def a1x (b : Nat) (l : List UInt8) : Option Nat := if l = [] then none else pU b 0 l
theorem aJ6 {s : List UInt8} (h : Lib.hasPrefix s [48, 120] = true) (hw : ∀ c ∈ s, l0 c = true) : a0P s = a1x 16 (s.drop 2) := by
 have hp := List.isPrefixOf_iff_prefix.1 (show List.isPrefixOf [48, 120] s = true from h)
 obtain ⟨r, rfl⟩ := hp
 show a0P (48 :: 120 :: r) = a1x 16 r
 cases r with
 | nil => decide
 | cons c r =>
  unfold a0P a1x
  rw [if_pos ⟨by simp, rfl, rfl⟩, if_neg (by simp)]
  exact a8Z _ _ (fun x hx => hw x (List.mem_cons_of_mem _ (List.mem_cons_of_mem _ hx)))
theorem aJ5 {s : List UInt8} (h : Lib.hasPrefix s [48, 120] = false) (hw : ∀ c ∈ s, l0 c = true) (hne : s ≠ []) : a0P s = if s.head? = some 48 ∧ s ≠ [48] then none else a1x 10 s := by
 have h1 : a0P s = D2 4294967295 s := by
  unfold a0P
  rw [if_neg]
  rintro ⟨h2, h3, h4⟩
  match s, h2, h3, h4 with
  | a :: b :: r, _, h3, h4 =>
   simp at h3 h4
   subst h3 h4
   exact absurd h (by show ¬ List.isPrefixOf [48, 120] (48 :: 120 :: r) = false; simp [List.isPrefixOf])
 rw [h1, D2, a1x, if_neg hne, a8n s 0 hw]
 match s, hne with
 | [c], _ =>
  by_cases hc : c = 48
  ·subst hc; simp
  ·simp [hc]
 | a :: b :: r, _ =>
  by_cases ha : a = 48
  ·subst ha; simp
  ·simp [ha]
def ah7 (r : Option Nat) (e : Ending) : Prop := ∃ (n : Int) (er : Value), e = .returned (.tuple #[.int .u64 n, er]) ∧ ((r = none ∧ ∃ ty v, er = .iface ty v) ∨ (∃ m : Nat, r = some m ∧ n = (m : Int) ∧ er = .nilIface))
theorem ay6 (b : Nat) (hb : b = 10 ∨ b = 16) (t : ByteArray) (hmax : t.size ≤ 140737488355328) (ht : ∀ c ∈ sl t, l0 c = true) (w : World) :
  Calls Tryz.prog 171 #[.string t, .int .i64 (b : Int), .int .i64 32] w fun e w' => a4q (a1x b (sl t)) e ∧ w.grownBy w' none := by
 by_cases hz : t.size = 0
 ·have h0 : t = ⟨#[]⟩ := by
   have : sl t = [] := List.length_eq_zero_iff.1 (by rw [q7]; exact hz)
   exact Value.string.inj (by rw [a0W, this])
  subst h0
  refine (ay3 b w).mono ?_
  rintro e w' ⟨h, rfl⟩
  exact ⟨h, World.grownBy.refl _ _⟩
 ·have hne : sl t ≠ [] := fun h => hz (by rw [← q7, h]; rfl)
  rw [a1x, if_neg hne]
  rcases hb with rfl | rfl
  ·exact ay4 t hz hmax ht w
  ·exact ay5 t hz hmax ht w
theorem a9P (b : Nat) (hb : b = 10 ∨ b = 16) (t : ByteArray) (hmax : t.size ≤ 140737488355328) (ht : ∀ c ∈ sl t, l0 c = true) (w : World) (T : Tab w) :
  Calls Tryz.prog 148 #[.string t, .int .i64 (b : Int), .int .i64 32] w fun e w' => ah7 (a1x b (sl t)) e ∧ w.grownBy w' none := by
 have C := ay6 b hb t hmax ht w
 have HT : Hid (Tab w) := T
 generalize a1x b (sl t) = r at *
 clear ht hb T
 go_enter Tryz.func148, Tryz.ntmps148
 go_wp2_with fail
 refine C.mono ?_
 rintro e w1 ⟨⟨n, er, rfl, h⟩, K1⟩
 clear C
 rcases h with ⟨rfl, hr⟩ | ⟨m, rfl, rfl, rfl⟩
 ·obtain ⟨-, ⟨t1, v1, h1⟩, t2, v2, h2⟩ := HT.out.grown K1
  rcases hr with rfl | rfl
  ·have C2 := Tryz.strconv_toError_range ⟨#[80, 97, 114, 115, 101, 85, 105, 110, 116]⟩ t (b : Int) 32 _ w1 (by omega) h2 (.inr ⟨_, _, rfl⟩)
   clear h1 h2 HT
   go_wp2_with fail
   refine C2.mono ?_
   rintro e w2 ⟨N, rfl, -, -, B2⟩
   clear C2
   go_wp2
   go_ret2
   exact ⟨⟨_, _, rfl, .inl ⟨rfl, _, _, rfl⟩⟩, d3 K1 (a88 B2)⟩
  ·have C2 := Tryz.strconv_toError_syntax ⟨#[80, 97, 114, 115, 101, 85, 105, 110, 116]⟩ t (b : Int) 32 _ w1 (by omega) h1 (.inr ⟨_, _, rfl⟩)
   clear h1 h2 HT
   go_wp2_with fail
   refine C2.mono ?_
   rintro e w2 ⟨N, rfl, -, -, B2⟩
   clear C2
   go_wp2
   go_ret2
   exact ⟨⟨_, _, rfl, .inl ⟨rfl, _, _, rfl⟩⟩, d3 K1 (a88 B2)⟩
 ·clear HT
  go_wp2
  go_ret2
  exact ⟨⟨_, _, rfl, .inr ⟨m, rfl, rfl, rfl⟩⟩, K1⟩
def nmV (s : List UInt8) : Except Int (Nat × List UInt8 × Nat) := match a0P s with
 | none => .error 102
 | some n => .ok (1, s, n)
theorem aJ8 (s : ByteArray) (hmax : s.size ≤ 140737488355328) (hne : 0 < s.size) (hw : ∀ c ∈ sl s, l0 c = true) (w : World) (T : Tab w) :
  Calls Tryz.prog 120 #[.string s] w fun e w' => e = .returned (.tuple #[.agg (a2R 0 (nmV (sl s))), .int .i64 (a2S (nmV (sl s)))]) ∧ w.grownBy w' none := by
 have RA := VAt.alloc w 99 (tkA 0 0 [] 0)
 have G0 := World.grownBy_alloc w (.cells (tkA 0 0 [] 0) 99) none
 have C1 := Tryz.strings_CutPrefix s ⟨#[48, 120]⟩
 rw [show (⟨#[48, 120]⟩ : ByteArray).data.toList = [48, 120] from rfl] at C1
 have hne' : sl s ≠ [] := fun h => by rw [← q7, h] at hne; exact absurd hne (by decide)
 have hsl : s.data.toList = sl s := rfl
 rw [hsl] at C1
 cases hp : Lib.hasPrefix (sl s) [48, 120] with
 | true =>
  rw [hp, Lib.trimPrefix, if_pos hp] at C1
  have hn := aJ6 hp hw
  have hd : (sl s).drop ([48, 120] : List UInt8).length = (sl s).drop 2 := rfl
  rw [hd] at C1
  obtain ⟨D, hD⟩ : ∃ D : ByteArray, ⟨((sl s).drop 2).toArray⟩ = D := ⟨_, rfl⟩
  have hDl : sl D = (sl s).drop 2 := by rw [← hD]; rfl
  rw [hD] at C1
  have hDs : D.size ≤ 140737488355328 := by rw [← q7, hDl, List.length_drop, q7]; omega
  have CP := a9P 16 (.inr rfl) D hDs (fun c hc => hw c (List.mem_of_mem_drop (by rw [← hDl]; exact hc)))
  rw [hDl, ← hn] at CP
  have HCP : Hid _ := CP
  have HT : Hid (Tab w) := T
  clear hD hDl hDs hn hd hp hsl hne' hw T CP
  go_enter Tryz.func120, Tryz.ntmps120
  go_upto_region 1 with fail
  rw [show (w.alloc (.cells #[.int .i64 0, .int .i64 0, .string ⟨#[]⟩, .int .u32 0] 99)) = w.alloc (.cells (tkA 0 0 [] 0) 99) from rfl]
  generalize w.alloc (.cells (tkA 0 0 [] 0) 99) = w1 at *
  obtain ⟨R, hR⟩ : ∃ R, w.heap.size = R := ⟨_, rfl⟩
  have HR : Hid (w.heap.size ≤ R) := by show w.heap.size ≤ R; omega
  rw [hR] at RA ⊢
  clear hR
  go_wp2_with fail
  refine (C1 _).mono ?_
  rintro e w2 ⟨rfl, rfl⟩
  clear C1
  have CP := HCP.out _ (HT.out.grown G0)
  clear HCP
  go_wp2_with fail
  refine CP.mono ?_
  rintro e w3 ⟨⟨n, er, rfl, h⟩, K3⟩
  have RA3 := RA.kept K3
  have G3 := d3 G0 K3
  clear CP RA G0 K3
  rcases h with ⟨hr, ty, v, rfl⟩ | ⟨m, hr, rfl, rfl⟩
  ·have HX : Hid (nmV (sl s) = .error 102) := by show nmV _ = _; rw [nmV, hr]
   clear hr
   go_wp2_with (refine wpList_store_row rfl 99 (.tmp 2) (.tmp 34) rfl R (tkA 0 0 [] 0) rfl rfl 99 _ RA3 M2 rfl (by simp [tkA, Value.oneCell']) ?_)
   refine bodyPost_ret (a09 rfl _ _ R (tkA 0 0 [] 0) _ rfl (RA3.setRow _) Tryz.underlying99 rfl M2) rfl ?_
   exact ⟨by rw [HX.out]; rfl, D7 G3 _ _ (.inr HR.out)⟩
  ·have HX : Hid (nmV (sl s) = .ok (1, sl s, m)) := by show nmV _ = _; rw [nmV, hr]
   have hm := a57 hr
   have hwm : IntKind.u32.wrap (m : Int) = (m : Int) := by rw [IntKind.wrap_u32]; omega
   clear hr
   go_wp2_with (refine wpList_store_row rfl 99 (.tmp 2) (.tmp 38) rfl R (tkA 1 0 (sl s) m) rfl rfl 99 _ RA3 M2 rfl (by simp [tkA, Value.oneCell']) ?_)
   refine bodyPost_ret (a09 rfl _ _ R (tkA 1 0 (sl s) m) _ rfl (RA3.setRow _) Tryz.underlying99 rfl M2) rfl ?_
   exact ⟨by rw [HX.out]; rfl, D7 G3 _ _ (.inr HR.out)⟩
 | false =>
  rw [hp, Lib.trimPrefix, if_neg (by rw [hp]; simp)] at C1
  rw [show (⟨(sl s).toArray⟩ : ByteArray) = s from by cases s; simp [sl]] at C1
  have hn := aJ5 hp hw hne'
  have h0 : (sl s).head? = some s[0] := by
   have := a0v s 0 hne
   rw [List.drop_zero] at this
   rw [this]
   rfl
  have CP := a9P 10 (.inl rfl) s hmax hw
  have HT : Hid (Tab w) := T
  have hzz : (s.toList == [48]) = decide (sl s = [48]) := by
   rw [ByteArray.toList_eq]
   show (sl s == [48]) = _
   by_cases h : sl s = [48]
   ·rw [decide_eq_true h, h]; rfl
   ·rw [decide_eq_false h, beq_eq_false_iff_ne]; exact h
  have hni : (0 : Int) < (s.size : Int) := by omega
  by_cases hc : s[0] = 48 ∧ sl s ≠ [48]
  ·rw [if_pos ⟨by rw [h0, hc.1], hc.2⟩] at hn
   have HX : Hid (nmV (sl s) = .error 102) := by show nmV _ = _; rw [nmV, hn]
   have c0 : s[0].toNat = 48 := by rw [hc.1]; rfl
   have hz : (s.toList == [48]) = false := by rw [hzz, decide_eq_false hc.2]
   clear hn h0 hc hzz hp hsl hne' hw T CP HT
   go_enter Tryz.func120, Tryz.ntmps120
   go_upto_region 1 with fail
   rw [show (w.alloc (.cells #[.int .i64 0, .int .i64 0, .string ⟨#[]⟩, .int .u32 0] 99)) = w.alloc (.cells (tkA 0 0 [] 0) 99) from rfl]
   generalize w.alloc (.cells (tkA 0 0 [] 0) 99) = w1 at *
   obtain ⟨R, hR⟩ : ∃ R, w.heap.size = R := ⟨_, rfl⟩
   have HR : Hid (w.heap.size ≤ R) := by show w.heap.size ≤ R; omega
   rw [hR] at RA ⊢
   clear hR
   go_wp2_with fail
   refine (C1 _).mono ?_
   rintro e w2 ⟨rfl, rfl⟩
   clear C1
   go_wp2_with (refine wpList_store_row rfl 99 (.tmp 2) (.tmp 25) rfl R (tkA 0 0 [] 0) rfl rfl 99 _ RA M2 rfl (by simp [tkA, Value.oneCell']) ?_)
   refine bodyPost_ret (a09 rfl _ _ R (tkA 0 0 [] 0) _ rfl (RA.setRow _) Tryz.underlying99 rfl M2) rfl ?_
   exact ⟨by rw [HX.out]; rfl, D7 G0 _ _ (.inr HR.out)⟩
  ·have hn2 : a0P (sl s) = a1x 10 (sl s) := by
    rw [hn, if_neg]
    rintro ⟨h1, h2⟩
    rw [h0] at h1
    exact hc ⟨Option.some.inj h1, h2⟩
   rw [← hn2] at CP
   have HCP : Hid _ := CP
   by_cases h48 : s[0] = 48
   ·have hs48 : sl s = [48] := Decidable.byContradiction fun h => hc ⟨h48, h⟩
    have c0 : s[0].toNat = 48 := by rw [h48]; rfl
    have hz : (s.toList == [48]) = true := by rw [hzz, decide_eq_true hs48]
    clear hn hn2 h0 hc hzz hp hsl hne' hw T CP h48 hs48
    go_enter Tryz.func120, Tryz.ntmps120
    go_upto_region 1 with fail
    rw [show (w.alloc (.cells #[.int .i64 0, .int .i64 0, .string ⟨#[]⟩, .int .u32 0] 99)) = w.alloc (.cells (tkA 0 0 [] 0) 99) from rfl]
    generalize w.alloc (.cells (tkA 0 0 [] 0) 99) = w1 at *
    obtain ⟨R, hR⟩ : ∃ R, w.heap.size = R := ⟨_, rfl⟩
    have HR : Hid (w.heap.size ≤ R) := by show w.heap.size ≤ R; omega
    rw [hR] at RA ⊢
    clear hR
    go_wp2_with fail
    refine (C1 _).mono ?_
    rintro e w2 ⟨rfl, rfl⟩
    clear C1
    have CP := HCP.out _ (HT.out.grown G0)
    clear HCP
    go_wp2_with fail
    refine CP.mono ?_
    rintro e w3 ⟨⟨n, er, rfl, h⟩, K3⟩
    have RA3 := RA.kept K3
    have G3 := d3 G0 K3
    clear CP RA G0 K3
    rcases h with ⟨hr, ty, v, rfl⟩ | ⟨m, hr, rfl, rfl⟩
    ·have HX : Hid (nmV (sl s) = .error 102) := by show nmV _ = _; rw [nmV, hr]
     clear hr
     go_wp2_with (refine wpList_store_row rfl 99 (.tmp 2) (.tmp 34) rfl R (tkA 0 0 [] 0) rfl rfl 99 _ RA3 M2 rfl (by simp [tkA, Value.oneCell']) ?_)
     refine bodyPost_ret (a09 rfl _ _ R (tkA 0 0 [] 0) _ rfl (RA3.setRow _) Tryz.underlying99 rfl M2) rfl ?_
     exact ⟨by rw [HX.out]; rfl, D7 G3 _ _ (.inr HR.out)⟩
    ·have HX : Hid (nmV (sl s) = .ok (1, sl s, m)) := by show nmV _ = _; rw [nmV, hr]
     have hm := a57 hr
     have hwm : IntKind.u32.wrap (m : Int) = (m : Int) := by rw [IntKind.wrap_u32]; omega
     clear hr
     go_wp2_with (refine wpList_store_row rfl 99 (.tmp 2) (.tmp 38) rfl R (tkA 1 0 (sl s) m) rfl rfl 99 _ RA3 M2 rfl (by simp [tkA, Value.oneCell']) ?_)
     refine bodyPost_ret (a09 rfl _ _ R (tkA 1 0 (sl s) m) _ rfl (RA3.setRow _) Tryz.underlying99 rfl M2) rfl ?_
     exact ⟨by rw [HX.out]; rfl, D7 G3 _ _ (.inr HR.out)⟩
   ·have c0 : ((s[0].toNat : Int) == 48) = false := by
     rw [beq_eq_false_iff_ne]
     intro e
     exact h48 (UInt8.toNat_inj.1 (by simpa using (by omega : s[0].toNat = 48)))
    clear hn hn2 h0 hc hzz hp hsl hne' hw T CP h48
    go_enter Tryz.func120, Tryz.ntmps120
    go_upto_region 1 with fail
    rw [show (w.alloc (.cells #[.int .i64 0, .int .i64 0, .string ⟨#[]⟩, .int .u32 0] 99)) = w.alloc (.cells (tkA 0 0 [] 0) 99) from rfl]
    generalize w.alloc (.cells (tkA 0 0 [] 0) 99) = w1 at *
    obtain ⟨R, hR⟩ : ∃ R, w.heap.size = R := ⟨_, rfl⟩
    have HR : Hid (w.heap.size ≤ R) := by show w.heap.size ≤ R; omega
    rw [hR] at RA ⊢
    clear hR
    go_wp2_with fail
    refine (C1 _).mono ?_
    rintro e w2 ⟨rfl, rfl⟩
    clear C1
    have CP := HCP.out _ (HT.out.grown G0)
    clear HCP
    go_wp2_with fail
    refine CP.mono ?_
    rintro e w3 ⟨⟨n, er, rfl, h⟩, K3⟩
    have RA3 := RA.kept K3
    have G3 := d3 G0 K3
    clear CP RA G0 K3
    rcases h with ⟨hr, ty, v, rfl⟩ | ⟨m, hr, rfl, rfl⟩
    ·have HX : Hid (nmV (sl s) = .error 102) := by show nmV _ = _; rw [nmV, hr]
     clear hr
     go_wp2_with (refine wpList_store_row rfl 99 (.tmp 2) (.tmp 34) rfl R (tkA 0 0 [] 0) rfl rfl 99 _ RA3 M2 rfl (by simp [tkA, Value.oneCell']) ?_)
     refine bodyPost_ret (a09 rfl _ _ R (tkA 0 0 [] 0) _ rfl (RA3.setRow _) Tryz.underlying99 rfl M2) rfl ?_
     exact ⟨by rw [HX.out]; rfl, D7 G3 _ _ (.inr HR.out)⟩
    ·have HX : Hid (nmV (sl s) = .ok (1, sl s, m)) := by show nmV _ = _; rw [nmV, hr]
     have hm := a57 hr
     have hwm : IntKind.u32.wrap (m : Int) = (m : Int) := by rw [IntKind.wrap_u32]; omega
     clear hr
     go_wp2_with (refine wpList_store_row rfl 99 (.tmp 2) (.tmp 38) rfl R (tkA 1 0 (sl s) m) rfl rfl 99 _ RA3 M2 rfl (by simp [tkA, Value.oneCell']) ?_)
     refine bodyPost_ret (a09 rfl _ _ R (tkA 1 0 (sl s) m) _ rfl (RA3.setRow _) Tryz.underlying99 rfl M2) rfl ?_
     exact ⟨by rw [HX.out]; rfl, D7 G3 _ _ (.inr HR.out)⟩

end Go.Proofs.YtklipelnjgpnjaaGreatDoor
