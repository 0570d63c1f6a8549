import Derived.Test.YtlfmddjppejmaaaGreatDoorqLotQ7
set_option maxHeartbeats 64000000
set_option maxRecDepth 100000
namespace Go.Proofs.YtlfmddjppejmaaaGreatDoor
open Go.RowKit
def p6 (n : Nat) : Nat :=
 if n = 32 ∨ n = 9 ∨ n = 10 ∨ n = 13 then 1 else if 48 ≤ n ∧ n ≤ 57 then 2 else if 97 ≤ n ∧ n ≤ 102 then 3 else if 103 ≤ n ∧ n ≤ 122 then 4 else if n = 58 then 5 else if n = 46 then 6 else 0
theorem a1i (n : Nat) (w : World) :
  Calls Tryz.prog 30 #[.int .u8 (n : Int)] w fun e w' => e = .returned (.int .i64 (p6 n : Int)) ∧ w = w' := by
 have e1 : ∀ k : Nat, ((n : Int) == (k : Int)) = decide (n = k) := fun k => by
  by_cases h : n = k
  ·subst h; simp
  ·rw [beq_eq_false_iff_ne.2 (by omega), decide_eq_false h]
 have d32 := e1 32
 have d9 := e1 9
 have d10 := e1 10
 have d13 := e1 13
 have d58 := e1 58
 have d46 := e1 46
 clear e1
 unfold p6
 by_cases hb : n = 32 ∨ n = 9 ∨ n = 10 ∨ n = 13
 ·rw [if_pos hb]
  rcases hb with rfl | rfl | rfl | rfl <;>
  ·go_enter Tryz.func30, Tryz.ntmps30
   go_wp2
   go_ret
   exact ⟨rfl, rfl⟩
 rw [if_neg hb]
 have b32 : ((n : Int) == 32) = false := by rw [beq_eq_false_iff_ne]; omega
 have b9 : ((n : Int) == 9) = false := by rw [beq_eq_false_iff_ne]; omega
 have b10 : ((n : Int) == 10) = false := by rw [beq_eq_false_iff_ne]; omega
 have b13 : ((n : Int) == 13) = false := by rw [beq_eq_false_iff_ne]; omega
 clear d32 d9 d10 d13 d58 d46 hb
 by_cases hd : 48 ≤ n ∧ n ≤ 57
 ·rw [if_pos hd]
  have i1 : (48 : Int) ≤ (n : Int) := by omega
  have i2 : (n : Int) ≤ 57 := by omega
  clear hd
  go_enter Tryz.func30, Tryz.ntmps30
  go_wp2
  go_ret
  exact ⟨rfl, rfl⟩
 rw [if_neg hd]
 by_cases hx : 97 ≤ n ∧ n ≤ 102
 ·rw [if_pos hx]
  have i1 : (48 : Int) ≤ (n : Int) := by omega
  have i2 : ¬ (n : Int) ≤ 57 := by omega
  have i3 : (97 : Int) ≤ (n : Int) := by omega
  have i4 : (n : Int) ≤ 102 := by omega
  clear hd hx
  go_enter Tryz.func30, Tryz.ntmps30
  go_wp2
  go_ret
  exact ⟨rfl, rfl⟩
 rw [if_neg hx]
 by_cases hl : 103 ≤ n ∧ n ≤ 122
 ·rw [if_pos hl]
  have i1 : (48 : Int) ≤ (n : Int) := by omega
  have i2 : ¬ (n : Int) ≤ 57 := by omega
  have i3 : (97 : Int) ≤ (n : Int) := by omega
  have i4 : ¬ (n : Int) ≤ 102 := by omega
  have i5 : (103 : Int) ≤ (n : Int) := by omega
  have i6 : (n : Int) ≤ 122 := by omega
  clear hd hx hl
  go_enter Tryz.func30, Tryz.ntmps30
  go_wp2
  go_ret
  exact ⟨rfl, rfl⟩
 rw [if_neg hl]
 by_cases h58 : n = 58
 ·rw [if_pos h58]
  subst h58
  clear b32 b9 b10 b13 hd hx hl
  go_enter Tryz.func30, Tryz.ntmps30
  go_wp2
  go_ret
  exact ⟨rfl, rfl⟩
 rw [if_neg h58]
 have b58 : ((n : Int) == 58) = false := by rw [beq_eq_false_iff_ne]; omega
 by_cases h46 : n = 46
 ·rw [if_pos h46]
  subst h46
  clear b32 b9 b10 b13 hd hx hl b58
  go_enter Tryz.func30, Tryz.ntmps30
  go_wp2
  go_ret
  exact ⟨rfl, rfl⟩
 rw [if_neg h46]
 have b46 : ((n : Int) == 46) = false := by rw [beq_eq_false_iff_ne]; omega
 have c1 : (decide ((48 : Int) ≤ (n : Int)) && decide ((n : Int) ≤ 57)) = false := by simp; omega
 have c2 : (decide ((97 : Int) ≤ (n : Int)) && decide ((n : Int) ≤ 102)) = false := by simp; omega
 have c3 : (decide ((103 : Int) ≤ (n : Int)) && decide ((n : Int) ≤ 122)) = false := by simp; omega
 have hs : n < 48 ∨ (57 < n ∧ n < 97) ∨ 122 < n := by omega
 clear h58 h46 hl c1 c2 c3
 rcases hs with h | ⟨h, h'⟩ | h
 ·have i1 : ¬ (48 : Int) ≤ (n : Int) := by omega
  have i3 : ¬ (97 : Int) ≤ (n : Int) := by omega
  have i5 : ¬ (103 : Int) ≤ (n : Int) := by omega
  clear hd hx h
  go_enter Tryz.func30, Tryz.ntmps30
  go_wp2
  go_ret
  exact ⟨rfl, rfl⟩
 ·have i1 : (48 : Int) ≤ (n : Int) := by omega
  have i2 : ¬ (n : Int) ≤ 57 := by omega
  have i3 : ¬ (97 : Int) ≤ (n : Int) := by omega
  have i5 : ¬ (103 : Int) ≤ (n : Int) := by omega
  clear hd hx h h'
  go_enter Tryz.func30, Tryz.ntmps30
  go_wp2
  go_ret
  exact ⟨rfl, rfl⟩
 ·have i1 : (48 : Int) ≤ (n : Int) := by omega
  have i2 : ¬ (n : Int) ≤ 57 := by omega
  have i3 : (97 : Int) ≤ (n : Int) := by omega
  have i4 : ¬ (n : Int) ≤ 102 := by omega
  have i5 : (103 : Int) ≤ (n : Int) := by omega
  have i6 : ¬ (n : Int) ≤ 122 := by omega
  clear hd hx h
  go_enter Tryz.func30, Tryz.ntmps30
  go_wp2
  go_ret
  exact ⟨rfl, rfl⟩
theorem a7u (c : UInt8) : ((p6 c.toNat : Int) == 1) = y9 c := by
 have h : ∀ k : Fin 256, ((p6 k.1 : Int) == 1) = y9 (UInt8.ofNat k.1) := by decide +kernel
 have := h ⟨c.toNat, c.toNat_lt⟩
 simpa using this
theorem Y9 (c : UInt8) : p6 c.toNat ≤ 6 ∧ o4 c = decide (p6 c.toNat = 2 ∨ p6 c.toNat = 3 ∨ p6 c.toNat = 5) ∧ p7 c = decide (p6 c.toNat = 2 ∨ p6 c.toNat = 6) ∧ j9 c = decide (p6 c.toNat = 2 ∨ p6 c.toNat = 3 ∨ p6 c.toNat = 4) ∧
  decide (c = 58) = decide (p6 c.toNat = 5) ∧ decide (c = 46) = decide (p6 c.toNat = 6) ∧ s8 c = decide (p6 c.toNat = 2) ∧ M1 c = decide (p6 c.toNat = 3 ∨ p6 c.toNat = 4) := by
 have h : ∀ k : Fin 256, p6 k.1 ≤ 6 ∧ o4 (UInt8.ofNat k.1) = decide (p6 k.1 = 2 ∨ p6 k.1 = 3 ∨ p6 k.1 = 5) ∧ p7 (UInt8.ofNat k.1) = decide (p6 k.1 = 2 ∨ p6 k.1 = 6) ∧ j9 (UInt8.ofNat k.1) = decide (p6 k.1 = 2 ∨ p6 k.1 = 3 ∨ p6 k.1 = 4) ∧
  decide (UInt8.ofNat k.1 = 58) = decide (p6 k.1 = 5) ∧ decide (UInt8.ofNat k.1 = 46) = decide (p6 k.1 = 6) ∧ s8 (UInt8.ofNat k.1) = decide (p6 k.1 = 2) ∧ M1 (UInt8.ofNat k.1) = decide (p6 k.1 = 3 ∨ p6 k.1 = 4) := by decide +kernel
 have := h ⟨c.toNat, c.toNat_lt⟩
 simpa only [UInt8.ofNat_toNat] using this
theorem a7q (c : UInt8) (w : World) :
  Calls Tryz.prog 29 #[.int .u8 (c.toNat : Int)] w fun e w' => e = .returned (.bool (y9 c)) ∧ w = w' := by
 rw [← a7u c]
 have C := a1i c.toNat w
 generalize p6 c.toNat = q at *
 go_enter Tryz.func29, Tryz.ntmps29
 go_wp2_with fail
 refine C.mono ?_
 rintro e w1 ⟨rfl, rfl⟩
 clear C
 go_wp2
 go_ret
 exact ⟨rfl, rfl⟩
theorem a7t (c : UInt8) (w : World) :
  Calls Tryz.prog 64 #[.int .u8 (c.toNat : Int)] w fun e w' => e = .returned (.bool (j9 c)) ∧ w = w' := by
 have hk := (Y9 c).1
 rw [(Y9 c).2.2.2.1]
 have C := a1i c.toNat w
 generalize p6 c.toNat = q at *
 have hq : q = 0 ∨ q = 1 ∨ q = 2 ∨ q = 3 ∨ q = 4 ∨ q = 5 ∨ q = 6 := by omega
 clear hk
 rcases hq with rfl | rfl | rfl | rfl | rfl | rfl | rfl <;>
 ·go_enter Tryz.func64, Tryz.ntmps64
  go_wp2_with fail
  refine C.mono ?_
  rintro e w1 ⟨rfl, rfl⟩
  clear C
  go_wp2
  go_ret
  exact ⟨rfl, rfl⟩
theorem a7s (c : UInt8) (g k : Nat) (hk : k ≤ 140737488355328) (w : World) (A : VAt w g 3 #[.int .i64 (k : Int)]) :
  Calls Tryz.prog 60 #[.int .u8 (c.toNat : Int), .pointer (some ⟨g, 0, none⟩)] w fun e w' => e = .returned (.bool (o4 c)) ∧ VAt w' g 3 #[.int .i64 ((k + (if c = 58 then 1 else 0) : Nat) : Int)] ∧ w.grownBy w' (some g) := by
 have hq := (Y9 c).1
 have h5 := (Y9 c).2.2.2.2.1
 rw [(Y9 c).2.1]
 have C := a1i c.toNat w
 generalize p6 c.toNat = q at *
 have A0 : w.cell? ⟨g, 0, none⟩ = some (.int .i64 (k : Int)) := A.cell 0
 have hfz := A.free 0
 have hw1 : IntKind.i64.wrap ((k : Int) + 1) = ((k + 1 : Nat) : Int) := by rw [IntKind.wrap_i64]; omega
 have AS : VAt (w.setCell ⟨g, 0, none⟩ (.int .i64 ((k + 1 : Nat) : Int))) g 3 #[.int .i64 ((k + 1 : Nat) : Int)] := A.set 0 _
 have HA : Hid (VAt w g 3 #[.int .i64 (k : Int)]) := A
 have HAS : Hid _ := AS
 clear A AS
 by_cases hc : c = 58
 ·rw [if_pos hc]
  rw [decide_eq_true hc] at h5
  obtain rfl : q = 5 := of_decide_eq_true h5.symm
  clear hq h5 hc
  go_enter Tryz.func60, Tryz.ntmps60
  go_wp2_with fail
  refine C.mono ?_
  rintro e w1 ⟨rfl, rfl⟩
  clear C
  go_wp2
  go_ret
  exact ⟨rfl, HAS.out, a1I _ _ _⟩
 ·rw [if_neg hc]
  rw [decide_eq_false hc] at h5
  have h5' : q ≠ 5 := of_decide_eq_false h5.symm
  have hs : q = 0 ∨ q = 1 ∨ q = 2 ∨ q = 3 ∨ q = 4 ∨ q = 6 := by omega
  clear hq h5 hc h5' HAS hw1
  rcases hs with rfl | rfl | rfl | rfl | rfl | rfl <;>
  ·go_enter Tryz.func60, Tryz.ntmps60
   go_wp2_with fail
   refine C.mono ?_
   rintro e w1 ⟨rfl, rfl⟩
   clear C
   go_wp2
   go_ret
   exact ⟨rfl, HA.out, World.grownBy.refl _ _⟩
theorem a7r (c : UInt8) (g : Nat) (k : Bool) (w : World) (A : VAt w g 4 #[.bool k]) :
  Calls Tryz.prog 61 #[.int .u8 (c.toNat : Int), .pointer (some ⟨g, 0, none⟩)] w fun e w' => e = .returned (.bool (p7 c)) ∧ VAt w' g 4 #[.bool (k || decide (c = 46))] ∧ w.grownBy w' (some g) := by
 have hq := (Y9 c).1
 have h5 := (Y9 c).2.2.2.2.2.1
 rw [h5, (Y9 c).2.2.1]
 have C := a1i c.toNat w
 generalize p6 c.toNat = q at *
 have A0 : w.cell? ⟨g, 0, none⟩ = some (.bool k) := A.cell 0
 have hfz := A.free 0
 have HA : Hid (∀ b, VAt (w.setCell ⟨g, 0, none⟩ (.bool b)) g 4 #[.bool b]) := fun b => A.set 0 (.bool b)
 clear A h5
 have hs : q = 0 ∨ q = 1 ∨ q = 2 ∨ q = 3 ∨ q = 4 ∨ q = 5 ∨ q = 6 := by omega
 clear hq
 cases k <;>
 ·rcases hs with rfl | rfl | rfl | rfl | rfl | rfl | rfl <;>
  ·go_enter Tryz.func61, Tryz.ntmps61
   go_wp2_with fail
   refine C.mono ?_
   rintro e w1 ⟨rfl, rfl⟩
   clear C
   go_wp2
   go_ret
   exact ⟨rfl, HA.out _, a1I _ _ _⟩
theorem ac7 (s : ByteArray) (hs : s.size ≤ 140737488355328) (w : World) :
  Calls Tryz.prog 28 #[.string s, .func (.func 29) #[] #[]] w fun e w' => e = .returned (str ((sl s).takeWhile y9)) ∧ w = w' := by
 have HIN : Hid (∀ (c : UInt8) (W : World), Calls Tryz.prog 29 #[.int .u8 (c.toNat : Int)] W fun e w' => e = .returned (.bool (y9 c)) ∧ W = w') := fun c W => a7q c W
 obtain ⟨ans, hans⟩ : ∃ ans, (sl s).takeWhile y9 = ans := ⟨_, rfl⟩
 have HA : Hid ((sl s).takeWhile y9 = ans) := hans
 rw [hans]
 clear hans
 go_enter Tryz.func28, Tryz.ntmps28
 go_wp2
 go_loopw [5] (fun i wr => ∃ j : Nat, j ≤ s.size ∧ i = .int .i64 j ∧ Hid ((sl s).take j ++ ((sl s).drop j).takeWhile y9 = ans) ∧ wr = w) (fun i _ => s.size - (intOf i).toNat)
 case atStart => exact ⟨0, Nat.zero_le _, rfl, HA, rfl⟩
 case round =>
  obtain ⟨j, h2, rfl, HJ, rfl⟩ := hrel
  have z1 : (0 : Int) ≤ (j : Int) := by omega
  have z3 : (j : Int) ≤ (s.size : Int) := by omega
  by_cases hlt : j < s.size
  ·have hji : (j : Int) < (s.size : Int) := by omega
   have HD : Hid ((sl s).drop j = s[j] :: (sl s).drop (j + 1)) := D8 s j hlt
   have CI := HIN.out s[j] wr
   cases hp : y9 s[j] with
   | true =>
    rw [hp] at CI
    have HN : Hid ((sl s).take (j + 1) ++ ((sl s).drop (j + 1)).takeWhile y9 = ans) := by
     show _ = ans
     rw [← HJ.out, HD.out, List.takeWhile_cons_of_pos hp, List.take_add_one, Y0 s j hlt, Option.toList_some, List.append_assoc]
     rfl
    clear HJ HD
    go_wp2_with fail
    refine CI.mono ?_
    rintro e w1 ⟨rfl, rfl⟩
    clear CI
    go_wp2
    go_roundw
    case rel => exact ⟨j + 1, by omega, by go_num, HN, by first | rfl | trivial⟩
    case measure => simp [intOf]; omega
   | false =>
    rw [hp] at CI
    have hE : sl (s.extract 0 j) = ans := by
     rw [N1, ← HJ.out, HD.out, List.takeWhile_cons_of_neg (by rw [hp]; simp), List.append_nil]
     simp
    have HE : Hid (Value.string (s.extract 0 j) = str ans) := by show Value.string (s.extract 0 j) = str ans; rw [K0, hE]
    clear HJ HD hE
    go_wp2_with fail
    refine CI.mono ?_
    rintro e w1 ⟨rfl, rfl⟩
    clear CI
    go_wp2
    go_ret
    exact ⟨by rw [HE.out]; rfl, rfl⟩
  ·obtain rfl : j = s.size := by omega
   have hji : ¬ (s.size : Int) < (s.size : Int) := by omega
   have hE : sl s = ans := by
    rw [← HJ.out, List.drop_eq_nil_of_le (i := s.size) (by rw [j0]; exact Nat.le_refl _), ← j0]
    simp
   have HE : Hid (Value.string s = str ans) := by show Value.string s = str ans; rw [K0, hE]
   clear HJ hE
   go_wp2
   go_ret
   exact ⟨by show Ending.returned (Value.string s) = _; rw [HE.out], rfl⟩
theorem ad0 (s : ByteArray) (hs : s.size ≤ 140737488355328) (w : World) :
  Calls Tryz.prog 28 #[.string s, .func (.func 64) #[] #[]] w fun e w' => e = .returned (str ((sl s).takeWhile j9)) ∧ w = w' := by
 have HIN : Hid (∀ (c : UInt8) (W : World), Calls Tryz.prog 64 #[.int .u8 (c.toNat : Int)] W fun e w' => e = .returned (.bool (j9 c)) ∧ W = w') := fun c W => a7t c W
 obtain ⟨ans, hans⟩ : ∃ ans, (sl s).takeWhile j9 = ans := ⟨_, rfl⟩
 have HA : Hid ((sl s).takeWhile j9 = ans) := hans
 rw [hans]
 clear hans
 go_enter Tryz.func28, Tryz.ntmps28
 go_wp2
 go_loopw [5] (fun i wr => ∃ j : Nat, j ≤ s.size ∧ i = .int .i64 j ∧ Hid ((sl s).take j ++ ((sl s).drop j).takeWhile j9 = ans) ∧ wr = w) (fun i _ => s.size - (intOf i).toNat)
 case atStart => exact ⟨0, Nat.zero_le _, rfl, HA, rfl⟩
 case round =>
  obtain ⟨j, h2, rfl, HJ, rfl⟩ := hrel
  have z1 : (0 : Int) ≤ (j : Int) := by omega
  have z3 : (j : Int) ≤ (s.size : Int) := by omega
  by_cases hlt : j < s.size
  ·have hji : (j : Int) < (s.size : Int) := by omega
   have HD : Hid ((sl s).drop j = s[j] :: (sl s).drop (j + 1)) := D8 s j hlt
   have CI := HIN.out s[j] wr
   cases hp : j9 s[j] with
   | true =>
    rw [hp] at CI
    have HN : Hid ((sl s).take (j + 1) ++ ((sl s).drop (j + 1)).takeWhile j9 = ans) := by
     show _ = ans
     rw [← HJ.out, HD.out, List.takeWhile_cons_of_pos hp, List.take_add_one, Y0 s j hlt, Option.toList_some, List.append_assoc]
     rfl
    clear HJ HD
    go_wp2_with fail
    refine CI.mono ?_
    rintro e w1 ⟨rfl, rfl⟩
    clear CI
    go_wp2
    go_roundw
    case rel => exact ⟨j + 1, by omega, by go_num, HN, by first | rfl | trivial⟩
    case measure => simp [intOf]; omega
   | false =>
    rw [hp] at CI
    have hE : sl (s.extract 0 j) = ans := by
     rw [N1, ← HJ.out, HD.out, List.takeWhile_cons_of_neg (by rw [hp]; simp), List.append_nil]
     simp
    have HE : Hid (Value.string (s.extract 0 j) = str ans) := by show Value.string (s.extract 0 j) = str ans; rw [K0, hE]
    clear HJ HD hE
    go_wp2_with fail
    refine CI.mono ?_
    rintro e w1 ⟨rfl, rfl⟩
    clear CI
    go_wp2
    go_ret
    exact ⟨by rw [HE.out]; rfl, rfl⟩
  ·obtain rfl : j = s.size := by omega
   have hji : ¬ (s.size : Int) < (s.size : Int) := by omega
   have hE : sl s = ans := by
    rw [← HJ.out, List.drop_eq_nil_of_le (i := s.size) (by rw [j0]; exact Nat.le_refl _), ← j0]
    simp
   have HE : Hid (Value.string s = str ans) := by show Value.string s = str ans; rw [K0, hE]
   clear HJ hE
   go_wp2
   go_ret
   exact ⟨by show Ending.returned (Value.string s) = _; rw [HE.out], rfl⟩
theorem ac9 (s : ByteArray) (g : Nat) (hs : s.size ≤ 140737488355328) (w : World) (A : VAt w g 3 #[.int .i64 0]) :
  Calls Tryz.prog 28 #[.string s, .func (.func 60) #[] #[.pointer (some ⟨g, 0, none⟩)]] w fun e w' => e = .returned (str ((sl s).takeWhile o4)) ∧ VAt w' g 3 #[.int .i64 (((sl s).takeWhile o4).count 58 : Int)] ∧ w.grownBy w' (some g) := by
 have HIN : Hid (∀ (c : UInt8) (k : Nat) (W : World), k ≤ 140737488355328 → VAt W g 3 #[.int .i64 (k : Int)] → Calls Tryz.prog 60 #[.int .u8 (c.toNat : Int), .pointer (some ⟨g, 0, none⟩)] W fun e w' => e = .returned (.bool (o4 c)) ∧ VAt w' g 3 #[.int .i64 ((k + (if c = 58 then 1 else 0) : Nat) : Int)] ∧ W.grownBy w' (some g)) := fun c k W hk A => a7s c g k hk W A
 obtain ⟨N, hN⟩ : ∃ N, ((sl s).takeWhile o4).count 58 = N := ⟨_, rfl⟩
 have HN0 : Hid (0 + (((sl s).drop 0).takeWhile o4).count 58 = N) := by show 0 + _ = N; rw [Nat.zero_add, List.drop_zero]; exact hN
 rw [hN]
 clear hN
 obtain ⟨ans, hans⟩ : ∃ ans, (sl s).takeWhile o4 = ans := ⟨_, rfl⟩
 have HA : Hid ((sl s).takeWhile o4 = ans) := hans
 rw [hans]
 clear hans
 go_enter Tryz.func28, Tryz.ntmps28
 go_wp2
 go_loopw [5] (fun i wr => ∃ j k : Nat, j ≤ s.size ∧ k ≤ j ∧ i = .int .i64 j ∧ Hid ((sl s).take j ++ ((sl s).drop j).takeWhile o4 = ans) ∧ Hid (k + (((sl s).drop j).takeWhile o4).count 58 = N) ∧ Hid (VAt wr g 3 #[.int .i64 (k : Int)] ∧ w.grownBy wr (some g))) (fun i _ => s.size - (intOf i).toNat)
 case atStart => exact ⟨0, 0, Nat.zero_le _, Nat.le_refl _, rfl, HA, HN0, A, World.grownBy.refl _ _⟩
 case round =>
  clear A HN0 HA
  obtain ⟨j, k, h2, hkj, rfl, HJ, HC, HW⟩ := hrel
  have z1 : (0 : Int) ≤ (j : Int) := by omega
  have z3 : (j : Int) ≤ (s.size : Int) := by omega
  by_cases hlt : j < s.size
  ·have hji : (j : Int) < (s.size : Int) := by omega
   have HD : Hid ((sl s).drop j = s[j] :: (sl s).drop (j + 1)) := D8 s j hlt
   have CI := HIN.out s[j] k wr (by omega) HW.out.1
   cases hp : o4 s[j] with
   | true =>
    rw [hp] at CI
    have HN : Hid ((sl s).take (j + 1) ++ ((sl s).drop (j + 1)).takeWhile o4 = ans) := by
     show _ = ans
     rw [← HJ.out, HD.out, List.takeWhile_cons_of_pos hp, List.take_add_one, Y0 s j hlt, Option.toList_some, List.append_assoc]
     rfl
    have HM : Hid (k + (if s[j] = 58 then 1 else 0) + (((sl s).drop (j + 1)).takeWhile o4).count 58 = N) := by
     show _ = N
     rw [← HC.out, HD.out, List.takeWhile_cons_of_pos hp, List.count_cons]
     by_cases h58 : s[j] = 58
     ·rw [if_pos h58, if_pos (by simp [h58])]; omega
     ·rw [if_neg h58, if_neg (by simpa using h58)]; omega
    have HL : Hid (k + (if s[j] = 58 then 1 else 0) ≤ j + 1) := by show _ ≤ j + 1; split <;> omega
    generalize (k + (if s[j] = 58 then 1 else 0)) = k1 at *
    clear HJ HD
    go_wp2_with fail
    refine CI.mono ?_
    rintro e w1 ⟨rfl, A1, K1⟩
    have HW1 : Hid (VAt w1 g _ _ ∧ w.grownBy w1 (some g)) := ⟨A1, d5 HW.out.2 K1⟩
    clear CI A1 K1 HW HC
    go_wp2
    go_roundw
    case rel => exact ⟨j + 1, k1, by omega, HL.out, by go_num, HN, HM, HW1⟩
    case measure => simp [intOf]; omega
   | false =>
    rw [hp] at CI
    have hE : sl (s.extract 0 j) = ans := by
     rw [N1, ← HJ.out, HD.out, List.takeWhile_cons_of_neg (by rw [hp]; simp), List.append_nil]
     simp
    have HE : Hid (Value.string (s.extract 0 j) = str ans) := by show Value.string (s.extract 0 j) = str ans; rw [K0, hE]
    have hk : k + (if s[j] = 58 then 1 else 0) = N := by
     have h58 : ¬ s[j] = 58 := fun e => by rw [e] at hp; exact absurd hp (by decide)
     rw [if_neg h58, ← HC.out, HD.out, List.takeWhile_cons_of_neg (by rw [hp]; simp)]
     rfl
    rw [hk] at CI
    clear hk
    clear HJ HD hE
    go_wp2_with fail
    refine CI.mono ?_
    rintro e w1 ⟨rfl, A1, K1⟩
    have HW1 : Hid (VAt w1 g _ _ ∧ w.grownBy w1 (some g)) := ⟨A1, d5 HW.out.2 K1⟩
    clear CI A1 K1 HW HC
    go_wp2
    go_ret
    exact ⟨by rw [HE.out]; rfl, HW1.out.1, HW1.out.2⟩
  ·obtain rfl : j = s.size := by omega
   have hji : ¬ (s.size : Int) < (s.size : Int) := by omega
   have hE : sl s = ans := by
    rw [← HJ.out, List.drop_eq_nil_of_le (i := s.size) (by rw [j0]; exact Nat.le_refl _), ← j0]
    simp
   have HE : Hid (Value.string s = str ans) := by show Value.string s = str ans; rw [K0, hE]
   obtain rfl : k = N := by
    have := HC.out
    rw [List.drop_eq_nil_of_le (i := s.size) (by rw [j0]; exact Nat.le_refl _)] at this
    simpa using this
   clear HC
   clear HJ hE
   go_wp2
   go_ret
   exact ⟨by show Ending.returned (Value.string s) = _; rw [HE.out], HW.out.1, HW.out.2⟩
theorem ac8 (s : ByteArray) (g : Nat) (hs : s.size ≤ 140737488355328) (w : World) (A : VAt w g 4 #[.bool false]) :
  Calls Tryz.prog 28 #[.string s, .func (.func 61) #[] #[.pointer (some ⟨g, 0, none⟩)]] w fun e w' => e = .returned (str ((sl s).takeWhile p7)) ∧ VAt w' g 4 #[.bool (((sl s).takeWhile p7).contains 46)] ∧ w.grownBy w' (some g) := by
 have HIN : Hid (∀ (c : UInt8) (k : Bool) (W : World), VAt W g 4 #[.bool k] → Calls Tryz.prog 61 #[.int .u8 (c.toNat : Int), .pointer (some ⟨g, 0, none⟩)] W fun e w' => e = .returned (.bool (p7 c)) ∧ VAt w' g 4 #[.bool (k || decide (c = 46))] ∧ W.grownBy w' (some g)) := fun c k W A => a7r c g k W A
 obtain ⟨N, hN⟩ : ∃ N, ((sl s).takeWhile p7).contains 46 = N := ⟨_, rfl⟩
 have HN0 : Hid ((false || (((sl s).drop 0).takeWhile p7).contains 46) = N) := by show (false || _) = N; rw [Bool.false_or, List.drop_zero]; exact hN
 rw [hN]
 clear hN
 obtain ⟨ans, hans⟩ : ∃ ans, (sl s).takeWhile p7 = ans := ⟨_, rfl⟩
 have HA : Hid ((sl s).takeWhile p7 = ans) := hans
 rw [hans]
 clear hans
 go_enter Tryz.func28, Tryz.ntmps28
 go_wp2
 go_loopw [5] (fun i wr => ∃ (j : Nat) (k : Bool), j ≤ s.size ∧ i = .int .i64 j ∧ Hid ((sl s).take j ++ ((sl s).drop j).takeWhile p7 = ans) ∧ Hid ((k || (((sl s).drop j).takeWhile p7).contains 46) = N) ∧ Hid (VAt wr g 4 #[.bool k] ∧ w.grownBy wr (some g))) (fun i _ => s.size - (intOf i).toNat)
 case atStart => exact ⟨0, false, Nat.zero_le _, rfl, HA, HN0, A, World.grownBy.refl _ _⟩
 case round =>
  clear A HN0 HA
  obtain ⟨j, k, h2, rfl, HJ, HC, HW⟩ := hrel
  have z1 : (0 : Int) ≤ (j : Int) := by omega
  have z3 : (j : Int) ≤ (s.size : Int) := by omega
  by_cases hlt : j < s.size
  ·have hji : (j : Int) < (s.size : Int) := by omega
   have HD : Hid ((sl s).drop j = s[j] :: (sl s).drop (j + 1)) := D8 s j hlt
   have CI := HIN.out s[j] k wr HW.out.1
   cases hp : p7 s[j] with
   | true =>
    rw [hp] at CI
    have HN : Hid ((sl s).take (j + 1) ++ ((sl s).drop (j + 1)).takeWhile p7 = ans) := by
     show _ = ans
     rw [← HJ.out, HD.out, List.takeWhile_cons_of_pos hp, List.take_add_one, Y0 s j hlt, Option.toList_some, List.append_assoc]
     rfl
    have HM : Hid (((k || decide (s[j] = 46)) || (((sl s).drop (j + 1)).takeWhile p7).contains 46) = N) := by
     show _ = N
     rw [← HC.out, HD.out, List.takeWhile_cons_of_pos hp, List.contains_cons, Bool.or_assoc]
     congr 2
     by_cases h46 : s[j] = 46
     ·rw [h46]; rfl
     ·rw [decide_eq_false h46, beq_eq_false_iff_ne.2 (fun e => h46 e.symm)]
    generalize (k || decide (s[j] = 46)) = k1 at *
    clear HJ HD
    go_wp2_with fail
    refine CI.mono ?_
    rintro e w1 ⟨rfl, A1, K1⟩
    have HW1 : Hid (VAt w1 g _ _ ∧ w.grownBy w1 (some g)) := ⟨A1, d5 HW.out.2 K1⟩
    clear CI A1 K1 HW HC
    go_wp2
    go_roundw
    case rel => exact ⟨j + 1, k1, by omega, by go_num, HN, HM, HW1⟩
    case measure => simp [intOf]; omega
   | false =>
    rw [hp] at CI
    have hE : sl (s.extract 0 j) = ans := by
     rw [N1, ← HJ.out, HD.out, List.takeWhile_cons_of_neg (by rw [hp]; simp), List.append_nil]
     simp
    have HE : Hid (Value.string (s.extract 0 j) = str ans) := by show Value.string (s.extract 0 j) = str ans; rw [K0, hE]
    have hk : (k || decide (s[j] = 46)) = N := by
     have h46 : ¬ s[j] = 46 := fun e => by rw [e] at hp; exact absurd hp (by decide)
     rw [decide_eq_false h46, ← HC.out, HD.out, List.takeWhile_cons_of_neg (by rw [hp]; simp)]
     simp
    rw [hk] at CI
    clear hk
    clear HJ HD hE
    go_wp2_with fail
    refine CI.mono ?_
    rintro e w1 ⟨rfl, A1, K1⟩
    have HW1 : Hid (VAt w1 g _ _ ∧ w.grownBy w1 (some g)) := ⟨A1, d5 HW.out.2 K1⟩
    clear CI A1 K1 HW HC
    go_wp2
    go_ret
    exact ⟨by rw [HE.out]; rfl, HW1.out.1, HW1.out.2⟩
  ·obtain rfl : j = s.size := by omega
   have hji : ¬ (s.size : Int) < (s.size : Int) := by omega
   have hE : sl s = ans := by
    rw [← HJ.out, List.drop_eq_nil_of_le (i := s.size) (by rw [j0]; exact Nat.le_refl _), ← j0]
    simp
   have HE : Hid (Value.string s = str ans) := by show Value.string s = str ans; rw [K0, hE]
   obtain rfl : k = N := by
    have := HC.out
    rw [List.drop_eq_nil_of_le (i := s.size) (by rw [j0]; exact Nat.le_refl _)] at this
    simpa using this
   clear HC
   clear HJ hE
   go_wp2
   go_ret
   exact ⟨by show Ending.returned (Value.string s) = _; rw [HE.out], HW.out.1, HW.out.2⟩
def a0u (s : List UInt8) : List UInt8 := if 2 ≤ (s.takeWhile o4).count 58 then s.takeWhile o4 else []
def a0r (s : List UInt8) : List UInt8 := if (s.takeWhile p7).contains 46 = true then s.takeWhile p7 else []
theorem af7 (s : ByteArray) (hs : s.size ≤ 140737488355328) (w : World) :
  Calls Tryz.prog 47 #[.string s] w fun e w' => e = .returned (str (a0u (sl s))) ∧ w.grownBy w' none := by
 have hmf : ∀ (fn : Fn) (first cap : Array Value) (w : World), (Instr.makeFunc fn first cap).run Tryz.prog w = .ok (.func fn first cap) w := fun _ _ _ _ => rfl
 have A1 : VAt (w.alloc (.cells #[.int .i64 0] 3)) w.heap.size 3 #[.int .i64 0] := VAt.alloc w 3 #[.int .i64 0]
 have G1 : w.grownBy (w.alloc (.cells #[.int .i64 0] 3)) none := World.grownBy_alloc w _ none
 have C := ac9 s w.heap.size hs _ A1
 have HG : Hid (w.grownBy _ none) := G1
 clear A1 G1
 have hsix : a0u (sl s) = if 2 ≤ ((sl s).takeWhile o4).count 58 then (sl s).takeWhile o4 else [] := rfl
 rw [hsix]
 clear hsix
 generalize ((sl s).takeWhile o4).count 58 = N at *
 generalize (sl s).takeWhile o4 = ans at *
 by_cases hN : 2 ≤ N
 ·rw [if_pos hN]
  have hN' : ¬ (N : Int) < 2 := by omega
  clear hN
  go_enter Tryz.func47, Tryz.ntmps47
  go_wp2_with fail
  refine C.mono ?_
  rintro e w2 ⟨rfl, A2, K2⟩
  have c2 : w2.cell? ⟨w.heap.size, 0, none⟩ = some (.int .i64 (N : Int)) := A2.cell 0
  have HG2 : Hid (w.grownBy w2 none) := z6 HG.out K2 (fun x hx => by injection hx with hx; omega)
  clear C A2 K2 HG
  go_wp2
  go_ret
  exact ⟨rfl, HG2.out⟩
 ·rw [if_neg hN]
  have hN' : (N : Int) < 2 := by omega
  clear hN
  go_enter Tryz.func47, Tryz.ntmps47
  go_wp2_with fail
  refine C.mono ?_
  rintro e w2 ⟨rfl, A2, K2⟩
  have c2 : w2.cell? ⟨w.heap.size, 0, none⟩ = some (.int .i64 (N : Int)) := A2.cell 0
  have HG2 : Hid (w.grownBy w2 none) := z6 HG.out K2 (fun x hx => by injection hx with hx; omega)
  clear C A2 K2 HG
  go_wp2
  go_ret
  exact ⟨rfl, HG2.out⟩
theorem a8X (s : ByteArray) (hs : s.size ≤ 140737488355328) (w : World) :
  Calls Tryz.prog 48 #[.string s] w fun e w' => e = .returned (str (a0r (sl s))) ∧ w.grownBy w' none := by
 have hmf : ∀ (fn : Fn) (first cap : Array Value) (w : World), (Instr.makeFunc fn first cap).run Tryz.prog w = .ok (.func fn first cap) w := fun _ _ _ _ => rfl
 have A1 : VAt (w.alloc (.cells #[.bool false] 4)) w.heap.size 4 #[.bool false] := VAt.alloc w 4 #[.bool false]
 have G1 : w.grownBy (w.alloc (.cells #[.bool false] 4)) none := World.grownBy_alloc w _ none
 have C := ac8 s w.heap.size hs _ A1
 have HG : Hid (w.grownBy _ none) := G1
 clear A1 G1
 have hquad : a0r (sl s) = if ((sl s).takeWhile p7).contains 46 = true then (sl s).takeWhile p7 else [] := rfl
 rw [hquad]
 clear hquad
 generalize ((sl s).takeWhile p7).contains 46 = N at *
 generalize (sl s).takeWhile p7 = ans at *
 cases N with
 | true =>
  rw [if_pos rfl]
  go_enter Tryz.func48, Tryz.ntmps48
  go_wp2_with fail
  refine C.mono ?_
  rintro e w2 ⟨rfl, A2, K2⟩
  have c2 : w2.cell? ⟨w.heap.size, 0, none⟩ = some (.bool true) := A2.cell 0
  have HG2 : Hid (w.grownBy w2 none) := z6 HG.out K2 (fun x hx => by injection hx with hx; omega)
  clear C A2 K2 HG
  go_wp2
  go_ret
  exact ⟨rfl, HG2.out⟩
 | false =>
  rw [if_neg (by simp)]
  go_enter Tryz.func48, Tryz.ntmps48
  go_wp2_with fail
  refine C.mono ?_
  rintro e w2 ⟨rfl, A2, K2⟩
  have c2 : w2.cell? ⟨w.heap.size, 0, none⟩ = some (.bool false) := A2.cell 0
  have HG2 : Hid (w.grownBy w2 none) := z6 HG.out K2 (fun x hx => by injection hx with hx; omega)
  clear C A2 K2 HG
  go_wp2
  go_ret
  exact ⟨rfl, HG2.out⟩
theorem a7M (s : ByteArray) (hs : s.size ≤ 140737488355328) (w : World) :
  Calls Tryz.prog 50 #[.string s] w fun e w' => e = .returned (str ((sl s).takeWhile j9)) ∧ w = w' := by
 have C := ad0 s hs w
 go_enter Tryz.func50, Tryz.ntmps50
 go_wp2_with fail
 refine C.mono ?_
 rintro e w2 ⟨rfl, rfl⟩
 clear C
 go_wp2
 go_ret
 exact ⟨rfl, rfl⟩
def T1 : List (List UInt8) := L6 ++ X9.map fun c => [c]
def Tab (w : World) : Prop := (∃ ao cap, w.cell? ⟨0, 0, none⟩ = some (.slice ao 25 cap) ∧ CV w ao (T1.map str)) ∧ (∃ t v, w.cell? ⟨1, 0, none⟩ = some (.iface t v)) ∧ ∃ t v, w.cell? ⟨2, 0, none⟩ = some (.iface t v)
theorem Tab.grown {w w' : World} (T : Tab w) (G : w.grownBy w' none) : Tab w' := by
 obtain ⟨⟨ao, cap, h1, h2⟩, ⟨t, v, h3⟩, t', u, h4⟩ := T
 exact ⟨⟨ao, cap, G.cell h1 (by simp), h2.keptNone G⟩, ⟨t, v, G.cell h3 (by simp)⟩, t', u, G.cell h4 (by simp)⟩
theorem a3E {w w' : World} (h : Below w.heap.size w w') : w.grownBy w' none := ⟨h.os, h.tape, h.output, h.size, fun k hk _ => h.block k hk⟩
theorem a2o (n : Nat) : ∀ (L : List (List UInt8)) (_ : ∀ x ∈ L, x.length = n) (s : List UInt8), L.find? (fun x => x.isPrefixOf s) = if s.take n ∈ L then some (s.take n) else none
 | [], _, s => by simp
 | x :: L, h, s => by
  have hx : x.length = n := h x (List.mem_cons_self ..)
  have ih := a2o n L (fun y hy => h y (List.mem_cons_of_mem _ hy)) s
  by_cases hp : x.isPrefixOf s = true
  ·have e : x = s.take n := by
    have := List.prefix_iff_eq_take.1 (List.isPrefixOf_iff_prefix.1 hp)
    rw [hx] at this
    exact this
   rw [List.find?_cons_of_pos (p := fun x : List UInt8 => x.isPrefixOf s) hp, if_pos (by rw [← e]; exact List.mem_cons_self ..), ← e]
  ·rw [List.find?_cons_of_neg (p := fun x : List UInt8 => x.isPrefixOf s) hp, ih]
   have e : ¬ s.take n = x := fun e => hp (List.isPrefixOf_iff_prefix.2 (by rw [← e]; exact List.take_prefix ..))
   by_cases hm : s.take n ∈ L
   ·rw [if_pos hm, if_pos (List.mem_cons_of_mem _ hm)]
   ·rw [if_neg hm, if_neg (by simp [e, hm])]
def T7 (L : List (List UInt8)) (s : List UInt8) : List UInt8 := match L.find? (fun x => x.isPrefixOf s) with
 | some x => x
 | none => []
theorem af4 (s : List UInt8) : t6 s = T7 T1 s := by
 unfold T7 T1
 rw [List.find?_append, a2o 2 L6 (by decide), a2o 1 (X9.map fun c => [c]) (by decide)]
 unfold t6
 by_cases h2 : s.take 2 ∈ L6
 ·rw [if_pos h2, if_pos h2]
  rfl
 ·rw [if_neg h2, if_neg h2, Option.none_or]
  cases s with
  | nil => decide
  | cons c r =>
   have e1 : (c :: r).take 1 = [c] := rfl
   rw [e1]
   by_cases hc : X9.contains c = true
   ·rw [if_pos (by simpa using hc), if_pos (by simpa using hc)]
   ·rw [if_neg (by simpa using hc), if_neg (by simpa using hc)]
theorem a6V {L : List (List UInt8)} {K s : List UInt8} (h : K.isPrefixOf s = true) : T7 (K :: L) s = K := by
 unfold T7; rw [List.find?_cons_of_pos (p := fun x : List UInt8 => x.isPrefixOf s) h]
theorem a3S {L : List (List UInt8)} {K s : List UInt8} (h : K.isPrefixOf s = false) : T7 (K :: L) s = T7 L s := by
 unfold T7; rw [List.find?_cons_of_neg (p := fun x : List UInt8 => x.isPrefixOf s) (by rw [h]; simp)]
theorem a8W {K s : List UInt8} (h : K.isPrefixOf s = true) : s.take K.length = K := (List.prefix_iff_eq_take.1 (List.isPrefixOf_iff_prefix.1 h)).symm
theorem a4W {K s : List UInt8} {a b : UInt8} : (a :: K).isPrefixOf (b :: s) = (a == b && K.isPrefixOf s) := rfl
theorem af3 (s : ByteArray) (hs : s.size ≤ 140737488355328) (w : World) (T : Tab w) :
  Calls Tryz.prog 51 #[.string s] w fun e w' => e = .returned (str (t6 (sl s))) ∧ w.grownBy w' none := by
 obtain ⟨⟨ao, cap, h1, h2⟩, -⟩ := T
 rw [af4]
 obtain ⟨ans, hans⟩ : ∃ ans, T7 T1 (sl s) = ans := ⟨_, rfl⟩
 rw [hans]
 have HA : Hid (T7 (T1.drop 0) (sl s) = ans) := hans
 have HC : Hid (CV w ao (T1.map str)) := h2
 have hlen : Hid (T1.length = 25) := rfl
 have hmost : Hid (∀ K ∈ T1, K.length ≤ 2) := by show ∀ K ∈ T1, K.length ≤ 2; decide
 clear hans h2
 generalize T1 = L at *
 go_enter Tryz.func51, Tryz.ntmps51
 go_wp2; go_step3
 go_wp2; go_step3
 go_wp2
 clear h1
 go_loopw [8] (fun i wr => ∃ j : Nat, j ≤ 25 ∧ i = .int .i64 j ∧ Hid (T7 (L.drop j) (sl s) = ans) ∧ w.grownBy wr none) (fun i _ => 25 - (intOf i).toNat)
 case atStart => exact ⟨0, Nat.zero_le _, rfl, HA, World.grownBy.refl _ _⟩
 case round =>
  clear HA
  obtain ⟨j, hj, rfl, HI, G⟩ := hrel
  by_cases hlt : j < 25
  ·have hji : (j : Int) < 25 := by omega
   have hjl : j < L.length := by rw [hlen.out]; exact hlt
   have HD : Hid (L.drop j = L[j] :: L.drop (j + 1)) := List.drop_eq_getElem_cons hjl
   obtain ⟨bb, o, rfl, hc⟩ := HC.out.addr (k := j) (by rw [List.length_map]; exact hjl)
   have hcj := hc j (by rw [List.length_map]; exact hjl)
   rw [List.getElem_map] at hcj
   have hk2 := hmost.out L[j] (List.getElem_mem hjl)
   have c0 : wr.cell? ⟨bb, o + j, none⟩ = some (str L[j]) := G.cell hcj (by simp)
   clear hc hcj HC hmost hlen
   generalize L[j] = K at *
   obtain ⟨KB, hKB⟩ : ∃ KB : ByteArray, ⟨K.toArray⟩ = KB := ⟨_, rfl⟩
   have hsl : sl KB = K := by rw [← hKB]; rfl
   have hsz : KB.size = K.length := by rw [← j0, hsl]
   have HK : Hid (sl KB = K) := hsl
   have hst : str K = .string KB := by rw [str, hKB]
   rw [hst] at c0
   have hki : (KB.size : Int) ≤ 2 := by omega
   have HSZ : Hid (KB.size = K.length) := hsz
   have HG : Hid (w.grownBy wr none) := G
   clear hKB hsl hst G hsz
   go_wp2
   clear c0
   go_loopw [14] (fun i wr => ∃ q : Nat, q ≤ KB.size ∧ i = .int .i64 q ∧ Hid (K.isPrefixOf (sl s) = (K.drop q).isPrefixOf ((sl s).drop q)) ∧ w.grownBy wr none) (fun i _ => KB.size - (intOf i).toNat)
   case atStart => exact ⟨0, Nat.zero_le _, rfl, rfl, HG.out⟩
   case round =>
    clear HG
    obtain ⟨q, hq, rfl, HQ, G⟩ := hrel
    have HG : Hid (w.grownBy wr none) := G
    clear G
    have z0 : (0 : Int) ≤ (q : Int) := by omega
    by_cases hqk : q < KB.size
    ·have hqi : (q : Int) < (KB.size : Int) := by omega
     have HKD : Hid (K.drop q = KB[q] :: K.drop (q + 1)) := by show K.drop q = _; rw [← HK.out]; exact D8 KB q hqk
     by_cases hqs : q < s.size
     ·have hqsi : ¬ (s.size : Int) ≤ (q : Int) := by omega
      have hqs' : (q : Int) < (s.size : Int) := by omega
      have HSD : Hid ((sl s).drop q = s[q] :: (sl s).drop (q + 1)) := D8 s q hqs
      by_cases he : s[q] = KB[q]
      ·have heb : ((s[q].toNat : Int) != (KB[q].toNat : Int)) = false := by rw [he]; simp
       have HN : Hid (K.isPrefixOf (sl s) = (K.drop (q + 1)).isPrefixOf ((sl s).drop (q + 1))) := by
        show _ = _
        rw [HQ.out, HKD.out, HSD.out, a4W, he]
        simp
       clear HQ HKD HSD he
       go_wp2
       go_quiet (fail)
       go_wp2
       go_roundw
       case rel => exact ⟨q + 1, by omega, by go_num, HN, d5 HG.out (f8 _ _ none)⟩
       case measure => simp [intOf]; omega
      ·have heb : ((s[q].toNat : Int) != (KB[q].toNat : Int)) = true := by
        simp only [bne_iff_ne, ne_eq]
        intro e
        exact he (UInt8.toNat_inj.1 (by omega))
       have HN : Hid (K.isPrefixOf (sl s) = false) := by
        show _ = _
        rw [HQ.out, HKD.out, HSD.out, a4W]
        simp only [Bool.and_eq_false_iff, beq_eq_false_iff_ne]
        exact .inl (fun e => he e.symm)
       clear HQ HKD HSD he
       go_wp2
       go_quiet (fail)
       go_wp2
       go_roundw
       case rel => exact ⟨j + 1, by omega, by go_num, by show T7 (L.drop (j + 1)) (sl s) = ans; rw [← HI.out, HD.out, a3S HN.out], d5 HG.out (f8 _ _ none)⟩
       case measure => simp [intOf]; omega
     ·have hqsi : (s.size : Int) ≤ (q : Int) := by omega
      have HN : Hid (K.isPrefixOf (sl s) = false) := by
       show _ = _
       rw [HQ.out, HKD.out, @List.drop_eq_nil_of_le _ (sl s) q (by rw [j0]; omega)]
       rfl
      clear HQ HKD
      go_wp2
      go_quiet (fail)
      go_wp2
      go_roundw
      case rel => exact ⟨j + 1, by omega, by go_num, by show T7 (L.drop (j + 1)) (sl s) = ans; rw [← HI.out, HD.out, a3S HN.out], d5 HG.out (f8 _ _ none)⟩
      case measure => simp [intOf]; omega
    ·obtain rfl : q = KB.size := by omega
     have hqi : ¬ (KB.size : Int) < (KB.size : Int) := by omega
     have HN : Hid (K.isPrefixOf (sl s) = true) := by
      show _ = _
      rw [HQ.out, @List.drop_eq_nil_of_le _ K _ (by rw [HSZ.out]; exact Nat.le_refl _)]
      rfl
     have hle : KB.size ≤ s.size := by
      have := List.IsPrefix.length_le (List.isPrefixOf_iff_prefix.1 HN.out)
      rw [j0] at this
      rw [HSZ.out]
      exact this
     have hle' : (KB.size : Int) ≤ (s.size : Int) := by omega
     have HE : Hid (Value.string (s.extract 0 KB.size) = str ans) := by
      show _ = _
      rw [K0, N1, ← HI.out, HD.out, a6V HN.out, HSZ.out]
      congr 1
      simpa using a8W HN.out
     clear HQ hqk
     go_wp2
     go_ret
     exact ⟨by rw [HE.out]; rfl, HG.out⟩
  ·obtain rfl : j = 25 := by omega
   have HE : Hid (([] : List UInt8) = ans) := by
    show _ = _
    rw [← HI.out, List.drop_eq_nil_of_le (by rw [hlen.out]; exact Nat.le_refl _)]
    rfl
   go_wp2
   rw [Exit.noGoto_ret]
   go_ret
   exact ⟨by rw [← HE.out]; rfl, G⟩

end Go.Proofs.YtlfmddjppejmaaaGreatDoor
