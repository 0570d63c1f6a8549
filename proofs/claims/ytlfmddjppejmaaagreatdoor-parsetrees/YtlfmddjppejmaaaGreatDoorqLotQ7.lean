import Derived.Test.YtlfmddjppejmaaaGreatDoorqLotQ5
import Derived.Test.YtlfmddjppejmaaaGreatDoorqLotQ6
import Derived.Test.YtlfmddjppejmaaaGreatDoorqLotQ4
import Derived.Test.YtlfmddjppejmaaaGreatDoorqLotQ3
import Derived.Test.YtlfmddjppejmaaaGreatDoorqLotQ2
import Derived.Test.YtlfmddjppejmaaaGreatDoorqLotQ1
set_option maxHeartbeats 64000000
set_option maxRecDepth 100000
namespace Go.Proofs.YtlfmddjppejmaaaGreatDoor
open Go.RowKit
def tkA (q p : Nat) (t : List UInt8) (n : Nat) : Array Value := #[.int .i64 (q : Int), .int .i64 (p : Int), str t, .int .u32 (n : Int)]
theorem p5 : (Tryz.prog.info? 42).map (·.size) = some 4 := by kernel_rfl
def Y2 (p : Nat) (x : Except Int (Nat × List UInt8 × Nat)) : Array Value := match x with
 | .ok (q, t, n) => tkA q p t n
 | .error _ => tkA 0 0 [] 0
def Y3 (x : Except Int (Nat × List UInt8 × Nat)) : Int := match x with
 | .ok _ => 0
 | .error e => e
theorem a9e (s : ByteArray) (at' : Nat) (ha : at' < s.size) (hs : s.size ≤ 140737488355328) (w : World) :
  Calls Tryz.prog 20 #[.string s, .int .i64 (at' : Int)] w fun e w' => e = .returned (.tuple #[.agg (Y2 at' (o7 ((sl s).drop at'))), .int .i64 (Y3 (o7 ((sl s).drop at')))]) ∧ w.grownBy w' none := by
 obtain ⟨X, hX⟩ : ∃ X, (sl s).drop at' = X := ⟨_, rfl⟩
 have hhead : X.head? = some s[at'] := by rw [← hX, D8 s at' ha]; rfl
 have hXl : X.length ≤ 140737488355328 := by rw [← hX, List.length_drop, j0]; omega
 have HRUN : Hid (∀ (k : Nat) (_ : k = 1 ∨ k = 2 ∨ k = 3) (W : World), Calls Tryz.prog 36 #[.string s, .int .i64 (at' : Int), .int .i64 (k : Int)] W fun e w' => e = .returned (str (X.takeWhile (a06 k))) ∧ W = w') := fun k hk W => by
  have := a9c s at' k hk (by omega) hs W
  rw [hX] at this
  exact this
 have HCNT : Hid (∀ (xs : List UInt8) (c : UInt8) (W : World), xs.length ≤ 140737488355328 → Calls Tryz.prog 37 #[str xs, .int .u8 (c.toNat : Int)] W fun e w' => e = .returned (.int .i64 (xs.count c : Int)) ∧ W = w') := fun xs c W hl => a95 ⟨xs.toArray⟩ c (by rw [← j0, J3]; exact hl) W
 have HSG : Hid (∀ W : World, Calls Tryz.prog 41 #[.string s, .int .i64 (at' : Int)] W fun e w' => e = .returned (str (t6 X)) ∧ W = w') := fun W => by
  have := a9d s at' ha hs W
  rw [hX] at this
  exact this
 have HNM : Hid (∀ (xs : List UInt8) (W : World), xs.length ≤ 140737488355328 → Calls Tryz.prog 39 #[str xs] W fun e w' => e = .returned (.tuple #[.int .u32 (((E1 xs).getD 0 : Nat) : Int), .bool (E1 xs).isSome]) ∧ W = w') := fun xs W hl => a9a ⟨xs.toArray⟩ (by rw [← j0, J3]; exact hl) W
 have hl1 := Nat.le_trans (Y1 o4 X) hXl
 have hl2 := Nat.le_trans (Y1 p7 X) hXl
 have hl3 := Nat.le_trans (Y1 j9 X) hXl
 have R1 : Hid (∀ W : World, Calls Tryz.prog 36 #[.string s, .int .i64 (at' : Int), .int .i64 1] W fun e w' => e = .returned (str (X.takeWhile o4)) ∧ W = w') := fun W => HRUN.out 1 (.inl rfl) W
 have R2 : Hid (∀ W : World, Calls Tryz.prog 36 #[.string s, .int .i64 (at' : Int), .int .i64 2] W fun e w' => e = .returned (str (X.takeWhile p7)) ∧ W = w') := fun W => HRUN.out 2 (.inr (.inl rfl)) W
 have R3 : Hid (∀ W : World, Calls Tryz.prog 36 #[.string s, .int .i64 (at' : Int), .int .i64 3] W fun e w' => e = .returned (str (X.takeWhile j9)) ∧ W = w') := fun W => HRUN.out 3 (.inr (.inr rfl)) W
 have C1 : Hid (∀ W : World, Calls Tryz.prog 37 #[str (X.takeWhile o4), .int .u8 58] W fun e w' => e = .returned (.int .i64 ((X.takeWhile o4).count 58 : Int)) ∧ W = w') := fun W => HCNT.out _ 58 W hl1
 have C2 : Hid (∀ W : World, Calls Tryz.prog 37 #[str (X.takeWhile p7), .int .u8 46] W fun e w' => e = .returned (.int .i64 ((X.takeWhile p7).count 46 : Int)) ∧ W = w') := fun W => HCNT.out _ 46 W hl2
 have N3 : Hid (∀ W : World, Calls Tryz.prog 39 #[str (X.takeWhile j9)] W fun e w' => e = .returned (.tuple #[.int .u32 (((E1 (X.takeWhile j9)).getD 0 : Nat) : Int), .bool (E1 (X.takeWhile j9)).isSome]) ∧ W = w') := fun W => HNM.out _ W hl3
 have DG : Hid (∀ W : World, Calls Tryz.prog 38 #[.int .u8 (s[at'].toNat : Int)] W fun e w' => e = .returned (.bool (s8 s[at'])) ∧ W = w') := fun W => a2W s[at'] W
 have LT : Hid (∀ W : World, Calls Tryz.prog 40 #[.int .u8 (s[at'].toNat : Int)] W fun e w' => e = .returned (.bool (M1 s[at'])) ∧ W = w') := fun W => a54 s[at'] W
 have RA := VAt.alloc w 42 (tkA 0 0 [] 0)
 have G0 := World.grownBy_alloc w (.cells (tkA 0 0 [] 0) 42) none
 rw [hX]
 have e0 : o7 X = if 2 ≤ (X.takeWhile o4).count 58 then .ok (4, X.takeWhile o4, 0)
  else if s8 s[at'] = true then
   (if 46 ∈ X.takeWhile p7 then .ok (3, X.takeWhile p7, 0)
   else match E1 (X.takeWhile j9) with
    | none => .error 102
    | some n => .ok (1, X.takeWhile j9, n))
  else if M1 s[at'] = true then .ok (2, X.takeWhile j9, 0)
  else if t6 X = [] then .error 101 else .ok (5, t6 X, 0) := by
  unfold o7
  rw [hhead]
  rfl
 rw [e0]
 have hai : (at' : Int) < (s.size : Int) := by omega
 have hz0 : (0 : Int) ≤ (at' : Int) := by omega
 clear e0 HRUN HCNT HNM hX hhead
 obtain ⟨S6, hS6⟩ : ∃ S6, X.takeWhile o4 = S6 := ⟨_, rfl⟩
 obtain ⟨S4, hS4⟩ : ∃ S4, X.takeWhile p7 = S4 := ⟨_, rfl⟩
 obtain ⟨SW, hSW⟩ : ∃ SW, X.takeWhile j9 = SW := ⟨_, rfl⟩
 obtain ⟨SG, hSG⟩ : ∃ SG, t6 X = SG := ⟨_, rfl⟩
 rw [hS6] at R1 C1 ⊢
 rw [hS4] at R2 C2 ⊢
 rw [hSW] at R3 N3 ⊢
 rw [hSG] at HSG ⊢
 clear hS6 hS4 hSW hSG hl1 hl2 hl3 hXl
 by_cases h6 : 2 ≤ S6.count 58
 ·rw [if_pos h6]
  generalize S6.count 58 = n6 at *
  have h6' : (2 : Int) ≤ (n6 : Int) := by omega
  go_enter Tryz.func20, Tryz.ntmps20
  go_upto_region 1 with fail
  rw [show (w.alloc (.cells #[.int .i64 0, .int .i64 0, .string ⟨#[]⟩, .int .u32 0] 42)) = w.alloc (.cells (tkA 0 0 [] 0) 42) from rfl]
  generalize w.alloc (.cells (tkA 0 0 [] 0) 42) = w1 at *
  obtain ⟨R, hR⟩ : ∃ R, w.heap.size = R := ⟨_, rfl⟩
  have HR : Hid (w.heap.size ≤ R) := by show w.heap.size ≤ R; omega
  rw [hR] at RA ⊢
  clear hR
  go_wp2_with fail
  refine (R1.out _).mono ?_
  rintro e w2 ⟨rfl, rfl⟩
  go_wp2_with fail
  refine (C1.out _).mono ?_
  rintro e w2 ⟨rfl, rfl⟩
  go_wp2_with (refine wpList_store_row rfl 42 (.tmp 4) (.tmp 20) rfl R (tkA 4 at' S6 0) rfl rfl 42 _ RA p5 rfl (by simp [tkA, Value.oneCell']) ?_)
  refine bodyPost_ret (l8 rfl _ _ R (tkA 4 at' S6 0) _ rfl (RA.setRow _) Tryz.underlying42 rfl p5) rfl ?_
  exact ⟨rfl, j7 G0 _ _ (.inr HR.out)⟩
 rw [if_neg h6]
 generalize S6.count 58 = n6 at *
 have h6' : ¬ (2 : Int) ≤ (n6 : Int) := by omega
 cases hd : s8 s[at'] with
 | true =>
  rw [if_pos rfl]
  rw [hd] at DG
  by_cases h4 : 46 ∈ S4
  ·rw [if_pos h4]
   have hc := List.count_pos_iff.2 h4
   generalize S4.count 46 = n4 at *
   have h4' : (0 : Int) < (n4 : Int) := by omega
   go_enter Tryz.func20, Tryz.ntmps20
   go_upto_region 1 with fail
   rw [show (w.alloc (.cells #[.int .i64 0, .int .i64 0, .string ⟨#[]⟩, .int .u32 0] 42)) = w.alloc (.cells (tkA 0 0 [] 0) 42) from rfl]
   generalize w.alloc (.cells (tkA 0 0 [] 0) 42) = w1 at *
   obtain ⟨R, hR⟩ : ∃ R, w.heap.size = R := ⟨_, rfl⟩
   have HR : Hid (w.heap.size ≤ R) := by show w.heap.size ≤ R; omega
   rw [hR] at RA ⊢
   clear hR
   go_wp2_with fail
   refine (R1.out _).mono ?_
   rintro e w2 ⟨rfl, rfl⟩
   go_wp2_with fail
   refine (C1.out _).mono ?_
   rintro e w2 ⟨rfl, rfl⟩
   go_wp2_with fail
   refine (DG.out _).mono ?_
   rintro e w2 ⟨rfl, rfl⟩
   go_wp2_with fail
   refine (R2.out _).mono ?_
   rintro e w2 ⟨rfl, rfl⟩
   go_wp2_with fail
   refine (C2.out _).mono ?_
   rintro e w2 ⟨rfl, rfl⟩
   go_wp2_with (refine wpList_store_row rfl 42 (.tmp 4) (.tmp 33) rfl R (tkA 3 at' S4 0) rfl rfl 42 _ RA p5 rfl (by simp [tkA, Value.oneCell']) ?_)
   refine bodyPost_ret (l8 rfl _ _ R (tkA 3 at' S4 0) _ rfl (RA.setRow _) Tryz.underlying42 rfl p5) rfl ?_
   exact ⟨rfl, j7 G0 _ _ (.inr HR.out)⟩
  rw [if_neg h4]
  have hc := List.count_eq_zero.2 h4
  rw [hc] at C2
  cases hn : E1 SW with
  | none =>
   rw [hn] at N3
   go_enter Tryz.func20, Tryz.ntmps20
   go_upto_region 1 with fail
   rw [show (w.alloc (.cells #[.int .i64 0, .int .i64 0, .string ⟨#[]⟩, .int .u32 0] 42)) = w.alloc (.cells (tkA 0 0 [] 0) 42) from rfl]
   generalize w.alloc (.cells (tkA 0 0 [] 0) 42) = w1 at *
   obtain ⟨R, hR⟩ : ∃ R, w.heap.size = R := ⟨_, rfl⟩
   have HR : Hid (w.heap.size ≤ R) := by show w.heap.size ≤ R; omega
   rw [hR] at RA ⊢
   clear hR
   go_wp2_with fail
   refine (R1.out _).mono ?_
   rintro e w2 ⟨rfl, rfl⟩
   go_wp2_with fail
   refine (C1.out _).mono ?_
   rintro e w2 ⟨rfl, rfl⟩
   go_wp2_with fail
   refine (DG.out _).mono ?_
   rintro e w2 ⟨rfl, rfl⟩
   go_wp2_with fail
   refine (R2.out _).mono ?_
   rintro e w2 ⟨rfl, rfl⟩
   go_wp2_with fail
   refine (C2.out _).mono ?_
   rintro e w2 ⟨rfl, rfl⟩
   go_wp2_with fail
   refine (R3.out _).mono ?_
   rintro e w2 ⟨rfl, rfl⟩
   go_wp2_with fail
   refine (N3.out _).mono ?_
   rintro e w2 ⟨rfl, rfl⟩
   go_wp2_with (refine wpList_store_row rfl 42 (.tmp 4) (.tmp 44) rfl R (tkA 0 0 [] 0) rfl rfl 42 _ RA p5 rfl (by simp [tkA, Value.oneCell']) ?_)
   refine bodyPost_ret (l8 rfl _ _ R (tkA 0 0 [] 0) _ rfl (RA.setRow _) Tryz.underlying42 rfl p5) rfl ?_
   exact ⟨rfl, j7 G0 _ _ (.inr HR.out)⟩
  | some n =>
   rw [hn] at N3
   go_enter Tryz.func20, Tryz.ntmps20
   go_upto_region 1 with fail
   rw [show (w.alloc (.cells #[.int .i64 0, .int .i64 0, .string ⟨#[]⟩, .int .u32 0] 42)) = w.alloc (.cells (tkA 0 0 [] 0) 42) from rfl]
   generalize w.alloc (.cells (tkA 0 0 [] 0) 42) = w1 at *
   obtain ⟨R, hR⟩ : ∃ R, w.heap.size = R := ⟨_, rfl⟩
   have HR : Hid (w.heap.size ≤ R) := by show w.heap.size ≤ R; omega
   rw [hR] at RA ⊢
   clear hR
   go_wp2_with fail
   refine (R1.out _).mono ?_
   rintro e w2 ⟨rfl, rfl⟩
   go_wp2_with fail
   refine (C1.out _).mono ?_
   rintro e w2 ⟨rfl, rfl⟩
   go_wp2_with fail
   refine (DG.out _).mono ?_
   rintro e w2 ⟨rfl, rfl⟩
   go_wp2_with fail
   refine (R2.out _).mono ?_
   rintro e w2 ⟨rfl, rfl⟩
   go_wp2_with fail
   refine (C2.out _).mono ?_
   rintro e w2 ⟨rfl, rfl⟩
   go_wp2_with fail
   refine (R3.out _).mono ?_
   rintro e w2 ⟨rfl, rfl⟩
   go_wp2_with fail
   refine (N3.out _).mono ?_
   rintro e w2 ⟨rfl, rfl⟩
   go_wp2_with (refine wpList_store_row rfl 42 (.tmp 4) (.tmp 48) rfl R (tkA 1 at' SW n) rfl rfl 42 _ RA p5 rfl (by simp [tkA, Value.oneCell']) ?_)
   refine bodyPost_ret (l8 rfl _ _ R (tkA 1 at' SW n) _ rfl (RA.setRow _) Tryz.underlying42 rfl p5) rfl ?_
   exact ⟨rfl, j7 G0 _ _ (.inr HR.out)⟩
 | false =>
  rw [if_neg (by simp)]
  rw [hd] at DG
  cases hl : M1 s[at'] with
  | true =>
   rw [if_pos rfl]
   rw [hl] at LT
   go_enter Tryz.func20, Tryz.ntmps20
   go_upto_region 1 with fail
   rw [show (w.alloc (.cells #[.int .i64 0, .int .i64 0, .string ⟨#[]⟩, .int .u32 0] 42)) = w.alloc (.cells (tkA 0 0 [] 0) 42) from rfl]
   generalize w.alloc (.cells (tkA 0 0 [] 0) 42) = w1 at *
   obtain ⟨R, hR⟩ : ∃ R, w.heap.size = R := ⟨_, rfl⟩
   have HR : Hid (w.heap.size ≤ R) := by show w.heap.size ≤ R; omega
   rw [hR] at RA ⊢
   clear hR
   go_wp2_with fail
   refine (R1.out _).mono ?_
   rintro e w2 ⟨rfl, rfl⟩
   go_wp2_with fail
   refine (C1.out _).mono ?_
   rintro e w2 ⟨rfl, rfl⟩
   go_wp2_with fail
   refine (DG.out _).mono ?_
   rintro e w2 ⟨rfl, rfl⟩
   go_wp2_with fail
   refine (LT.out _).mono ?_
   rintro e w2 ⟨rfl, rfl⟩
   go_wp2_with fail
   refine (R3.out _).mono ?_
   rintro e w2 ⟨rfl, rfl⟩
   go_wp2_with (refine wpList_store_row rfl 42 (.tmp 4) (.tmp 57) rfl R (tkA 2 at' SW 0) rfl rfl 42 _ RA p5 rfl (by simp [tkA, Value.oneCell']) ?_)
   refine bodyPost_ret (l8 rfl _ _ R (tkA 2 at' SW 0) _ rfl (RA.setRow _) Tryz.underlying42 rfl p5) rfl ?_
   exact ⟨rfl, j7 G0 _ _ (.inr HR.out)⟩
  | false =>
   rw [if_neg (by simp)]
   rw [hl] at LT
   by_cases hg : SG = []
   ·rw [if_pos hg]
    subst hg
    go_enter Tryz.func20, Tryz.ntmps20
    go_upto_region 1 with fail
    rw [show (w.alloc (.cells #[.int .i64 0, .int .i64 0, .string ⟨#[]⟩, .int .u32 0] 42)) = w.alloc (.cells (tkA 0 0 [] 0) 42) from rfl]
    generalize w.alloc (.cells (tkA 0 0 [] 0) 42) = w1 at *
    obtain ⟨R, hR⟩ : ∃ R, w.heap.size = R := ⟨_, rfl⟩
    have HR : Hid (w.heap.size ≤ R) := by show w.heap.size ≤ R; omega
    rw [hR] at RA ⊢
    clear hR
    go_wp2_with fail
    refine (R1.out _).mono ?_
    rintro e w2 ⟨rfl, rfl⟩
    go_wp2_with fail
    refine (C1.out _).mono ?_
    rintro e w2 ⟨rfl, rfl⟩
    go_wp2_with fail
    refine (DG.out _).mono ?_
    rintro e w2 ⟨rfl, rfl⟩
    go_wp2_with fail
    refine (LT.out _).mono ?_
    rintro e w2 ⟨rfl, rfl⟩
    go_wp2_with fail
    refine (HSG.out _).mono ?_
    rintro e w2 ⟨rfl, rfl⟩
    go_wp2_with (refine wpList_store_row rfl 42 (.tmp 4) (.tmp 63) rfl R (tkA 0 0 [] 0) rfl rfl 42 _ RA p5 rfl (by simp [tkA, Value.oneCell']) ?_)
    refine bodyPost_ret (l8 rfl _ _ R (tkA 0 0 [] 0) _ rfl (RA.setRow _) Tryz.underlying42 rfl p5) rfl ?_
    exact ⟨rfl, j7 G0 _ _ (.inr HR.out)⟩
   ·rw [if_neg hg]
    have hgf : SG.isEmpty = false := by simpa using hg
    go_enter Tryz.func20, Tryz.ntmps20
    go_upto_region 1 with fail
    rw [show (w.alloc (.cells #[.int .i64 0, .int .i64 0, .string ⟨#[]⟩, .int .u32 0] 42)) = w.alloc (.cells (tkA 0 0 [] 0) 42) from rfl]
    generalize w.alloc (.cells (tkA 0 0 [] 0) 42) = w1 at *
    obtain ⟨R, hR⟩ : ∃ R, w.heap.size = R := ⟨_, rfl⟩
    have HR : Hid (w.heap.size ≤ R) := by show w.heap.size ≤ R; omega
    rw [hR] at RA ⊢
    clear hR
    go_wp2_with fail
    refine (R1.out _).mono ?_
    rintro e w2 ⟨rfl, rfl⟩
    go_wp2_with fail
    refine (C1.out _).mono ?_
    rintro e w2 ⟨rfl, rfl⟩
    go_wp2_with fail
    refine (DG.out _).mono ?_
    rintro e w2 ⟨rfl, rfl⟩
    go_wp2_with fail
    refine (LT.out _).mono ?_
    rintro e w2 ⟨rfl, rfl⟩
    go_wp2_with fail
    refine (HSG.out _).mono ?_
    rintro e w2 ⟨rfl, rfl⟩
    go_wp2_with (refine wpList_store_row rfl 42 (.tmp 4) (.tmp 66) rfl R (tkA 5 at' SG 0) rfl rfl 42 _ RA p5 rfl (by simp [tkA, Value.oneCell']) ?_)
    refine bodyPost_ret (l8 rfl _ _ R (tkA 5 at' SG 0) _ rfl (RA.setRow _) Tryz.underlying42 rfl p5) rfl ?_
    exact ⟨rfl, j7 G0 _ _ (.inr HR.out)⟩
theorem a2B : ∀ (k k' p : Nat) (s : List UInt8), s.length ≤ k → s.length ≤ k' → U8 k p s = U8 k' p s
 | 0, k', p, s, h, h' => by
  have : s = [] := List.eq_nil_of_length_eq_zero (by omega)
  subst this
  cases k' <;> rfl
 | k + 1, 0, p, s, h, h' => by
  have : s = [] := List.eq_nil_of_length_eq_zero (by omega)
  subst this
  rfl
 | k + 1, k' + 1, p, [], _, _ => rfl
 | k + 1, k' + 1, p, c :: r, h, h' => by
  simp only [List.length_cons] at h h'
  rw [U8, U8]
  split
  ·exact a2B k k' (p + 1) r (by omega) (by omega)
  ·split
   ·rfl
   ·rename_i q t n ht
    have hl := List.length_pos_iff.2 (V9 ht).1
    rw [a2B k k' (p + t.length) ((c :: r).drop t.length) (by rw [List.length_drop, List.length_cons]; omega) (by rw [List.length_drop, List.length_cons]; omega)]
theorem a0I (p : Nat) : A9 p [] = .ok [⟨0, p, [], 0⟩] := rfl
theorem a0G (p : Nat) {c : UInt8} (r : List UInt8) (h : y9 c = true) : A9 p (c :: r) = A9 (p + 1) r := by
 unfold A9
 rw [List.length_cons, U8, if_pos h]
theorem a0H (p : Nat) {c : UInt8} {r : List UInt8} {e : Int} (h : y9 c = false) (ht : o7 (c :: r) = .error e) : A9 p (c :: r) = .error (p, e) := by
 unfold A9
 rw [List.length_cons, U8, if_neg (by rw [h]; simp), ht]
theorem a0J (p : Nat) {c : UInt8} {r : List UInt8} {q n : Nat} {t : List UInt8} (h : y9 c = false) (ht : o7 (c :: r) = .ok (q, t, n)) :
  A9 p (c :: r) = match A9 (p + t.length) ((c :: r).drop t.length) with
   | .error e => .error e
   | .ok ts => .ok (⟨q, p, t, n⟩ :: ts) := by
 have hl := List.length_pos_iff.2 (V9 ht).1
 unfold A9
 rw [List.length_cons, U8, if_neg (by rw [h]; simp), ht]
 simp only
 rw [a2B r.length ((c :: r).drop t.length).length _ _ (by rw [List.length_drop, List.length_cons]; omega) (Nat.le_refl _)]
 cases U8 ((c :: r).drop t.length).length (p + t.length) ((c :: r).drop t.length) <;> rfl
theorem a7A (p : Nat) : ∀ (bs r : List UInt8), (∀ b ∈ bs, y9 b = true) → A9 p (bs ++ r) = A9 (p + bs.length) r := by
 intro bs
 induction bs generalizing p with
 | nil => intro r _; rfl
 | cons b bs ih =>
  intro r h
  rw [List.cons_append, a0G p _ (h b (List.mem_cons_self ..)), ih (p + 1) r (fun x hx => h x (List.mem_cons_of_mem _ hx)), List.length_cons, show p + 1 + bs.length = p + (bs.length + 1) by omega]
theorem a2C : ∀ (k p : Nat) (s : List UInt8) (ts : List Tk), s.length ≤ k → A9 p s = .ok ts → ∃ us, ts = us ++ [⟨0, p + s.length, [], 0⟩] ∧ ∀ t ∈ us, t.text ≠ [] ∧ o7 t.text = .ok (t.kind, t.text, t.num)
 | k, p, [], ts, _, h => by
  rw [a0I] at h
  cases h
  exact ⟨[], rfl, fun t ht => by cases ht⟩
 | 0, p, c :: r, ts, hk, h => by simp at hk
 | k + 1, p, c :: r, ts, hk, h => by
  simp only [List.length_cons] at hk
  cases hb : y9 c with
  | true =>
   rw [a0G p r hb] at h
   obtain ⟨us, e, hu⟩ := a2C k (p + 1) r ts (by omega) h
   exact ⟨us, by rw [e, List.length_cons, show p + 1 + r.length = p + (r.length + 1) by omega], hu⟩
  | false =>
   cases ht : o7 (c :: r) with
   | error e => rw [a0H p hb ht] at h; cases h
   | ok x =>
    obtain ⟨q, t, n⟩ := x
    rw [a0J p hb ht] at h
    have hok := V9 ht
    have hl := List.length_pos_iff.2 hok.1
    split at h
    ·cases h
    ·rename_i ts' h'
     cases h
     obtain ⟨us, e, hu⟩ := a2C k (p + t.length) ((c :: r).drop t.length) ts' (by rw [List.length_drop, List.length_cons]; omega) h'
     refine ⟨⟨q, p, t, n⟩ :: us, ?_, fun x hx => ?_⟩
     ·rw [e, List.cons_append]
      have := hok.2.2.1
      rw [List.length_drop, show p + t.length + ((c :: r).length - t.length) = p + (c :: r).length by omega]
     ·rcases List.mem_cons.1 hx with rfl | hx
      ·exact ⟨hok.1, ag9 ht⟩
      ·exact hu x hx
def Tk.cells (x : Tk) : List Value := [.int .i64 (x.kind : Int), .int .i64 (x.pos : Int), str x.text, .int .u32 (x.num : Int)]
def J6 (xs : List Tk) : List Value := xs.flatMap Tk.cells
theorem a3W (x : Tk) (xs : List Tk) : J6 (x :: xs) = x.cells ++ J6 xs := rfl
theorem a1E (xs ys : List Tk) : J6 (xs ++ ys) = J6 xs ++ J6 ys := by simp only [J6, List.flatMap_append]
theorem a72 (xs : List Tk) : (J6 xs).length = xs.length * 4 := by
 induction xs with
 | nil => rfl
 | cons x xs ih => rw [a3W, List.length_append, ih, List.length_cons]; simp [Tk.cells]; omega
theorem a71 (xs : List Tk) (i j : Nat) (hi : i < xs.length) (hj : j < 4) : (J6 xs)[i * 4 + j]? = (xs[i].cells)[j]? := by
 induction xs generalizing i with
 | nil => simp at hi
 | cons x xs ih =>
  rw [a3W]
  have hl : x.cells.length = 4 := rfl
  cases i with
  | zero => rw [List.getElem?_append_left (by omega)]; simp
  | succ i =>
   rw [List.getElem?_append_right (by omega), hl, show (i + 1) * 4 + j - 4 = i * 4 + j by omega, ih i (by simpa using hi)]
   simp
theorem CV.toks {w : World} {ao : Option Addr} {xs : List Tk} (h : CV w ao (J6 xs)) {k : Nat} (hk : k < xs.length) :
  ∃ b off, ao = some ⟨b, off, none⟩ ∧ ∀ i (hi : i < xs.length), w.cell? ⟨b, off + i * 4, none⟩ = some (.int .i64 (xs[i].kind : Int)) ∧ w.cell? ⟨b, off + i * 4 + 1, none⟩ = some (.int .i64 (xs[i].pos : Int)) ∧
   w.cell? ⟨b, off + i * 4 + 2, none⟩ = some (str xs[i].text) ∧ w.cell? ⟨b, off + i * 4 + 3, none⟩ = some (.int .u32 (xs[i].num : Int)) := by
 have hl := a72 xs
 obtain ⟨b, off, hao, hc⟩ := h.addr (k := k * 4) (by omega)
 refine ⟨b, off, hao, fun i hi => ?_⟩
 have key : ∀ j (hj : j < 4), w.cell? ⟨b, off + i * 4 + j, none⟩ = (xs[i].cells)[j]? := fun j hj => by
  rw [← a71 xs i j hi hj, Nat.add_assoc, hc (i * 4 + j) (by omega), List.getElem?_eq_getElem (by omega)]
 exact ⟨key 0 (by omega), key 1 (by omega), key 2 (by omega), key 3 (by omega)⟩
theorem a4b : (Tryz.prog.info? 42).map (fun i => (i.zero, i.size, i.bytes)) = some (some (.agg #[.int .i64 0, .int .i64 0, .string .empty, .int .u32 0]), 4, 40) := by kernel_rfl
abbrev D9 (w : World) (base : Nat) (v : Value) (xs : List Tk) : Prop := w.ownsRow base 42 4 v xs.length (J6 xs)
def a2b (w : World) (row : Option Nat) (g g' n n' : Nat) (wr : World) : Prop := s6 wr 42 g n ∧ s6 wr 42 g' n' ∧ w.grownBy wr row
theorem a2b.set {w wr : World} {row : Option Nat} {g g' n n' : Nat} (h : a2b w row g g' n n' wr) {p : Addr} (hp : row = some p.block ∨ w.heap.size ≤ p.block) (u : Value) : a2b w row g g' n n' (wr.setCell p u) :=
 ⟨h.1.setCell _ _, h.2.1.setCell _ _, L5 h.2.2 _ _ hp⟩
def a1N (x : Except (Nat × Int) (List Tk)) : List Tk := match x with
 | .ok ts => ts
 | .error _ => []
def a0F (x : Except (Nat × Int) (List Tk)) : Nat := match x with
 | .ok _ => 0
 | .error e => e.1
def a0E (x : Except (Nat × Int) (List Tk)) : Int := match x with
 | .ok _ => 0
 | .error e => e.2
def P3 (us : List Tk) (x : Except (Nat × Int) (List Tk)) : Except (Nat × Int) (List Tk) := match x with
 | .ok ts => .ok (us ++ ts)
 | .error e => .error e
theorem a3a {s : List UInt8} {e : Int} (h : o7 s = .error e) : (e != 0) = true := by
 unfold o7 at h
 split at h
 ·cases h
 ·split at h
  ·split at h
   ·cases h
   ·split at h
    ·cases h; rfl
    ·cases h
  ·split at h
   ·cases h
   ·split at h
    ·cases h; rfl
    ·cases h
theorem a99 (s : ByteArray) (hs : s.size ≤ 140737488355328) (w : World) :
  Calls Tryz.prog 11 #[.string s] w fun e w' => ∃ v, e = .returned (.tuple #[v, .int .i64 (a0F (E4 (sl s)) : Int), .int .i64 (a0E (E4 (sl s)))]) ∧ D9 w' w.heap.size v (a1N (E4 (sl s))) ∧ w.grownBy w' none := by
 by_cases hl : 65536 < s.size
 ·have e0 : E4 (sl s) = .error (0, 100) := by rw [E4, if_pos (by rw [j0]; exact hl)]
  rw [e0]
  have hl' : (65536 : Int) < (s.size : Int) := by omega
  clear e0
  go_enter Tryz.func11, Tryz.ntmps11
  go_wp2
  go_ret3
  exact ⟨_, rfl, World.ownsRow_nil _ _ _ _, World.grownBy.refl _ _⟩
 have e0 : E4 (sl s) = A9 0 (sl s) := by rw [E4, if_neg (by rw [j0]; exact hl)]
 have hl' : ¬ (65536 : Int) < (s.size : Int) := by omega
 obtain ⟨ans, hans⟩ : ∃ ans, E4 (sl s) = ans := ⟨_, rfl⟩
 have HA : Hid (A9 0 (sl s) = ans) := by show A9 0 (sl s) = ans; rw [← e0]; exact hans
 rw [hans]
 clear e0 hans
 obtain ⟨i0, hi, hz0, hz1, hz2⟩ := info_parts a4b
 have HTS : Hid (∀ q p t n, (Tryz.prog.info? 42).map (·.size) = some (tkA q p t n).size) := fun _ _ _ _ => p5
 go_enter Tryz.func11, Tryz.ntmps11
 go_upto_region 5 with fail
 go_loopw [5, 6] (fun u x wr => ∃ (j : Nat) (us : List Tk), j ≤ s.size ∧ us.length ≤ j ∧ x = .int .i64 j ∧ Hid (P3 us (A9 j ((sl s).drop j)) = ans) ∧ D9 wr w.heap.size u us ∧ w.grownBy wr none) (fun _ x _ => s.size - (intOf x).toNat)
 case atStart => exact ⟨0, [], Nat.zero_le _, Nat.zero_le _, rfl, by show P3 [] (A9 0 ((sl s).drop 0)) = ans; rw [List.drop_zero, HA.out]; cases ans <;> rfl, World.ownsRow_nil _ _ _ _, World.grownBy.refl _ _⟩
 case round =>
  clear HA
  obtain ⟨j, us, hj, hu, rfl, HI, OU, G⟩ := hrel
  have z0 : (0 : Int) ≤ (j : Int) := by omega
  by_cases hlt : j < s.size
  ·have hji : (j : Int) < (s.size : Int) := by omega
   have HD : Hid ((sl s).drop j = s[j] :: (sl s).drop (j + 1)) := D8 s j hlt
   have CB := a94 s[j] wr
   cases hb : y9 s[j] with
   | true =>
    rw [hb] at CB
    have HN : Hid (P3 us (A9 (j + 1) ((sl s).drop (j + 1))) = ans) := by
     show P3 us _ = ans
     rw [← HI.out, HD.out, a0G j _ hb]
    have HO : Hid (D9 wr w.heap.size u5 us ∧ w.grownBy wr none) := ⟨OU, G⟩
    clear HI HD OU G
    go_wp2_with fail
    refine CB.mono ?_
    rintro e w1 ⟨rfl, rfl⟩
    clear CB
    go_wp2
    go_roundw
    case rel => exact ⟨j + 1, us, by omega, by omega, by go_num, HN, HO.out.1, HO.out.2⟩
    case measure => simp [intOf]; omega
   | false =>
    rw [hb] at CB
    have CT := a9e s j hlt hs wr
    cases ht : o7 ((sl s).drop j) with
    | error er =>
     rw [ht] at CT
     simp only [Y2, Y3, tkA] at CT
     have hz := a3a ht
     have hans : ans = .error (j, er) := by
      rw [← HI.out, HD.out, a0H j hb (by rw [← HD.out]; exact ht)]
      rfl
     subst hans
     have HG : Hid (w.grownBy wr none) := G
     clear HI HD OU G ht
     go_wp2_with fail
     refine CB.mono ?_
     rintro e w1 ⟨rfl, rfl⟩
     go_wp2_with fail
     refine CT.mono ?_
     rintro e w1 ⟨rfl, K1⟩
     have G1 := d5 HG.out K1
     clear CB CT K1
     go_wp2
     go_ret3
     exact ⟨_, rfl, World.ownsRow_nil _ _ _ _, d5 G1 (World.grownBy_alloc _ _ _)⟩
    | ok y =>
     obtain ⟨q, t, n⟩ := y
     rw [ht] at CT
     simp only [Y2, Y3, tkA] at CT
     have hok := V9 ht
     have htl : 1 ≤ t.length := List.length_pos_iff.2 hok.1
     have htl2 : j + t.length ≤ s.size := by
      have := hok.2.2.1
      rw [List.length_drop, j0] at this
      omega
     have HN : Hid (P3 (us ++ [⟨q, j, t, n⟩]) (A9 (j + t.length) ((sl s).drop (j + t.length))) = ans) := by
      show P3 _ _ = ans
      have e1 := a0J j hb (by rw [← HD.out]; exact ht)
      rw [← HD.out, List.drop_drop] at e1
      rw [← HI.out, e1]
      cases A9 (j + t.length) ((sl s).drop (j + t.length)) with
      | error e => rfl
      | ok ts => simp [P3]
     have HG : Hid (w.grownBy wr none) := G
     have HOU : Hid (D9 wr w.heap.size u5 us) := OU
     clear HI HD OU G ht hok
     go_wp2_with fail
     refine CB.mono ?_
     rintro e w1 ⟨rfl, rfl⟩
     go_wp2_with fail
     refine CT.mono ?_
     rintro e w2 ⟨rfl, K2⟩
     clear CB CT
     go_upto_region 11 with fail
     have VA := VAt.alloc w2 42 #[.int .i64 (q : Int), .int .i64 (j : Int), str t, .int .u32 (n : Int)]
     have K3 := d5 K2 (World.grownBy_alloc w2 (.cells #[.int .i64 (q : Int), .int .i64 (j : Int), str t, .int .u32 (n : Int)] 42) none)
     have HV : Hid (∀ y, u5.ownBlock = some y → y < w2.heap.size) := fun y hy => by
      have := (World.ownsRow.lt HOU.out y hy).2
      have := K2.size
      omega
     have O3 : D9 (w2.alloc (.cells #[.int .i64 (q : Int), .int .i64 (j : Int), str t, .int .u32 (n : Int)] 42)) w.heap.size u5 us := y8 HOU.out K3
     have G3 := d5 HG.out K3
     have HVL : Hid (w.heap.size ≤ w2.heap.size) := (d5 HG.out K2).size
     generalize w2.alloc (.cells #[.int .i64 (q : Int), .int .i64 (j : Int), str t, .int .u32 (n : Int)] 42) = w3 at *
     generalize w2.heap.size = V at *
     have HSZ : Hid ((Tryz.prog.info? 42).map (·.size) = some (#[.int .i64 (q : Int), .int .i64 (j : Int), str t, .int .u32 (n : Int)] : Array Value).size) := p5
     clear K2 K3 HOU HG
     have KA := World.grownBy_alloc w3 (.cells #[.int .i64 (q : Int), .int .i64 (j : Int), str t, .int .u32 (n : Int)] 42) none
     have HO4 : Hid (D9 (w3.alloc (.cells #[.int .i64 (q : Int), .int .i64 (j : Int), str t, .int .u32 (n : Int)] 42)) w.heap.size u5 us ∧ VAt (w3.alloc (.cells #[.int .i64 (q : Int), .int .i64 (j : Int), str t, .int .u32 (n : Int)] 42)) V 42 #[.int .i64 (q : Int), .int .i64 (j : Int), str t, .int .u32 (n : Int)] ∧ w.grownBy (w3.alloc (.cells #[.int .i64 (q : Int), .int .i64 (j : Int), str t, .int .u32 (n : Int)] 42)) none) := ⟨y8 O3 KA, VA.kept KA, d5 G3 KA⟩
     have HCB : Hid (CV (w3.alloc (.cells #[.int .i64 (q : Int), .int .i64 (j : Int), str t, .int .u32 (n : Int)] 42)) (some ⟨w3.heap.size, 0, none⟩) [.int .i64 (q : Int), .int .i64 (j : Int), str t, .int .u32 (n : Int)]) := m8 w3 _ _
     clear O3 G3 KA
     go_wp2_with (first
      | refine wpList_load_row rfl 42 (.tmp 7) rfl V rfl 42 _ (0, 0) _ VA Tryz.underlying42 rfl HSZ.out ?_
      | (at_builtin; refine Y5 rfl (.tmp 32) (.tmp 34) 33 rfl 42 i0 _ 4 40 Tryz.underlying33 hi hz0 hz1 hz2 rfl (by decide) w.heap.size u5 us.length (J6 us) rfl ?r1 (some ⟨w3.heap.size, 0, none⟩) 1 1 [.int .i64 (q : Int), .int .i64 (j : Int), str t, .int .u32 (n : Int)] rfl rfl (by simp) ?r2 (by simp [Value.oneCell']) ?r3 ?r4 ?r5 ?r6))
     case r1 => exact HO4.out.1
     case r2 => exact HCB.out
     case r3 => unfold maxLen; omega
     case r4 => omega
     case r5 => exact HO4.out.2.2.size
     case r6 =>
      intro v5 w5 O5 K5
      have V5 := HO4.out.2.1.grown K5 (fun e => by have := HV.out V e; omega)
      have G5 := z6 HO4.out.2.2 K5 (fun x hx => (World.ownsRow.lt HO4.out.1 x hx).1)
      have HO5 : Hid (D9 w5 w.heap.size v5 (us ++ [⟨q, j, t, n⟩]) ∧ w.grownBy w5 none) := ⟨by
       show w5.ownsRow w.heap.size 42 4 v5 (us ++ [(⟨q, j, t, n⟩ : Tk)]).length (J6 (us ++ [(⟨q, j, t, n⟩ : Tk)]))
       rw [List.length_append, a1E]
       exact O5, G5⟩
      have c2 : w5.cell? ⟨V, 2, none⟩ = some (str t) := V5.cell 2
      have hw : IntKind.i64.wrap ((j : Int) + (t.length : Int)) = ((j + t.length : Nat) : Int) := by rw [IntKind.wrap_i64]; omega
      have hts : ((⟨t.toArray⟩ : ByteArray).size : Int) = (t.length : Int) := by rw [← j0, J3]
      clear VA HO4 HCB O5 K5 V5 G5
      go_wp2
      go_roundw
      case rel => exact ⟨j + t.length, us ++ [⟨q, j, t, n⟩], htl2, by rw [List.length_append, List.length_singleton]; omega, by go_num, HN, HO5.out.1, HO5.out.2⟩
      case measure => simp [intOf]; omega
  ·obtain rfl : j = s.size := by omega
   have hji : ¬ (s.size : Int) < (s.size : Int) := by omega
   have hans : ans = .ok (us ++ [⟨0, s.size, [], 0⟩]) := by
    rw [← HI.out, List.drop_eq_nil_of_le (by rw [j0]; exact Nat.le_refl _), a0I]
    rfl
   subst hans
   have KA := World.grownBy_alloc wr (.cells #[.int .i64 0, .int .i64 (s.size : Int), str [], .int .u32 0] 42) none
   have HO4 : Hid (D9 (wr.alloc (.cells #[.int .i64 0, .int .i64 (s.size : Int), str [], .int .u32 0] 42)) w.heap.size u5 us ∧ w.grownBy (wr.alloc (.cells #[.int .i64 0, .int .i64 (s.size : Int), str [], .int .u32 0] 42)) none) := ⟨y8 OU KA, d5 G KA⟩
   have HCB : Hid (CV (wr.alloc (.cells #[.int .i64 0, .int .i64 (s.size : Int), str [], .int .u32 0] 42)) (some ⟨wr.heap.size, 0, none⟩) [.int .i64 0, .int .i64 (s.size : Int), str [], .int .u32 0]) := m8 wr _ _
   clear HI OU G KA
   go_wp2_with (at_builtin; refine Y5 rfl (.tmp 41) (.tmp 45) 33 rfl 42 i0 _ 4 40 Tryz.underlying33 hi hz0 hz1 hz2 rfl (by decide) w.heap.size u5 us.length (J6 us) rfl ?r1 (some ⟨wr.heap.size, 0, none⟩) 1 1 [.int .i64 0, .int .i64 (s.size : Int), str [], .int .u32 0] rfl rfl (by simp) ?r2 (by simp [Value.oneCell']) ?r3 ?r4 ?r5 ?r6)
   case r1 => exact HO4.out.1
   case r2 => exact HCB.out
   case r3 => unfold maxLen; omega
   case r4 => omega
   case r5 => have := HO4.out.2.size; simpa using this
   case r6 =>
    intro v5 w5 O5 K5
    have G5 := z6 HO4.out.2 K5 (fun x hx => (World.ownsRow.lt HO4.out.1 x hx).1)
    have HO5 : Hid (D9 w5 w.heap.size v5 (us ++ [⟨0, s.size, [], 0⟩]) ∧ w.grownBy w5 none) := ⟨by
     show w5.ownsRow w.heap.size 42 4 v5 (us ++ [(⟨0, s.size, [], 0⟩ : Tk)]).length (J6 (us ++ [(⟨0, s.size, [], 0⟩ : Tk)]))
     rw [List.length_append, a1E]
     exact O5, G5⟩
    clear HO4 HCB O5 K5 G5
    go_wp2
    go_ret3
    exact ⟨_, rfl, HO5.out.1, HO5.out.2⟩

end Go.Proofs.YtlfmddjppejmaaaGreatDoor
