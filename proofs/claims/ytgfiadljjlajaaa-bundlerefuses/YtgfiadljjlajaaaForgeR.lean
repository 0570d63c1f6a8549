/-
  The document's own Space, zero, Field and Head of chapter 8.
-/
import Derived.Test.YtgfiadljjlajaaaForgeV
import Derived.Test.YtgfiadljjlajaaaEncR
import Derived.Test.YtgfiadljjlajaaaFrameQ
namespace Go.Proofs.Ytgfiadljjlajaaa
open Go.RowKit
set_option maxRecDepth 100000

set_option maxRecDepth 100000 in
theorem space_any (l : Lk) (w : World) : Calls Try.prog 26 #[.agg (lkA l)] w fun e w' => e = .returned (.int .u32 (spV l : Int)) ∧ w.grownBy w' none := by
  have L0 := VAt.alloc w 23 (lkA l)
  have G0 : w.grownBy (w.alloc (.cells (lkA l) 23)) none := World.grownBy_alloc _ _ _
  have x2 : (w.alloc (.cells (lkA l) 23)).cell? ⟨w.heap.size, 2, none⟩ = some (.int .i64 l.mp) := L0.cell 2
  clear L0
  by_cases h2 : l.mp = 2
  · have e : spV l = 16777216 := by rw [spV, if_pos h2]
    rw [e]
    have h2' : (l.mp == 2) = true := by rw [h2]; rfl
    clear h2
    go_enter Try.func26, Try.ntmps26
    go_wp2
    go_ret
    exact ⟨rfl, G0⟩
  · have e : spV l = 4096 := by rw [spV, if_neg h2]
    rw [e]
    have h2' : (l.mp == 2) = false := by rw [beq_eq_false_iff_ne]; exact h2
    clear h2
    go_enter Try.func26, Try.ntmps26
    go_wp2
    go_ret
    exact ⟨rfl, G0⟩

theorem zeroB_end (xs : List UInt8) (h : xs.length = 16) : zeroB xs 16 = true := by
  unfold zeroB
  rw [List.drop_eq_nil_of_le (by omega)]
  rfl
theorem zeroB_step (xs : List UInt8) (k : Nat) (h : k < xs.length) : zeroB xs k = (xs[k] == 0 && zeroB xs (k + 1)) := by
  unfold zeroB
  rw [List.drop_eq_getElem_cons h, List.all_cons]

theorem be2_eq (v : Nat) : bytesV 2 v = be2 v := by
  show [UInt8.ofNat (shr8 v 1), UInt8.ofNat (shr8 v 0)] = _
  simp [be2, shr8]
theorem be4_eq (v : Nat) : bytesV 4 v = be4 v := by
  show [UInt8.ofNat (shr8 v 3), UInt8.ofNat (shr8 v 2), UInt8.ofNat (shr8 v 1), UInt8.ofNat (shr8 v 0)] = _
  simp [be4, shr8]

theorem or_top (k n : Nat) (h : n < 2 ^ k) : n ||| 2 ^ k = 2 ^ k + n := by
  have := Nat.two_pow_add_eq_or_of_lt h 1
  rw [Nat.mul_one] at this
  rw [Nat.or_comm]
  exact this.symm
theorem or_two (k n : Nat) (h : n < 2 ^ k) : (2 ^ (k + 1) + n) ||| 2 ^ k = 2 ^ (k + 1) + (2 ^ k + n) := by
  have h2 : 2 ^ k + n < 2 ^ (k + 1) := by rw [Nat.pow_succ]; omega
  have h1 : n < 2 ^ (k + 1) := by rw [Nat.pow_succ]; omega
  rw [← or_top (k + 1) n h1, Nat.or_comm n, Nat.or_assoc, or_top k n h, Nat.or_comm, or_top (k + 1) _ h2]

/-- A header's number, by bits. -/
theorem hd_bits (K seq : Nat) (beg fin : Bool) (h : seq < 2 ^ K) : ((if beg = true then seq ||| 2 ^ (K + 1) else seq) ||| (if fin = true then 2 ^ K else 0)) = (if beg = true then 2 ^ (K + 1) else 0) + (if fin = true then 2 ^ K else 0) + seq := by
  have h1 : seq < 2 ^ (K + 1) := by rw [Nat.pow_succ]; omega
  cases beg <;> cases fin <;> simp only [if_true, if_false, Bool.false_eq_true]
  · simp
  · rw [or_top K seq h]; omega
  · rw [or_top (K + 1) seq h1]; simp
  · rw [or_top (K + 1) seq h1, or_two K seq h]; omega

set_option maxRecDepth 100000 in
set_option maxHeartbeats 2000000 in
theorem head_any (l : Lk) (beg fin : Bool) (seq : Nat) (w : World) (hs : seq < spV l) : Calls Try.prog 27 #[.agg (lkA l), .bool beg, .bool fin, .int .u32 (seq : Int)] w fun e w' => ∃ v, e = .returned v ∧ Owns w' w.heap.size v (hdB l beg fin seq) ∧ w.grownBy w' none := by
  have L0 := VAt.alloc w 23 (lkA l)
  have G0 : w.grownBy (w.alloc (.cells (lkA l) 23)) none := World.grownBy_alloc _ _ _
  have x2 : (w.alloc (.cells (lkA l) 23)).cell? ⟨w.heap.size, 2, none⟩ = some (.int .i64 l.mp) := L0.cell 2
  have hB : Hid (w.heap.size ≤ (w.alloc (.cells (lkA l) 23)).heap.size) := G0.size
  clear L0
  unfold spV at hs
  by_cases h2 : l.mp = 2
  · rw [if_pos h2] at hs
    have e : hdB l beg fin seq = bytesV 4 (hdN l beg fin seq) := by rw [hdB, if_pos h2, be4_eq]
    have hN : hdN l beg fin seq = ((if beg = true then seq ||| 2147483648 else seq) ||| (if fin = true then 1073741824 else 0)) := by
      have := hd_bits 30 seq beg fin (by omega)
      rw [hdN, tpV, if_pos h2]
      exact this.symm
    have hNb : hdN l beg fin seq ≤ 4294967295 := by
      unfold hdN tpV
      rw [if_pos h2]
      cases beg <;> cases fin <;> simp <;> omega
    rw [e]
    have o1 : bits .or .u32 (seq : Int) 2147483648 = ((seq ||| 2147483648 : Nat) : Int) := u32_or_nat seq 2147483648 (by omega) (by omega)
    have o2 : bits .or .u32 (seq : Int) 1073741824 = ((seq ||| 1073741824 : Nat) : Int) := u32_or_nat seq 1073741824 (by omega) (by omega)
    have o3 : bits .or .u32 ((seq ||| 2147483648 : Nat) : Int) 1073741824 = ((seq ||| 2147483648 ||| 1073741824 : Nat) : Int) := u32_or_nat (seq ||| 2147483648) 1073741824 (Nat.or_lt_two_pow (n := 32) (by omega) (by omega)) (by omega)
    have h2' : (l.mp == 2) = true := by rw [h2]; rfl
    obtain ⟨N, hNN⟩ : ∃ N, hdN l beg fin seq = N := ⟨_, rfl⟩
    rw [hNN] at hN hNb ⊢
    have HBY : Hid (∀ W : World, Calls Try.prog 47 #[.int .u32 (N : Int), .int .i64 4] W fun e w' => ∃ u, e = .returned u ∧ Owns w' W.heap.size u (bytesV 4 N) ∧ W.grownBy w' none) := fun W => bytes_any 4 N 4 rfl (.inr (.inr rfl)) hNb W
    clear e hNb hNN h2 hs
    cases beg <;> cases fin <;> simp only [if_true, if_false, Bool.false_eq_true, Nat.or_zero] at hN <;> subst hN
    all_goals
      go_enter Try.func27, Try.ntmps27
      go_wp2_with fail
      refine (HBY.out _).mono ?_
      rintro e w2 ⟨u, rfl, O2, K2⟩
      go_wp2
      go_ret
      exact ⟨_, rfl, owns_mono O2 hB.out, grown_trans G0 K2⟩
  · rw [if_neg h2] at hs
    have e : hdB l beg fin seq = bytesV 2 (hdN l beg fin seq) := by rw [hdB, if_neg h2, be2_eq]
    have hN : hdN l beg fin seq = ((if beg = true then seq ||| 32768 else seq) ||| (if fin = true then 16384 else 0)) := by
      have := hd_bits 14 seq beg fin (by omega)
      rw [hdN, tpV, if_neg h2]
      exact this.symm
    have hNb : hdN l beg fin seq ≤ 4294967295 := by
      unfold hdN tpV
      rw [if_neg h2]
      cases beg <;> cases fin <;> simp <;> omega
    rw [e]
    have o1 : bits .or .u32 (seq : Int) 32768 = ((seq ||| 32768 : Nat) : Int) := u32_or_nat seq 32768 (by omega) (by omega)
    have o2 : bits .or .u32 (seq : Int) 16384 = ((seq ||| 16384 : Nat) : Int) := u32_or_nat seq 16384 (by omega) (by omega)
    have o3 : bits .or .u32 ((seq ||| 32768 : Nat) : Int) 16384 = ((seq ||| 32768 ||| 16384 : Nat) : Int) := u32_or_nat (seq ||| 32768) 16384 (Nat.or_lt_two_pow (n := 32) (by omega) (by omega)) (by omega)
    have h2' : (l.mp == 2) = false := by rw [beq_eq_false_iff_ne]; exact h2
    obtain ⟨N, hNN⟩ : ∃ N, hdN l beg fin seq = N := ⟨_, rfl⟩
    rw [hNN] at hN hNb ⊢
    have HBY : Hid (∀ W : World, Calls Try.prog 47 #[.int .u32 (N : Int), .int .i64 2] W fun e w' => ∃ u, e = .returned u ∧ Owns w' W.heap.size u (bytesV 2 N) ∧ W.grownBy w' none) := fun W => bytes_any 2 N 2 rfl (.inr (.inl rfl)) hNb W
    clear e hNb hNN h2 hs
    cases beg <;> cases fin <;> simp only [if_true, if_false, Bool.false_eq_true, Nat.or_zero] at hN <;> subst hN
    all_goals
      go_enter Try.func27, Try.ntmps27
      go_wp2_with fail
      refine (HBY.out _).mono ?_
      rintro e w2 ⟨u, rfl, O2, K2⟩
      go_wp2
      go_ret
      exact ⟨_, rfl, owns_mono O2 hB.out, grown_trans G0 K2⟩

end Go.Proofs.Ytgfiadljjlajaaa
