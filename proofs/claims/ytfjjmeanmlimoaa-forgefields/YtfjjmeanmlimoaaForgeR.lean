/-
  The document's own Space, zero, Field and Head of chapter 8.
-/
import Derived.Test.YtfjjmeanmlimoaaForgeV
import Derived.Test.YtfjjmeanmlimoaaEncR
import Derived.Test.YtfjjmeanmlimoaaFrameQ
namespace Go.Proofs.Ytfjjmeanmlimoaa
open Go.RowKit
set_option maxRecDepth 100000

set_option maxRecDepth 100000 in
theorem space_any (l : Lk) (w : World) : Calls Try.prog 41 #[.agg (lkA l)] w fun e w' => e = .returned (.int .u32 (spV l : Int)) ∧ w.grownBy w' none := by
  have L0 := VAt.alloc w 23 (lkA l)
  have G0 : w.grownBy (w.alloc (.cells (lkA l) 23)) none := World.grownBy_alloc _ _ _
  have x2 : (w.alloc (.cells (lkA l) 23)).cell? ⟨w.heap.size, 2, none⟩ = some (.int .i64 l.mp) := L0.cell 2
  clear L0
  by_cases h2 : l.mp = 2
  · have e : spV l = 16777216 := by rw [spV, if_pos h2]
    rw [e]
    have h2' : (l.mp == 2) = true := by rw [h2]; rfl
    clear h2
    go_enter Try.func41, Try.ntmps41
    go_wp2
    go_ret
    exact ⟨rfl, G0⟩
  · have e : spV l = 4096 := by rw [spV, if_neg h2]
    rw [e]
    have h2' : (l.mp == 2) = false := by rw [beq_eq_false_iff_ne]; exact h2
    clear h2
    go_enter Try.func41, Try.ntmps41
    go_wp2
    go_ret
    exact ⟨rfl, G0⟩

theorem zeroB_end (xs : List UInt8) (h : xs.length = 16) : zeroB xs 16 = true := by
  unfold zeroB
  rw [List.drop_eq_nil_of_le (by omega)]
  rfl
theorem zeroB_step (xs : List UInt8) (k : Nat) (h : k < xs.length) : zeroB xs k = (xs[k] == 0 && zeroB xs (k + 1)) := by
  unfold zeroB
  rw [List.drop_eq_getElem_cons h, List.all_cons]

set_option maxRecDepth 100000 in
set_option maxHeartbeats 1000000 in
theorem zero_any (xs : List UInt8) (k : Nat) (w : World) (hl : xs.length = 16) (hk : k ≤ 16) : Calls Try.prog 42 #[.agg (xs.map bv).toArray, .int .i64 (k : Int)] w fun e w' => e = .returned (.bool (zeroB xs k)) ∧ w.grownBy w' none := by
  have L0 := VAt.alloc w 25 (xs.map bv).toArray
  have G0 : w.grownBy (w.alloc (.cells (xs.map bv).toArray 25)) none := World.grownBy_alloc _ _ _
  have HC : Hid (∀ i (hi : i < xs.length), (w.alloc (.cells (xs.map bv).toArray 25)).cell? ⟨w.heap.size, i, none⟩ = some (.int .u8 (xs[i].toNat : Int))) := fun i hi => by
    rw [L0.cell i, List.getElem?_toArray, List.getElem?_map, List.getElem?_eq_getElem hi]
    rfl
  obtain ⟨z, hz⟩ : ∃ z, zeroB xs k = z := ⟨_, rfl⟩
  rw [hz]
  have HZ : Hid (zeroB xs k = z) := hz
  have HL : Hid (xs.length = 16) := hl
  clear hz L0 hl
  generalize (xs.map bv).toArray = A at *
  go_enter Try.func42, Try.ntmps42
  go_wp2
  generalize w.alloc (.cells A 25) = w1 at *
  generalize w.heap.size = B at *
  go_loopw [5] (fun i wr => ∃ j : Nat, j ≤ 16 ∧ i = .int .i64 j ∧ wr = w1 ∧ Hid (zeroB xs j = z)) (fun i _ => 16 - (intOf i).toNat)
  case atStart => exact ⟨k, hk, rfl, rfl, HZ⟩
  case round =>
    obtain ⟨j, hj, rfl, rfl, HJ⟩ := hrel
    by_cases hlt : j < 16
    · have hl' : (j : Int) < 16 := by omega
      have hj0 : (0 : Int) ≤ (j : Int) := by omega
      have hjx : j < xs.length := by have := HL.out; omega
      have cj := HC.out j hjx
      have hst := zeroB_step xs j hjx
      by_cases h0 : xs[j] = 0
      · rw [h0] at cj
        have HN : Hid (zeroB xs (j + 1) = z) := by
          show _ = z
          rw [← HJ.out, hst, h0]
          simp
        clear hst h0
        go_wp2
        go_roundw
        case rel => exact ⟨j + 1, by omega, by go_num, (by first | rfl | trivial), HN⟩
        case measure => simp [intOf]; omega
      · have hb : ((xs[j].toNat : Int) != 0) = true := by
          rw [bne_iff_ne]
          intro hh
          apply h0
          have : xs[j].toNat = 0 := by omega
          exact UInt8.toNat_inj.1 this
        have HN : Hid (z = false) := by
          show z = false
          rw [← HJ.out, hst]
          simp [h0]
        clear hst h0
        go_wp2
        go_ret
        exact ⟨by rw [HN.out]; rfl, G0⟩
    · obtain rfl : j = 16 := by omega
      have HN : Hid (z = true) := by
        show z = true
        rw [← HJ.out]
        exact zeroB_end xs HL.out
      rw [show ((16 : Nat) : Int) = 16 from rfl]
      go_wp2
      go_ret
      exact ⟨by rw [HN.out]; rfl, G0⟩

theorem be2_eq (v : Nat) : bytesV 2 v = be2 v := by
  show [UInt8.ofNat (shr8 v 1), UInt8.ofNat (shr8 v 0)] = _
  simp [be2, shr8]
theorem be4_eq (v : Nat) : bytesV 4 v = be4 v := by
  show [UInt8.ofNat (shr8 v 3), UInt8.ofNat (shr8 v 2), UInt8.ofNat (shr8 v 1), UInt8.ofNat (shr8 v 0)] = _
  simp [be4, shr8]

set_option maxRecDepth 100000 in
set_option maxHeartbeats 1000000 in
theorem field_any (l : Lk) (plain : Bool) (p : Nat) (w : World) (hp : p ≤ 4294967295) : Calls Try.prog 20 #[.agg (lkA l), .bool plain, .int .u32 (p : Int)] w fun e w' => ∃ v, e = .returned v ∧ Owns w' w.heap.size v (fieldV l plain p) ∧ w.grownBy w' none := by
  have L0 := VAt.alloc w 23 (lkA l)
  have G0 : w.grownBy (w.alloc (.cells (lkA l) 23)) none := World.grownBy_alloc _ _ _
  have x1 : (w.alloc (.cells (lkA l) 23)).cell? ⟨w.heap.size, 1, none⟩ = some (.bool l.pfc) := L0.cell 1
  have hB : Hid (w.heap.size ≤ (w.alloc (.cells (lkA l) 23)).heap.size) := G0.size
  clear L0
  by_cases h : l.pfc = true ∧ plain = false ∧ p < 256
  · obtain ⟨h1, rfl, h3⟩ := h
    have e : fieldV l false p = [UInt8.ofNat p] := by rw [fieldV, if_pos ⟨h1, rfl, h3⟩]
    rw [e]
    rw [h1] at x1
    have h3' : decide ((p : Int) < 256) = true := decide_eq_true (by omega)
    have hu : ((UInt8.ofNat p).toNat : Int) = (p : Int) := by rw [u8_of]; omega
    clear e
    go_enter Try.func20, Try.ntmps20
    go_upto_region 2 with fail
    generalize w.alloc (.cells (lkA l) 23) = w1 at *
    have O := owns_lit w1 w.heap.size hB.out [UInt8.ofNat p] (by unfold maxLen; simp)
    have HO : Hid (Owns (w1.alloc (.cells #[.int .u8 (p : Int)] 5)) w.heap.size (.slice (some ⟨w1.heap.size, 0, none⟩) 1 1) [UInt8.ofNat p]) := by
      show Owns _ _ _ _
      rw [← hu]
      exact O
    clear O hu
    go_wp2
    go_ret
    exact ⟨_, rfl, HO.out, grown_trans G0 (World.grownBy_alloc _ _ _)⟩
  · have e : fieldV l plain p = be2 p := by rw [fieldV, if_neg h]
    rw [e, ← be2_eq]
    have hd : l.pfc = false ∨ (l.pfc = true ∧ plain = true) ∨ (l.pfc = true ∧ plain = false ∧ decide ((p : Int) < 256) = false) := by
      cases h1 : l.pfc with
      | false => exact .inl rfl
      | true =>
        cases h2 : plain with
        | true => exact .inr (.inl ⟨rfl, rfl⟩)
        | false => exact .inr (.inr ⟨rfl, rfl, decide_eq_false (fun hh => h ⟨h1, h2, by omega⟩)⟩)
    clear h e
    rcases hd with h1 | ⟨h1, rfl⟩ | ⟨h1, rfl, h3⟩
    all_goals
      rw [h1] at x1
      go_enter Try.func20, Try.ntmps20
      go_wp2_with fail
      refine (bytes_any 2 p 2 rfl (.inr (.inl rfl)) hp _).mono ?_
      rintro e w2 ⟨u, rfl, O2, K2⟩
      go_wp2
      go_ret
      exact ⟨_, rfl, owns_mono O2 hB.out, grown_trans G0 K2⟩

theorem or_top (k n : Nat) (h : n < 2 ^ k) : n ||| 2 ^ k = 2 ^ k + n := by
  have := Nat.two_pow_add_eq_or_of_lt h 1
  rw [Nat.mul_one] at this
  rw [Nat.or_comm]
  exact this.symm
theorem or_two (k n : Nat) (h : n < 2 ^ k) : (2 ^ (k + 1) + n) ||| 2 ^ k = 2 ^ (k + 1) + (2 ^ k + n) := by
  have h2 : 2 ^ k + n < 2 ^ (k + 1) := by rw [Nat.pow_succ]; omega
  have h1 : n < 2 ^ (k + 1) := by rw [Nat.pow_succ]; omega
  rw [← or_top (k + 1) n h1, Nat.or_comm n, Nat.or_assoc, or_top k n h, Nat.or_comm, or_top (k + 1) _ h2]

/-- A header's number, by bits. -/
theorem hd_bits (K seq : Nat) (beg fin : Bool) (h : seq < 2 ^ K) : ((if beg = true then seq ||| 2 ^ (K + 1) else seq) ||| (if fin = true then 2 ^ K else 0)) = (if beg = true then 2 ^ (K + 1) else 0) + (if fin = true then 2 ^ K else 0) + seq := by
  have h1 : seq < 2 ^ (K + 1) := by rw [Nat.pow_succ]; omega
  cases beg <;> cases fin <;> simp only [if_true, if_false, Bool.false_eq_true]
  · simp
  · rw [or_top K seq h]; omega
  · rw [or_top (K + 1) seq h1]; simp
  · rw [or_top (K + 1) seq h1, or_two K seq h]; omega

set_option maxRecDepth 100000 in
set_option maxHeartbeats 2000000 in
theorem head_any (l : Lk) (beg fin : Bool) (seq : Nat) (w : World) (hs : seq < spV l) : Calls Try.prog 21 #[.agg (lkA l), .bool beg, .bool fin, .int .u32 (seq : Int)] w fun e w' => ∃ v, e = .returned v ∧ Owns w' w.heap.size v (hdB l beg fin seq) ∧ w.grownBy w' none := by
  have L0 := VAt.alloc w 23 (lkA l)
  have G0 : w.grownBy (w.alloc (.cells (lkA l) 23)) none := World.grownBy_alloc _ _ _
  have x2 : (w.alloc (.cells (lkA l) 23)).cell? ⟨w.heap.size, 2, none⟩ = some (.int .i64 l.mp) := L0.cell 2
  have hB : Hid (w.heap.size ≤ (w.alloc (.cells (lkA l) 23)).heap.size) := G0.size
  clear L0
  unfold spV at hs
  by_cases h2 : l.mp = 2
  · rw [if_pos h2] at hs
    have e : hdB l beg fin seq = bytesV 4 (hdN l beg fin seq) := by rw [hdB, if_pos h2, be4_eq]
    have hN : hdN l beg fin seq = ((if beg = true then seq ||| 2147483648 else seq) ||| (if fin = true then 1073741824 else 0)) := by
      have := hd_bits 30 seq beg fin (by omega)
      rw [hdN, tpV, if_pos h2]
      exact this.symm
    have hNb : hdN l beg fin seq ≤ 4294967295 := by
      unfold hdN tpV
      rw [if_pos h2]
      cases beg <;> cases fin <;> simp <;> omega
    rw [e]
    have o1 : bits .or .u32 (seq : Int) 2147483648 = ((seq ||| 2147483648 : Nat) : Int) := u32_or_nat seq 2147483648 (by omega) (by omega)
    have o2 : bits .or .u32 (seq : Int) 1073741824 = ((seq ||| 1073741824 : Nat) : Int) := u32_or_nat seq 1073741824 (by omega) (by omega)
    have o3 : bits .or .u32 ((seq ||| 2147483648 : Nat) : Int) 1073741824 = ((seq ||| 2147483648 ||| 1073741824 : Nat) : Int) := u32_or_nat (seq ||| 2147483648) 1073741824 (Nat.or_lt_two_pow (n := 32) (by omega) (by omega)) (by omega)
    have h2' : (l.mp == 2) = true := by rw [h2]; rfl
    obtain ⟨N, hNN⟩ : ∃ N, hdN l beg fin seq = N := ⟨_, rfl⟩
    rw [hNN] at hN hNb ⊢
    have HBY : Hid (∀ W : World, Calls Try.prog 43 #[.int .u32 (N : Int), .int .i64 4] W fun e w' => ∃ u, e = .returned u ∧ Owns w' W.heap.size u (bytesV 4 N) ∧ W.grownBy w' none) := fun W => bytes_any 4 N 4 rfl (.inr (.inr rfl)) hNb W
    clear e hNb hNN h2 hs
    cases beg <;> cases fin <;> simp only [if_true, if_false, Bool.false_eq_true, Nat.or_zero] at hN <;> subst hN
    all_goals
      go_enter Try.func21, Try.ntmps21
      go_wp2_with fail
      refine (HBY.out _).mono ?_
      rintro e w2 ⟨u, rfl, O2, K2⟩
      go_wp2
      go_ret
      exact ⟨_, rfl, owns_mono O2 hB.out, grown_trans G0 K2⟩
  · rw [if_neg h2] at hs
    have e : hdB l beg fin seq = bytesV 2 (hdN l beg fin seq) := by rw [hdB, if_neg h2, be2_eq]
    have hN : hdN l beg fin seq = ((if beg = true then seq ||| 32768 else seq) ||| (if fin = true then 16384 else 0)) := by
      have := hd_bits 14 seq beg fin (by omega)
      rw [hdN, tpV, if_neg h2]
      exact this.symm
    have hNb : hdN l beg fin seq ≤ 4294967295 := by
      unfold hdN tpV
      rw [if_neg h2]
      cases beg <;> cases fin <;> simp <;> omega
    rw [e]
    have o1 : bits .or .u32 (seq : Int) 32768 = ((seq ||| 32768 : Nat) : Int) := u32_or_nat seq 32768 (by omega) (by omega)
    have o2 : bits .or .u32 (seq : Int) 16384 = ((seq ||| 16384 : Nat) : Int) := u32_or_nat seq 16384 (by omega) (by omega)
    have o3 : bits .or .u32 ((seq ||| 32768 : Nat) : Int) 16384 = ((seq ||| 32768 ||| 16384 : Nat) : Int) := u32_or_nat (seq ||| 32768) 16384 (Nat.or_lt_two_pow (n := 32) (by omega) (by omega)) (by omega)
    have h2' : (l.mp == 2) = false := by rw [beq_eq_false_iff_ne]; exact h2
    obtain ⟨N, hNN⟩ : ∃ N, hdN l beg fin seq = N := ⟨_, rfl⟩
    rw [hNN] at hN hNb ⊢
    have HBY : Hid (∀ W : World, Calls Try.prog 43 #[.int .u32 (N : Int), .int .i64 2] W fun e w' => ∃ u, e = .returned u ∧ Owns w' W.heap.size u (bytesV 2 N) ∧ W.grownBy w' none) := fun W => bytes_any 2 N 2 rfl (.inr (.inl rfl)) hNb W
    clear e hNb hNN h2 hs
    cases beg <;> cases fin <;> simp only [if_true, if_false, Bool.false_eq_true, Nat.or_zero] at hN <;> subst hN
    all_goals
      go_enter Try.func21, Try.ntmps21
      go_wp2_with fail
      refine (HBY.out _).mono ?_
      rintro e w2 ⟨u, rfl, O2, K2⟩
      go_wp2
      go_ret
      exact ⟨_, rfl, owns_mono O2 hB.out, grown_trans G0 K2⟩

end Go.Proofs.Ytfjjmeanmlimoaa
