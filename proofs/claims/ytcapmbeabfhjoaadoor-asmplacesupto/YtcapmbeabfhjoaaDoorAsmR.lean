/-
  Package asm reads: a number that stands ahead.
-/
import Derived.Test.YtcapmbeabfhjoaaDoorAsmS
import Derived.Test.YtcapmbeabfhjoaaDoorAsmT
namespace Go.Proofs.YtcapmbeabfhjoaaDoor
open Go.RowKit
set_option maxRecDepth 100000

/-- A reader lies in block p. -/
def RdAt (w : World) (p : Nat) (S : ByteArray) (c t f k : Nat) : Prop := w.heap[p]? = some (.cells #[.string S, .int .u16 (c : Int), .int .u8 (t : Int), .int .u8 (f : Int), .int .u32 (k : Int)] 75 (0, 0))

theorem RdAt.cells {w : World} {p : Nat} {S : ByteArray} {c t f k : Nat} (h : RdAt w p S c t f k) : w.cell? ⟨p, 0, none⟩ = some (.string S) ∧ w.cell? ⟨p, 1, none⟩ = some (.int .u16 (c : Int)) ∧ w.cell? ⟨p, 2, none⟩ = some (.int .u8 (t : Int)) ∧ w.cell? ⟨p, 3, none⟩ = some (.int .u8 (f : Int)) ∧ w.cell? ⟨p, 4, none⟩ = some (.int .u32 (k : Int)) := by
  unfold RdAt at h
  simp [World.cell?, h]
theorem RdAt.free {w : World} {p : Nat} {S : ByteArray} {c t f k : Nat} (h : RdAt w p S c t f k) (i : Nat) : w.frozen? ⟨p, i, none⟩ = false := by
  unfold RdAt at h
  simp [World.frozen?, h]
theorem RdAt.lt {w : World} {p : Nat} {S : ByteArray} {c t f k : Nat} (h : RdAt w p S c t f k) : p < w.heap.size := by
  unfold RdAt at h
  by_cases hb : p < w.heap.size
  · exact hb
  · rw [Array.getElem?_eq_none (by omega)] at h; cases h
theorem RdAt.set0 {w : World} {p : Nat} {S : ByteArray} {c t f k : Nat} (h : RdAt w p S c t f k) (S' : ByteArray) : RdAt (w.setCell ⟨p, 0, none⟩ (.string S')) p S' c t f k := by
  unfold RdAt at *
  simp [World.setCell, Array.getElem?_modify, h]
theorem RdAt.set1 {w : World} {p : Nat} {S : ByteArray} {c t f k : Nat} (h : RdAt w p S c t f k) (n : Nat) : RdAt (w.setCell ⟨p, 1, none⟩ (.int .u16 (n : Int))) p S n t f k := by
  unfold RdAt at *
  simp [World.setCell, Array.getElem?_modify, h]
theorem RdAt.set2 {w : World} {p : Nat} {S : ByteArray} {c t f k : Nat} (h : RdAt w p S c t f k) (n : Nat) : RdAt (w.setCell ⟨p, 2, none⟩ (.int .u8 (n : Int))) p S c n f k := by
  unfold RdAt at *
  simp [World.setCell, Array.getElem?_modify, h]
theorem RdAt.set3 {w : World} {p : Nat} {S : ByteArray} {c t f k : Nat} (h : RdAt w p S c t f k) (n : Nat) : RdAt (w.setCell ⟨p, 3, none⟩ (.int .u8 (n : Int))) p S c t n k := by
  unfold RdAt at *
  simp [World.setCell, Array.getElem?_modify, h]
theorem RdAt.set4 {w : World} {p : Nat} {S : ByteArray} {c t f k : Nat} (h : RdAt w p S c t f k) (n : Nat) : RdAt (w.setCell ⟨p, 4, none⟩ (.int .u32 (n : Int))) p S c t f n := by
  unfold RdAt at *
  simp [World.setCell, Array.getElem?_modify, h]
theorem grown_set (w : World) (p i : Nat) (v : Value) : w.grownBy (w.setCell ⟨p, i, none⟩ v) (some p) :=
  ⟨rfl, rfl, rfl, by simp [World.setCell], fun k _ hne => Below.heap_setCell w _ v k (fun e => hne (by rw [e]))⟩

theorem digs_cons_yes {c : UInt8} (r : List UInt8) (h : isDig c = true) : digs (c :: r) = c :: digs r := by simp [digs, h]
theorem digs_cons_no {c : UInt8} (r : List UInt8) (h : isDig c = false) : digs (c :: r) = [] := by simp [digs, h]

theorem ret_nb {n m : Int} {a b : Bool} (h : n = m) (h' : a = b) : Ending.returned (.tuple #[.int .u64 n, .bool a]) = .returned (.tuple #[.int .u64 m, .bool b]) := by rw [h, h']

theorem num_end {S : ByteArray} {most v j : Nat} {ans : Option Nat} (hD : digs ((sl S).drop j) = []) (hI : numFrom most v (digs ((sl S).drop j)) = ans) (hL : (digs (sl S)).length = j + (digs ((sl S).drop j)).length) (hA : numFrom most 0 (digs (sl S)) = ans) :
    (decide (0 < j) = true → numAhead most (sl S) = some v ∧ sl (S.extract j S.size) = past (sl S)) ∧ (decide (0 < j) = false → numAhead most (sl S) = none) := by
  rw [hD] at hI hL
  simp only [List.length_nil, Nat.add_zero] at hL
  refine ⟨fun h => ⟨?_, ?_⟩, fun h => ?_⟩
  · have h0 : 0 < j := by have := of_decide_eq_true h; omega
    rw [numAhead, if_neg (by intro e; rw [e] at hL; simp at hL; omega), hA, ← hI]
    rfl
  · rw [past, hL, sl_extract]
    exact List.take_of_length_le (by rw [List.length_drop, sl_len]; omega)
  · have h0 : j = 0 := by have := of_decide_eq_false h; omega
    rw [numAhead, if_pos (List.eq_nil_of_length_eq_zero (by omega))]

/-- What is left by a look for a number. -/
def NumPost (w w' : World) (e : Ending) (p : Nat) (S : ByteArray) (c t f k most : Nat) : Prop := ∃ (S' : ByteArray) (n : Nat) (b : Bool), e = .returned (.tuple #[.int .u64 (n : Int), .bool b]) ∧ RdAt w' p S' c t f k ∧ w.grownBy w' (some p) ∧ n ≤ most ∧ S'.size ≤ S.size
  ∧ (b = true → numAhead most (sl S) = some n ∧ sl S' = past (sl S)) ∧ (b = false → numAhead most (sl S) = none)

set_option maxHeartbeats 4000000 in
theorem number_any (p : Nat) (S : ByteArray) (c t f k most : Nat) (w : World) (R : RdAt w p S c t f k) (hS : S.size ≤ 1048576) (hm : most ≤ 4294967295) :
    Calls Tryd.prog 76 #[.pointer (some ⟨p, 0, none⟩), .int .u64 most] w fun e w' => NumPost w w' e p S c t f k most := by
  obtain ⟨ans, HA0⟩ : ∃ ans, numFrom most 0 (digs (sl S)) = ans := ⟨_, rfl⟩
  have HA : Hid (numFrom most 0 (digs (sl S)) = ans) := HA0
  clear HA0
  have hx := R.cells.1
  have hfz := R.free 0
  have HR : Hid (RdAt w p S c t f k) := R
  clear R
  go_enter Tryd.func76, Tryd.ntmps76
  go_wp2
  go_loop [6, 7] (fun x i => ∃ j v : Nat, j ≤ S.size ∧ v ≤ most ∧ i = .int .i64 j ∧ x = .int .u64 v ∧ Hid (numFrom most v (digs ((sl S).drop j)) = ans) ∧ Hid ((digs (sl S)).length = j + (digs ((sl S).drop j)).length)) (fun _ i => S.size - (intOf i).toNat)
  case atStart => exact ⟨0, 0, Nat.zero_le _, Nat.zero_le _, rfl, rfl, HA, by show _ = _; simp⟩
  case round =>
    obtain ⟨j, v, hj, hv, rfl, rfl, HI, HL⟩ := hrel
    by_cases hlt : j < S.size
    · have hki : (j : Int) < (S.size : Int) := by omega
      have HS : Hid ((sl S).drop j = S[j] :: (sl S).drop (j + 1)) := sl_drop S j hlt
      have hb := S[j].toNat_lt
      by_cases hd : isDig S[j] = true
      · have hd1 : 48 ≤ S[j].toNat := by simp [isDig] at hd; omega
        have hd2 : S[j].toNat ≤ 57 := by simp [isDig] at hd; omega
        have HL2 : Hid ((digs (sl S)).length = j + 1 + (digs ((sl S).drop (j + 1))).length) := by
          show (digs (sl S)).length = j + 1 + (digs ((sl S).drop (j + 1))).length
          have := HL.out
          rw [HS.out, digs_cons_yes _ hd] at this
          simp only [List.length_cons] at this
          omega
        by_cases hbig : most < 10 * v + (S[j].toNat - 48)
        · have HN : Hid (numAhead most (sl S) = none) := by
            show numAhead most (sl S) = none
            have h1 : digs (sl S) ≠ [] := by intro e; have := HL2.out; rw [e, List.length_nil] at this; omega
            rw [numAhead, if_neg h1, HA.out, ← HI.out, HS.out, digs_cons_yes _ hd, numFrom]
            simp [hd, hbig]
          clear HI HL HL2 HS hd
          go_wp2
          go_ret2
          exact ⟨S, 0, false, rfl, HR.out, World.grownBy.refl _ _, Nat.zero_le _, Nat.le_refl _, fun h => absurd h (by simp), fun _ => HN.out⟩
        · have HN : Hid (numFrom most (10 * v + (S[j].toNat - 48)) (digs ((sl S).drop (j + 1))) = ans) := by
            show numFrom most (10 * v + (S[j].toNat - 48)) (digs ((sl S).drop (j + 1))) = ans
            rw [← HI.out, HS.out, digs_cons_yes _ hd, numFrom]; simp [hd, hbig]
          clear HI HL HS hd
          go_wp2
          go_round
          case rel => exact ⟨j + 1, 10 * v + (S[j].toNat - 48), by omega, by omega, by go_num, by rw [show ((10 * v + (S[j].toNat - 48) : Nat) : Int) = (v : Int) * 10 + ((S[j].toNat : Int) - 48) by omega], HN, HL2⟩
          case measure => simp [intOf]; omega
      · have hd' : isDig S[j] = false := by simpa using hd
        have HD : Hid (digs ((sl S).drop j) = []) := by
          show digs ((sl S).drop j) = []
          rw [HS.out, digs_cons_no _ hd']
        have hd3 : S[j].toNat < 48 ∨ 57 < S[j].toNat := by simp [isDig] at hd'; omega
        have hj0 : (0 : Int) ≤ (j : Int) := by omega
        have hjs : (j : Int) ≤ (S.size : Int) := by omega
        have HP : Hid _ := num_end (S := S) HD.out HI.out HL.out HA.out
        clear hd hd' HD HS HI HL
        rcases hd3 with hd3 | hd3
        all_goals
          go_wp2
          go_ret2
          exact ⟨S.extract j S.size, v, _, rfl, HR.out.set0 _, grown_set _ _ _ _, hv, by simp, HP.out.1, HP.out.2⟩
    · obtain rfl : j = S.size := by omega
      have HD : Hid (digs ((sl S).drop S.size) = []) := by
        show digs ((sl S).drop S.size) = []
        rw [List.drop_eq_nil_of_le (by rw [sl_len]; omega)]; rfl
      have HP := num_end (S := S) HD.out HI.out HL.out HA.out
      rw [show S.extract S.size S.size = ByteArray.empty by simp] at HP
      have HQ : Hid _ := HP
      clear HD HI HL HP
      go_wp2
      go_ret2
      exact ⟨ByteArray.empty, v, _, rfl, HR.out.set0 _, grown_set _ _ _ _, hv, by simp, HQ.out.1, HQ.out.2⟩

end Go.Proofs.YtcapmbeabfhjoaaDoor
