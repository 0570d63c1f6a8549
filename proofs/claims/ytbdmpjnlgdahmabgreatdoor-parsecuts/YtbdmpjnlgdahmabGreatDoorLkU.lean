/-
  The library's own reading of numbers, at bases 10 and 16 and 32 bits, of texts of digits and small letters.
-/
import Derived.Test.YtbdmpjnlgdahmabGreatDoorLotP11
import Derived.Lib.ConvBytes
namespace Go.Proofs.YtbdmpjnlgdahmabGreatDoor
open Go.RowKit
set_option maxRecDepth 100000

def digB (n : Nat) : Nat := if n ≤ 57 then n - 48 else n - 87
/-- The number that such letters say behind v, below 2^32. -/
def pU (b : Nat) : Nat → List UInt8 → Option Nat
  | v, [] => some v
  | v, c :: r => if digB c.toNat < b then (if 4294967295 < v * b + digB c.toNat then none else pU b (v * b + digB c.toNat) r) else none

theorem word_nat {c : UInt8} (h : wordB c = true) : (48 ≤ c.toNat ∧ c.toNat ≤ 57) ∨ (97 ≤ c.toNat ∧ c.toNat ≤ 122) := by
  simp only [wordB, isDig, letB, Bool.or_eq_true, Bool.and_eq_true, decide_eq_true_eq] at h
  exact h

set_option maxHeartbeats 400000 in
theorem lower_any (n : Nat) (h1 : 97 ≤ n) (h2 : n ≤ 122) (w : World) :
    Calls Tryz.prog 45 #[.int .u8 (n : Int)] w fun e w' => e = .returned (.int .u8 (n : Int)) ∧ w = w' := by
  have h : ∀ k : Fin 26, bits .or .u8 ((97 + k.1 : Nat) : Int) 32 = ((97 + k.1 : Nat) : Int) := by decide +kernel
  have h3 := h ⟨n - 97, by omega⟩
  simp only [show 97 + (n - 97) = n by omega] at h3
  clear h
  go_enter Tryz.func45, Tryz.ntmps45
  go_wp2
  go_ret
  exact ⟨ret_int (by first | exact h3 | rfl), rfl⟩

/-- What a reading leaves. -/
def NumP (r : Option Nat) (e : Ending) : Prop := ∃ (n : Int) (er : Value), e = .returned (.tuple #[.int .u64 n, er]) ∧ ((r = none ∧ (er = .iface 76 (.int .i64 1) ∨ er = .iface 76 (.int .i64 2))) ∨ (∃ m : Nat, r = some m ∧ n = (m : Int) ∧ er = .nilIface))

theorem bytes_grown (w : World) (e : TypeId) (s : ByteArray) : w.grownBy (Lib.bytesWorld w e s) none :=
  ⟨rfl, rfl, rfl, by rw [Lib.bytesWorld_size]; omega, fun k hk _ => Lib.bytesWorld_at_old w e s k hk⟩

set_option maxHeartbeats 8000000 in
set_option maxRecDepth 100000 in
theorem iparse10_any (t : ByteArray) (hne : t.size ≠ 0) (hmax : t.size ≤ 140737488355328) (ht : ∀ c ∈ sl t, wordB c = true) (w : World) :
    Calls Tryz.prog 39 #[.string t, .int .i64 10, .int .i64 32] w fun e w' => NumP (pU 10 0 (sl t)) e ∧ w.grownBy w' none := by
  have hemp : t.toList.isEmpty = false := by
    rw [← decide_eq_emptyBytes]
    exact decide_eq_false (fun h => hne (by rw [h]; rfl))
  have hcv := Lib.run_convert_string_bytes (P := Tryz.prog) w 9 79 5 t (u := .string) Tryz.underlying9 Tryz.underlying79 Tryz.underlying5
  have HB : Hid (∀ j (hj : j < t.size), (Lib.bytesWorld w 5 t).cell? ⟨w.heap.size, j, none⟩ = some (.int .u8 (t[j].toNat : Int))) := fun j hj => by
    have := Lib.bytesWorld_cell w 5 t j hj
    rw [this]
    congr 3
    have h2 := sl_get t j hj
    show (t.data.toList.getD j 0).toNat = _
    rw [List.getD_eq_getElem?_getD, show t.data.toList[j]? = some t[j] from h2]
    rfl
  have HG : Hid (w.grownBy (Lib.bytesWorld w 5 t) none) := bytes_grown _ _ _
  generalize Lib.bytesWorld w 5 t = W1 at *
  have HWD : Hid (∀ j (hj : j < t.size), wordB t[j] = true) := fun j hj => ht _ (List.mem_of_getElem? (sl_get t j hj))
  obtain ⟨ans, hans⟩ : ∃ ans, pU 10 0 (sl t) = ans := ⟨_, rfl⟩
  have HA : Hid (pU 10 0 ((sl t).drop 0) = ans) := by show _ = ans; rw [List.drop_zero]; exact hans
  rw [hans]
  have HL : Hid (∀ (n : Nat), 97 ≤ n → n ≤ 122 → ∀ w : World, Calls Tryz.prog 45 #[.int .u8 (n : Int)] w fun e w' => e = .returned (.int .u8 (n : Int)) ∧ w = w') := fun n h1 h2 w => lower_any n h1 h2 w
  have hmv : IntKind.u64.wrap (IntKind.u64.wrap 4294967296 - 1) = 4294967295 := by
    rw [IntKind.wrap_u64, IntKind.wrap_u64]
    decide
  clear hans ht hne
  go_enter Tryz.func39, Tryz.ntmps39
  go_wp2
  go_loopw [12, 13, 101] (fun vu vn vi wr => ∃ (k acc : Nat) (a : Int), vu = .bool false ∧ vn = .int .u64 a ∧ vi = .int .i64 k ∧ k ≤ t.size ∧ Hid (a = (acc : Int) ∧ acc ≤ 4294967295 ∧ pU 10 acc ((sl t).drop k) = ans) ∧ wr = W1) (fun _ _ vi _ => t.size - (intOf vi).toNat)
  case atStart => exact ⟨0, 0, 0, rfl, rfl, rfl, Nat.zero_le _, ⟨rfl, Nat.zero_le _, HA.out⟩, rfl⟩
  case round =>
    clear HA hcv
    obtain ⟨k, acc, a, rfl, rfl, rfl, hk, hh, rfl⟩ := hrel
    obtain ⟨ha, hacc, hdec⟩ := hh.out
    clear hh
    have a0 : 0 ≤ a := by omega
    have a1 : a ≤ 4294967295 := by omega
    have z0 : (0 : Int) ≤ (k : Int) := by omega
    by_cases hkn : k < t.size
    · have hki : (k : Int) < (t.size : Int) := by omega
      have hc := HB.out k hkn
      have hwd := word_nat (HWD.out k hkn)
      rw [sl_drop t k hkn, pU] at hdec
      have hc256 : t[k].toNat < 256 := t[k].toNat_lt
      generalize t[k].toNat = c at *
      have HB' : Hid _ := HB
      clear HB HWD
      have icut : a < 1844674407370955162 := by omega
      have b95 : ((c : Int) == 95) = false := by rw [beq_eq_false_iff_ne]; omega
      rcases hwd with ⟨hd0, hd1⟩ | ⟨hd0, hd1⟩
      · have hdv : digB c = c - 48 := by rw [digB, if_pos hd1]
        have i0 : (48 : Int) ≤ (c : Int) := by omega
        have i1 : (c : Int) ≤ 57 := by omega
        have hw0 : IntKind.u8.wrap ((c : Int) - 48) = (c : Int) - 48 := by rw [IntKind.wrap_u8]; omega
        rw [hdv, if_pos (by omega)] at hdec
        by_cases hov : 4294967295 < acc * 10 + (c - 48)
        · rw [if_pos hov] at hdec
          subst hdec
          have iov : 4294967295 < a * 10 + ((c : Int) - 48) := by omega
          clear hov ha hacc hdv HB' HL hd0 hd1
          go_wp2
          go_ret2
          exact ⟨⟨_, _, rfl, .inl ⟨rfl, .inl rfl⟩⟩, HG.out⟩
        · rw [if_neg hov] at hdec
          have HN : Hid (a * 10 + ((c : Int) - 48) = ((acc * 10 + (c - 48) : Nat) : Int) ∧ acc * 10 + (c - 48) ≤ 4294967295 ∧ pU 10 (acc * 10 + (c - 48)) ((sl t).drop (k + 1)) = ans) := ⟨by omega, by omega, hdec⟩
          have iov : a * 10 + ((c : Int) - 48) ≤ 4294967295 := by omega
          clear hov ha hacc hdec hdv HB' HL hd0 hd1
          go_wp2
          go_roundw
          case rel => exact ⟨k + 1, acc * 10 + (c - 48), a * 10 + ((c : Int) - 48), rfl, by first | rfl | (congr 1; omega), by go_num, by omega, HN, by first | rfl | trivial⟩
          case measure => simp [intOf]; omega
      · have hdv : digB c = c - 87 := by rw [digB, if_neg (by omega)]
        have i0 : (48 : Int) ≤ (c : Int) := by omega
        have i1 : ¬ (c : Int) ≤ 57 := by omega
        have i2 : (97 : Int) ≤ (c : Int) := by omega
        have i3 : (c : Int) ≤ 122 := by omega
        have hw0 : IntKind.u8.wrap ((c : Int) - 97) = (c : Int) - 97 := by rw [IntKind.wrap_u8]; omega
        have hw1 : IntKind.u8.wrap ((c : Int) - 97 + 10) = (c : Int) - 87 := by rw [IntKind.wrap_u8]; omega
        have CL := HL.out c hd0 hd1
        rw [hdv] at hdec
        by_cases hbg : c - 87 < 10
        · exact absurd hbg (by omega)
        · rw [if_neg hbg] at hdec
          subst hdec
          have ibg : ¬ (c : Int) - 87 < 10 := by omega
          clear ha hacc hdv HB' HL hd0 hd1 hbg
          go_wp2_with (go_at_call 45; refine (CL _).mono ?_; rintro e w' ⟨rfl, rfl⟩)
          go_ret2
          exact ⟨⟨_, _, rfl, .inl ⟨rfl, .inr rfl⟩⟩, HG.out⟩
    · obtain rfl : k = t.size := by omega
      have hki : ¬ (t.size : Int) < (t.size : Int) := by omega
      rw [List.drop_eq_nil_of_le (by rw [sl_len]; exact Nat.le_refl _), pU] at hdec
      subst hdec
      have HN : Hid (a = (acc : Int)) := ha
      clear ha hacc HB HWD HL
      go_wp2
      go_ret2
      exact ⟨⟨_, _, rfl, .inr ⟨acc, rfl, HN.out, rfl⟩⟩, HG.out⟩

set_option maxHeartbeats 8000000 in
set_option maxRecDepth 100000 in
theorem iparse16_any (t : ByteArray) (hne : t.size ≠ 0) (hmax : t.size ≤ 140737488355328) (ht : ∀ c ∈ sl t, wordB c = true) (w : World) :
    Calls Tryz.prog 39 #[.string t, .int .i64 16, .int .i64 32] w fun e w' => NumP (pU 16 0 (sl t)) e ∧ w.grownBy w' none := by
  have hemp : t.toList.isEmpty = false := by
    rw [← decide_eq_emptyBytes]
    exact decide_eq_false (fun h => hne (by rw [h]; rfl))
  have hcv := Lib.run_convert_string_bytes (P := Tryz.prog) w 9 79 5 t (u := .string) Tryz.underlying9 Tryz.underlying79 Tryz.underlying5
  have HB : Hid (∀ j (hj : j < t.size), (Lib.bytesWorld w 5 t).cell? ⟨w.heap.size, j, none⟩ = some (.int .u8 (t[j].toNat : Int))) := fun j hj => by
    have := Lib.bytesWorld_cell w 5 t j hj
    rw [this]
    congr 3
    have h2 := sl_get t j hj
    show (t.data.toList.getD j 0).toNat = _
    rw [List.getD_eq_getElem?_getD, show t.data.toList[j]? = some t[j] from h2]
    rfl
  have HG : Hid (w.grownBy (Lib.bytesWorld w 5 t) none) := bytes_grown _ _ _
  generalize Lib.bytesWorld w 5 t = W1 at *
  have HWD : Hid (∀ j (hj : j < t.size), wordB t[j] = true) := fun j hj => ht _ (List.mem_of_getElem? (sl_get t j hj))
  obtain ⟨ans, hans⟩ : ∃ ans, pU 16 0 (sl t) = ans := ⟨_, rfl⟩
  have HA : Hid (pU 16 0 ((sl t).drop 0) = ans) := by show _ = ans; rw [List.drop_zero]; exact hans
  rw [hans]
  have HL : Hid (∀ (n : Nat), 97 ≤ n → n ≤ 122 → ∀ w : World, Calls Tryz.prog 45 #[.int .u8 (n : Int)] w fun e w' => e = .returned (.int .u8 (n : Int)) ∧ w = w') := fun n h1 h2 w => lower_any n h1 h2 w
  have hmv : IntKind.u64.wrap (IntKind.u64.wrap 4294967296 - 1) = 4294967295 := by
    rw [IntKind.wrap_u64, IntKind.wrap_u64]
    decide
  clear hans ht hne
  go_enter Tryz.func39, Tryz.ntmps39
  go_wp2
  go_loopw [12, 13, 101] (fun vu vn vi wr => ∃ (k acc : Nat) (a : Int), vu = .bool false ∧ vn = .int .u64 a ∧ vi = .int .i64 k ∧ k ≤ t.size ∧ Hid (a = (acc : Int) ∧ acc ≤ 4294967295 ∧ pU 16 acc ((sl t).drop k) = ans) ∧ wr = W1) (fun _ _ vi _ => t.size - (intOf vi).toNat)
  case atStart => exact ⟨0, 0, 0, rfl, rfl, rfl, Nat.zero_le _, ⟨rfl, Nat.zero_le _, HA.out⟩, rfl⟩
  case round =>
    clear HA hcv
    obtain ⟨k, acc, a, rfl, rfl, rfl, hk, hh, rfl⟩ := hrel
    obtain ⟨ha, hacc, hdec⟩ := hh.out
    clear hh
    have a0 : 0 ≤ a := by omega
    have a1 : a ≤ 4294967295 := by omega
    have z0 : (0 : Int) ≤ (k : Int) := by omega
    by_cases hkn : k < t.size
    · have hki : (k : Int) < (t.size : Int) := by omega
      have hc := HB.out k hkn
      have hwd := word_nat (HWD.out k hkn)
      rw [sl_drop t k hkn, pU] at hdec
      have hc256 : t[k].toNat < 256 := t[k].toNat_lt
      generalize t[k].toNat = c at *
      have HB' : Hid _ := HB
      clear HB HWD
      have icut : a < 1152921504606846976 := by omega
      have b95 : ((c : Int) == 95) = false := by rw [beq_eq_false_iff_ne]; omega
      rcases hwd with ⟨hd0, hd1⟩ | ⟨hd0, hd1⟩
      · have hdv : digB c = c - 48 := by rw [digB, if_pos hd1]
        have i0 : (48 : Int) ≤ (c : Int) := by omega
        have i1 : (c : Int) ≤ 57 := by omega
        have hw0 : IntKind.u8.wrap ((c : Int) - 48) = (c : Int) - 48 := by rw [IntKind.wrap_u8]; omega
        rw [hdv, if_pos (by omega)] at hdec
        by_cases hov : 4294967295 < acc * 16 + (c - 48)
        · rw [if_pos hov] at hdec
          subst hdec
          have iov : 4294967295 < a * 16 + ((c : Int) - 48) := by omega
          clear hov ha hacc hdv HB' HL hd0 hd1
          go_wp2
          go_ret2
          exact ⟨⟨_, _, rfl, .inl ⟨rfl, .inl rfl⟩⟩, HG.out⟩
        · rw [if_neg hov] at hdec
          have HN : Hid (a * 16 + ((c : Int) - 48) = ((acc * 16 + (c - 48) : Nat) : Int) ∧ acc * 16 + (c - 48) ≤ 4294967295 ∧ pU 16 (acc * 16 + (c - 48)) ((sl t).drop (k + 1)) = ans) := ⟨by omega, by omega, hdec⟩
          have iov : a * 16 + ((c : Int) - 48) ≤ 4294967295 := by omega
          clear hov ha hacc hdec hdv HB' HL hd0 hd1
          go_wp2
          go_roundw
          case rel => exact ⟨k + 1, acc * 16 + (c - 48), a * 16 + ((c : Int) - 48), rfl, by first | rfl | (congr 1; omega), by go_num, by omega, HN, by first | rfl | trivial⟩
          case measure => simp [intOf]; omega
      · have hdv : digB c = c - 87 := by rw [digB, if_neg (by omega)]
        have i0 : (48 : Int) ≤ (c : Int) := by omega
        have i1 : ¬ (c : Int) ≤ 57 := by omega
        have i2 : (97 : Int) ≤ (c : Int) := by omega
        have i3 : (c : Int) ≤ 122 := by omega
        have hw0 : IntKind.u8.wrap ((c : Int) - 97) = (c : Int) - 97 := by rw [IntKind.wrap_u8]; omega
        have hw1 : IntKind.u8.wrap ((c : Int) - 97 + 10) = (c : Int) - 87 := by rw [IntKind.wrap_u8]; omega
        have CL := HL.out c hd0 hd1
        rw [hdv] at hdec
        by_cases hbg : c - 87 < 16
        · rw [if_pos hbg] at hdec
          by_cases hov : 4294967295 < acc * 16 + (c - 87)
          · rw [if_pos hov] at hdec
            subst hdec
            have iov : 4294967295 < a * 16 + ((c : Int) - 87) := by omega
            have ibg : (c : Int) - 87 < 16 := by omega
            clear hov ha hacc hdv HB' HL hd0 hd1 hbg
            go_wp2_with (go_at_call 45; refine (CL _).mono ?_; rintro e w' ⟨rfl, rfl⟩)
            go_ret2
            exact ⟨⟨_, _, rfl, .inl ⟨rfl, .inl rfl⟩⟩, HG.out⟩
          · rw [if_neg hov] at hdec
            have HN : Hid (a * 16 + ((c : Int) - 87) = ((acc * 16 + (c - 87) : Nat) : Int) ∧ acc * 16 + (c - 87) ≤ 4294967295 ∧ pU 16 (acc * 16 + (c - 87)) ((sl t).drop (k + 1)) = ans) := ⟨by omega, by omega, hdec⟩
            have iov : a * 16 + ((c : Int) - 87) ≤ 4294967295 := by omega
            have ibg : (c : Int) - 87 < 16 := by omega
            clear hov ha hacc hdec hdv HB' HL hd0 hd1 hbg
            go_wp2_with (go_at_call 45; refine (CL _).mono ?_; rintro e w' ⟨rfl, rfl⟩)
            go_roundw
            case rel => exact ⟨k + 1, acc * 16 + (c - 87), a * 16 + ((c : Int) - 87), rfl, by first | rfl | (congr 1; omega), by go_num, by omega, HN, by first | rfl | trivial⟩
            case measure => simp [intOf]; omega
        · rw [if_neg hbg] at hdec
          subst hdec
          have ibg : ¬ (c : Int) - 87 < 16 := by omega
          clear ha hacc hdv HB' HL hd0 hd1 hbg
          go_wp2_with (go_at_call 45; refine (CL _).mono ?_; rintro e w' ⟨rfl, rfl⟩)
          go_ret2
          exact ⟨⟨_, _, rfl, .inl ⟨rfl, .inr rfl⟩⟩, HG.out⟩
    · obtain rfl : k = t.size := by omega
      have hki : ¬ (t.size : Int) < (t.size : Int) := by omega
      rw [List.drop_eq_nil_of_le (by rw [sl_len]; exact Nat.le_refl _), pU] at hdec
      subst hdec
      have HN : Hid (a = (acc : Int)) := ha
      clear ha hacc HB HWD HL
      go_wp2
      go_ret2
      exact ⟨⟨_, _, rfl, .inr ⟨acc, rfl, HN.out, rfl⟩⟩, HG.out⟩

set_option maxHeartbeats 1000000 in
theorem iparse0_any (b : Nat) (w : World) :
    Calls Tryz.prog 39 #[.string ⟨#[]⟩, .int .i64 (b : Int), .int .i64 32] w fun e w' => NumP none e ∧ w = w' := by
  go_enter Tryz.func39, Tryz.ntmps39
  go_wp2
  go_ret2
  exact ⟨⟨_, _, rfl, .inl ⟨rfl, .inr rfl⟩⟩, rfl⟩

end Go.Proofs.YtbdmpjnlgdahmabGreatDoor
