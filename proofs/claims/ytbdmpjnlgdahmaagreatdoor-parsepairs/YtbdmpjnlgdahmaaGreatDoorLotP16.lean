/-
  The library's own reading of numbers, at bases 10 and 16 and 32 bits, of texts of digits and small letters. The library functions that packages lex and addr call: their contracts at this cut.
-/
import Derived.Test.YtbdmpjnlgdahmaaGreatDoorLotP14
import Derived.Lib.ConvBytes
import Derived.Shelf.Small.Wraps
import Derived.Shelf.Strconv.Itoa0
import Derived.Shelf.Strconv.Itoa1
import Derived.Shelf.LaysM
import Derived.Shelf.Strconv.Itoa2
import Derived.Shelf.Strconv.Itoa3
import Derived.Shelf.Strconv.Clone
import Derived.Shelf.Strconv.SyntaxError
import Derived.Shelf.LaysC
import Derived.Shelf.Strconv.ToError
import Derived.Shelf.Strconv.RangeError
import Derived.Shelf.Strconv.ToErrorRange
import Derived.Shelf.Strings.Search1
import Derived.Shelf.Strings.Search2
import Derived.Shelf.Strings.Cut
import Derived.Shelf.Strings.Shaped
import Derived.Shelf.Strings.Prefix
import Derived.Test.YtbdmpjnlgdahmaaGreatDoorProg
namespace Go.Proofs.YtbdmpjnlgdahmaaGreatDoor
open Go.RowKit
set_option maxRecDepth 100000

def digB (n : Nat) : Nat := if n ≤ 57 then n - 48 else n - 87
/-- The number that such letters say behind v, below 2^32. -/
def pU (b : Nat) : Nat → List UInt8 → Option Nat
  | v, [] => some v
  | v, c :: r => if digB c.toNat < b then (if 4294967295 < v * b + digB c.toNat then none else pU b (v * b + digB c.toNat) r) else none

theorem word_nat {c : UInt8} (h : wordB c = true) : (48 ≤ c.toNat ∧ c.toNat ≤ 57) ∨ (97 ≤ c.toNat ∧ c.toNat ≤ 122) := by
  simp only [wordB, isDig, letB, Bool.or_eq_true, Bool.and_eq_true, decide_eq_true_eq] at h
  exact h

set_option maxHeartbeats 400000 in
theorem lower_any (n : Nat) (h1 : 97 ≤ n) (h2 : n ≤ 122) (w : World) :
    Calls Tryz.prog 105 #[.int .u8 (n : Int)] w fun e w' => e = .returned (.int .u8 (n : Int)) ∧ w = w' := by
  have h : ∀ k : Fin 26, bits .or .u8 ((97 + k.1 : Nat) : Int) 32 = ((97 + k.1 : Nat) : Int) := by decide +kernel
  have h3 := h ⟨n - 97, by omega⟩
  simp only [show 97 + (n - 97) = n by omega] at h3
  clear h
  go_enter Tryz.func105, Tryz.ntmps105
  go_wp2
  go_ret
  exact ⟨ret_int (by first | exact h3 | rfl), rfl⟩

/-- What a reading leaves. -/
def NumP (r : Option Nat) (e : Ending) : Prop := ∃ (n : Int) (er : Value), e = .returned (.tuple #[.int .u64 n, er]) ∧ ((r = none ∧ (er = .iface 131 (.int .i64 1) ∨ er = .iface 131 (.int .i64 2))) ∨ (∃ m : Nat, r = some m ∧ n = (m : Int) ∧ er = .nilIface))

theorem bytes_grown (w : World) (e : TypeId) (s : ByteArray) : w.grownBy (Lib.bytesWorld w e s) none :=
  ⟨rfl, rfl, rfl, by rw [Lib.bytesWorld_size]; omega, fun k hk _ => Lib.bytesWorld_at_old w e s k hk⟩

set_option maxHeartbeats 8000000 in
set_option maxRecDepth 100000 in
theorem iparse10_any (t : ByteArray) (hne : t.size ≠ 0) (hmax : t.size ≤ 140737488355328) (ht : ∀ c ∈ sl t, wordB c = true) (w : World) :
    Calls Tryz.prog 93 #[.string t, .int .i64 10, .int .i64 32] w fun e w' => NumP (pU 10 0 (sl t)) e ∧ w.grownBy w' none := by
  have hemp : t.toList.isEmpty = false := by
    rw [← decide_eq_emptyBytes]
    exact decide_eq_false (fun h => hne (by rw [h]; rfl))
  have hcv := Lib.run_convert_string_bytes (P := Tryz.prog) w 9 126 5 t (u := .string) Tryz.underlying9 Tryz.underlying126 Tryz.underlying5
  have HB : Hid (∀ j (hj : j < t.size), (Lib.bytesWorld w 5 t).cell? ⟨w.heap.size, j, none⟩ = some (.int .u8 (t[j].toNat : Int))) := fun j hj => by
    have := Lib.bytesWorld_cell w 5 t j hj
    rw [this]
    congr 3
    have h2 := sl_get t j hj
    show (t.data.toList.getD j 0).toNat = _
    rw [List.getD_eq_getElem?_getD, show t.data.toList[j]? = some t[j] from h2]
    rfl
  have HG : Hid (w.grownBy (Lib.bytesWorld w 5 t) none) := bytes_grown _ _ _
  generalize Lib.bytesWorld w 5 t = W1 at *
  have HWD : Hid (∀ j (hj : j < t.size), wordB t[j] = true) := fun j hj => ht _ (List.mem_of_getElem? (sl_get t j hj))
  obtain ⟨ans, hans⟩ : ∃ ans, pU 10 0 (sl t) = ans := ⟨_, rfl⟩
  have HA : Hid (pU 10 0 ((sl t).drop 0) = ans) := by show _ = ans; rw [List.drop_zero]; exact hans
  rw [hans]
  have HL : Hid (∀ (n : Nat), 97 ≤ n → n ≤ 122 → ∀ w : World, Calls Tryz.prog 105 #[.int .u8 (n : Int)] w fun e w' => e = .returned (.int .u8 (n : Int)) ∧ w = w') := fun n h1 h2 w => lower_any n h1 h2 w
  have hmv : IntKind.u64.wrap (IntKind.u64.wrap 4294967296 - 1) = 4294967295 := by
    rw [IntKind.wrap_u64, IntKind.wrap_u64]
    decide
  clear hans ht hne
  go_enter Tryz.func93, Tryz.ntmps93
  go_wp2
  go_loopw [12, 13, 101] (fun vu vn vi wr => ∃ (k acc : Nat) (a : Int), vu = .bool false ∧ vn = .int .u64 a ∧ vi = .int .i64 k ∧ k ≤ t.size ∧ Hid (a = (acc : Int) ∧ acc ≤ 4294967295 ∧ pU 10 acc ((sl t).drop k) = ans) ∧ wr = W1) (fun _ _ vi _ => t.size - (intOf vi).toNat)
  case atStart => exact ⟨0, 0, 0, rfl, rfl, rfl, Nat.zero_le _, ⟨rfl, Nat.zero_le _, HA.out⟩, rfl⟩
  case round =>
    clear HA hcv
    obtain ⟨k, acc, a, rfl, rfl, rfl, hk, hh, rfl⟩ := hrel
    obtain ⟨ha, hacc, hdec⟩ := hh.out
    clear hh
    have a0 : 0 ≤ a := by omega
    have a1 : a ≤ 4294967295 := by omega
    have z0 : (0 : Int) ≤ (k : Int) := by omega
    by_cases hkn : k < t.size
    · have hki : (k : Int) < (t.size : Int) := by omega
      have hc := HB.out k hkn
      have hwd := word_nat (HWD.out k hkn)
      rw [sl_drop t k hkn, pU] at hdec
      have hc256 : t[k].toNat < 256 := t[k].toNat_lt
      generalize t[k].toNat = c at *
      have HB' : Hid _ := HB
      clear HB HWD
      have icut : a < 1844674407370955162 := by omega
      have b95 : ((c : Int) == 95) = false := by rw [beq_eq_false_iff_ne]; omega
      rcases hwd with ⟨hd0, hd1⟩ | ⟨hd0, hd1⟩
      · have hdv : digB c = c - 48 := by rw [digB, if_pos hd1]
        have i0 : (48 : Int) ≤ (c : Int) := by omega
        have i1 : (c : Int) ≤ 57 := by omega
        have hw0 : IntKind.u8.wrap ((c : Int) - 48) = (c : Int) - 48 := by rw [IntKind.wrap_u8]; omega
        rw [hdv, if_pos (by omega)] at hdec
        by_cases hov : 4294967295 < acc * 10 + (c - 48)
        · rw [if_pos hov] at hdec
          subst hdec
          have iov : 4294967295 < a * 10 + ((c : Int) - 48) := by omega
          clear hov ha hacc hdv HB' HL hd0 hd1
          go_wp2
          go_ret2
          exact ⟨⟨_, _, rfl, .inl ⟨rfl, .inl rfl⟩⟩, HG.out⟩
        · rw [if_neg hov] at hdec
          have HN : Hid (a * 10 + ((c : Int) - 48) = ((acc * 10 + (c - 48) : Nat) : Int) ∧ acc * 10 + (c - 48) ≤ 4294967295 ∧ pU 10 (acc * 10 + (c - 48)) ((sl t).drop (k + 1)) = ans) := ⟨by omega, by omega, hdec⟩
          have iov : a * 10 + ((c : Int) - 48) ≤ 4294967295 := by omega
          clear hov ha hacc hdec hdv HB' HL hd0 hd1
          go_wp2
          go_roundw
          case rel => exact ⟨k + 1, acc * 10 + (c - 48), a * 10 + ((c : Int) - 48), rfl, by first | rfl | (congr 1; omega), by go_num, by omega, HN, by first | rfl | trivial⟩
          case measure => simp [intOf]; omega
      · have hdv : digB c = c - 87 := by rw [digB, if_neg (by omega)]
        have i0 : (48 : Int) ≤ (c : Int) := by omega
        have i1 : ¬ (c : Int) ≤ 57 := by omega
        have i2 : (97 : Int) ≤ (c : Int) := by omega
        have i3 : (c : Int) ≤ 122 := by omega
        have hw0 : IntKind.u8.wrap ((c : Int) - 97) = (c : Int) - 97 := by rw [IntKind.wrap_u8]; omega
        have hw1 : IntKind.u8.wrap ((c : Int) - 97 + 10) = (c : Int) - 87 := by rw [IntKind.wrap_u8]; omega
        have CL := HL.out c hd0 hd1
        rw [hdv] at hdec
        by_cases hbg : c - 87 < 10
        · exact absurd hbg (by omega)
        · rw [if_neg hbg] at hdec
          subst hdec
          have ibg : ¬ (c : Int) - 87 < 10 := by omega
          clear ha hacc hdv HB' HL hd0 hd1 hbg
          go_wp2_with (go_at_call 105; refine (CL _).mono ?_; rintro e w' ⟨rfl, rfl⟩)
          go_ret2
          exact ⟨⟨_, _, rfl, .inl ⟨rfl, .inr rfl⟩⟩, HG.out⟩
    · obtain rfl : k = t.size := by omega
      have hki : ¬ (t.size : Int) < (t.size : Int) := by omega
      rw [List.drop_eq_nil_of_le (by rw [sl_len]; exact Nat.le_refl _), pU] at hdec
      subst hdec
      have HN : Hid (a = (acc : Int)) := ha
      clear ha hacc HB HWD HL
      go_wp2
      go_ret2
      exact ⟨⟨_, _, rfl, .inr ⟨acc, rfl, HN.out, rfl⟩⟩, HG.out⟩

set_option maxHeartbeats 8000000 in
set_option maxRecDepth 100000 in
theorem iparse16_any (t : ByteArray) (hne : t.size ≠ 0) (hmax : t.size ≤ 140737488355328) (ht : ∀ c ∈ sl t, wordB c = true) (w : World) :
    Calls Tryz.prog 93 #[.string t, .int .i64 16, .int .i64 32] w fun e w' => NumP (pU 16 0 (sl t)) e ∧ w.grownBy w' none := by
  have hemp : t.toList.isEmpty = false := by
    rw [← decide_eq_emptyBytes]
    exact decide_eq_false (fun h => hne (by rw [h]; rfl))
  have hcv := Lib.run_convert_string_bytes (P := Tryz.prog) w 9 126 5 t (u := .string) Tryz.underlying9 Tryz.underlying126 Tryz.underlying5
  have HB : Hid (∀ j (hj : j < t.size), (Lib.bytesWorld w 5 t).cell? ⟨w.heap.size, j, none⟩ = some (.int .u8 (t[j].toNat : Int))) := fun j hj => by
    have := Lib.bytesWorld_cell w 5 t j hj
    rw [this]
    congr 3
    have h2 := sl_get t j hj
    show (t.data.toList.getD j 0).toNat = _
    rw [List.getD_eq_getElem?_getD, show t.data.toList[j]? = some t[j] from h2]
    rfl
  have HG : Hid (w.grownBy (Lib.bytesWorld w 5 t) none) := bytes_grown _ _ _
  generalize Lib.bytesWorld w 5 t = W1 at *
  have HWD : Hid (∀ j (hj : j < t.size), wordB t[j] = true) := fun j hj => ht _ (List.mem_of_getElem? (sl_get t j hj))
  obtain ⟨ans, hans⟩ : ∃ ans, pU 16 0 (sl t) = ans := ⟨_, rfl⟩
  have HA : Hid (pU 16 0 ((sl t).drop 0) = ans) := by show _ = ans; rw [List.drop_zero]; exact hans
  rw [hans]
  have HL : Hid (∀ (n : Nat), 97 ≤ n → n ≤ 122 → ∀ w : World, Calls Tryz.prog 105 #[.int .u8 (n : Int)] w fun e w' => e = .returned (.int .u8 (n : Int)) ∧ w = w') := fun n h1 h2 w => lower_any n h1 h2 w
  have hmv : IntKind.u64.wrap (IntKind.u64.wrap 4294967296 - 1) = 4294967295 := by
    rw [IntKind.wrap_u64, IntKind.wrap_u64]
    decide
  clear hans ht hne
  go_enter Tryz.func93, Tryz.ntmps93
  go_wp2
  go_loopw [12, 13, 101] (fun vu vn vi wr => ∃ (k acc : Nat) (a : Int), vu = .bool false ∧ vn = .int .u64 a ∧ vi = .int .i64 k ∧ k ≤ t.size ∧ Hid (a = (acc : Int) ∧ acc ≤ 4294967295 ∧ pU 16 acc ((sl t).drop k) = ans) ∧ wr = W1) (fun _ _ vi _ => t.size - (intOf vi).toNat)
  case atStart => exact ⟨0, 0, 0, rfl, rfl, rfl, Nat.zero_le _, ⟨rfl, Nat.zero_le _, HA.out⟩, rfl⟩
  case round =>
    clear HA hcv
    obtain ⟨k, acc, a, rfl, rfl, rfl, hk, hh, rfl⟩ := hrel
    obtain ⟨ha, hacc, hdec⟩ := hh.out
    clear hh
    have a0 : 0 ≤ a := by omega
    have a1 : a ≤ 4294967295 := by omega
    have z0 : (0 : Int) ≤ (k : Int) := by omega
    by_cases hkn : k < t.size
    · have hki : (k : Int) < (t.size : Int) := by omega
      have hc := HB.out k hkn
      have hwd := word_nat (HWD.out k hkn)
      rw [sl_drop t k hkn, pU] at hdec
      have hc256 : t[k].toNat < 256 := t[k].toNat_lt
      generalize t[k].toNat = c at *
      have HB' : Hid _ := HB
      clear HB HWD
      have icut : a < 1152921504606846976 := by omega
      have b95 : ((c : Int) == 95) = false := by rw [beq_eq_false_iff_ne]; omega
      rcases hwd with ⟨hd0, hd1⟩ | ⟨hd0, hd1⟩
      · have hdv : digB c = c - 48 := by rw [digB, if_pos hd1]
        have i0 : (48 : Int) ≤ (c : Int) := by omega
        have i1 : (c : Int) ≤ 57 := by omega
        have hw0 : IntKind.u8.wrap ((c : Int) - 48) = (c : Int) - 48 := by rw [IntKind.wrap_u8]; omega
        rw [hdv, if_pos (by omega)] at hdec
        by_cases hov : 4294967295 < acc * 16 + (c - 48)
        · rw [if_pos hov] at hdec
          subst hdec
          have iov : 4294967295 < a * 16 + ((c : Int) - 48) := by omega
          clear hov ha hacc hdv HB' HL hd0 hd1
          go_wp2
          go_ret2
          exact ⟨⟨_, _, rfl, .inl ⟨rfl, .inl rfl⟩⟩, HG.out⟩
        · rw [if_neg hov] at hdec
          have HN : Hid (a * 16 + ((c : Int) - 48) = ((acc * 16 + (c - 48) : Nat) : Int) ∧ acc * 16 + (c - 48) ≤ 4294967295 ∧ pU 16 (acc * 16 + (c - 48)) ((sl t).drop (k + 1)) = ans) := ⟨by omega, by omega, hdec⟩
          have iov : a * 16 + ((c : Int) - 48) ≤ 4294967295 := by omega
          clear hov ha hacc hdec hdv HB' HL hd0 hd1
          go_wp2
          go_roundw
          case rel => exact ⟨k + 1, acc * 16 + (c - 48), a * 16 + ((c : Int) - 48), rfl, by first | rfl | (congr 1; omega), by go_num, by omega, HN, by first | rfl | trivial⟩
          case measure => simp [intOf]; omega
      · have hdv : digB c = c - 87 := by rw [digB, if_neg (by omega)]
        have i0 : (48 : Int) ≤ (c : Int) := by omega
        have i1 : ¬ (c : Int) ≤ 57 := by omega
        have i2 : (97 : Int) ≤ (c : Int) := by omega
        have i3 : (c : Int) ≤ 122 := by omega
        have hw0 : IntKind.u8.wrap ((c : Int) - 97) = (c : Int) - 97 := by rw [IntKind.wrap_u8]; omega
        have hw1 : IntKind.u8.wrap ((c : Int) - 97 + 10) = (c : Int) - 87 := by rw [IntKind.wrap_u8]; omega
        have CL := HL.out c hd0 hd1
        rw [hdv] at hdec
        by_cases hbg : c - 87 < 16
        · rw [if_pos hbg] at hdec
          by_cases hov : 4294967295 < acc * 16 + (c - 87)
          · rw [if_pos hov] at hdec
            subst hdec
            have iov : 4294967295 < a * 16 + ((c : Int) - 87) := by omega
            have ibg : (c : Int) - 87 < 16 := by omega
            clear hov ha hacc hdv HB' HL hd0 hd1 hbg
            go_wp2_with (go_at_call 105; refine (CL _).mono ?_; rintro e w' ⟨rfl, rfl⟩)
            go_ret2
            exact ⟨⟨_, _, rfl, .inl ⟨rfl, .inl rfl⟩⟩, HG.out⟩
          · rw [if_neg hov] at hdec
            have HN : Hid (a * 16 + ((c : Int) - 87) = ((acc * 16 + (c - 87) : Nat) : Int) ∧ acc * 16 + (c - 87) ≤ 4294967295 ∧ pU 16 (acc * 16 + (c - 87)) ((sl t).drop (k + 1)) = ans) := ⟨by omega, by omega, hdec⟩
            have iov : a * 16 + ((c : Int) - 87) ≤ 4294967295 := by omega
            have ibg : (c : Int) - 87 < 16 := by omega
            clear hov ha hacc hdec hdv HB' HL hd0 hd1 hbg
            go_wp2_with (go_at_call 105; refine (CL _).mono ?_; rintro e w' ⟨rfl, rfl⟩)
            go_roundw
            case rel => exact ⟨k + 1, acc * 16 + (c - 87), a * 16 + ((c : Int) - 87), rfl, by first | rfl | (congr 1; omega), by go_num, by omega, HN, by first | rfl | trivial⟩
            case measure => simp [intOf]; omega
        · rw [if_neg hbg] at hdec
          subst hdec
          have ibg : ¬ (c : Int) - 87 < 16 := by omega
          clear ha hacc hdv HB' HL hd0 hd1 hbg
          go_wp2_with (go_at_call 105; refine (CL _).mono ?_; rintro e w' ⟨rfl, rfl⟩)
          go_ret2
          exact ⟨⟨_, _, rfl, .inl ⟨rfl, .inr rfl⟩⟩, HG.out⟩
    · obtain rfl : k = t.size := by omega
      have hki : ¬ (t.size : Int) < (t.size : Int) := by omega
      rw [List.drop_eq_nil_of_le (by rw [sl_len]; exact Nat.le_refl _), pU] at hdec
      subst hdec
      have HN : Hid (a = (acc : Int)) := ha
      clear ha hacc HB HWD HL
      go_wp2
      go_ret2
      exact ⟨⟨_, _, rfl, .inr ⟨acc, rfl, HN.out, rfl⟩⟩, HG.out⟩

set_option maxHeartbeats 1000000 in
theorem iparse0_any (b : Nat) (w : World) :
    Calls Tryz.prog 93 #[.string ⟨#[]⟩, .int .i64 (b : Int), .int .i64 32] w fun e w' => NumP none e ∧ w = w' := by
  go_enter Tryz.func93, Tryz.ntmps93
  go_wp2
  go_ret2
  exact ⟨⟨_, _, rfl, .inl ⟨rfl, .inr rfl⟩⟩, rfl⟩

end Go.Proofs.YtbdmpjnlgdahmaaGreatDoor

namespace Go.Proofs
open Go.Shelf
def Tryz.lays103_ren : Go.Shelf.Ren := ⟨fun | 103 => 72 | 210 => 92 | 206 => 104 | n => n, fun | 9 => 9 | 4 => 4 | 24 => 99 | 3 => 3 | n => n, fun | n => n⟩
theorem Tryz.lays103 : Go.Proofs.Lays.n103 Tryz.prog Tryz.lays103_ren := {
  mixed := by kernel_rfl
  f103 := Tryz.func72.trans (congrArg some (by kernel_rfl))
  f206 := Tryz.func104.trans (congrArg some (by kernel_rfl))
  f210 := Tryz.func92.trans (congrArg some (by kernel_rfl))
  t3 := Tryz.underlying3
  a3 := Tryz.isAgg3
  z3 := Tryz.sizeOf3
  v3 := Tryz.zeroValue3
  t4 := Tryz.underlying4
  a4 := Tryz.isAgg4
  z4 := Tryz.sizeOf4
  v4 := Tryz.zeroValue4
  t9 := Tryz.underlying9
  a9 := Tryz.isAgg9
  z9 := Tryz.sizeOf9
  v9 := Tryz.zeroValue9
  t24 := Tryz.underlying99
  a24 := Tryz.isAgg99
  z24 := Tryz.sizeOf99
  v24 := Tryz.zeroValue99 }
open Go.RowKit in
theorem Tryz.strings_CutPrefix (s p : ByteArray) (w : World) :
    Calls Tryz.prog 72 #[.string s, .string p] w fun e w' => e = .returned (.tuple #[.string ⟨(Lib.trimPrefix s.data.toList p.data.toList).toArray⟩, .bool (Lib.hasPrefix s.data.toList p.data.toList)]) ∧ w' = w := Any.strings_CutPrefix Tryz.lays103 s p w
def Tryz.laysC245_ren : Go.Shelf.Ren := ⟨fun | 245 => 94 | 279 => 107 | 280 => 108 | 281 => 109 | 282 => 110 | 316 => 118 | 171 => 120 | 205 => 119 | 243 => 131 | 246 => 139 | 283 => 143 | 284 => 144 | 285 => 145 | 286 => 146 | 129 => 149 | 317 => 148 | 318 => 150 | 319 => 151 | 320 => 152 | 337 => 154 | 338 => 155 | n => n, fun | 9 => 9 | 3 => 3 | 75 => 103 | 167 => 131 | 4 => 4 | 168 => 134 | 210 => 147 | 37 => 126 | 0 => 0 | 127 => 156 | 145 => 159 | 143 => 157 | 2 => 2 | 171 => 171 | 53 => 101 | 5 => 5 | 173 => 174 | 212 => 177 | 51 => 40 | 20 => 20 | 213 => 178 | 46 => 133 | 232 => 181 | 233 => 182 | 80 => 211 | n => n, fun | 15 => 1 | 16 => 2 | 17 => 3 | 18 => 4 | 19 => 5 | n => n⟩
theorem Tryz.laysC245 : Go.Proofs.LaysC.n245 Tryz.prog Tryz.laysC245_ren := {
  mixed := by kernel_rfl
  f129 := Tryz.func149.trans (congrArg some (by kernel_rfl))
  f171 := Tryz.func120.trans (congrArg some (by kernel_rfl))
  f205 := Tryz.func119.trans (congrArg some (by kernel_rfl))
  f243 := Tryz.func131.trans (congrArg some (by kernel_rfl))
  f245 := Tryz.func94.trans (congrArg some (by kernel_rfl))
  f246 := Tryz.func139.trans (congrArg some (by kernel_rfl))
  f279 := Tryz.func107.trans (congrArg some (by kernel_rfl))
  f280 := Tryz.func108.trans (congrArg some (by kernel_rfl))
  f281 := Tryz.func109.trans (congrArg some (by kernel_rfl))
  f282 := Tryz.func110.trans (congrArg some (by kernel_rfl))
  f283 := Tryz.func143.trans (congrArg some (by kernel_rfl))
  f284 := Tryz.func144.trans (congrArg some (by kernel_rfl))
  f285 := Tryz.func145.trans (congrArg some (by kernel_rfl))
  f286 := Tryz.func146.trans (congrArg some (by kernel_rfl))
  f316 := Tryz.func118.trans (congrArg some (by kernel_rfl))
  f317 := Tryz.func148.trans (congrArg some (by kernel_rfl))
  f318 := Tryz.func150.trans (congrArg some (by kernel_rfl))
  f319 := Tryz.func151.trans (congrArg some (by kernel_rfl))
  f320 := Tryz.func152.trans (congrArg some (by kernel_rfl))
  f337 := Tryz.func154.trans (congrArg some (by kernel_rfl))
  f338 := Tryz.func155.trans (congrArg some (by kernel_rfl))
  t0 := Tryz.underlying0
  a0 := Tryz.isAgg0
  z0 := Tryz.sizeOf0
  v0 := Tryz.zeroValue0
  t2 := Tryz.underlying2
  a2 := Tryz.isAgg2
  z2 := Tryz.sizeOf2
  v2 := Tryz.zeroValue2
  t3 := Tryz.underlying3
  a3 := Tryz.isAgg3
  z3 := Tryz.sizeOf3
  v3 := Tryz.zeroValue3
  t4 := Tryz.underlying4
  a4 := Tryz.isAgg4
  z4 := Tryz.sizeOf4
  v4 := Tryz.zeroValue4
  t5 := Tryz.underlying5
  a5 := Tryz.isAgg5
  z5 := Tryz.sizeOf5
  v5 := Tryz.zeroValue5
  t9 := Tryz.underlying9
  a9 := Tryz.isAgg9
  z9 := Tryz.sizeOf9
  v9 := Tryz.zeroValue9
  t20 := Tryz.underlying20
  a20 := Tryz.isAgg20
  z20 := Tryz.sizeOf20
  v20 := Tryz.zeroValue20
  t37 := Tryz.underlying126
  a37 := Tryz.isAgg126
  z37 := Tryz.sizeOf126
  v37 := Tryz.zeroValue126
  t46 := Tryz.underlying133
  a46 := Tryz.isAgg133
  z46 := Tryz.sizeOf133
  v46 := Tryz.zeroValue133
  t51 := Tryz.underlying40
  a51 := Tryz.isAgg40
  z51 := Tryz.sizeOf40
  v51 := Tryz.zeroValue40
  t53 := Tryz.underlying101
  a53 := Tryz.isAgg101
  z53 := Tryz.sizeOf101
  v53 := Tryz.zeroValue101
  t75 := Tryz.underlying103
  a75 := Tryz.isAgg103
  z75 := Tryz.sizeOf103
  v75 := Tryz.zeroValue103
  t127 := Tryz.underlying156
  a127 := Tryz.isAgg156
  z127 := Tryz.sizeOf156
  v127 := Tryz.zeroValue156
  t143 := Tryz.underlying157
  a143 := Tryz.isAgg157
  z143 := Tryz.sizeOf157
  v143 := Tryz.zeroValue157
  t145 := Tryz.underlying159
  a145 := Tryz.isAgg159
  z145 := Tryz.sizeOf159
  v145 := Tryz.zeroValue159
  t167 := Tryz.underlying131
  a167 := Tryz.isAgg131
  z167 := Tryz.sizeOf131
  v167 := Tryz.zeroValue131
  t168 := Tryz.underlying134
  a168 := Tryz.isAgg134
  z168 := Tryz.sizeOf134
  v168 := Tryz.zeroValue134
  t171 := Tryz.underlying171
  a171 := Tryz.isAgg171
  z171 := Tryz.sizeOf171
  v171 := Tryz.zeroValue171
  t173 := Tryz.underlying174
  a173 := Tryz.isAgg174
  z173 := Tryz.sizeOf174
  v173 := Tryz.zeroValue174
  t210 := Tryz.underlying147
  a210 := Tryz.isAgg147
  z210 := Tryz.sizeOf147
  v210 := Tryz.zeroValue147
  t212 := Tryz.underlying177
  a212 := Tryz.isAgg177
  z212 := Tryz.sizeOf177
  v212 := Tryz.zeroValue177
  t213 := Tryz.underlying178
  a213 := Tryz.isAgg178
  z213 := Tryz.sizeOf178
  t232 := Tryz.underlying181
  a232 := Tryz.isAgg181
  z232 := Tryz.sizeOf181
  v232 := Tryz.zeroValue181
  t233 := Tryz.underlying182
  a233 := Tryz.isAgg182
  z233 := Tryz.sizeOf182
  v233 := Tryz.zeroValue182
  g15 := by kernel_rfl
  g16 := by kernel_rfl
  g17 := by kernel_rfl
  g18 := by kernel_rfl
  g19 := by kernel_rfl
  t80 := Tryz.underlying211
  a80 := Tryz.isAgg211
  z80 := Tryz.sizeOf211
  v80 := Tryz.zeroValue211
  i0 := by kernel_rfl
  i2 := by kernel_rfl
  i3 := by kernel_rfl
  i4 := by kernel_rfl
  i5 := by kernel_rfl
  i9 := by kernel_rfl
  i20 := by kernel_rfl
  i37 := by kernel_rfl
  i46 := by kernel_rfl
  i51 := by kernel_rfl
  i53 := by kernel_rfl
  i75 := by kernel_rfl
  i80 := by kernel_rfl
  i127 := by kernel_rfl
  i143 := by kernel_rfl
  i145 := by kernel_rfl
  i167 := by kernel_rfl
  i168 := by kernel_rfl
  i171 := by kernel_rfl
  i173 := by kernel_rfl
  i210 := by kernel_rfl
  i212 := by kernel_rfl
  i232 := by kernel_rfl
  i233 := by kernel_rfl
  m15 := by kernel_rfl
  m16 := by kernel_rfl
  m17 := by kernel_rfl
  m18 := by kernel_rfl
  m19 := by kernel_rfl
  c0 := by kernel_rfl
  c2 := by kernel_rfl
  c3 := by kernel_rfl
  c4 := by kernel_rfl
  c5 := by kernel_rfl
  c9 := by kernel_rfl
  c20 := by kernel_rfl
  c37 := by kernel_rfl
  c46 := by kernel_rfl
  c51 := by kernel_rfl
  c53 := by kernel_rfl
  c75 := by kernel_rfl
  c80 := by kernel_rfl
  c127 := by kernel_rfl
  c143 := by kernel_rfl
  c145 := by kernel_rfl
  c167 := by kernel_rfl
  c168 := by kernel_rfl
  c171 := by kernel_rfl
  c173 := by kernel_rfl
  c210 := by kernel_rfl
  c212 := by kernel_rfl
  c213 := by kernel_rfl
  c232 := by kernel_rfl
  c233 := by kernel_rfl }
open Go.RowKit in
theorem Tryz.strconv_toError_syntax (fn s : ByteArray) (base bits : Int) (ev : Value) (w : World) (hlim : s.size ≤ 281474976710656) (hv : w.cell? ⟨1, 0, none⟩ = some ev) (hev : ev = .nilIface ∨ ∃ te pe, ev = .iface te pe) :
    Calls Tryz.prog 94 #[.string fn, .string s, .int .i64 base, .int .i64 bits, .iface 131 (.int .i64 2)] w fun e w' => ∃ N, e = .returned (.iface 134 (.pointer (some ⟨N, 0, none⟩))) ∧ w.heap.size ≤ N ∧ w'.heap[N]? = some (.cells #[.string fn, .string s, ev] 147 (0, 0)) ∧ Below w.heap.size w w' := Any.strconv_toError_syntax Tryz.laysC245 fn s base bits ev w hlim hv hev
open Go.RowKit in
theorem Tryz.strconv_toError_range (fn s : ByteArray) (base bits : Int) (ev : Value) (w : World) (hlim : s.size ≤ 281474976710656) (hv : w.cell? ⟨2, 0, none⟩ = some ev) (hev : ev = .nilIface ∨ ∃ te pe, ev = .iface te pe) :
    Calls Tryz.prog 94 #[.string fn, .string s, .int .i64 base, .int .i64 bits, .iface 131 (.int .i64 1)] w fun e w' => ∃ N, e = .returned (.iface 134 (.pointer (some ⟨N, 0, none⟩))) ∧ w.heap.size ≤ N ∧ w'.heap[N]? = some (.cells #[.string fn, .string s, ev] 147 (0, 0)) ∧ Below w.heap.size w w' := Any.strconv_toError_range Tryz.laysC245 fn s base bits ev w hlim hv hev
def Tryz.lays145_ren : Go.Shelf.Ren := ⟨fun | 145 => 174 | 220 => 178 | 219 => 180 | 217 => 183 | 225 => 184 | 224 => 185 | 267 => 186 | 266 => 189 | 314 => 190 | n => n, fun | 9 => 9 | 4 => 4 | 59 => 194 | 3 => 3 | 5 => 5 | 46 => 133 | 146 => 209 | 51 => 40 | n => n, fun | 1 => 6 | n => n⟩
theorem Tryz.lays145 : Go.Proofs.Lays.n145 Tryz.prog Tryz.lays145_ren := {
  mixed := by kernel_rfl
  f145 := Tryz.func174.trans (congrArg some (by kernel_rfl))
  f217 := Tryz.func183.trans (congrArg some (by kernel_rfl))
  f219 := Tryz.func180.trans (congrArg some (by kernel_rfl))
  f220 := Tryz.func178.trans (congrArg some (by kernel_rfl))
  f224 := Tryz.func185.trans (congrArg some (by kernel_rfl))
  f225 := Tryz.func184.trans (congrArg some (by kernel_rfl))
  f266 := Tryz.func189.trans (congrArg some (by kernel_rfl))
  f267 := Tryz.func186.trans (congrArg some (by kernel_rfl))
  f314 := Tryz.func190.trans (congrArg some (by kernel_rfl))
  t3 := Tryz.underlying3
  a3 := Tryz.isAgg3
  z3 := Tryz.sizeOf3
  v3 := Tryz.zeroValue3
  t4 := Tryz.underlying4
  a4 := Tryz.isAgg4
  z4 := Tryz.sizeOf4
  v4 := Tryz.zeroValue4
  t5 := Tryz.underlying5
  a5 := Tryz.isAgg5
  z5 := Tryz.sizeOf5
  v5 := Tryz.zeroValue5
  t9 := Tryz.underlying9
  a9 := Tryz.isAgg9
  z9 := Tryz.sizeOf9
  v9 := Tryz.zeroValue9
  t46 := Tryz.underlying133
  a46 := Tryz.isAgg133
  z46 := Tryz.sizeOf133
  v46 := Tryz.zeroValue133
  t51 := Tryz.underlying40
  a51 := Tryz.isAgg40
  z51 := Tryz.sizeOf40
  v51 := Tryz.zeroValue40
  t59 := Tryz.underlying194
  a59 := Tryz.isAgg194
  z59 := Tryz.sizeOf194
  v59 := Tryz.zeroValue194
  t146 := Tryz.underlying209
  a146 := Tryz.isAgg209
  z146 := Tryz.sizeOf209
  v146 := Tryz.zeroValue209
  g1 := by kernel_rfl }
open Go.RowKit Go.Lib in
theorem Tryz.strings_Cut (s sep : ByteArray) (m : Int) (w : World) (hs : s.size < 4294967281) (hm : w.cell? ⟨6, 0, none⟩ = some (.int .i64 m)) :
    Calls Tryz.prog 174 #[.string s, .string sep] w fun e w' => e = .returned (.tuple #[.string ⟨(Lib.cut s.data.toList sep.data.toList).1.toArray⟩, .string ⟨(Lib.cut s.data.toList sep.data.toList).2.1.toArray⟩, .bool (Lib.cut s.data.toList sep.data.toList).2.2]) ∧ ∃ n, w' = w.drewN n := Any.strings_Cut Tryz.lays145 s sep m w hs hm
end Go.Proofs
