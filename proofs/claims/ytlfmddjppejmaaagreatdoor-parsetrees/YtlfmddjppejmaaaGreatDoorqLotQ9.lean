import Derived.Test.YtlfmddjppejmaaaGreatDoorqLotQ8
import Derived.Lib.ConvBytes
import Derived.Shelf.Small.Wraps
import Derived.Shelf.LaysM
import Derived.Shelf.Strconv.Clone
import Derived.Shelf.Strconv.SyntaxError
import Derived.Shelf.LaysC
import Derived.Shelf.Strconv.ToError
import Derived.Shelf.Strconv.RangeError
import Derived.Shelf.Strconv.ToErrorRange
import Derived.Shelf.Strings.Search1
import Derived.Shelf.Strings.Search2
import Derived.Shelf.Strings.Cut
import Derived.Shelf.Strings.Shaped
import Derived.Shelf.Strings.Prefix
import Derived.Test.YtlfmddjppejmaaaGreatDoorProg
set_option maxHeartbeats 64000000
set_option maxRecDepth 100000
namespace Go.Proofs.YtlfmddjppejmaaaGreatDoor
open Go.RowKit
def J4 (n : Nat) : Nat := if n ≤ 57 then n - 48 else n - 87
def pU (b : Nat) : Nat → List UInt8 → Option Nat
 | v, [] => some v
 | v, c :: r => if J4 c.toNat < b then (if 4294967295 < v * b + J4 c.toNat then none else pU b (v * b + J4 c.toNat) r) else none
theorem a2a {c : UInt8} (h : j9 c = true) : (48 ≤ c.toNat ∧ c.toNat ≤ 57) ∨ (97 ≤ c.toNat ∧ c.toNat ≤ 122) := by
 simp only [j9, s8, M1, Bool.or_eq_true, Bool.and_eq_true, decide_eq_true_eq] at h
 exact h
theorem a4u (n : Nat) (h1 : 97 ≤ n) (h2 : n ≤ 122) (w : World) :
  Calls Tryz.prog 80 #[.int .u8 (n : Int)] w fun e w' => e = .returned (.int .u8 (n : Int)) ∧ w = w' := by
 have h : ∀ k : Fin 26, bits .or .u8 ((97 + k.1 : Nat) : Int) 32 = ((97 + k.1 : Nat) : Int) := by decide +kernel
 have h3 := h ⟨n - 97, by omega⟩
 simp only [show 97 + (n - 97) = n by omega] at h3
 clear h
 go_enter Tryz.func80, Tryz.ntmps80
 go_wp2
 go_ret
 exact ⟨a31 (by first | exact h3 | rfl), rfl⟩
def a1y (r : Option Nat) (e : Ending) : Prop := ∃ (n : Int) (er : Value), e = .returned (.tuple #[.int .u64 n, er]) ∧ ((r = none ∧ (er = .iface 109 (.int .i64 1) ∨ er = .iface 109 (.int .i64 2))) ∨ (∃ m : Nat, r = some m ∧ n = (m : Int) ∧ er = .nilIface))
theorem a3I (w : World) (e : TypeId) (s : ByteArray) : w.grownBy (Lib.bytesWorld w e s) none :=
 ⟨rfl, rfl, rfl, by rw [Lib.bytesWorld_size]; omega, fun k hk _ => Lib.bytesWorld_at_old w e s k hk⟩
theorem a7m (t : ByteArray) (hne : t.size ≠ 0) (hmax : t.size ≤ 140737488355328) (ht : ∀ c ∈ sl t, j9 c = true) (w : World) :
  Calls Tryz.prog 72 #[.string t, .int .i64 10, .int .i64 32] w fun e w' => a1y (pU 10 0 (sl t)) e ∧ w.grownBy w' none := by
 have hemp : t.toList.isEmpty = false := by
  rw [← decide_eq_emptyBytes]
  exact decide_eq_false (fun h => hne (by rw [h]; rfl))
 have hcv := Lib.run_convert_string_bytes (P := Tryz.prog) w 9 105 5 t (u := .string) Tryz.underlying9 Tryz.underlying105 Tryz.underlying5
 have HB : Hid (∀ j (hj : j < t.size), (Lib.bytesWorld w 5 t).cell? ⟨w.heap.size, j, none⟩ = some (.int .u8 (t[j].toNat : Int))) := fun j hj => by
  have := Lib.bytesWorld_cell w 5 t j hj
  rw [this]
  congr 3
  have h2 := Y0 t j hj
  show (t.data.toList.getD j 0).toNat = _
  rw [List.getD_eq_getElem?_getD, show t.data.toList[j]? = some t[j] from h2]
  rfl
 have HG : Hid (w.grownBy (Lib.bytesWorld w 5 t) none) := a3I _ _ _
 generalize Lib.bytesWorld w 5 t = W1 at *
 have HWD : Hid (∀ j (hj : j < t.size), j9 t[j] = true) := fun j hj => ht _ (List.mem_of_getElem? (Y0 t j hj))
 obtain ⟨ans, hans⟩ : ∃ ans, pU 10 0 (sl t) = ans := ⟨_, rfl⟩
 have HA : Hid (pU 10 0 ((sl t).drop 0) = ans) := by show _ = ans; rw [List.drop_zero]; exact hans
 rw [hans]
 have HL : Hid (∀ (n : Nat), 97 ≤ n → n ≤ 122 → ∀ w : World, Calls Tryz.prog 80 #[.int .u8 (n : Int)] w fun e w' => e = .returned (.int .u8 (n : Int)) ∧ w = w') := fun n h1 h2 w => a4u n h1 h2 w
 have hmv : IntKind.u64.wrap (IntKind.u64.wrap 4294967296 - 1) = 4294967295 := by
  rw [IntKind.wrap_u64, IntKind.wrap_u64]
  decide
 clear hans ht hne
 go_enter Tryz.func72, Tryz.ntmps72
 go_wp2
 go_loopw [12, 13, 101] (fun vu vn vi wr => ∃ (k acc : Nat) (a : Int), vu = .bool false ∧ vn = .int .u64 a ∧ vi = .int .i64 k ∧ k ≤ t.size ∧ Hid (a = (acc : Int) ∧ acc ≤ 4294967295 ∧ pU 10 acc ((sl t).drop k) = ans) ∧ wr = W1) (fun _ _ vi _ => t.size - (intOf vi).toNat)
 case atStart => exact ⟨0, 0, 0, rfl, rfl, rfl, Nat.zero_le _, ⟨rfl, Nat.zero_le _, HA.out⟩, rfl⟩
 case round =>
  clear HA hcv
  obtain ⟨k, acc, a, rfl, rfl, rfl, hk, hh, rfl⟩ := hrel
  obtain ⟨ha, hacc, hdec⟩ := hh.out
  clear hh
  have a0 : 0 ≤ a := by omega
  have a1 : a ≤ 4294967295 := by omega
  have z0 : (0 : Int) ≤ (k : Int) := by omega
  by_cases hkn : k < t.size
  ·have hki : (k : Int) < (t.size : Int) := by omega
   have hc := HB.out k hkn
   have hwd := a2a (HWD.out k hkn)
   rw [D8 t k hkn, pU] at hdec
   have hc256 : t[k].toNat < 256 := t[k].toNat_lt
   generalize t[k].toNat = c at *
   have HB' : Hid _ := HB
   clear HB HWD
   have icut : a < 1844674407370955162 := by omega
   have b95 : ((c : Int) == 95) = false := by rw [beq_eq_false_iff_ne]; omega
   rcases hwd with ⟨hd0, hd1⟩ | ⟨hd0, hd1⟩
   ·have hdv : J4 c = c - 48 := by rw [J4, if_pos hd1]
    have i0 : (48 : Int) ≤ (c : Int) := by omega
    have i1 : (c : Int) ≤ 57 := by omega
    have hw0 : IntKind.u8.wrap ((c : Int) - 48) = (c : Int) - 48 := by rw [IntKind.wrap_u8]; omega
    rw [hdv, if_pos (by omega)] at hdec
    by_cases hov : 4294967295 < acc * 10 + (c - 48)
    ·rw [if_pos hov] at hdec
     subst hdec
     have iov : 4294967295 < a * 10 + ((c : Int) - 48) := by omega
     clear hov ha hacc hdv HB' HL hd0 hd1
     go_wp2
     go_ret2
     exact ⟨⟨_, _, rfl, .inl ⟨rfl, .inl rfl⟩⟩, HG.out⟩
    ·rw [if_neg hov] at hdec
     have HN : Hid (a * 10 + ((c : Int) - 48) = ((acc * 10 + (c - 48) : Nat) : Int) ∧ acc * 10 + (c - 48) ≤ 4294967295 ∧ pU 10 (acc * 10 + (c - 48)) ((sl t).drop (k + 1)) = ans) := ⟨by omega, by omega, hdec⟩
     have iov : a * 10 + ((c : Int) - 48) ≤ 4294967295 := by omega
     clear hov ha hacc hdec hdv HB' HL hd0 hd1
     go_wp2
     go_roundw
     case rel => exact ⟨k + 1, acc * 10 + (c - 48), a * 10 + ((c : Int) - 48), rfl, by first | rfl | (congr 1; omega), by go_num, by omega, HN, by first | rfl | trivial⟩
     case measure => simp [intOf]; omega
   ·have hdv : J4 c = c - 87 := by rw [J4, if_neg (by omega)]
    have i0 : (48 : Int) ≤ (c : Int) := by omega
    have i1 : ¬ (c : Int) ≤ 57 := by omega
    have i2 : (97 : Int) ≤ (c : Int) := by omega
    have i3 : (c : Int) ≤ 122 := by omega
    have hw0 : IntKind.u8.wrap ((c : Int) - 97) = (c : Int) - 97 := by rw [IntKind.wrap_u8]; omega
    have hw1 : IntKind.u8.wrap ((c : Int) - 97 + 10) = (c : Int) - 87 := by rw [IntKind.wrap_u8]; omega
    have CL := HL.out c hd0 hd1
    rw [hdv] at hdec
    by_cases hbg : c - 87 < 10
    ·exact absurd hbg (by omega)
    ·rw [if_neg hbg] at hdec
     subst hdec
     have ibg : ¬ (c : Int) - 87 < 10 := by omega
     clear ha hacc hdv HB' HL hd0 hd1 hbg
     go_wp2_with (go_at_call 80; refine (CL _).mono ?_; rintro e w' ⟨rfl, rfl⟩)
     go_ret2
     exact ⟨⟨_, _, rfl, .inl ⟨rfl, .inr rfl⟩⟩, HG.out⟩
  ·obtain rfl : k = t.size := by omega
   have hki : ¬ (t.size : Int) < (t.size : Int) := by omega
   rw [List.drop_eq_nil_of_le (by rw [j0]; exact Nat.le_refl _), pU] at hdec
   subst hdec
   have HN : Hid (a = (acc : Int)) := ha
   clear ha hacc HB HWD HL
   go_wp2
   go_ret2
   exact ⟨⟨_, _, rfl, .inr ⟨acc, rfl, HN.out, rfl⟩⟩, HG.out⟩
theorem a7n (t : ByteArray) (hne : t.size ≠ 0) (hmax : t.size ≤ 140737488355328) (ht : ∀ c ∈ sl t, j9 c = true) (w : World) :
  Calls Tryz.prog 72 #[.string t, .int .i64 16, .int .i64 32] w fun e w' => a1y (pU 16 0 (sl t)) e ∧ w.grownBy w' none := by
 have hemp : t.toList.isEmpty = false := by
  rw [← decide_eq_emptyBytes]
  exact decide_eq_false (fun h => hne (by rw [h]; rfl))
 have hcv := Lib.run_convert_string_bytes (P := Tryz.prog) w 9 105 5 t (u := .string) Tryz.underlying9 Tryz.underlying105 Tryz.underlying5
 have HB : Hid (∀ j (hj : j < t.size), (Lib.bytesWorld w 5 t).cell? ⟨w.heap.size, j, none⟩ = some (.int .u8 (t[j].toNat : Int))) := fun j hj => by
  have := Lib.bytesWorld_cell w 5 t j hj
  rw [this]
  congr 3
  have h2 := Y0 t j hj
  show (t.data.toList.getD j 0).toNat = _
  rw [List.getD_eq_getElem?_getD, show t.data.toList[j]? = some t[j] from h2]
  rfl
 have HG : Hid (w.grownBy (Lib.bytesWorld w 5 t) none) := a3I _ _ _
 generalize Lib.bytesWorld w 5 t = W1 at *
 have HWD : Hid (∀ j (hj : j < t.size), j9 t[j] = true) := fun j hj => ht _ (List.mem_of_getElem? (Y0 t j hj))
 obtain ⟨ans, hans⟩ : ∃ ans, pU 16 0 (sl t) = ans := ⟨_, rfl⟩
 have HA : Hid (pU 16 0 ((sl t).drop 0) = ans) := by show _ = ans; rw [List.drop_zero]; exact hans
 rw [hans]
 have HL : Hid (∀ (n : Nat), 97 ≤ n → n ≤ 122 → ∀ w : World, Calls Tryz.prog 80 #[.int .u8 (n : Int)] w fun e w' => e = .returned (.int .u8 (n : Int)) ∧ w = w') := fun n h1 h2 w => a4u n h1 h2 w
 have hmv : IntKind.u64.wrap (IntKind.u64.wrap 4294967296 - 1) = 4294967295 := by
  rw [IntKind.wrap_u64, IntKind.wrap_u64]
  decide
 clear hans ht hne
 go_enter Tryz.func72, Tryz.ntmps72
 go_wp2
 go_loopw [12, 13, 101] (fun vu vn vi wr => ∃ (k acc : Nat) (a : Int), vu = .bool false ∧ vn = .int .u64 a ∧ vi = .int .i64 k ∧ k ≤ t.size ∧ Hid (a = (acc : Int) ∧ acc ≤ 4294967295 ∧ pU 16 acc ((sl t).drop k) = ans) ∧ wr = W1) (fun _ _ vi _ => t.size - (intOf vi).toNat)
 case atStart => exact ⟨0, 0, 0, rfl, rfl, rfl, Nat.zero_le _, ⟨rfl, Nat.zero_le _, HA.out⟩, rfl⟩
 case round =>
  clear HA hcv
  obtain ⟨k, acc, a, rfl, rfl, rfl, hk, hh, rfl⟩ := hrel
  obtain ⟨ha, hacc, hdec⟩ := hh.out
  clear hh
  have a0 : 0 ≤ a := by omega
  have a1 : a ≤ 4294967295 := by omega
  have z0 : (0 : Int) ≤ (k : Int) := by omega
  by_cases hkn : k < t.size
  ·have hki : (k : Int) < (t.size : Int) := by omega
   have hc := HB.out k hkn
   have hwd := a2a (HWD.out k hkn)
   rw [D8 t k hkn, pU] at hdec
   have hc256 : t[k].toNat < 256 := t[k].toNat_lt
   generalize t[k].toNat = c at *
   have HB' : Hid _ := HB
   clear HB HWD
   have icut : a < 1152921504606846976 := by omega
   have b95 : ((c : Int) == 95) = false := by rw [beq_eq_false_iff_ne]; omega
   rcases hwd with ⟨hd0, hd1⟩ | ⟨hd0, hd1⟩
   ·have hdv : J4 c = c - 48 := by rw [J4, if_pos hd1]
    have i0 : (48 : Int) ≤ (c : Int) := by omega
    have i1 : (c : Int) ≤ 57 := by omega
    have hw0 : IntKind.u8.wrap ((c : Int) - 48) = (c : Int) - 48 := by rw [IntKind.wrap_u8]; omega
    rw [hdv, if_pos (by omega)] at hdec
    by_cases hov : 4294967295 < acc * 16 + (c - 48)
    ·rw [if_pos hov] at hdec
     subst hdec
     have iov : 4294967295 < a * 16 + ((c : Int) - 48) := by omega
     clear hov ha hacc hdv HB' HL hd0 hd1
     go_wp2
     go_ret2
     exact ⟨⟨_, _, rfl, .inl ⟨rfl, .inl rfl⟩⟩, HG.out⟩
    ·rw [if_neg hov] at hdec
     have HN : Hid (a * 16 + ((c : Int) - 48) = ((acc * 16 + (c - 48) : Nat) : Int) ∧ acc * 16 + (c - 48) ≤ 4294967295 ∧ pU 16 (acc * 16 + (c - 48)) ((sl t).drop (k + 1)) = ans) := ⟨by omega, by omega, hdec⟩
     have iov : a * 16 + ((c : Int) - 48) ≤ 4294967295 := by omega
     clear hov ha hacc hdec hdv HB' HL hd0 hd1
     go_wp2
     go_roundw
     case rel => exact ⟨k + 1, acc * 16 + (c - 48), a * 16 + ((c : Int) - 48), rfl, by first | rfl | (congr 1; omega), by go_num, by omega, HN, by first | rfl | trivial⟩
     case measure => simp [intOf]; omega
   ·have hdv : J4 c = c - 87 := by rw [J4, if_neg (by omega)]
    have i0 : (48 : Int) ≤ (c : Int) := by omega
    have i1 : ¬ (c : Int) ≤ 57 := by omega
    have i2 : (97 : Int) ≤ (c : Int) := by omega
    have i3 : (c : Int) ≤ 122 := by omega
    have hw0 : IntKind.u8.wrap ((c : Int) - 97) = (c : Int) - 97 := by rw [IntKind.wrap_u8]; omega
    have hw1 : IntKind.u8.wrap ((c : Int) - 97 + 10) = (c : Int) - 87 := by rw [IntKind.wrap_u8]; omega
    have CL := HL.out c hd0 hd1
    rw [hdv] at hdec
    by_cases hbg : c - 87 < 16
    ·rw [if_pos hbg] at hdec
     by_cases hov : 4294967295 < acc * 16 + (c - 87)
     ·rw [if_pos hov] at hdec
      subst hdec
      have iov : 4294967295 < a * 16 + ((c : Int) - 87) := by omega
      have ibg : (c : Int) - 87 < 16 := by omega
      clear hov ha hacc hdv HB' HL hd0 hd1 hbg
      go_wp2_with (go_at_call 80; refine (CL _).mono ?_; rintro e w' ⟨rfl, rfl⟩)
      go_ret2
      exact ⟨⟨_, _, rfl, .inl ⟨rfl, .inl rfl⟩⟩, HG.out⟩
     ·rw [if_neg hov] at hdec
      have HN : Hid (a * 16 + ((c : Int) - 87) = ((acc * 16 + (c - 87) : Nat) : Int) ∧ acc * 16 + (c - 87) ≤ 4294967295 ∧ pU 16 (acc * 16 + (c - 87)) ((sl t).drop (k + 1)) = ans) := ⟨by omega, by omega, hdec⟩
      have iov : a * 16 + ((c : Int) - 87) ≤ 4294967295 := by omega
      have ibg : (c : Int) - 87 < 16 := by omega
      clear hov ha hacc hdec hdv HB' HL hd0 hd1 hbg
      go_wp2_with (go_at_call 80; refine (CL _).mono ?_; rintro e w' ⟨rfl, rfl⟩)
      go_roundw
      case rel => exact ⟨k + 1, acc * 16 + (c - 87), a * 16 + ((c : Int) - 87), rfl, by first | rfl | (congr 1; omega), by go_num, by omega, HN, by first | rfl | trivial⟩
      case measure => simp [intOf]; omega
    ·rw [if_neg hbg] at hdec
     subst hdec
     have ibg : ¬ (c : Int) - 87 < 16 := by omega
     clear ha hacc hdv HB' HL hd0 hd1 hbg
     go_wp2_with (go_at_call 80; refine (CL _).mono ?_; rintro e w' ⟨rfl, rfl⟩)
     go_ret2
     exact ⟨⟨_, _, rfl, .inl ⟨rfl, .inr rfl⟩⟩, HG.out⟩
  ·obtain rfl : k = t.size := by omega
   have hki : ¬ (t.size : Int) < (t.size : Int) := by omega
   rw [List.drop_eq_nil_of_le (by rw [j0]; exact Nat.le_refl _), pU] at hdec
   subst hdec
   have HN : Hid (a = (acc : Int)) := ha
   clear ha hacc HB HWD HL
   go_wp2
   go_ret2
   exact ⟨⟨_, _, rfl, .inr ⟨acc, rfl, HN.out, rfl⟩⟩, HG.out⟩
theorem a7l (b : Nat) (w : World) :
  Calls Tryz.prog 72 #[.string ⟨#[]⟩, .int .i64 (b : Int), .int .i64 32] w fun e w' => a1y none e ∧ w = w' := by
 go_enter Tryz.func72, Tryz.ntmps72
 go_wp2
 go_ret2
 exact ⟨⟨_, _, rfl, .inl ⟨rfl, .inr rfl⟩⟩, rfl⟩

end Go.Proofs.YtlfmddjppejmaaaGreatDoor

namespace Go.Proofs
open Go.Shelf
def Tryz.lays103_ren : Go.Shelf.Ren := ⟨fun | 103 => 62 | 210 => 71 | 206 => 79 | n => n, fun | 9 => 9 | 4 => 4 | 24 => 88 | 3 => 3 | n => n, fun | n => n⟩
theorem Tryz.lays103 : Go.Proofs.Lays.n103 Tryz.prog Tryz.lays103_ren := {
 mixed := by kernel_rfl
 f103 := Tryz.func62.trans (congrArg some (by kernel_rfl))
 f206 := Tryz.func79.trans (congrArg some (by kernel_rfl))
 f210 := Tryz.func71.trans (congrArg some (by kernel_rfl))
 t3 := Tryz.underlying3
 a3 := Tryz.isAgg3
 z3 := Tryz.sizeOf3
 v3 := Tryz.zeroValue3
 t4 := Tryz.underlying4
 a4 := Tryz.isAgg4
 z4 := Tryz.sizeOf4
 v4 := Tryz.zeroValue4
 t9 := Tryz.underlying9
 a9 := Tryz.isAgg9
 z9 := Tryz.sizeOf9
 v9 := Tryz.zeroValue9
 t24 := Tryz.underlying88
 a24 := Tryz.isAgg88
 z24 := Tryz.sizeOf88
 v24 := Tryz.zeroValue88 }
open Go.RowKit in
theorem Tryz.strings_CutPrefix (s p : ByteArray) (w : World) :
  Calls Tryz.prog 62 #[.string s, .string p] w fun e w' => e = .returned (.tuple #[.string ⟨(Lib.trimPrefix s.data.toList p.data.toList).toArray⟩, .bool (Lib.hasPrefix s.data.toList p.data.toList)]) ∧ w' = w := Any.strings_CutPrefix Tryz.lays103 s p w
def Tryz.laysC245_ren : Go.Shelf.Ren := ⟨fun | 245 => 73 | 279 => 82 | 280 => 83 | 281 => 84 | 282 => 85 | 316 => 91 | 171 => 93 | 205 => 92 | 243 => 96 | 246 => 98 | 283 => 100 | 284 => 101 | 285 => 102 | 286 => 103 | 129 => 106 | 317 => 105 | 318 => 107 | 319 => 108 | 320 => 109 | 337 => 111 | 338 => 112 | n => n, fun | 9 => 9 | 3 => 3 | 75 => 91 | 167 => 109 | 4 => 4 | 168 => 112 | 210 => 120 | 37 => 105 | 0 => 0 | 127 => 125 | 145 => 128 | 143 => 126 | 2 => 2 | 171 => 130 | 53 => 84 | 5 => 5 | 173 => 133 | 212 => 137 | 51 => 40 | 20 => 20 | 213 => 138 | 46 => 111 | 232 => 141 | 233 => 142 | 80 => 172 | n => n, fun | 15 => 1 | 16 => 2 | 17 => 3 | 18 => 4 | 19 => 5 | n => n⟩
theorem Tryz.laysC245 : Go.Proofs.LaysC.n245 Tryz.prog Tryz.laysC245_ren := {
 mixed := by kernel_rfl
 f129 := Tryz.func106.trans (congrArg some (by kernel_rfl))
 f171 := Tryz.func93.trans (congrArg some (by kernel_rfl))
 f205 := Tryz.func92.trans (congrArg some (by kernel_rfl))
 f243 := Tryz.func96.trans (congrArg some (by kernel_rfl))
 f245 := Tryz.func73.trans (congrArg some (by kernel_rfl))
 f246 := Tryz.func98.trans (congrArg some (by kernel_rfl))
 f279 := Tryz.func82.trans (congrArg some (by kernel_rfl))
 f280 := Tryz.func83.trans (congrArg some (by kernel_rfl))
 f281 := Tryz.func84.trans (congrArg some (by kernel_rfl))
 f282 := Tryz.func85.trans (congrArg some (by kernel_rfl))
 f283 := Tryz.func100.trans (congrArg some (by kernel_rfl))
 f284 := Tryz.func101.trans (congrArg some (by kernel_rfl))
 f285 := Tryz.func102.trans (congrArg some (by kernel_rfl))
 f286 := Tryz.func103.trans (congrArg some (by kernel_rfl))
 f316 := Tryz.func91.trans (congrArg some (by kernel_rfl))
 f317 := Tryz.func105.trans (congrArg some (by kernel_rfl))
 f318 := Tryz.func107.trans (congrArg some (by kernel_rfl))
 f319 := Tryz.func108.trans (congrArg some (by kernel_rfl))
 f320 := Tryz.func109.trans (congrArg some (by kernel_rfl))
 f337 := Tryz.func111.trans (congrArg some (by kernel_rfl))
 f338 := Tryz.func112.trans (congrArg some (by kernel_rfl))
 t0 := Tryz.underlying0
 a0 := Tryz.isAgg0
 z0 := Tryz.sizeOf0
 v0 := Tryz.zeroValue0
 t2 := Tryz.underlying2
 a2 := Tryz.isAgg2
 z2 := Tryz.sizeOf2
 v2 := Tryz.zeroValue2
 t3 := Tryz.underlying3
 a3 := Tryz.isAgg3
 z3 := Tryz.sizeOf3
 v3 := Tryz.zeroValue3
 t4 := Tryz.underlying4
 a4 := Tryz.isAgg4
 z4 := Tryz.sizeOf4
 v4 := Tryz.zeroValue4
 t5 := Tryz.underlying5
 a5 := Tryz.isAgg5
 z5 := Tryz.sizeOf5
 v5 := Tryz.zeroValue5
 t9 := Tryz.underlying9
 a9 := Tryz.isAgg9
 z9 := Tryz.sizeOf9
 v9 := Tryz.zeroValue9
 t20 := Tryz.underlying20
 a20 := Tryz.isAgg20
 z20 := Tryz.sizeOf20
 v20 := Tryz.zeroValue20
 t37 := Tryz.underlying105
 a37 := Tryz.isAgg105
 z37 := Tryz.sizeOf105
 v37 := Tryz.zeroValue105
 t46 := Tryz.underlying111
 a46 := Tryz.isAgg111
 z46 := Tryz.sizeOf111
 v46 := Tryz.zeroValue111
 t51 := Tryz.underlying40
 a51 := Tryz.isAgg40
 z51 := Tryz.sizeOf40
 v51 := Tryz.zeroValue40
 t53 := Tryz.underlying84
 a53 := Tryz.isAgg84
 z53 := Tryz.sizeOf84
 v53 := Tryz.zeroValue84
 t75 := Tryz.underlying91
 a75 := Tryz.isAgg91
 z75 := Tryz.sizeOf91
 v75 := Tryz.zeroValue91
 t127 := Tryz.underlying125
 a127 := Tryz.isAgg125
 z127 := Tryz.sizeOf125
 v127 := Tryz.zeroValue125
 t143 := Tryz.underlying126
 a143 := Tryz.isAgg126
 z143 := Tryz.sizeOf126
 v143 := Tryz.zeroValue126
 t145 := Tryz.underlying128
 a145 := Tryz.isAgg128
 z145 := Tryz.sizeOf128
 v145 := Tryz.zeroValue128
 t167 := Tryz.underlying109
 a167 := Tryz.isAgg109
 z167 := Tryz.sizeOf109
 v167 := Tryz.zeroValue109
 t168 := Tryz.underlying112
 a168 := Tryz.isAgg112
 z168 := Tryz.sizeOf112
 v168 := Tryz.zeroValue112
 t171 := Tryz.underlying130
 a171 := Tryz.isAgg130
 z171 := Tryz.sizeOf130
 v171 := Tryz.zeroValue130
 t173 := Tryz.underlying133
 a173 := Tryz.isAgg133
 z173 := Tryz.sizeOf133
 v173 := Tryz.zeroValue133
 t210 := Tryz.underlying120
 a210 := Tryz.isAgg120
 z210 := Tryz.sizeOf120
 v210 := Tryz.zeroValue120
 t212 := Tryz.underlying137
 a212 := Tryz.isAgg137
 z212 := Tryz.sizeOf137
 v212 := Tryz.zeroValue137
 t213 := Tryz.underlying138
 a213 := Tryz.isAgg138
 z213 := Tryz.sizeOf138
 t232 := Tryz.underlying141
 a232 := Tryz.isAgg141
 z232 := Tryz.sizeOf141
 v232 := Tryz.zeroValue141
 t233 := Tryz.underlying142
 a233 := Tryz.isAgg142
 z233 := Tryz.sizeOf142
 v233 := Tryz.zeroValue142
 g15 := by kernel_rfl
 g16 := by kernel_rfl
 g17 := by kernel_rfl
 g18 := by kernel_rfl
 g19 := by kernel_rfl
 t80 := Tryz.underlying172
 a80 := Tryz.isAgg172
 z80 := Tryz.sizeOf172
 v80 := Tryz.zeroValue172
 i0 := by kernel_rfl
 i2 := by kernel_rfl
 i3 := by kernel_rfl
 i4 := by kernel_rfl
 i5 := by kernel_rfl
 i9 := by kernel_rfl
 i20 := by kernel_rfl
 i37 := by kernel_rfl
 i46 := by kernel_rfl
 i51 := by kernel_rfl
 i53 := by kernel_rfl
 i75 := by kernel_rfl
 i80 := by kernel_rfl
 i127 := by kernel_rfl
 i143 := by kernel_rfl
 i145 := by kernel_rfl
 i167 := by kernel_rfl
 i168 := by kernel_rfl
 i171 := by kernel_rfl
 i173 := by kernel_rfl
 i210 := by kernel_rfl
 i212 := by kernel_rfl
 i232 := by kernel_rfl
 i233 := by kernel_rfl
 m15 := by kernel_rfl
 m16 := by kernel_rfl
 m17 := by kernel_rfl
 m18 := by kernel_rfl
 m19 := by kernel_rfl
 c0 := by kernel_rfl
 c2 := by kernel_rfl
 c3 := by kernel_rfl
 c4 := by kernel_rfl
 c5 := by kernel_rfl
 c9 := by kernel_rfl
 c20 := by kernel_rfl
 c37 := by kernel_rfl
 c46 := by kernel_rfl
 c51 := by kernel_rfl
 c53 := by kernel_rfl
 c75 := by kernel_rfl
 c80 := by kernel_rfl
 c127 := by kernel_rfl
 c143 := by kernel_rfl
 c145 := by kernel_rfl
 c167 := by kernel_rfl
 c168 := by kernel_rfl
 c171 := by kernel_rfl
 c173 := by kernel_rfl
 c210 := by kernel_rfl
 c212 := by kernel_rfl
 c213 := by kernel_rfl
 c232 := by kernel_rfl
 c233 := by kernel_rfl }
open Go.RowKit in
theorem Tryz.strconv_toError_syntax (fn s : ByteArray) (base bits : Int) (ev : Value) (w : World) (hlim : s.size ≤ 281474976710656) (hv : w.cell? ⟨1, 0, none⟩ = some ev) (hev : ev = .nilIface ∨ ∃ te pe, ev = .iface te pe) :
  Calls Tryz.prog 73 #[.string fn, .string s, .int .i64 base, .int .i64 bits, .iface 109 (.int .i64 2)] w fun e w' => ∃ N, e = .returned (.iface 112 (.pointer (some ⟨N, 0, none⟩))) ∧ w.heap.size ≤ N ∧ w'.heap[N]? = some (.cells #[.string fn, .string s, ev] 120 (0, 0)) ∧ Below w.heap.size w w' := Any.strconv_toError_syntax Tryz.laysC245 fn s base bits ev w hlim hv hev
open Go.RowKit in
theorem Tryz.strconv_toError_range (fn s : ByteArray) (base bits : Int) (ev : Value) (w : World) (hlim : s.size ≤ 281474976710656) (hv : w.cell? ⟨2, 0, none⟩ = some ev) (hev : ev = .nilIface ∨ ∃ te pe, ev = .iface te pe) :
  Calls Tryz.prog 73 #[.string fn, .string s, .int .i64 base, .int .i64 bits, .iface 109 (.int .i64 1)] w fun e w' => ∃ N, e = .returned (.iface 112 (.pointer (some ⟨N, 0, none⟩))) ∧ w.heap.size ≤ N ∧ w'.heap[N]? = some (.cells #[.string fn, .string s, ev] 120 (0, 0)) ∧ Below w.heap.size w w' := Any.strconv_toError_range Tryz.laysC245 fn s base bits ev w hlim hv hev
def Tryz.lays145_ren : Go.Shelf.Ren := ⟨fun | 145 => 131 | 220 => 135 | 219 => 137 | 217 => 140 | 225 => 141 | 224 => 142 | 267 => 143 | 266 => 146 | 314 => 147 | n => n, fun | 9 => 9 | 4 => 4 | 59 => 154 | 3 => 3 | 5 => 5 | 46 => 111 | 146 => 170 | 51 => 40 | n => n, fun | 1 => 6 | n => n⟩
theorem Tryz.lays145 : Go.Proofs.Lays.n145 Tryz.prog Tryz.lays145_ren := {
 mixed := by kernel_rfl
 f145 := Tryz.func131.trans (congrArg some (by kernel_rfl))
 f217 := Tryz.func140.trans (congrArg some (by kernel_rfl))
 f219 := Tryz.func137.trans (congrArg some (by kernel_rfl))
 f220 := Tryz.func135.trans (congrArg some (by kernel_rfl))
 f224 := Tryz.func142.trans (congrArg some (by kernel_rfl))
 f225 := Tryz.func141.trans (congrArg some (by kernel_rfl))
 f266 := Tryz.func146.trans (congrArg some (by kernel_rfl))
 f267 := Tryz.func143.trans (congrArg some (by kernel_rfl))
 f314 := Tryz.func147.trans (congrArg some (by kernel_rfl))
 t3 := Tryz.underlying3
 a3 := Tryz.isAgg3
 z3 := Tryz.sizeOf3
 v3 := Tryz.zeroValue3
 t4 := Tryz.underlying4
 a4 := Tryz.isAgg4
 z4 := Tryz.sizeOf4
 v4 := Tryz.zeroValue4
 t5 := Tryz.underlying5
 a5 := Tryz.isAgg5
 z5 := Tryz.sizeOf5
 v5 := Tryz.zeroValue5
 t9 := Tryz.underlying9
 a9 := Tryz.isAgg9
 z9 := Tryz.sizeOf9
 v9 := Tryz.zeroValue9
 t46 := Tryz.underlying111
 a46 := Tryz.isAgg111
 z46 := Tryz.sizeOf111
 v46 := Tryz.zeroValue111
 t51 := Tryz.underlying40
 a51 := Tryz.isAgg40
 z51 := Tryz.sizeOf40
 v51 := Tryz.zeroValue40
 t59 := Tryz.underlying154
 a59 := Tryz.isAgg154
 z59 := Tryz.sizeOf154
 v59 := Tryz.zeroValue154
 t146 := Tryz.underlying170
 a146 := Tryz.isAgg170
 z146 := Tryz.sizeOf170
 v146 := Tryz.zeroValue170
 g1 := by kernel_rfl }
open Go.RowKit Go.Lib in
theorem Tryz.strings_Cut (s sep : ByteArray) (m : Int) (w : World) (hs : s.size < 4294967281) (hm : w.cell? ⟨6, 0, none⟩ = some (.int .i64 m)) :
  Calls Tryz.prog 131 #[.string s, .string sep] w fun e w' => e = .returned (.tuple #[.string ⟨(Lib.cut s.data.toList sep.data.toList).1.toArray⟩, .string ⟨(Lib.cut s.data.toList sep.data.toList).2.1.toArray⟩, .bool (Lib.cut s.data.toList sep.data.toList).2.2]) ∧ ∃ n, w' = w.drewN n := Any.strings_Cut Tryz.lays145 s sep m w hs hm
end Go.Proofs
