import Derived.Test.YtklipelnjgpnjaaGreatDoorLotS36
import Derived.Lib.ConvBytes
import Derived.Test.YtklipelnjgpnjaaGreatDoorLotS3
import Derived.Deep.DeepCutAuto
set_option maxHeartbeats 64000000
set_option maxRecDepth 100000
namespace Go.Proofs.YtklipelnjgpnjaaGreatDoor
open Go.RowKit
def W5 (n : Nat) : Nat := if n ≤ 57 then n - 48 else n - 87
def pU (b : Nat) : Nat → List UInt8 → Option Nat
 | v, [] => some v
 | v, c :: r => if W5 c.toNat < b then (if 4294967295 < v * b + W5 c.toNat then none else pU b (v * b + W5 c.toNat) r) else none
theorem a5C {c : UInt8} (h : k6 c = true) : (48 ≤ c.toNat ∧ c.toNat ≤ 57) ∨ (97 ≤ c.toNat ∧ c.toNat ≤ 122) := by
 simp only [k6, D3, a0l, Bool.or_eq_true, Bool.and_eq_true, decide_eq_true_eq] at h
 exact h
theorem a9p (n : Nat) (h1 : 97 ≤ n) (h2 : n ≤ 122) (w : World) :
  Calls Tryz.prog 189 #[.int .u8 (n : Int)] w fun e w' => e = .returned (.int .u8 (n : Int)) ∧ w = w' := by
 have h : ∀ k : Fin 26, bits .or .u8 ((97 + k.1 : Nat) : Int) 32 = ((97 + k.1 : Nat) : Int) := by decide +kernel
 have h3 := h ⟨n - 97, by omega⟩
 simp only [show 97 + (n - 97) = n by omega] at h3
 clear h
 go_enter Tryz.func189, Tryz.ntmps189
 go_wp2
 go_ret
 exact ⟨O6 (by first | exact h3 | rfl), rfl⟩
def a4n (r : Option Nat) (e : Ending) : Prop := ∃ (n : Int) (er : Value), e = .returned (.tuple #[.int .u64 n, er]) ∧ ((r = none ∧ (er = .iface 190 (.int .i64 1) ∨ er = .iface 190 (.int .i64 2))) ∨ (∃ m : Nat, r = some m ∧ n = (m : Int) ∧ er = .nilIface))
theorem a8a (w : World) (e : TypeId) (s : ByteArray) : w.grownBy (Lib.bytesWorld w e s) none :=
 ⟨rfl, rfl, rfl, by rw [Lib.bytesWorld_size]; omega, fun k hk _ => Lib.bytesWorld_at_old w e s k hk⟩
theorem ay0 (t : ByteArray) (hne : t.size ≠ 0) (hmax : t.size ≤ 140737488355328) (ht : ∀ c ∈ sl t, k6 c = true) (w : World) :
  Calls Tryz.prog 171 #[.string t, .int .i64 10, .int .i64 32] w fun e w' => a4n (pU 10 0 (sl t)) e ∧ w.grownBy w' none := by
 have hemp : t.toList.isEmpty = false := by
  rw [← decide_eq_emptyBytes]
  exact decide_eq_false (fun h => hne (by rw [h]; rfl))
 have hcv := Lib.run_convert_string_bytes (P := Tryz.prog) w 9 115 5 t (u := .string) Tryz.underlying9 Tryz.underlying115 Tryz.underlying5
 have HB : Hid (∀ j (hj : j < t.size), (Lib.bytesWorld w 5 t).cell? ⟨w.heap.size, j, none⟩ = some (.int .u8 (t[j].toNat : Int))) := fun j hj => by
  have := Lib.bytesWorld_cell w 5 t j hj
  rw [this]
  congr 3
  have h2 := a2g t j hj
  show (t.data.toList.getD j 0).toNat = _
  rw [List.getD_eq_getElem?_getD, show t.data.toList[j]? = some t[j] from h2]
  rfl
 have HG : Hid (w.grownBy (Lib.bytesWorld w 5 t) none) := a8a _ _ _
 generalize Lib.bytesWorld w 5 t = W1 at *
 have HWD : Hid (∀ j (hj : j < t.size), k6 t[j] = true) := fun j hj => ht _ (List.mem_of_getElem? (a2g t j hj))
 obtain ⟨ans, hans⟩ : ∃ ans, pU 10 0 (sl t) = ans := ⟨_, rfl⟩
 have HA : Hid (pU 10 0 ((sl t).drop 0) = ans) := by show _ = ans; rw [List.drop_zero]; exact hans
 rw [hans]
 have HL : Hid (∀ (n : Nat), 97 ≤ n → n ≤ 122 → ∀ w : World, Calls Tryz.prog 189 #[.int .u8 (n : Int)] w fun e w' => e = .returned (.int .u8 (n : Int)) ∧ w = w') := fun n h1 h2 w => a9p n h1 h2 w
 have hmv : IntKind.u64.wrap (IntKind.u64.wrap 4294967296 - 1) = 4294967295 := by
  rw [IntKind.wrap_u64, IntKind.wrap_u64]
  decide
 clear hans ht hne
 go_enter Tryz.func171, Tryz.ntmps171
 go_wp2
 go_loopw [12, 13, 101] (fun vu vn vi wr => ∃ (k acc : Nat) (a : Int), vu = .bool false ∧ vn = .int .u64 a ∧ vi = .int .i64 k ∧ k ≤ t.size ∧ Hid (a = (acc : Int) ∧ acc ≤ 4294967295 ∧ pU 10 acc ((sl t).drop k) = ans) ∧ wr = W1) (fun _ _ vi _ => t.size - (intOf vi).toNat)
 case atStart => exact ⟨0, 0, 0, rfl, rfl, rfl, Nat.zero_le _, ⟨rfl, Nat.zero_le _, HA.out⟩, rfl⟩
 case round =>
  clear HA hcv
  obtain ⟨k, acc, a, rfl, rfl, rfl, hk, hh, rfl⟩ := hrel
  obtain ⟨ha, hacc, hdec⟩ := hh.out
  clear hh
  have a0 : 0 ≤ a := by omega
  have a1 : a ≤ 4294967295 := by omega
  have z0 : (0 : Int) ≤ (k : Int) := by omega
  by_cases hkn : k < t.size
  ·have hki : (k : Int) < (t.size : Int) := by omega
   have hc := HB.out k hkn
   have hwd := a5C (HWD.out k hkn)
   rw [a0w t k hkn, pU] at hdec
   have hc256 : t[k].toNat < 256 := t[k].toNat_lt
   generalize t[k].toNat = c at *
   have HB' : Hid _ := HB
   clear HB HWD
   have icut : a < 1844674407370955162 := by omega
   have b95 : ((c : Int) == 95) = false := by rw [beq_eq_false_iff_ne]; omega
   rcases hwd with ⟨hd0, hd1⟩ | ⟨hd0, hd1⟩
   ·have hdv : W5 c = c - 48 := by rw [W5, if_pos hd1]
    have i0 : (48 : Int) ≤ (c : Int) := by omega
    have i1 : (c : Int) ≤ 57 := by omega
    have hw0 : IntKind.u8.wrap ((c : Int) - 48) = (c : Int) - 48 := by rw [IntKind.wrap_u8]; omega
    rw [hdv, if_pos (by omega)] at hdec
    by_cases hov : 4294967295 < acc * 10 + (c - 48)
    ·rw [if_pos hov] at hdec
     subst hdec
     have iov : 4294967295 < a * 10 + ((c : Int) - 48) := by omega
     clear hov ha hacc hdv HB' HL hd0 hd1
     go_wp2
     go_ret2
     exact ⟨⟨_, _, rfl, .inl ⟨rfl, .inl rfl⟩⟩, HG.out⟩
    ·rw [if_neg hov] at hdec
     have HN : Hid (a * 10 + ((c : Int) - 48) = ((acc * 10 + (c - 48) : Nat) : Int) ∧ acc * 10 + (c - 48) ≤ 4294967295 ∧ pU 10 (acc * 10 + (c - 48)) ((sl t).drop (k + 1)) = ans) := ⟨by omega, by omega, hdec⟩
     have iov : a * 10 + ((c : Int) - 48) ≤ 4294967295 := by omega
     clear hov ha hacc hdec hdv HB' HL hd0 hd1
     go_wp2
     go_roundw
     case rel => exact ⟨k + 1, acc * 10 + (c - 48), a * 10 + ((c : Int) - 48), rfl, by first | rfl | (congr 1; omega), by go_num, by omega, HN, by first | rfl | trivial⟩
     case measure => simp [intOf]; omega
   ·have hdv : W5 c = c - 87 := by rw [W5, if_neg (by omega)]
    have i0 : (48 : Int) ≤ (c : Int) := by omega
    have i1 : ¬ (c : Int) ≤ 57 := by omega
    have i2 : (97 : Int) ≤ (c : Int) := by omega
    have i3 : (c : Int) ≤ 122 := by omega
    have hw0 : IntKind.u8.wrap ((c : Int) - 97) = (c : Int) - 97 := by rw [IntKind.wrap_u8]; omega
    have hw1 : IntKind.u8.wrap ((c : Int) - 97 + 10) = (c : Int) - 87 := by rw [IntKind.wrap_u8]; omega
    have CL := HL.out c hd0 hd1
    rw [hdv] at hdec
    by_cases hbg : c - 87 < 10
    ·exact absurd hbg (by omega)
    ·rw [if_neg hbg] at hdec
     subst hdec
     have ibg : ¬ (c : Int) - 87 < 10 := by omega
     clear ha hacc hdv HB' HL hd0 hd1 hbg
     go_wp2_with (go_at_call 189; refine (CL _).mono ?_; rintro e w' ⟨rfl, rfl⟩)
     go_ret2
     exact ⟨⟨_, _, rfl, .inl ⟨rfl, .inr rfl⟩⟩, HG.out⟩
  ·obtain rfl : k = t.size := by omega
   have hki : ¬ (t.size : Int) < (t.size : Int) := by omega
   rw [List.drop_eq_nil_of_le (by rw [o8]; exact Nat.le_refl _), pU] at hdec
   subst hdec
   have HN : Hid (a = (acc : Int)) := ha
   clear ha hacc HB HWD HL
   go_wp2
   go_ret2
   exact ⟨⟨_, _, rfl, .inr ⟨acc, rfl, HN.out, rfl⟩⟩, HG.out⟩
theorem ay1 (t : ByteArray) (hne : t.size ≠ 0) (hmax : t.size ≤ 140737488355328) (ht : ∀ c ∈ sl t, k6 c = true) (w : World) :
  Calls Tryz.prog 171 #[.string t, .int .i64 16, .int .i64 32] w fun e w' => a4n (pU 16 0 (sl t)) e ∧ w.grownBy w' none := by
 have hemp : t.toList.isEmpty = false := by
  rw [← decide_eq_emptyBytes]
  exact decide_eq_false (fun h => hne (by rw [h]; rfl))
 have hcv := Lib.run_convert_string_bytes (P := Tryz.prog) w 9 115 5 t (u := .string) Tryz.underlying9 Tryz.underlying115 Tryz.underlying5
 have HB : Hid (∀ j (hj : j < t.size), (Lib.bytesWorld w 5 t).cell? ⟨w.heap.size, j, none⟩ = some (.int .u8 (t[j].toNat : Int))) := fun j hj => by
  have := Lib.bytesWorld_cell w 5 t j hj
  rw [this]
  congr 3
  have h2 := a2g t j hj
  show (t.data.toList.getD j 0).toNat = _
  rw [List.getD_eq_getElem?_getD, show t.data.toList[j]? = some t[j] from h2]
  rfl
 have HG : Hid (w.grownBy (Lib.bytesWorld w 5 t) none) := a8a _ _ _
 generalize Lib.bytesWorld w 5 t = W1 at *
 have HWD : Hid (∀ j (hj : j < t.size), k6 t[j] = true) := fun j hj => ht _ (List.mem_of_getElem? (a2g t j hj))
 obtain ⟨ans, hans⟩ : ∃ ans, pU 16 0 (sl t) = ans := ⟨_, rfl⟩
 have HA : Hid (pU 16 0 ((sl t).drop 0) = ans) := by show _ = ans; rw [List.drop_zero]; exact hans
 rw [hans]
 have HL : Hid (∀ (n : Nat), 97 ≤ n → n ≤ 122 → ∀ w : World, Calls Tryz.prog 189 #[.int .u8 (n : Int)] w fun e w' => e = .returned (.int .u8 (n : Int)) ∧ w = w') := fun n h1 h2 w => a9p n h1 h2 w
 have hmv : IntKind.u64.wrap (IntKind.u64.wrap 4294967296 - 1) = 4294967295 := by
  rw [IntKind.wrap_u64, IntKind.wrap_u64]
  decide
 clear hans ht hne
 go_enter Tryz.func171, Tryz.ntmps171
 go_wp2
 go_loopw [12, 13, 101] (fun vu vn vi wr => ∃ (k acc : Nat) (a : Int), vu = .bool false ∧ vn = .int .u64 a ∧ vi = .int .i64 k ∧ k ≤ t.size ∧ Hid (a = (acc : Int) ∧ acc ≤ 4294967295 ∧ pU 16 acc ((sl t).drop k) = ans) ∧ wr = W1) (fun _ _ vi _ => t.size - (intOf vi).toNat)
 case atStart => exact ⟨0, 0, 0, rfl, rfl, rfl, Nat.zero_le _, ⟨rfl, Nat.zero_le _, HA.out⟩, rfl⟩
 case round =>
  clear HA hcv
  obtain ⟨k, acc, a, rfl, rfl, rfl, hk, hh, rfl⟩ := hrel
  obtain ⟨ha, hacc, hdec⟩ := hh.out
  clear hh
  have a0 : 0 ≤ a := by omega
  have a1 : a ≤ 4294967295 := by omega
  have z0 : (0 : Int) ≤ (k : Int) := by omega
  by_cases hkn : k < t.size
  ·have hki : (k : Int) < (t.size : Int) := by omega
   have hc := HB.out k hkn
   have hwd := a5C (HWD.out k hkn)
   rw [a0w t k hkn, pU] at hdec
   have hc256 : t[k].toNat < 256 := t[k].toNat_lt
   generalize t[k].toNat = c at *
   have HB' : Hid _ := HB
   clear HB HWD
   have icut : a < 1152921504606846976 := by omega
   have b95 : ((c : Int) == 95) = false := by rw [beq_eq_false_iff_ne]; omega
   rcases hwd with ⟨hd0, hd1⟩ | ⟨hd0, hd1⟩
   ·have hdv : W5 c = c - 48 := by rw [W5, if_pos hd1]
    have i0 : (48 : Int) ≤ (c : Int) := by omega
    have i1 : (c : Int) ≤ 57 := by omega
    have hw0 : IntKind.u8.wrap ((c : Int) - 48) = (c : Int) - 48 := by rw [IntKind.wrap_u8]; omega
    rw [hdv, if_pos (by omega)] at hdec
    by_cases hov : 4294967295 < acc * 16 + (c - 48)
    ·rw [if_pos hov] at hdec
     subst hdec
     have iov : 4294967295 < a * 16 + ((c : Int) - 48) := by omega
     clear hov ha hacc hdv HB' HL hd0 hd1
     go_wp2
     go_ret2
     exact ⟨⟨_, _, rfl, .inl ⟨rfl, .inl rfl⟩⟩, HG.out⟩
    ·rw [if_neg hov] at hdec
     have HN : Hid (a * 16 + ((c : Int) - 48) = ((acc * 16 + (c - 48) : Nat) : Int) ∧ acc * 16 + (c - 48) ≤ 4294967295 ∧ pU 16 (acc * 16 + (c - 48)) ((sl t).drop (k + 1)) = ans) := ⟨by omega, by omega, hdec⟩
     have iov : a * 16 + ((c : Int) - 48) ≤ 4294967295 := by omega
     clear hov ha hacc hdec hdv HB' HL hd0 hd1
     go_wp2
     go_roundw
     case rel => exact ⟨k + 1, acc * 16 + (c - 48), a * 16 + ((c : Int) - 48), rfl, by first | rfl | (congr 1; omega), by go_num, by omega, HN, by first | rfl | trivial⟩
     case measure => simp [intOf]; omega
   ·have hdv : W5 c = c - 87 := by rw [W5, if_neg (by omega)]
    have i0 : (48 : Int) ≤ (c : Int) := by omega
    have i1 : ¬ (c : Int) ≤ 57 := by omega
    have i2 : (97 : Int) ≤ (c : Int) := by omega
    have i3 : (c : Int) ≤ 122 := by omega
    have hw0 : IntKind.u8.wrap ((c : Int) - 97) = (c : Int) - 97 := by rw [IntKind.wrap_u8]; omega
    have hw1 : IntKind.u8.wrap ((c : Int) - 97 + 10) = (c : Int) - 87 := by rw [IntKind.wrap_u8]; omega
    have CL := HL.out c hd0 hd1
    rw [hdv] at hdec
    by_cases hbg : c - 87 < 16
    ·rw [if_pos hbg] at hdec
     by_cases hov : 4294967295 < acc * 16 + (c - 87)
     ·rw [if_pos hov] at hdec
      subst hdec
      have iov : 4294967295 < a * 16 + ((c : Int) - 87) := by omega
      have ibg : (c : Int) - 87 < 16 := by omega
      clear hov ha hacc hdv HB' HL hd0 hd1 hbg
      go_wp2_with (go_at_call 189; refine (CL _).mono ?_; rintro e w' ⟨rfl, rfl⟩)
      go_ret2
      exact ⟨⟨_, _, rfl, .inl ⟨rfl, .inl rfl⟩⟩, HG.out⟩
     ·rw [if_neg hov] at hdec
      have HN : Hid (a * 16 + ((c : Int) - 87) = ((acc * 16 + (c - 87) : Nat) : Int) ∧ acc * 16 + (c - 87) ≤ 4294967295 ∧ pU 16 (acc * 16 + (c - 87)) ((sl t).drop (k + 1)) = ans) := ⟨by omega, by omega, hdec⟩
      have iov : a * 16 + ((c : Int) - 87) ≤ 4294967295 := by omega
      have ibg : (c : Int) - 87 < 16 := by omega
      clear hov ha hacc hdec hdv HB' HL hd0 hd1 hbg
      go_wp2_with (go_at_call 189; refine (CL _).mono ?_; rintro e w' ⟨rfl, rfl⟩)
      go_roundw
      case rel => exact ⟨k + 1, acc * 16 + (c - 87), a * 16 + ((c : Int) - 87), rfl, by first | rfl | (congr 1; omega), by go_num, by omega, HN, by first | rfl | trivial⟩
      case measure => simp [intOf]; omega
    ·rw [if_neg hbg] at hdec
     subst hdec
     have ibg : ¬ (c : Int) - 87 < 16 := by omega
     clear ha hacc hdv HB' HL hd0 hd1 hbg
     go_wp2_with (go_at_call 189; refine (CL _).mono ?_; rintro e w' ⟨rfl, rfl⟩)
     go_ret2
     exact ⟨⟨_, _, rfl, .inl ⟨rfl, .inr rfl⟩⟩, HG.out⟩
  ·obtain rfl : k = t.size := by omega
   have hki : ¬ (t.size : Int) < (t.size : Int) := by omega
   rw [List.drop_eq_nil_of_le (by rw [o8]; exact Nat.le_refl _), pU] at hdec
   subst hdec
   have HN : Hid (a = (acc : Int)) := ha
   clear ha hacc HB HWD HL
   go_wp2
   go_ret2
   exact ⟨⟨_, _, rfl, .inr ⟨acc, rfl, HN.out, rfl⟩⟩, HG.out⟩
theorem ax9 (b : Nat) (w : World) :
  Calls Tryz.prog 171 #[.string ⟨#[]⟩, .int .i64 (b : Int), .int .i64 32] w fun e w' => a4n none e ∧ w = w' := by
 go_enter Tryz.func171, Tryz.ntmps171
 go_wp2
 go_ret2
 exact ⟨⟨_, _, rfl, .inl ⟨rfl, .inr rfl⟩⟩, rfl⟩
theorem aq2 {c : UInt8} (h : k6 c = true) : J1 c.toNat = decide (W5 c.toNat < 16) ∧ (J1 c.toNat = true → y9 c.toNat = W5 c.toNat) := by
 have hn := a5C h
 generalize c.toNat = n at *
 unfold W5
 by_cases h1 : n ≤ 57
 ·have := a8k (c := n) (by omega)
  rw [if_pos h1, this.1, decide_eq_true (by omega)]
  exact ⟨rfl, fun _ => this.2⟩
 ·rw [if_neg h1]
  by_cases h2 : n ≤ 102
  ·have := a8l (c := n) (by omega)
   rw [this.1, decide_eq_true (by omega)]
   exact ⟨rfl, fun _ => this.2⟩
  ·have := a8m (c := n) (by omega) (by omega)
   rw [this.1, decide_eq_false (by omega)]
   exact ⟨rfl, fun h => by cases h⟩
theorem aq1 {c : UInt8} (h : k6 c = true) : D3 c = decide (W5 c.toNat < 10) ∧ (D3 c = true → c.toNat - 48 = W5 c.toNat) := by
 have hn := a5C h
 unfold D3 W5
 generalize c.toNat = n at *
 by_cases h1 : n ≤ 57
 ·rw [if_pos h1, decide_eq_true h1, decide_eq_true (show 48 ≤ n by omega), decide_eq_true (show n - 48 < 10 by omega)]
  exact ⟨rfl, fun _ => rfl⟩
 ·rw [if_neg h1, decide_eq_false h1, decide_eq_false (show ¬ n - 87 < 10 by omega)]
  simp
theorem a8X : ∀ (l : List UInt8) (v : Nat), (∀ c ∈ l, k6 c = true) → a2v v l = pU 16 v l
 | [], _, _ => rfl
 | c :: r, v, h => by
  have hd := aq2 (h c (List.mem_cons_self ..))
  rw [a2v, pU]
  cases ho : J1 c.toNat with
  | false =>
   rw [if_neg (by simp), if_neg (by have := hd.1; rw [ho] at this; simpa using this.symm)]
  | true =>
   have e := hd.2 ho
   have hlt : W5 c.toNat < 16 := by have := hd.1; rw [ho] at this; simpa using this.symm
   rw [if_pos rfl, if_pos hlt, e, Nat.mul_comm 16 v]
   split
   ·rfl
   ·exact a8X r _ (fun x hx => h x (List.mem_cons_of_mem _ hx))
theorem a8h : ∀ (l : List UInt8) (v : Nat), (∀ c ∈ l, k6 c = true) → J3 4294967295 v l = pU 10 v l
 | [], _, _ => rfl
 | c :: r, v, h => by
  have hd := aq1 (h c (List.mem_cons_self ..))
  rw [J3, pU]
  cases ho : D3 c with
  | false =>
   rw [if_neg (by simp), if_neg (by have := hd.1; rw [ho] at this; simpa using this.symm)]
  | true =>
   have e := hd.2 ho
   have hlt : W5 c.toNat < 10 := by have := hd.1; rw [ho] at this; simpa using this.symm
   rw [if_pos rfl, if_pos hlt, e, Nat.mul_comm 10 v]
   split
   ·rfl
   ·exact a8h r _ (fun x hx => h x (List.mem_cons_of_mem _ hx))
def a1z (b : Nat) (l : List UInt8) : Option Nat := if l = [] then none else pU b 0 l
theorem aJ0 {s : List UInt8} (h : Lib.hasPrefix s [48, 120] = true) (hw : ∀ c ∈ s, k6 c = true) : a0Q s = a1z 16 (s.drop 2) := by
 have hp := List.isPrefixOf_iff_prefix.1 (show List.isPrefixOf [48, 120] s = true from h)
 obtain ⟨r, rfl⟩ := hp
 show a0Q (48 :: 120 :: r) = a1z 16 r
 cases r with
 | nil => decide
 | cons c r =>
  unfold a0Q a1z
  rw [if_pos ⟨by simp, rfl, rfl⟩, if_neg (by simp)]
  exact a8X _ _ (fun x hx => hw x (List.mem_cons_of_mem _ (List.mem_cons_of_mem _ hx)))
theorem aI9 {s : List UInt8} (h : Lib.hasPrefix s [48, 120] = false) (hw : ∀ c ∈ s, k6 c = true) (hne : s ≠ []) : a0Q s = if s.head? = some 48 ∧ s ≠ [48] then none else a1z 10 s := by
 have h1 : a0Q s = A9 4294967295 s := by
  unfold a0Q
  rw [if_neg]
  rintro ⟨h2, h3, h4⟩
  match s, h2, h3, h4 with
  | a :: b :: r, _, h3, h4 =>
   simp at h3 h4
   subst h3 h4
   exact absurd h (by show ¬ List.isPrefixOf [48, 120] (48 :: 120 :: r) = false; simp [List.isPrefixOf])
 rw [h1, A9, a1z, if_neg hne, a8h s 0 hw]
 match s, hne with
 | [c], _ =>
  by_cases hc : c = 48
  ·subst hc; simp
  ·simp [hc]
 | a :: b :: r, _ =>
  by_cases ha : a = 48
  ·subst ha; simp
  ·simp [ha]
def ag9 (r : Option Nat) (e : Ending) : Prop := ∃ (n : Int) (er : Value), e = .returned (.tuple #[.int .u64 n, er]) ∧ ((r = none ∧ ∃ ty v, er = .iface ty v) ∨ (∃ m : Nat, r = some m ∧ n = (m : Int) ∧ er = .nilIface))
theorem ay2 (b : Nat) (hb : b = 10 ∨ b = 16) (t : ByteArray) (hmax : t.size ≤ 140737488355328) (ht : ∀ c ∈ sl t, k6 c = true) (w : World) :
  Calls Tryz.prog 171 #[.string t, .int .i64 (b : Int), .int .i64 32] w fun e w' => a4n (a1z b (sl t)) e ∧ w.grownBy w' none := by
 by_cases hz : t.size = 0
 ·have h0 : t = ⟨#[]⟩ := by
   have : sl t = [] := List.length_eq_zero_iff.1 (by rw [o8]; exact hz)
   exact Value.string.inj (by rw [a0X, this])
  subst h0
  refine (ax9 b w).mono ?_
  rintro e w' ⟨h, rfl⟩
  exact ⟨h, World.grownBy.refl _ _⟩
 ·have hne : sl t ≠ [] := fun h => hz (by rw [← o8, h]; rfl)
  rw [a1z, if_neg hne]
  rcases hb with rfl | rfl
  ·exact ay0 t hz hmax ht w
  ·exact ay1 t hz hmax ht w
theorem a9M (b : Nat) (hb : b = 10 ∨ b = 16) (t : ByteArray) (hmax : t.size ≤ 140737488355328) (ht : ∀ c ∈ sl t, k6 c = true) (w : World) (T : Tab w) :
  Calls Tryz.prog 148 #[.string t, .int .i64 (b : Int), .int .i64 32] w fun e w' => ag9 (a1z b (sl t)) e ∧ w.grownBy w' none := by
 have C := ay2 b hb t hmax ht w
 have HT : Hid (Tab w) := T
 generalize a1z b (sl t) = r at *
 clear ht hb T
 go_enter Tryz.func148, Tryz.ntmps148
 go_wp2_with fail
 refine C.mono ?_
 rintro e w1 ⟨⟨n, er, rfl, h⟩, K1⟩
 clear C
 rcases h with ⟨rfl, hr⟩ | ⟨m, rfl, rfl, rfl⟩
 ·obtain ⟨-, ⟨t1, v1, h1⟩, t2, v2, h2⟩ := HT.out.grown K1
  rcases hr with rfl | rfl
  ·have C2 := Tryz.strconv_toError_range ⟨#[80, 97, 114, 115, 101, 85, 105, 110, 116]⟩ t (b : Int) 32 _ w1 (by omega) h2 (.inr ⟨_, _, rfl⟩)
   clear h1 h2 HT
   go_wp2_with fail
   refine C2.mono ?_
   rintro e w2 ⟨N, rfl, -, -, B2⟩
   clear C2
   go_wp2
   go_ret2
   exact ⟨⟨_, _, rfl, .inl ⟨rfl, _, _, rfl⟩⟩, d3 K1 (a83 B2)⟩
  ·have C2 := Tryz.strconv_toError_syntax ⟨#[80, 97, 114, 115, 101, 85, 105, 110, 116]⟩ t (b : Int) 32 _ w1 (by omega) h1 (.inr ⟨_, _, rfl⟩)
   clear h1 h2 HT
   go_wp2_with fail
   refine C2.mono ?_
   rintro e w2 ⟨N, rfl, -, -, B2⟩
   clear C2
   go_wp2
   go_ret2
   exact ⟨⟨_, _, rfl, .inl ⟨rfl, _, _, rfl⟩⟩, d3 K1 (a83 B2)⟩
 ·clear HT
  go_wp2
  go_ret2
  exact ⟨⟨_, _, rfl, .inr ⟨m, rfl, rfl, rfl⟩⟩, K1⟩
def nmV (s : List UInt8) : Except Int (Nat × List UInt8 × Nat) := match a0Q s with
 | none => .error 102
 | some n => .ok (1, s, n)
theorem aJ2 (s : ByteArray) (hmax : s.size ≤ 140737488355328) (hne : 0 < s.size) (hw : ∀ c ∈ sl s, k6 c = true) (w : World) (T : Tab w) :
  Calls Tryz.prog 120 #[.string s] w fun e w' => e = .returned (.tuple #[.agg (a2Q 0 (nmV (sl s))), .int .i64 (a2R (nmV (sl s)))]) ∧ w.grownBy w' none := by
 have RA := VAt.alloc w 99 (tkA 0 0 [] 0)
 have G0 := World.grownBy_alloc w (.cells (tkA 0 0 [] 0) 99) none
 have C1 := Tryz.strings_CutPrefix s ⟨#[48, 120]⟩
 rw [show (⟨#[48, 120]⟩ : ByteArray).data.toList = [48, 120] from rfl] at C1
 have hne' : sl s ≠ [] := fun h => by rw [← o8, h] at hne; exact absurd hne (by decide)
 have hsl : s.data.toList = sl s := rfl
 rw [hsl] at C1
 cases hp : Lib.hasPrefix (sl s) [48, 120] with
 | true =>
  rw [hp, Lib.trimPrefix, if_pos hp] at C1
  have hn := aJ0 hp hw
  have hd : (sl s).drop ([48, 120] : List UInt8).length = (sl s).drop 2 := rfl
  rw [hd] at C1
  obtain ⟨D, hD⟩ : ∃ D : ByteArray, ⟨((sl s).drop 2).toArray⟩ = D := ⟨_, rfl⟩
  have hDl : sl D = (sl s).drop 2 := by rw [← hD]; rfl
  rw [hD] at C1
  have hDs : D.size ≤ 140737488355328 := by rw [← o8, hDl, List.length_drop, o8]; omega
  have CP := a9M 16 (.inr rfl) D hDs (fun c hc => hw c (List.mem_of_mem_drop (by rw [← hDl]; exact hc)))
  rw [hDl, ← hn] at CP
  have HCP : Hid _ := CP
  have HT : Hid (Tab w) := T
  clear hD hDl hDs hn hd hp hsl hne' hw T CP
  go_enter Tryz.func120, Tryz.ntmps120
  go_upto_region 1 with fail
  rw [show (w.alloc (.cells #[.int .i64 0, .int .i64 0, .string ⟨#[]⟩, .int .u32 0] 99)) = w.alloc (.cells (tkA 0 0 [] 0) 99) from rfl]
  generalize w.alloc (.cells (tkA 0 0 [] 0) 99) = w1 at *
  obtain ⟨R, hR⟩ : ∃ R, w.heap.size = R := ⟨_, rfl⟩
  have HR : Hid (w.heap.size ≤ R) := by show w.heap.size ≤ R; omega
  rw [hR] at RA ⊢
  clear hR
  go_wp2_with fail
  refine (C1 _).mono ?_
  rintro e w2 ⟨rfl, rfl⟩
  clear C1
  have CP := HCP.out _ (HT.out.grown G0)
  clear HCP
  go_wp2_with fail
  refine CP.mono ?_
  rintro e w3 ⟨⟨n, er, rfl, h⟩, K3⟩
  have RA3 := RA.kept K3
  have G3 := d3 G0 K3
  clear CP RA G0 K3
  rcases h with ⟨hr, ty, v, rfl⟩ | ⟨m, hr, rfl, rfl⟩
  ·have HX : Hid (nmV (sl s) = .error 102) := by show nmV _ = _; rw [nmV, hr]
   clear hr
   go_wp2_with (refine wpList_store_row rfl 99 (.tmp 2) (.tmp 34) rfl R (tkA 0 0 [] 0) rfl rfl 99 _ RA3 L7 rfl (by simp [tkA, Value.oneCell']) ?_)
   refine bodyPost_ret (a0b rfl _ _ R (tkA 0 0 [] 0) _ rfl (RA3.setRow _) Tryz.underlying99 rfl L7) rfl ?_
   exact ⟨by rw [HX.out]; rfl, D1 G3 _ _ (.inr HR.out)⟩
  ·have HX : Hid (nmV (sl s) = .ok (1, sl s, m)) := by show nmV _ = _; rw [nmV, hr]
   have hm := a52 hr
   have hwm : IntKind.u32.wrap (m : Int) = (m : Int) := by rw [IntKind.wrap_u32]; omega
   clear hr
   go_wp2_with (refine wpList_store_row rfl 99 (.tmp 2) (.tmp 38) rfl R (tkA 1 0 (sl s) m) rfl rfl 99 _ RA3 L7 rfl (by simp [tkA, Value.oneCell']) ?_)
   refine bodyPost_ret (a0b rfl _ _ R (tkA 1 0 (sl s) m) _ rfl (RA3.setRow _) Tryz.underlying99 rfl L7) rfl ?_
   exact ⟨by rw [HX.out]; rfl, D1 G3 _ _ (.inr HR.out)⟩
 | false =>
  rw [hp, Lib.trimPrefix, if_neg (by rw [hp]; simp)] at C1
  rw [show (⟨(sl s).toArray⟩ : ByteArray) = s from by cases s; simp [sl]] at C1
  have hn := aI9 hp hw hne'
  have h0 : (sl s).head? = some s[0] := by
   have := a0w s 0 hne
   rw [List.drop_zero] at this
   rw [this]
   rfl
  have CP := a9M 10 (.inl rfl) s hmax hw
  have HT : Hid (Tab w) := T
  have hzz : (s.toList == [48]) = decide (sl s = [48]) := by
   rw [ByteArray.toList_eq]
   show (sl s == [48]) = _
   by_cases h : sl s = [48]
   ·rw [decide_eq_true h, h]; rfl
   ·rw [decide_eq_false h, beq_eq_false_iff_ne]; exact h
  have hni : (0 : Int) < (s.size : Int) := by omega
  by_cases hc : s[0] = 48 ∧ sl s ≠ [48]
  ·rw [if_pos ⟨by rw [h0, hc.1], hc.2⟩] at hn
   have HX : Hid (nmV (sl s) = .error 102) := by show nmV _ = _; rw [nmV, hn]
   have c0 : s[0].toNat = 48 := by rw [hc.1]; rfl
   have hz : (s.toList == [48]) = false := by rw [hzz, decide_eq_false hc.2]
   clear hn h0 hc hzz hp hsl hne' hw T CP HT
   go_enter Tryz.func120, Tryz.ntmps120
   go_upto_region 1 with fail
   rw [show (w.alloc (.cells #[.int .i64 0, .int .i64 0, .string ⟨#[]⟩, .int .u32 0] 99)) = w.alloc (.cells (tkA 0 0 [] 0) 99) from rfl]
   generalize w.alloc (.cells (tkA 0 0 [] 0) 99) = w1 at *
   obtain ⟨R, hR⟩ : ∃ R, w.heap.size = R := ⟨_, rfl⟩
   have HR : Hid (w.heap.size ≤ R) := by show w.heap.size ≤ R; omega
   rw [hR] at RA ⊢
   clear hR
   go_wp2_with fail
   refine (C1 _).mono ?_
   rintro e w2 ⟨rfl, rfl⟩
   clear C1
   go_wp2_with (refine wpList_store_row rfl 99 (.tmp 2) (.tmp 25) rfl R (tkA 0 0 [] 0) rfl rfl 99 _ RA L7 rfl (by simp [tkA, Value.oneCell']) ?_)
   refine bodyPost_ret (a0b rfl _ _ R (tkA 0 0 [] 0) _ rfl (RA.setRow _) Tryz.underlying99 rfl L7) rfl ?_
   exact ⟨by rw [HX.out]; rfl, D1 G0 _ _ (.inr HR.out)⟩
  ·have hn2 : a0Q (sl s) = a1z 10 (sl s) := by
    rw [hn, if_neg]
    rintro ⟨h1, h2⟩
    rw [h0] at h1
    exact hc ⟨Option.some.inj h1, h2⟩
   rw [← hn2] at CP
   have HCP : Hid _ := CP
   by_cases h48 : s[0] = 48
   ·have hs48 : sl s = [48] := Decidable.byContradiction fun h => hc ⟨h48, h⟩
    have c0 : s[0].toNat = 48 := by rw [h48]; rfl
    have hz : (s.toList == [48]) = true := by rw [hzz, decide_eq_true hs48]
    clear hn hn2 h0 hc hzz hp hsl hne' hw T CP h48 hs48
    go_enter Tryz.func120, Tryz.ntmps120
    go_upto_region 1 with fail
    rw [show (w.alloc (.cells #[.int .i64 0, .int .i64 0, .string ⟨#[]⟩, .int .u32 0] 99)) = w.alloc (.cells (tkA 0 0 [] 0) 99) from rfl]
    generalize w.alloc (.cells (tkA 0 0 [] 0) 99) = w1 at *
    obtain ⟨R, hR⟩ : ∃ R, w.heap.size = R := ⟨_, rfl⟩
    have HR : Hid (w.heap.size ≤ R) := by show w.heap.size ≤ R; omega
    rw [hR] at RA ⊢
    clear hR
    go_wp2_with fail
    refine (C1 _).mono ?_
    rintro e w2 ⟨rfl, rfl⟩
    clear C1
    have CP := HCP.out _ (HT.out.grown G0)
    clear HCP
    go_wp2_with fail
    refine CP.mono ?_
    rintro e w3 ⟨⟨n, er, rfl, h⟩, K3⟩
    have RA3 := RA.kept K3
    have G3 := d3 G0 K3
    clear CP RA G0 K3
    rcases h with ⟨hr, ty, v, rfl⟩ | ⟨m, hr, rfl, rfl⟩
    ·have HX : Hid (nmV (sl s) = .error 102) := by show nmV _ = _; rw [nmV, hr]
     clear hr
     go_wp2_with (refine wpList_store_row rfl 99 (.tmp 2) (.tmp 34) rfl R (tkA 0 0 [] 0) rfl rfl 99 _ RA3 L7 rfl (by simp [tkA, Value.oneCell']) ?_)
     refine bodyPost_ret (a0b rfl _ _ R (tkA 0 0 [] 0) _ rfl (RA3.setRow _) Tryz.underlying99 rfl L7) rfl ?_
     exact ⟨by rw [HX.out]; rfl, D1 G3 _ _ (.inr HR.out)⟩
    ·have HX : Hid (nmV (sl s) = .ok (1, sl s, m)) := by show nmV _ = _; rw [nmV, hr]
     have hm := a52 hr
     have hwm : IntKind.u32.wrap (m : Int) = (m : Int) := by rw [IntKind.wrap_u32]; omega
     clear hr
     go_wp2_with (refine wpList_store_row rfl 99 (.tmp 2) (.tmp 38) rfl R (tkA 1 0 (sl s) m) rfl rfl 99 _ RA3 L7 rfl (by simp [tkA, Value.oneCell']) ?_)
     refine bodyPost_ret (a0b rfl _ _ R (tkA 1 0 (sl s) m) _ rfl (RA3.setRow _) Tryz.underlying99 rfl L7) rfl ?_
     exact ⟨by rw [HX.out]; rfl, D1 G3 _ _ (.inr HR.out)⟩
   ·have c0 : ((s[0].toNat : Int) == 48) = false := by
     rw [beq_eq_false_iff_ne]
     intro e
     exact h48 (UInt8.toNat_inj.1 (by simpa using (by omega : s[0].toNat = 48)))
    clear hn hn2 h0 hc hzz hp hsl hne' hw T CP h48
    go_enter Tryz.func120, Tryz.ntmps120
    go_upto_region 1 with fail
    rw [show (w.alloc (.cells #[.int .i64 0, .int .i64 0, .string ⟨#[]⟩, .int .u32 0] 99)) = w.alloc (.cells (tkA 0 0 [] 0) 99) from rfl]
    generalize w.alloc (.cells (tkA 0 0 [] 0) 99) = w1 at *
    obtain ⟨R, hR⟩ : ∃ R, w.heap.size = R := ⟨_, rfl⟩
    have HR : Hid (w.heap.size ≤ R) := by show w.heap.size ≤ R; omega
    rw [hR] at RA ⊢
    clear hR
    go_wp2_with fail
    refine (C1 _).mono ?_
    rintro e w2 ⟨rfl, rfl⟩
    clear C1
    have CP := HCP.out _ (HT.out.grown G0)
    clear HCP
    go_wp2_with fail
    refine CP.mono ?_
    rintro e w3 ⟨⟨n, er, rfl, h⟩, K3⟩
    have RA3 := RA.kept K3
    have G3 := d3 G0 K3
    clear CP RA G0 K3
    rcases h with ⟨hr, ty, v, rfl⟩ | ⟨m, hr, rfl, rfl⟩
    ·have HX : Hid (nmV (sl s) = .error 102) := by show nmV _ = _; rw [nmV, hr]
     clear hr
     go_wp2_with (refine wpList_store_row rfl 99 (.tmp 2) (.tmp 34) rfl R (tkA 0 0 [] 0) rfl rfl 99 _ RA3 L7 rfl (by simp [tkA, Value.oneCell']) ?_)
     refine bodyPost_ret (a0b rfl _ _ R (tkA 0 0 [] 0) _ rfl (RA3.setRow _) Tryz.underlying99 rfl L7) rfl ?_
     exact ⟨by rw [HX.out]; rfl, D1 G3 _ _ (.inr HR.out)⟩
    ·have HX : Hid (nmV (sl s) = .ok (1, sl s, m)) := by show nmV _ = _; rw [nmV, hr]
     have hm := a52 hr
     have hwm : IntKind.u32.wrap (m : Int) = (m : Int) := by rw [IntKind.wrap_u32]; omega
     clear hr
     go_wp2_with (refine wpList_store_row rfl 99 (.tmp 2) (.tmp 38) rfl R (tkA 1 0 (sl s) m) rfl rfl 99 _ RA3 L7 rfl (by simp [tkA, Value.oneCell']) ?_)
     refine bodyPost_ret (a0b rfl _ _ R (tkA 1 0 (sl s) m) _ rfl (RA3.setRow _) Tryz.underlying99 rfl L7) rfl ?_
     exact ⟨by rw [HX.out]; rfl, D1 G3 _ _ (.inr HR.out)⟩
theorem b0f {s : List UInt8} (h : 2 ≤ (s.takeWhile j8).count 58) : j9 s = .ok (4, s.takeWhile j8, 0) := by rw [j9, if_pos h]
theorem b0d {s : List UInt8} (h : ¬ 2 ≤ (s.takeWhile j8).count 58) (hd : s.head?.any D3 = true) (hq : (s.takeWhile t8).contains 46 = true) : j9 s = .ok (3, s.takeWhile t8, 0) := by
 rw [j9, if_neg h, if_pos hd, if_pos (by simpa using hq)]
theorem b0a {s : List UInt8} (h : ¬ 2 ≤ (s.takeWhile j8).count 58) (hd : s.head?.any D3 = true) (hq : (s.takeWhile t8).contains 46 = false) : j9 s = nmV (s.takeWhile k6) := by
 rw [j9, if_neg h, if_pos hd, if_neg (by simpa using hq)]
 unfold nmV
 rfl
theorem b0g {s : List UInt8} (h : ¬ 2 ≤ (s.takeWhile j8).count 58) (hd : s.head?.any D3 = false) (hl : s.head?.any a0l = true) : j9 s = .ok (2, s.takeWhile k6, 0) := by
 rw [j9, if_neg h, if_neg (by rw [hd]; simp), if_pos hl]
theorem b0e {s : List UInt8} (h : ¬ 2 ≤ (s.takeWhile j8).count 58) (hd : s.head?.any D3 = false) (hl : s.head?.any a0l = false) : j9 s = if K0 s = [] then .error 101 else .ok (5, K0 s, 0) := by
 rw [j9, if_neg h, if_neg (by rw [hd]; simp), if_neg (by rw [hl]; simp)]
theorem aH3 (s : ByteArray) (hs : s.size ≤ 140737488355328) (hne : 0 < s.size) (w : World) (T : Tab w) :
  Calls Tryz.prog 84 #[.string s] w fun e w' => e = .returned (.tuple #[.agg (a2Q 0 (j9 (sl s))), .int .i64 (a2R (j9 (sl s)))]) ∧ w.grownBy w' none := by
 have RA := VAt.alloc w 99 (tkA 0 0 [] 0)
 have G0 := World.grownBy_alloc w (.cells (tkA 0 0 [] 0) 99) none
 have HT : Hid (Tab w) := T
 have h0 : (sl s).head? = some s[0] := by
  have := a0w s 0 hne
  rw [List.drop_zero] at this
  rw [this]
  rfl
 have hcons : sl s = s[0] :: (sl s).drop 1 := by
  have := a0w s 0 hne
  rw [List.drop_zero] at this
  exact this
 have C6 : Hid (∀ W : World, Calls Tryz.prog 118 #[.string s] W fun e w' => e = .returned (str (a2M (sl s))) ∧ W.grownBy w' none) := fun W => aW8 s hs W
 have C4 : Hid (∀ W : World, Calls Tryz.prog 119 #[.string s] W fun e w' => e = .returned (str (a2H (sl s))) ∧ W.grownBy w' none) := fun W => aQ3 s hs W
 have CW : Hid (∀ W : World, Calls Tryz.prog 121 #[.string s] W fun e w' => e = .returned (str ((sl s).takeWhile k6)) ∧ W = w') := fun W => aE9 s hs W
 have CK : Hid (∀ W : World, Calls Tryz.prog 83 #[.int .u8 (s[0].toNat : Int)] W fun e w' => e = .returned (.int .i64 (x0 s[0].toNat : Int)) ∧ W = w') := fun W => a3U _ W
 have CG : Hid (∀ W : World, Tab W → Calls Tryz.prog 122 #[.string s] W fun e w' => e = .returned (str (K0 (sl s))) ∧ W.grownBy w' none) := fun W TW => aW3 s hs W TW
 have hk := a1P s[0]
 have hni : (0 : Int) < (s.size : Int) := by omega
 clear T
 by_cases h6 : 2 ≤ ((sl s).takeWhile j8).count 58
 ·have HX : Hid _ := b0f h6
  have e6 : a2M (sl s) = (sl s).takeWhile j8 := by rw [a2M, if_pos h6]
  rw [e6] at C6
  have hnn : ((sl s).takeWhile j8).isEmpty = false := by
   cases hh : (sl s).takeWhile j8 with
   | nil => rw [hh] at h6; exact absurd h6 (by decide)
   | cons a b => rfl
  clear h6 e6 h0 hcons C4 CW CK CG hk HT
  obtain ⟨S6, hS⟩ : ∃ S, (sl s).takeWhile j8 = S := ⟨_, rfl⟩
  rw [hS] at C6 HX hnn
  clear hS
  go_enter Tryz.func84, Tryz.ntmps84
  go_upto_region 1 with fail
  rw [show (w.alloc (.cells #[.int .i64 0, .int .i64 0, .string ⟨#[]⟩, .int .u32 0] 99)) = w.alloc (.cells (tkA 0 0 [] 0) 99) from rfl]
  generalize w.alloc (.cells (tkA 0 0 [] 0) 99) = w1 at *
  obtain ⟨R, hR⟩ : ∃ R, w.heap.size = R := ⟨_, rfl⟩
  have HR : Hid (w.heap.size ≤ R) := by show w.heap.size ≤ R; omega
  rw [hR] at RA ⊢
  clear hR
  go_wp2_with fail
  refine (C6.out _).mono ?_
  rintro e w2 ⟨rfl, K2⟩
  have RA2 := RA.kept K2
  have G2 := d3 G0 K2
  clear C6 RA G0 K2
  go_wp2_with (refine wpList_store_row rfl 99 (.tmp 2) (.tmp 12) rfl R (tkA 4 0 S6 0) rfl rfl 99 _ RA2 L7 rfl (by simp [tkA, Value.oneCell']) ?_)
  refine bodyPost_ret (a0b rfl _ _ R (tkA 4 0 S6 0) _ rfl (RA2.setRow _) Tryz.underlying99 rfl L7) rfl ?_
  exact ⟨by rw [HX.out]; rfl, D1 G2 _ _ (.inr HR.out)⟩
 ·have e6 : a2M (sl s) = [] := by rw [a2M, if_neg h6]
  rw [e6] at C6
  clear e6
  cases hd : D3 s[0] with
  | true =>
   have hd' : (sl s).head?.any D3 = true := by rw [h0]; exact hd
   have hk2 : x0 s[0].toNat = 2 := by have := hk.2.2.2.2.2.2.1; rw [hd] at this; exact of_decide_eq_true this.symm
   rw [hk2] at CK
   clear hk2 hk
   cases hq : ((sl s).takeWhile t8).contains 46 with
   | true =>
    have HX : Hid _ := b0d h6 hd' hq
    have e4 : a2H (sl s) = (sl s).takeWhile t8 := by rw [a2H, if_pos hq]
    rw [e4] at C4
    have hnn : ((sl s).takeWhile t8).isEmpty = false := by
     cases hh : (sl s).takeWhile t8 with
     | nil => rw [hh] at hq; exact absurd hq (by decide)
     | cons a b => rfl
    clear h6 e4 h0 hcons CW CG HT hd hd' hq
    obtain ⟨S4, hS⟩ : ∃ S, (sl s).takeWhile t8 = S := ⟨_, rfl⟩
    rw [hS] at C4 HX hnn
    clear hS
    go_enter Tryz.func84, Tryz.ntmps84
    go_upto_region 1 with fail
    rw [show (w.alloc (.cells #[.int .i64 0, .int .i64 0, .string ⟨#[]⟩, .int .u32 0] 99)) = w.alloc (.cells (tkA 0 0 [] 0) 99) from rfl]
    generalize w.alloc (.cells (tkA 0 0 [] 0) 99) = w1 at *
    obtain ⟨R, hR⟩ : ∃ R, w.heap.size = R := ⟨_, rfl⟩
    have HR : Hid (w.heap.size ≤ R) := by show w.heap.size ≤ R; omega
    rw [hR] at RA ⊢
    clear hR
    go_wp2_with fail
    refine (C6.out _).mono ?_
    rintro e w2 ⟨rfl, K2⟩
    have RA2 := RA.kept K2
    have G2 := d3 G0 K2
    clear C6 RA G0 K2
    go_wp2_with fail
    refine (CK.out _).mono ?_
    rintro e w3 ⟨rfl, rfl⟩
    clear CK
    go_wp2_with fail
    refine (C4.out _).mono ?_
    rintro e w4 ⟨rfl, K4⟩
    have RA4 := RA2.kept K4
    have G4 := d3 G2 K4
    clear C4 RA2 G2 K4
    go_wp2_with (refine wpList_store_row rfl 99 (.tmp 2) (.tmp 23) rfl R (tkA 3 0 S4 0) rfl rfl 99 _ RA4 L7 rfl (by simp [tkA, Value.oneCell']) ?_)
    refine bodyPost_ret (a0b rfl _ _ R (tkA 3 0 S4 0) _ rfl (RA4.setRow _) Tryz.underlying99 rfl L7) rfl ?_
    exact ⟨by rw [HX.out]; rfl, D1 G4 _ _ (.inr HR.out)⟩
   | false =>
    have hX := b0a h6 hd' hq
    have e4 : a2H (sl s) = [] := by rw [a2H, if_neg (by rw [hq]; simp)]
    rw [e4] at C4
    have hwd : k6 s[0] = true := by rw [k6, hd]; rfl
    have hW0 : 0 < ((sl s).takeWhile k6).length := by
     rw [hcons, List.takeWhile_cons_of_pos hwd]
     simp
    have hWl : ((sl s).takeWhile k6).length ≤ 140737488355328 := by
     have := a2P k6 (sl s)
     rw [o8] at this
     omega
    have hWw : ∀ c ∈ (sl s).takeWhile k6, k6 c = true := fun c hc => a3z k6 _ hc
    clear h6 e4 h0 hcons CG hd hd' hq hwd
    obtain ⟨SW, hS⟩ : ∃ S, (sl s).takeWhile k6 = S := ⟨_, rfl⟩
    rw [hS] at CW hX hW0 hWl hWw
    clear hS
    have CN : Hid (∀ W : World, Tab W → Calls Tryz.prog 120 #[str SW] W fun e w' => e = .returned (.tuple #[.agg (a2Q 0 (nmV SW)), .int .i64 (a2R (nmV SW))]) ∧ W.grownBy w' none) := fun W TW => by
     have hz : (⟨SW.toArray⟩ : ByteArray).size = SW.length := by rw [← o8, a2h]
     exact aJ2 ⟨SW.toArray⟩ (by rw [hz]; exact hWl) (by rw [hz]; exact hW0) (by rw [a2h]; exact hWw) W TW
    clear hW0 hWl hWw
    cases hm : nmV SW with
    | error er =>
     rw [hm] at CN hX
     simp only [a2Q, a2R] at CN
     have HX : Hid _ := hX
     clear hm hX
     go_enter Tryz.func84, Tryz.ntmps84
     go_upto_region 1 with fail
     rw [show (w.alloc (.cells #[.int .i64 0, .int .i64 0, .string ⟨#[]⟩, .int .u32 0] 99)) = w.alloc (.cells (tkA 0 0 [] 0) 99) from rfl]
     generalize w.alloc (.cells (tkA 0 0 [] 0) 99) = w1 at *
     obtain ⟨R, hR⟩ : ∃ R, w.heap.size = R := ⟨_, rfl⟩
     have HR : Hid (w.heap.size ≤ R) := by show w.heap.size ≤ R; omega
     rw [hR] at RA ⊢
     clear hR
     go_wp2_with fail
     refine (C6.out _).mono ?_
     rintro e w2 ⟨rfl, K2⟩
     have RA2 := RA.kept K2
     have G2 := d3 G0 K2
     clear C6 RA G0 K2
     go_wp2_with fail
     refine (CK.out _).mono ?_
     rintro e w3 ⟨rfl, rfl⟩
     clear CK
     go_wp2_with fail
     refine (C4.out _).mono ?_
     rintro e w4 ⟨rfl, K4⟩
     have RA4 := RA2.kept K4
     have G4 := d3 G2 K4
     clear C4 RA2 G2 K4
     go_wp2_with fail
     refine (CW.out _).mono ?_
     rintro e w5 ⟨rfl, rfl⟩
     clear CW
     have CN5 := CN.out _ (HT.out.grown G4)
     clear CN HT
     go_wp2_with fail
     refine CN5.mono ?_
     rintro e w6 ⟨rfl, K6⟩
     have RA6 := RA4.kept K6
     have G6 := d3 G4 K6
     clear CN5 RA4 G4 K6
     go_wp2_with (refine wpList_store_row rfl 99 (.tmp 2) (.tmp 27) rfl R (tkA 0 0 [] 0) rfl rfl 99 _ RA6 L7 rfl (by simp [tkA, Value.oneCell']) ?_)
     refine bodyPost_ret (a0b rfl _ _ R (tkA 0 0 [] 0) _ rfl (RA6.setRow _) Tryz.underlying99 rfl L7) rfl ?_
     exact ⟨by rw [HX.out]; rfl, D1 G6 _ _ (.inr HR.out)⟩
    | ok y =>
     obtain ⟨q, t, n⟩ := y
     rw [hm] at CN hX
     simp only [a2Q, a2R] at CN
     have HX : Hid _ := hX
     clear hm hX
     go_enter Tryz.func84, Tryz.ntmps84
     go_upto_region 1 with fail
     rw [show (w.alloc (.cells #[.int .i64 0, .int .i64 0, .string ⟨#[]⟩, .int .u32 0] 99)) = w.alloc (.cells (tkA 0 0 [] 0) 99) from rfl]
     generalize w.alloc (.cells (tkA 0 0 [] 0) 99) = w1 at *
     obtain ⟨R, hR⟩ : ∃ R, w.heap.size = R := ⟨_, rfl⟩
     have HR : Hid (w.heap.size ≤ R) := by show w.heap.size ≤ R; omega
     rw [hR] at RA ⊢
     clear hR
     go_wp2_with fail
     refine (C6.out _).mono ?_
     rintro e w2 ⟨rfl, K2⟩
     have RA2 := RA.kept K2
     have G2 := d3 G0 K2
     clear C6 RA G0 K2
     go_wp2_with fail
     refine (CK.out _).mono ?_
     rintro e w3 ⟨rfl, rfl⟩
     clear CK
     go_wp2_with fail
     refine (C4.out _).mono ?_
     rintro e w4 ⟨rfl, K4⟩
     have RA4 := RA2.kept K4
     have G4 := d3 G2 K4
     clear C4 RA2 G2 K4
     go_wp2_with fail
     refine (CW.out _).mono ?_
     rintro e w5 ⟨rfl, rfl⟩
     clear CW
     have CN5 := CN.out _ (HT.out.grown G4)
     clear CN HT
     go_wp2_with fail
     refine CN5.mono ?_
     rintro e w6 ⟨rfl, K6⟩
     have RA6 := RA4.kept K6
     have G6 := d3 G4 K6
     clear CN5 RA4 G4 K6
     go_wp2_with (refine wpList_store_row rfl 99 (.tmp 2) (.tmp 27) rfl R (tkA q 0 t n) rfl rfl 99 _ RA6 L7 rfl (by simp [tkA, Value.oneCell']) ?_)
     refine bodyPost_ret (a0b rfl _ _ R (tkA q 0 t n) _ rfl (RA6.setRow _) Tryz.underlying99 rfl L7) rfl ?_
     exact ⟨by rw [HX.out]; rfl, D1 G6 _ _ (.inr HR.out)⟩
  | false =>
   have hd' : (sl s).head?.any D3 = false := by rw [h0]; exact hd
   cases hl : a0l s[0] with
   | true =>
    have hl' : (sl s).head?.any a0l = true := by rw [h0]; exact hl
    have HX : Hid _ := b0g h6 hd' hl'
    have hk3 : x0 s[0].toNat = 3 ∨ x0 s[0].toNat = 4 := by have := hk.2.2.2.2.2.2.2; rw [hl] at this; exact of_decide_eq_true this.symm
    clear h6 h0 hcons C4 CG hk HT hd hd' hl hl'
    obtain ⟨SW, hS⟩ : ∃ S, (sl s).takeWhile k6 = S := ⟨_, rfl⟩
    rw [hS] at CW HX
    clear hS
    rcases hk3 with hk3 | hk3
    all_goals
     rw [hk3] at CK
     clear hk3
     go_enter Tryz.func84, Tryz.ntmps84
     go_upto_region 1 with fail
     rw [show (w.alloc (.cells #[.int .i64 0, .int .i64 0, .string ⟨#[]⟩, .int .u32 0] 99)) = w.alloc (.cells (tkA 0 0 [] 0) 99) from rfl]
     generalize w.alloc (.cells (tkA 0 0 [] 0) 99) = w1 at *
     obtain ⟨R, hR⟩ : ∃ R, w.heap.size = R := ⟨_, rfl⟩
     have HR : Hid (w.heap.size ≤ R) := by show w.heap.size ≤ R; omega
     rw [hR] at RA ⊢
     clear hR
     go_wp2_with fail
     refine (C6.out _).mono ?_
     rintro e w2 ⟨rfl, K2⟩
     have RA2 := RA.kept K2
     have G2 := d3 G0 K2
     clear C6 RA G0 K2
     go_wp2_with fail
     refine (CK.out _).mono ?_
     rintro e w3 ⟨rfl, rfl⟩
     clear CK
     go_wp2_with fail
     refine (CW.out _).mono ?_
     rintro e w5 ⟨rfl, rfl⟩
     clear CW
     go_wp2_with (refine wpList_store_row rfl 99 (.tmp 2) (.tmp 34) rfl R (tkA 2 0 SW 0) rfl rfl 99 _ RA2 L7 rfl (by simp [tkA, Value.oneCell']) ?_)
     refine bodyPost_ret (a0b rfl _ _ R (tkA 2 0 SW 0) _ rfl (RA2.setRow _) Tryz.underlying99 rfl L7) rfl ?_
     exact ⟨by rw [HX.out]; rfl, D1 G2 _ _ (.inr HR.out)⟩
   | false =>
    have hl' : (sl s).head?.any a0l = false := by rw [h0]; exact hl
    have hX := b0e h6 hd' hl'
    have hk2 : x0 s[0].toNat ≠ 2 := by have := hk.2.2.2.2.2.2.1; rw [hd] at this; exact of_decide_eq_false this.symm
    have hk3 : ¬ (x0 s[0].toNat = 3 ∨ x0 s[0].toNat = 4) := by have := hk.2.2.2.2.2.2.2; rw [hl] at this; exact of_decide_eq_false this.symm
    clear h6 h0 hcons C4 CW hk hd hd' hl hl'
    obtain ⟨SG, hS⟩ : ∃ S, K0 (sl s) = S := ⟨_, rfl⟩
    rw [hS] at CG hX
    clear hS
    generalize x0 s[0].toNat = kk at *
    have k2 : ((kk : Int) == 2) = false := by rw [beq_eq_false_iff_ne]; omega
    have k3 : ((kk : Int) == 3) = false := by rw [beq_eq_false_iff_ne]; omega
    have k4 : ((kk : Int) == 4) = false := by rw [beq_eq_false_iff_ne]; omega
    clear hk2 hk3
    by_cases hg : SG = []
    ·subst hg
     rw [if_pos rfl] at hX
     have HX : Hid _ := hX
     clear hX
     go_enter Tryz.func84, Tryz.ntmps84
     go_upto_region 1 with fail
     rw [show (w.alloc (.cells #[.int .i64 0, .int .i64 0, .string ⟨#[]⟩, .int .u32 0] 99)) = w.alloc (.cells (tkA 0 0 [] 0) 99) from rfl]
     generalize w.alloc (.cells (tkA 0 0 [] 0) 99) = w1 at *
     obtain ⟨R, hR⟩ : ∃ R, w.heap.size = R := ⟨_, rfl⟩
     have HR : Hid (w.heap.size ≤ R) := by show w.heap.size ≤ R; omega
     rw [hR] at RA ⊢
     clear hR
     go_wp2_with fail
     refine (C6.out _).mono ?_
     rintro e w2 ⟨rfl, K2⟩
     have RA2 := RA.kept K2
     have G2 := d3 G0 K2
     clear C6 RA G0 K2
     go_wp2_with fail
     refine (CK.out _).mono ?_
     rintro e w3 ⟨rfl, rfl⟩
     clear CK
     have CG3 := CG.out _ (HT.out.grown G2)
     clear CG HT
     go_wp2_with fail
     refine CG3.mono ?_
     rintro e w5 ⟨rfl, K5⟩
     have RA5 := RA2.kept K5
     have G5 := d3 G2 K5
     clear CG3 RA2 G2 K5
     go_wp2_with (refine wpList_store_row rfl 99 (.tmp 2) (.tmp 41) rfl R (tkA 0 0 [] 0) rfl rfl 99 _ RA5 L7 rfl (by simp [tkA, Value.oneCell']) ?_)
     refine bodyPost_ret (a0b rfl _ _ R (tkA 0 0 [] 0) _ rfl (RA5.setRow _) Tryz.underlying99 rfl L7) rfl ?_
     exact ⟨by rw [HX.out]; rfl, D1 G5 _ _ (.inr HR.out)⟩
    ·have hgf : SG.isEmpty = false := by simpa using hg
     rw [if_neg hg] at hX
     have HX : Hid _ := hX
     clear hX hg
     go_enter Tryz.func84, Tryz.ntmps84
     go_upto_region 1 with fail
     rw [show (w.alloc (.cells #[.int .i64 0, .int .i64 0, .string ⟨#[]⟩, .int .u32 0] 99)) = w.alloc (.cells (tkA 0 0 [] 0) 99) from rfl]
     generalize w.alloc (.cells (tkA 0 0 [] 0) 99) = w1 at *
     obtain ⟨R, hR⟩ : ∃ R, w.heap.size = R := ⟨_, rfl⟩
     have HR : Hid (w.heap.size ≤ R) := by show w.heap.size ≤ R; omega
     rw [hR] at RA ⊢
     clear hR
     go_wp2_with fail
     refine (C6.out _).mono ?_
     rintro e w2 ⟨rfl, K2⟩
     have RA2 := RA.kept K2
     have G2 := d3 G0 K2
     clear C6 RA G0 K2
     go_wp2_with fail
     refine (CK.out _).mono ?_
     rintro e w3 ⟨rfl, rfl⟩
     clear CK
     have CG3 := CG.out _ (HT.out.grown G2)
     clear CG HT
     go_wp2_with fail
     refine CG3.mono ?_
     rintro e w5 ⟨rfl, K5⟩
     have RA5 := RA2.kept K5
     have G5 := d3 G2 K5
     clear CG3 RA2 G2 K5
     go_wp2_with (refine wpList_store_row rfl 99 (.tmp 2) (.tmp 40) rfl R (tkA 5 0 SG 0) rfl rfl 99 _ RA5 L7 rfl (by simp [tkA, Value.oneCell']) ?_)
     refine bodyPost_ret (a0b rfl _ _ R (tkA 5 0 SG 0) _ rfl (RA5.setRow _) Tryz.underlying99 rfl L7) rfl ?_
     exact ⟨by rw [HX.out]; rfl, D1 G5 _ _ (.inr HR.out)⟩
theorem aq5 (s : List UInt8) (p : UInt8 → Bool) : s = s.takeWhile p ++ s.drop (s.takeWhile p).length := by
 have h := a4d p s
 generalize (s.takeWhile p).length = n at h
 rw [h, List.take_append_drop]
theorem aq4 (s : List UInt8) (p : UInt8 → Bool) (c : UInt8) (r : List UInt8) (h : s.drop (s.takeWhile p).length = c :: r) : p c = false := by
 induction s with
 | nil => simp at h
 | cons a s ih =>
  by_cases ha : p a = true
  ·rw [List.takeWhile_cons_of_pos ha] at h
   exact ih (by simpa using h)
  ·rw [List.takeWhile_cons_of_neg ha] at h
   simp at h
   rw [← h.1]
   simpa using ha
theorem aB5 (s : ByteArray) (hs : s.size ≤ 140737488355328) (w : World) (T : Tab w) :
  Calls Tryz.prog 31 #[.string s] w fun e w' => ∃ v, e = .returned (.tuple #[v, .int .i64 (a6v (U8 (sl s)) : Int), .int .i64 (a6t (U8 (sl s)))]) ∧ a03 w' w.heap.size v (a9b (U8 (sl s))) ∧ w.grownBy w' none := by
 by_cases hl : 65536 < s.size
 ·have e0 : U8 (sl s) = .error (0, 100) := by rw [U8, if_pos (by rw [o8]; exact hl)]
  rw [e0]
  have hl' : (65536 : Int) < (s.size : Int) := by omega
  clear e0 T
  go_enter Tryz.func31, Tryz.ntmps31
  go_wp2
  go_ret3
  exact ⟨_, rfl, World.ownsRow_nil _ _ _ _, World.grownBy.refl _ _⟩
 have e0 : U8 (sl s) = M9 0 (sl s) := by rw [U8, if_neg (by rw [o8]; exact hl)]
 have hl' : ¬ (65536 : Int) < (s.size : Int) := by omega
 have hl2 : s.size ≤ 65536 := by omega
 obtain ⟨ans, hans⟩ : ∃ ans, U8 (sl s) = ans := ⟨_, rfl⟩
 have HA : Hid (M9 0 (sl s) = ans) := by show M9 0 (sl s) = ans; rw [← e0]; exact hans
 rw [hans]
 have HT : Hid (Tab w) := T
 clear e0 hans hl T
 obtain ⟨i0, hi, hz0, hz1, hz2⟩ := info_parts ax5
 go_enter Tryz.func31, Tryz.ntmps31
 go_upto_region 5 with fail
 go_loopw [5, 6] (fun u x wr => ∃ (j : Nat) (us : List Tk), j ≤ s.size ∧ us.length ≤ j ∧ x = .int .i64 j ∧ Hid (a2s us (M9 j ((sl s).drop j)) = ans) ∧ a03 wr w.heap.size u us ∧ w.grownBy wr none) (fun _ x _ => s.size - (intOf x).toNat)
 case atStart => exact ⟨0, [], Nat.zero_le _, Nat.zero_le _, rfl, by show a2s [] (M9 0 ((sl s).drop 0)) = ans; rw [List.drop_zero, HA.out]; cases ans <;> rfl, World.ownsRow_nil _ _ _ _, World.grownBy.refl _ _⟩
 case round =>
  clear HA
  obtain ⟨j, us, hj, hu, rfl, HI, OU, G⟩ := hrel
  have z0 : (0 : Int) ≤ (j : Int) := by omega
  have hji : (j : Int) ≤ (s.size : Int) := by omega
  have hex : ∀ k, sl (s.extract k s.size) = (sl s).drop k := fun k => by
   rw [a2O]
   exact List.take_of_length_le (by rw [List.length_drop, o8]; exact Nat.le_refl _)
  have hxs : ∀ k, (s.extract k s.size).size ≤ 140737488355328 := fun k => by rw [← o8, hex, List.length_drop, o8]; omega
  have CB := aS9 (s.extract j s.size) (hxs j) wr
  rw [hex j] at CB
  have hsplit := aq5 ((sl s).drop j) I3
  have hnot := aq4 ((sl s).drop j) I3
  have hbl : (((sl s).drop j).takeWhile I3).length ≤ s.size - j := by
   have := a2P I3 ((sl s).drop j)
   rw [List.length_drop, o8] at this
   exact this
  have hskip := aB4 j (((sl s).drop j).takeWhile I3) (((sl s).drop j).drop (((sl s).drop j).takeWhile I3).length) (fun b hb => a3z I3 _ hb)
  rw [← hsplit, List.drop_drop] at hskip
  simp only [List.drop_drop] at hnot
  clear hsplit
  obtain ⟨B, hB⟩ : ∃ B, ((sl s).drop j).takeWhile I3 = B := ⟨_, rfl⟩
  rw [hB] at CB hbl hskip hnot
  have hBs : ((⟨B.toArray⟩ : ByteArray).size : Int) = (B.length : Int) := by rw [← o8, a2h]
  obtain ⟨k, hk⟩ : ∃ k, j + B.length = k := ⟨_, rfl⟩
  have hw : IntKind.i64.wrap ((j : Int) + (B.length : Int)) = (k : Int) := by rw [IntKind.wrap_i64]; omega
  rw [hk] at hskip hnot
  have HI2 : Hid (a2s us (M9 k ((sl s).drop k)) = ans) := by show a2s us _ = ans; rw [← hskip]; exact HI.out
  have hks : k ≤ s.size := by omega
  have hku : us.length ≤ k := by omega
  have hjk : j ≤ k := by omega
  have HNB : Hid (∀ c r, (sl s).drop k = c :: r → I3 c = false) := hnot
  have z1 : (0 : Int) ≤ (k : Int) := by omega
  have hksi : (k : Int) ≤ (s.size : Int) := by omega
  clear HI hskip hnot hB hbl hk hu hj
  by_cases hlt : k < s.size
  ·have hne : ((k : Int) == (s.size : Int)) = false := by rw [beq_eq_false_iff_ne]; omega
   have HD : Hid ((sl s).drop k = s[k] :: (sl s).drop (k + 1)) := a0w s k hlt
   have hb : I3 s[k] = false := HNB.out _ _ HD.out
   have hpos : 0 < (s.extract k s.size).size := by rw [← o8, hex, List.length_drop, o8]; omega
   have CT := aH3 (s.extract k s.size) (hxs k) hpos wr (HT.out.grown G)
   rw [hex k] at CT
   clear hpos hxs hex HNB
   cases ht : j9 ((sl s).drop k) with
   | error er =>
    rw [ht] at CT
    simp only [a2Q, a2R, tkA] at CT
    have hz := ae4 ht
    have hans : ans = .error (k, er) := by
     rw [← HI2.out, HD.out, a3V k hb (by rw [← HD.out]; exact ht)]
     rfl
    subst hans
    have HG : Hid (w.grownBy wr none) := G
    clear HI2 HD OU G ht
    go_wp2_with fail
    refine CB.mono ?_
    rintro e w1 ⟨rfl, rfl⟩
    clear CB
    go_wp2_with fail
    refine CT.mono ?_
    rintro e w1 ⟨rfl, K1⟩
    have G1 := d3 HG.out K1
    clear CT K1
    go_wp2
    go_ret3
    exact ⟨_, rfl, World.ownsRow_nil _ _ _ _, d3 G1 (World.grownBy_alloc _ _ _)⟩
   | ok y =>
    obtain ⟨q, t, n⟩ := y
    rw [ht] at CT
    simp only [a2Q, a2R, tkA] at CT
    have hok := Z2 ht
    have htl : 1 ≤ t.length := List.length_pos_iff.2 hok.1
    have htl2 : k + t.length ≤ s.size := by
     have := hok.2.2.1
     rw [List.length_drop, o8] at this
     omega
    have HN : Hid (a2s (us ++ [⟨q, k, t, n⟩]) (M9 (k + t.length) ((sl s).drop (k + t.length))) = ans) := by
     show a2s _ _ = ans
     have e1 := a3d k hb (by rw [← HD.out]; exact ht)
     rw [← HD.out, List.drop_drop] at e1
     rw [← HI2.out, e1]
     cases M9 (k + t.length) ((sl s).drop (k + t.length)) with
     | error e => rfl
     | ok ts => simp [a2s]
    have HG : Hid (w.grownBy wr none) := G
    have HOU : Hid (a03 wr w.heap.size u5 us) := OU
    clear HI2 HD OU G ht hok
    go_wp2_with fail
    refine CB.mono ?_
    rintro e w1 ⟨rfl, rfl⟩
    clear CB
    go_wp2_with fail
    refine CT.mono ?_
    rintro e w2 ⟨rfl, K2⟩
    clear CT
    go_upto_region 12 with fail
    have VA := VAt.alloc w2 99 #[.int .i64 (q : Int), .int .i64 (k : Int), str t, .int .u32 (n : Int)]
    have K3 := d3 K2 (World.grownBy_alloc w2 (.cells #[.int .i64 (q : Int), .int .i64 (k : Int), str t, .int .u32 (n : Int)] 99) none)
    have HV : Hid (∀ y, u5.ownBlock = some y → y < w2.heap.size) := fun y hy => by
     have := (World.ownsRow.lt HOU.out y hy).2
     have := K2.size
     omega
    have O3 : a03 (w2.alloc (.cells #[.int .i64 (q : Int), .int .i64 (k : Int), str t, .int .u32 (n : Int)] 99)) w.heap.size u5 us := D8 HOU.out K3
    have G3 := d3 HG.out K3
    have HVL : Hid (w.heap.size ≤ w2.heap.size) := (d3 HG.out K2).size
    generalize w2.alloc (.cells #[.int .i64 (q : Int), .int .i64 (k : Int), str t, .int .u32 (n : Int)] 99) = w3 at *
    generalize w2.heap.size = V at *
    have HSZ : Hid ((Tryz.prog.info? 99).map (·.size) = some (#[.int .i64 (q : Int), .int .i64 (k : Int), str t, .int .u32 (n : Int)] : Array Value).size) := L7
    clear K2 K3 HOU HG
    have KA := World.grownBy_alloc w3 (.cells #[.int .i64 (q : Int), .int .i64 (k : Int), str t, .int .u32 (n : Int)] 99) none
    have HO4 : Hid (a03 (w3.alloc (.cells #[.int .i64 (q : Int), .int .i64 (k : Int), str t, .int .u32 (n : Int)] 99)) w.heap.size u5 us ∧ VAt (w3.alloc (.cells #[.int .i64 (q : Int), .int .i64 (k : Int), str t, .int .u32 (n : Int)] 99)) V 99 #[.int .i64 (q : Int), .int .i64 (k : Int), str t, .int .u32 (n : Int)] ∧ w.grownBy (w3.alloc (.cells #[.int .i64 (q : Int), .int .i64 (k : Int), str t, .int .u32 (n : Int)] 99)) none) := ⟨D8 O3 KA, VA.kept KA, d3 G3 KA⟩
    have HCB : Hid (CV (w3.alloc (.cells #[.int .i64 (q : Int), .int .i64 (k : Int), str t, .int .u32 (n : Int)] 99)) (some ⟨w3.heap.size, 0, none⟩) [.int .i64 (q : Int), .int .i64 (k : Int), str t, .int .u32 (n : Int)]) := q8 w3 _ _
    clear O3 G3 KA
    go_wp2_with (first
     | refine wpList_load_row rfl 99 (.tmp 7) rfl V rfl 99 _ (0, 0) _ VA Tryz.underlying99 rfl HSZ.out ?_
     | (at_builtin; refine a19 rfl (.tmp 41) (.tmp 43) 61 rfl 99 i0 _ 4 40 Tryz.underlying61 hi hz0 hz1 hz2 rfl (by decide) w.heap.size u5 us.length (a0r us) rfl ?r1 (some ⟨w3.heap.size, 0, none⟩) 1 1 [.int .i64 (q : Int), .int .i64 (k : Int), str t, .int .u32 (n : Int)] rfl rfl (by simp) ?r2 (by simp [Value.oneCell']) ?r3 ?r4 ?r5 ?r6))
    case r1 => exact HO4.out.1
    case r2 => exact HCB.out
    case r3 => unfold maxLen; omega
    case r4 => omega
    case r5 => exact HO4.out.2.2.size
    case r6 =>
     intro v5 w5 O5 K5
     have V5 := HO4.out.2.1.grown K5 (fun e => by have := HV.out V e; omega)
     have G5 := a00 HO4.out.2.2 K5 (fun x hx => (World.ownsRow.lt HO4.out.1 x hx).1)
     have HO5 : Hid (a03 w5 w.heap.size v5 (us ++ [⟨q, k, t, n⟩]) ∧ w.grownBy w5 none) := ⟨by
      show w5.ownsRow w.heap.size 99 4 v5 (us ++ [(⟨q, k, t, n⟩ : Tk)]).length (a0r (us ++ [(⟨q, k, t, n⟩ : Tk)]))
      rw [List.length_append, a8C]
      exact O5, G5⟩
     have c2 : w5.cell? ⟨V, 2, none⟩ = some (str t) := V5.cell 2
     have hw2 : IntKind.i64.wrap ((k : Int) + (t.length : Int)) = ((k + t.length : Nat) : Int) := by rw [IntKind.wrap_i64]; omega
     have hts : ((⟨t.toArray⟩ : ByteArray).size : Int) = (t.length : Int) := by rw [← o8, a2h]
     clear VA HO4 HCB O5 K5 V5 G5
     go_wp2
     go_roundw
     case rel => exact ⟨k + t.length, us ++ [⟨q, k, t, n⟩], htl2, by rw [List.length_append, List.length_singleton]; omega, by go_num, HN, HO5.out.1, HO5.out.2⟩
     case measure => simp [intOf]; omega
  ·obtain rfl : k = s.size := by omega
   have hne : ((s.size : Int) == (s.size : Int)) = true := by simp
   have hans : ans = .ok (us ++ [⟨0, s.size, [], 0⟩]) := by
    rw [← HI2.out, List.drop_eq_nil_of_le (by rw [o8]; exact Nat.le_refl _), a3W]
    rfl
   subst hans
   have KA := World.grownBy_alloc wr (.cells #[.int .i64 0, .int .i64 (s.size : Int), str [], .int .u32 0] 99) none
   have HO4 : Hid (a03 (wr.alloc (.cells #[.int .i64 0, .int .i64 (s.size : Int), str [], .int .u32 0] 99)) w.heap.size u5 us ∧ w.grownBy (wr.alloc (.cells #[.int .i64 0, .int .i64 (s.size : Int), str [], .int .u32 0] 99)) none) := ⟨D8 OU KA, d3 G KA⟩
   have HCB : Hid (CV (wr.alloc (.cells #[.int .i64 0, .int .i64 (s.size : Int), str [], .int .u32 0] 99)) (some ⟨wr.heap.size, 0, none⟩) [.int .i64 0, .int .i64 (s.size : Int), str [], .int .u32 0]) := q8 wr _ _
   clear HI2 OU G KA hxs hex HNB
   go_wp2_with fail
   refine CB.mono ?_
   rintro e w1 ⟨rfl, rfl⟩
   clear CB
   go_wp2_with (at_builtin; refine a19 rfl (.tmp 23) (.tmp 26) 61 rfl 99 i0 _ 4 40 Tryz.underlying61 hi hz0 hz1 hz2 rfl (by decide) w.heap.size u5 us.length (a0r us) rfl ?r1 (some ⟨wr.heap.size, 0, none⟩) 1 1 [.int .i64 0, .int .i64 (s.size : Int), str [], .int .u32 0] rfl rfl (by simp) ?r2 (by simp [Value.oneCell']) ?r3 ?r4 ?r5 ?r6)
   case r1 => exact HO4.out.1
   case r2 => exact HCB.out
   case r3 => unfold maxLen; omega
   case r4 => omega
   case r5 => have := HO4.out.2.size; simpa using this
   case r6 =>
    intro v5 w5 O5 K5
    have G5 := a00 HO4.out.2 K5 (fun x hx => (World.ownsRow.lt HO4.out.1 x hx).1)
    have HO5 : Hid (a03 w5 w.heap.size v5 (us ++ [⟨0, s.size, [], 0⟩]) ∧ w.grownBy w5 none) := ⟨by
     show w5.ownsRow w.heap.size 99 4 v5 (us ++ [(⟨0, s.size, [], 0⟩ : Tk)]).length (a0r (us ++ [(⟨0, s.size, [], 0⟩ : Tk)]))
     rw [List.length_append, a8C]
     exact O5, G5⟩
    clear HO4 HCB O5 K5 G5
    go_wp2
    go_ret3
    exact ⟨_, rfl, HO5.out.1, HO5.out.2⟩
theorem a03.toks {w : World} {base : Nat} {v : Value} {xs : List Tk} (h : a03 w base v xs) (hx : 0 < xs.length) : ∃ g cap, v = .slice (some ⟨g, 0, none⟩) xs.length cap ∧ ∀ i (hi : i < xs.length), w.cell? ⟨g, i * 4, none⟩ = some (.int .i64 (xs[i].kind : Int)) ∧ w.cell? ⟨g, i * 4 + 1, none⟩ = some (.int .i64 (xs[i].pos : Int)) ∧
   w.cell? ⟨g, i * 4 + 2, none⟩ = some (str xs[i].text) ∧ w.cell? ⟨g, i * 4 + 3, none⟩ = some (.int .u32 (xs[i].num : Int)) := by
 obtain ⟨g, cap, hv, -⟩ := a9E h hx
 obtain ⟨ao, cap', hv', C, -⟩ := T0 h
 rw [hv] at hv'
 simp only [Value.slice.injEq, true_and] at hv'
 obtain ⟨rfl, rfl⟩ := hv'
 refine ⟨g, cap, hv, fun i hi => ?_⟩
 obtain ⟨b, off, e, hc⟩ := C.toks hi
 simp only [Option.some.injEq, Addr.mk.injEq] at e
 obtain ⟨rfl, rfl, -⟩ := e
 have := hc i hi
 simpa using this

end Go.Proofs.YtklipelnjgpnjaaGreatDoor
