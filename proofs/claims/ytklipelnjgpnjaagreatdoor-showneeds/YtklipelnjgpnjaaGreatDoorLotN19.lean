import Derived.Test.YtklipelnjgpnjaaGreatDoorLotN16
import Derived.Test.YtklipelnjgpnjaaGreatDoorLotN2
import Derived.Test.YtklipelnjgpnjaaGreatDoorLotN18
import Derived.Test.YtklipelnjgpnjaaGreatDoorLotN17
import Derived.Test.YtklipelnjgpnjaaGreatDoorLotN1
import Derived.Maps.AppendAt
import Derived.Deep.RegionHeld3
import Derived.Test.YtklipelnjgpnjaaGreatDoorLotN11
import Derived.Laws.CopyOwn
set_option maxHeartbeats 64000000
set_option maxRecDepth 100000
namespace Go.Proofs.YtklipelnjgpnjaaGreatDoor
open Go.RowKit
def a0L : Nat → Nat → List UInt8
 | 0, n => [D9 (n % 16)]
 | f + 1, n => if n < 16 then [D9 n] else a0L f (n / 16) ++ [D9 (n % 16)]
theorem a5O : D9 0 = 48 := by decide
theorem a5N {n : Nat} (h : n < 16) (h0 : n ≠ 0) : D9 n ≠ 48 := fun e => h0 ((a2S h).2.2.2 e)
theorem au2 (n : Nat) (h : n < 65536) : a0L 3 n = j6 n := by
 unfold j6 a25
 simp only [a0L]
 by_cases h1 : n < 16
 ·rw [if_pos h1, show n / 4096 % 16 = 0 by omega, show n / 256 % 16 = 0 by omega, show n / 16 % 16 = 0 by omega, show n % 16 = n by omega, a5O]
  simp [a1m]
 ·rw [if_neg h1]
  by_cases h2 : n / 16 < 16
  ·rw [if_pos h2, show n / 4096 % 16 = 0 by omega, show n / 256 % 16 = 0 by omega, show n / 16 % 16 = n / 16 by omega, a5O]
   have := a5N h2 (by omega)
   simp [a1m, this]
  ·rw [if_neg h2]
   by_cases h3 : n / 16 / 16 < 16
   ·rw [if_pos h3, show n / 4096 % 16 = 0 by omega, show n / 256 % 16 = n / 16 / 16 by omega, a5O]
    have := a5N h3 (by omega)
    simp [a1m, this]
   ·rw [if_neg h3, show n / 4096 % 16 = n / 16 / 16 / 16 % 16 by omega, show n / 256 % 16 = n / 16 / 16 % 16 by omega]
    have := a5N (n := n / 16 / 16 / 16 % 16) (by omega) (by omega)
    simp [a1m, this]
theorem au3 (f n : Nat) (h : 16 ≤ n) : a0L (f + 1) n = a0L f (n / 16) ++ [D9 (n % 16)] := by rw [a0L, if_neg (by omega)]
theorem au1 (f n : Nat) (h : n < 16) : a0L f n = [D9 n] := by
 cases f with
 | zero => rw [a0L, Nat.mod_eq_of_lt h]
 | succ f => rw [a0L, if_pos h]
def a5P : ByteArray := ⟨#[48, 49, 50, 51, 52, 53, 54, 55, 56, 57, 97, 98, 99, 100, 101, 102, 103, 104, 105, 106, 107, 108, 109, 110, 111, 112, 113, 114, 115, 116, 117, 118, 119, 120, 121, 122]⟩
theorem au4 : ∀ j : Fin 16, a5P[j.val]'(Nat.lt_of_lt_of_le j.isLt (by decide)) = D9 j.val := by decide +kernel
theorem a8t (i : Nat) (h : i < a5P.size) (h' : i < 16) : a5P[i] = D9 i := au4 ⟨i, h'⟩
theorem aZ0 (v : Nat) (h : v < 65536) : bits .and .u64 (v : Int) 15 = ((v % 16 : Nat) : Int) := by
 have e : bits .and .u64 (v : Int) ((15 : Nat) : Int) = _ := u64_and_nat v 15 (by omega) (by omega)
 rw [show (15 : Int) = ((15 : Nat) : Int) from rfl, e]
 congr 1
 exact Nat.and_two_pow_sub_one_eq_mod v 4
theorem aY9 (w : World) (T : j2 w) :
  Calls Tryz.prog 212 #[.int .u64 16] w fun e w' => e = .returned (.int .i64 4) ∧ w = w' := by
 have h := T.2.1
 clear T
 have e1 : IntKind.u64.wrap (-16) = 18446744073709551600 := by decide +kernel
 have e2 : bits .and .u64 16 18446744073709551600 = 16 := by decide +kernel
 have e3 : IntKind.u64.wrap (16 * 285870213051353865) = 4573923408821661840 := by decide +kernel
 have C : Calls Tryz.prog 217 #[.int .u64 16] w fun e w' => e = .returned (.int .i64 4) ∧ w = w' := by
  go_enter Tryz.func217, Tryz.ntmps217
  go_wp2
  go_ret
  exact ⟨rfl, rfl⟩
 go_enter Tryz.func212, Tryz.ntmps212
 go_wp2_with fail
 refine C.mono ?_
 rintro e w' ⟨rfl, rfl⟩
 go_wp2
 go_ret
 exact ⟨rfl, rfl⟩
def a0h (ds : List UInt8) : List UInt8 := List.replicate (65 - ds.length) 0 ++ ds
theorem ag7 (ds : List UInt8) (u : UInt8) (h : ds.length < 65) : (a0h ds).set (65 - ds.length - 1) u = a0h (u :: ds) := by
 unfold a0h
 rw [List.set_append_left _ _ (by rw [List.length_replicate]; omega)]
 rw [show 65 - ds.length = (65 - (ds.length + 1)) + 1 by omega, List.replicate_succ', Nat.add_sub_cancel, List.set_append_right _ _ (by rw [List.length_replicate]; exact Nat.le_refl _), List.length_replicate, Nat.sub_self, List.set_cons_zero, List.length_cons, List.append_assoc]
 rfl
theorem a7k (ds : List UInt8) (h : ds.length ≤ 65) : (a0h ds).length = 65 := by unfold a0h; rw [List.length_append, List.length_replicate]; omega
theorem ag6 {w : World} {g t : Nat} {ds : List UInt8} (A : AAt w g t (a0h ds)) (h : ds.length ≤ 65) : CV w (some ⟨g, 65 - ds.length, none⟩) (ds.map bv) := by
 refine ⟨fun e => (by cases e), fun ad e i hi => ?_⟩
 cases e
 rw [List.length_map] at hi
 rw [Addr.add_lit]
 have := A.cell (i := 65 - ds.length + i) (by rw [a7k ds h]; omega)
 rw [this]
 simp only [a0h, List.getElem_map]
 rw [List.getElem_append_right (by rw [List.length_replicate]; omega)]
 simp only [List.length_replicate, Nat.add_sub_cancel_left]
 rfl
theorem as1 (B u : Nat) (v : Value) (xs : List UInt8) (w : World) (hu : u < 65536) (O : m9 w B v xs) (hB : B ≤ w.heap.size) (hl : xs.length + 20 ≤ 140737488355328) (T : j2 w) :
  Calls Tryz.prog 202 #[v, .int .u64 u, .int .i64 16, .bool false, .bool true] w fun e w' => ∃ v', e = .returned (.tuple #[v', .string ⟨#[]⟩]) ∧ m9 w' B v' (xs ++ j6 u) ∧ Ap B w w' := by
 obtain ⟨i0, hi, hz0, hz1, hz2⟩ := info_parts a1f
 have HT : Hid (j2 w) := T
 have HO : Hid (m9 w B v xs) := O
 have HU : Hid (a0L 3 u = j6 u) := au2 u hu
 clear T O
 have e0 : (bits .and .i64 16 15) = 0 := by decide +kernel
 go_enter Tryz.func202, Tryz.ntmps202
 go_upto_region 4 with fail
 have A0 := AAt.alloc w 211 (List.replicate 65 0)
 have G0 := World.grownBy_alloc w (.cells ((List.replicate 65 (0 : UInt8)).map bv).toArray 211) none
 have hz65 : Tryz.zeroCells211 = ((List.replicate 65 (0 : UInt8)).map bv).toArray := by kernel_rfl
 rw [← hz65] at A0 G0
 have A1 : AAt (w.alloc (.cells Tryz.zeroCells211 211)) w.heap.size 211 (a0h []) := A0
 obtain ⟨g, hg, hgw⟩ : ∃ g, w.heap.size = g ∧ w.heap.size ≤ g := ⟨_, rfl, Nat.le_refl _⟩
 rw [hg] at A1
 rw [show (Value.pointer (some ⟨w.heap.size, 0, none⟩)) = .pointer (some ⟨g, 0, none⟩) by rw [hg]]
 clear hz65 A0 hg
 generalize w.alloc (.cells Tryz.zeroCells211 211) = w1 at *
 go_wp2_with (first | (go_at_call 212; refine (aY9 _ (HT.out.grown G0)).mono ?_; rintro e w' ⟨rfl, rfl⟩) | go_in)
 go_loopw [1, 13] (fun x i wr => ∃ (k y : Nat) (ds : List UInt8), k ≤ 3 ∧ Hid (ds.length = k) ∧ x = .int .u64 y ∧ i = .int .i64 ((65 - k : Nat) : Int) ∧ y < 65536 / 16 ^ k ∧ Hid (a0L (3 - k) y ++ ds = j6 u) ∧ AAt wr g 211 (a0h ds) ∧ w.grownBy wr none) (fun x _ _ => (intOf x).toNat)
 case atStart => exact ⟨0, u, [], Nat.zero_le _, rfl, rfl, rfl, by simpa using hu, by rw [List.append_nil]; exact HU, A1, G0⟩
 case round =>
  clear A1 G0
  obtain ⟨k, y, ds, hk, HK, rfl, rfl, hy, HD, A, G⟩ := hrel
  have hy6 : y < 65536 := Nat.lt_of_lt_of_le hy (Nat.div_le_self _ _)
  have hb := aZ0 y hy6
  have HL : Hid ((a0h ds).length = 65) := a7k ds (by have := HK.out; omega)
  have hfr := A.free (65 - k - 1)
  have hix : wrap64 (((65 - k : Nat) : Int) - 1) = ((65 - k - 1 : Nat) : Int) := by unfold wrap64; omega
  have hc : wr.cell? ⟨g, 65 - k - 1, none⟩ = some (.int .u8 (((a0h ds)[65 - k - 1]'(by have := HL.out; omega)).toNat : Int)) := A.cell (i := 65 - k - 1) (by have := HL.out; omega)
  generalize ((a0h ds)[65 - k - 1]'(by have := HL.out; omega)).toNat = old at hc
  have hS : ∀ d : UInt8, AAt (wr.setCell ⟨g, 65 - k - 1, none⟩ (.int .u8 (d.toNat : Int))) g 211 (a0h (d :: ds)) := fun d => by
   have := A.set (65 - k - 1) d.toNat d.toNat_lt
   rw [UInt8.ofNat_toNat, ← HK.out, ag7 ds d (by have := HK.out; omega)] at this
   rw [← HK.out]
   exact this
  have HS : Hid (∀ d : UInt8, AAt (wr.setCell ⟨g, 65 - k - 1, none⟩ (.int .u8 (d.toNat : Int))) g 211 (a0h (d :: ds))) := hS
  have hik : 65 - k - 1 < 65 := by omega
  clear hS
  by_cases hge : 16 ≤ y
  ·have hge' : (16 : Int) ≤ (y : Int) := by omega
   have hk3 : k < 3 := by
    rcases Nat.lt_or_ge k 3 with h | h
    ·exact h
    ·obtain rfl : k = 3 := by omega
     simp at hy
     omega
   have hm : y % 16 < 16 := by omega
   have e1 : (⟨#[48, 49, 50, 51, 52, 53, 54, 55, 56, 57, 97, 98, 99, 100, 101, 102, 103, 104, 105, 106, 107, 108, 109, 110, 111, 112, 113, 114, 115, 116, 117, 118, 119, 120, 121, 122]⟩ : ByteArray)[y % 16]'(by show _ < 36; omega) = D9 (y % 16) := a8t _ _ hm
   have HD2 : Hid (a0L (3 - (k + 1)) (y / 16) ++ (D9 (y % 16) :: ds) = j6 u) := by
    show _ = _
    rw [← HD.out, show 3 - k = 3 - (k + 1) + 1 by omega, au3 _ _ hge, List.append_assoc]
    rfl
   have A2 := HS.out (D9 (y % 16))
   have G2 := N8 G ⟨g, 65 - k - 1, none⟩ (.int .u8 ((D9 (y % 16)).toNat : Int)) (.inr hgw)
   have hy2 : y / 16 < 65536 / 16 ^ (k + 1) := by
    rw [Nat.pow_succ, ← Nat.div_div_eq_div_mul]
    have : k = 0 ∨ k = 1 ∨ k = 2 := by omega
    rcases this with rfl | rfl | rfl <;> simp at hy ⊢ <;> omega
   clear HS HD A G
   go_wp2
   go_roundw
   case rel => exact ⟨k + 1, y / 16, D9 (y % 16) :: ds, by omega, (by have := HK.out; simp; omega : (D9 (y % 16) :: ds).length = k + 1), by go_num, by rw [show ((65 - (k + 1) : Nat) : Int) = ((65 - k : Nat) : Int) - 1 by omega], hy2, HD2, A2, G2⟩
   case measure => simp [intOf]; omega
  ·have hge' : ¬ (16 : Int) ≤ (y : Int) := by omega
   have hy16 : y < 16 := by omega
   have e1 : (⟨#[48, 49, 50, 51, 52, 53, 54, 55, 56, 57, 97, 98, 99, 100, 101, 102, 103, 104, 105, 106, 107, 108, 109, 110, 111, 112, 113, 114, 115, 116, 117, 118, 119, 120, 121, 122]⟩ : ByteArray)[y]'(by show _ < 36; omega) = D9 y := a8t _ _ hy16
   have HD2 : Hid (D9 y :: ds = j6 u) := by
    show _ = _
    rw [← HD.out, au1 _ _ hy16]
    rfl
   have A2 := HS.out (D9 y)
   have G2 := N8 G ⟨g, 65 - k - 1, none⟩ (.int .u8 ((D9 y).toNat : Int)) (.inr hgw)
   have CVs := ag6 A2 (by have := HK.out; simp; omega)
   have HC : Hid (CV (wr.setCell ⟨g, 65 - k - 1, none⟩ (.int .u8 ((D9 y).toNat : Int))) (some ⟨g, 65 - (k + 1), none⟩) ((j6 u).map bv)) := by
    rw [HD2.out] at CVs
    rw [← HD2.out] at CVs
    rw [← HD2.out]
    have e : (D9 y :: ds).length = k + 1 := by have := HK.out; simp; omega
    rw [e] at CVs
    exact CVs
   have HZ : Hid ((j6 u).length = k + 1) := by
    show _ = _
    rw [← HD2.out]
    have := HK.out
    simp
    omega
   have hBw : B ≤ wr.heap.size := Nat.le_trans hB G.size
   clear HS HD A G CVs A2 HD2 HK HL HU
   have hk4 : k = 0 ∨ k = 1 ∨ k = 2 ∨ k = 3 := by omega
   rcases hk4 with rfl | rfl | rfl | rfl
   ·go_wp2_with (at_builtin; refine a0R rfl (.tmp 95) (.tmp 97) 115 rfl 5 i0 (.int .u8 0) 1 1 Tryz.underlying115 hi hz0 hz1 hz2 rfl (by decide) B v xs.length (xs.map bv) rfl ?q1a _ _ _ ((j6 u).map bv) rfl ?q0a (by simp) ?q2a (a0p (j6 u)) ?q3a ?q4a ?q5a ?q6a)
    case q1a => exact x9 HO.out G2
    case q0a => first | exact HZ.out | (rw [List.length_map]; exact HZ.out) | simpa using HZ.out
    case q2a => exact HC.out
    case q3a => unfold maxLen; omega
    case q4a => omega
    case q6a =>
     intro y2 w2 O2 K2
     have AP : Ap B w w2 := (Ap.ofNone hB G2).trans (Ap.ofOwn (x9 HO.out G2) (by have := G2.size; omega) K2)
     have O3 : m9 w2 B y2 (xs ++ j6 u) := by
      unfold m9
      rw [List.length_append, List.map_append, HZ.out]
      exact O2
     clear O2 K2
     go_wp2
     go_ret2
     exact ⟨_, rfl, O3, AP⟩
   ·go_wp2_with (at_builtin; refine a0R rfl (.tmp 95) (.tmp 97) 115 rfl 5 i0 (.int .u8 0) 1 1 Tryz.underlying115 hi hz0 hz1 hz2 rfl (by decide) B v xs.length (xs.map bv) rfl ?q1b _ _ _ ((j6 u).map bv) rfl ?q0b (by simp) ?q2b (a0p (j6 u)) ?q3b ?q4b ?q5b ?q6b)
    case q1b => exact x9 HO.out G2
    case q0b => first | exact HZ.out | (rw [List.length_map]; exact HZ.out) | simpa using HZ.out
    case q2b => exact HC.out
    case q3b => unfold maxLen; omega
    case q4b => omega
    case q6b =>
     intro y2 w2 O2 K2
     have AP : Ap B w w2 := (Ap.ofNone hB G2).trans (Ap.ofOwn (x9 HO.out G2) (by have := G2.size; omega) K2)
     have O3 : m9 w2 B y2 (xs ++ j6 u) := by
      unfold m9
      rw [List.length_append, List.map_append, HZ.out]
      exact O2
     clear O2 K2
     go_wp2
     go_ret2
     exact ⟨_, rfl, O3, AP⟩
   ·go_wp2_with (at_builtin; refine a0R rfl (.tmp 95) (.tmp 97) 115 rfl 5 i0 (.int .u8 0) 1 1 Tryz.underlying115 hi hz0 hz1 hz2 rfl (by decide) B v xs.length (xs.map bv) rfl ?q1c _ _ _ ((j6 u).map bv) rfl ?q0c (by simp) ?q2c (a0p (j6 u)) ?q3c ?q4c ?q5c ?q6c)
    case q1c => exact x9 HO.out G2
    case q0c => first | exact HZ.out | (rw [List.length_map]; exact HZ.out) | simpa using HZ.out
    case q2c => exact HC.out
    case q3c => unfold maxLen; omega
    case q4c => omega
    case q6c =>
     intro y2 w2 O2 K2
     have AP : Ap B w w2 := (Ap.ofNone hB G2).trans (Ap.ofOwn (x9 HO.out G2) (by have := G2.size; omega) K2)
     have O3 : m9 w2 B y2 (xs ++ j6 u) := by
      unfold m9
      rw [List.length_append, List.map_append, HZ.out]
      exact O2
     clear O2 K2
     go_wp2
     go_ret2
     exact ⟨_, rfl, O3, AP⟩
   ·go_wp2_with (at_builtin; refine a0R rfl (.tmp 95) (.tmp 97) 115 rfl 5 i0 (.int .u8 0) 1 1 Tryz.underlying115 hi hz0 hz1 hz2 rfl (by decide) B v xs.length (xs.map bv) rfl ?q1d _ _ _ ((j6 u).map bv) rfl ?q0d (by simp) ?q2d (a0p (j6 u)) ?q3d ?q4d ?q5d ?q6d)
    case q1d => exact x9 HO.out G2
    case q0d => first | exact HZ.out | (rw [List.length_map]; exact HZ.out) | simpa using HZ.out
    case q2d => exact HC.out
    case q3d => unfold maxLen; omega
    case q4d => omega
    case q6d =>
     intro y2 w2 O2 K2
     have AP : Ap B w w2 := (Ap.ofNone hB G2).trans (Ap.ofOwn (x9 HO.out G2) (by have := G2.size; omega) K2)
     have O3 : m9 w2 B y2 (xs ++ j6 u) := by
      unfold m9
      rw [List.length_append, List.map_append, HZ.out]
      exact O2
     clear O2 K2
     go_wp2
     go_ret2
     exact ⟨_, rfl, O3, AP⟩
theorem a7i (B u : Nat) (v : Value) (xs : List UInt8) (w : World) (hu : u < 65536) (O : m9 w B v xs) (hB : B ≤ w.heap.size) (hl : xs.length + 20 ≤ 140737488355328) (T : j2 w) :
  Calls Tryz.prog 185 #[v, .int .u64 u, .int .i64 16] w fun e w' => ∃ v', e = .returned v' ∧ m9 w' B v' (xs ++ j6 u) ∧ Ap B w w' := by
 have C : Hid (Calls Tryz.prog 204 #[v, .int .u64 u, .int .i64 16] w fun e w' => ∃ v', e = .returned v' ∧ m9 w' B v' (xs ++ j6 u) ∧ Ap B w w') := by
  show Calls _ _ _ _ _
  have C := as1 B u v xs w hu O hB hl T
  clear O T
  go_enter Tryz.func204, Tryz.ntmps204
  go_wp2_with fail
  refine C.mono ?_
  rintro e w' ⟨v', rfl, O', A'⟩
  clear C
  go_wp2
  go_ret
  exact ⟨v', rfl, O', A'⟩
 clear O T
 go_enter Tryz.func185, Tryz.ntmps185
 go_wp2_with fail
 refine C.out.mono ?_
 rintro e w' ⟨v', rfl, O', A'⟩
 clear C
 go_wp2
 go_ret
 exact ⟨v', rfl, O', A'⟩

open Go.RowKit Go.Shelf

attribute [local go_sem] Oper.semAt_some
def P9 (pre : List (Nat × UInt16)) : List UInt8 := pre.foldl (fun t p => (if 0 < p.1 then t ++ [58] else t) ++ j6 p.2.toNat) []
theorem ac7 (pre : List (Nat × UInt16)) (x : Nat × UInt16) : P9 (pre ++ [x]) = (if 0 < x.1 then P9 pre ++ [58] else P9 pre) ++ j6 x.2.toNat := by simp [P9]
theorem aY7 (pre : List (Nat × UInt16)) : (P9 pre).length ≤ 5 * pre.length := by
 have key : ∀ (l : List (Nat × UInt16)) (a : List UInt8), (l.foldl (fun t p => (if 0 < p.1 then t ++ [58] else t) ++ j6 p.2.toNat) a).length ≤ a.length + 5 * l.length := by
  intro l
  induction l with
  | nil => intro a; simp
  | cons x r ih =>
   intro a
   rw [List.foldl_cons]
   have h1 := ih ((if 0 < x.1 then a ++ [58] else a) ++ j6 x.2.toNat)
   have h2 := (a4K x.2.toNat).2.2.1
   have h3 : (if 0 < x.1 then a ++ [58] else a).length ≤ a.length + 1 := by split <;> simp
   rw [List.length_append] at h1
   simp only [List.length_cons]
   omega
 have := key pre []
 simpa [P9] using this
theorem aY6 (gs : List Nat) (hg : ∀ g ∈ gs, g < 65536) : P9 (U1 gs) = o7 58 (gs.map j6) := by
 have key : ∀ n (gs : List Nat), gs.length = n → (∀ g ∈ gs, g < 65536) → P9 (U1 gs) = o7 58 (gs.map j6) := by
  intro n
  induction n with
  | zero =>
   intro gs hn _
   obtain rfl : gs = [] := List.eq_nil_of_length_eq_zero hn
   rfl
  | succ n ih =>
   intro gs hn hg
   have hne : gs ≠ [] := fun e => by rw [e] at hn; cases hn
   obtain ⟨r, x, rfl⟩ : ∃ r x, gs = r ++ [x] := ⟨gs.dropLast, gs.getLast hne, (List.dropLast_concat_getLast hne).symm⟩
   have hr : r.length = n := by simpa using hn
   have hx := hg x (by simp)
   rw [a97, ac7, ih r hr (fun g hm => hg g (by simp [hm])), List.map_append, List.map_singleton, ax5]
   simp only
   rw [UInt16.toNat_ofNat_of_lt' hx]
   by_cases h0 : r = []
   ·subst h0; simp [o7]
   ·have h1 : 0 < r.length := List.length_pos_iff.2 h0
    have h2 : ¬ (r.map j6 = []) := by simpa using h0
    rw [if_pos h1, if_neg h2]
    simp
 exact key gs.length gs rfl hg
theorem ag0 {B : Nat} {w w' : World} (h : Ap B w w') : KeepsOthers w w' := ⟨h.size, fun k o hk hc => h.2 k o hk (by simp) (fun c fz e => by subst e; cases hc)⟩
theorem a3Z {B b : Nat} {w w' : World} {t : TypeId} {v : Value} (h : Ap B w w') (hb : Boxed w b t v) (ht : t ≠ 5) : Boxed w' b t v := h.heap hb ht
def IU (w : World) (O Bb : Nat) (sv : Value) (pre : List (Nat × UInt16)) (W : World) : Prop :=
 ((∃ v, Boxed W O 115 v ∧ W.ownsRow w.heap.size 5 1 v (P9 pre).length ((P9 pre).map bv) ∧ True) ∧ Boxed W Bb 115 sv) ∧ Below w.heap.size w W
theorem ae5 (w : World) (O Bb : Nat) (sv : Value) (B : Nat) (hB : w.heap.size ≤ B) : OwnFrom B (IU w O Bb sv) :=
 OwnFrom.and (OwnFrom.and (Own.from (holdsRow_own w.heap.size O 115 5 1 (fun pre => (P9 pre).length) (fun pre => (P9 pre).map bv) (fun _ _ => True)) _) (Own.from (fun _ _ _ _ hs hg hr => J5 hs hg hr) _)) (ownFrom_below (Nat.le_refl _) hB)
theorem aN6 (w : World) (v : Value) : ∀ W0, ((w.alloc (.cells #[.slice none 0 0] 115)).alloc (.cells #[v] 115)) = W0 →
  Boxed W0 w.heap.size 115 (.slice none 0 0) ∧ Boxed W0 (w.heap.size + 1) 115 v ∧ w.grownBy W0 none ∧ W0.heap.size = w.heap.size + 2 := by
 rintro W0 rfl
 exact ⟨D3 (T0 _ _ _ rfl) _, T0 _ _ _ (by simp only [World.size_alloc]), d3 (World.grownBy_alloc _ _ _) (World.grownBy_alloc _ _ _), by simp only [World.size_alloc]⟩
theorem a6n (ao : Option Addr) (ca : Nat) (xs : List UInt8) (w : World) (hc : Cells w ao xs) (h16 : xs.length ≤ 16) (T : j2 w) :
  Calls Tryz.prog 184 #[.slice ao xs.length ca] w fun e w' => e = .returned (str (o7 58 ((d8 xs).map j6))) ∧ w.grownBy w' none := by
 obtain ⟨i0, hi, hz0, hz1, hz2⟩ := info_parts a1f
 have HT : Hid (j2 w) := T
 have HC : Hid (Cells w ao xs) := hc
 have h3 := T.size
 have hq : (d8 xs).length ≤ 8 := by have := a2p xs; omega
 clear T hc
 refine (callsIn_wide (n := 3)).1 ?_
 refine callsIn_of_wp_marks Tryz.func184 rfl trivial ?_ rfl
 simp only [Tryz.ntmps184, List.size_toArray, List.length_cons, List.length_nil, Nat.reduceAdd, Nat.reduceSub, Array.replicate_succ, Array.replicate_zero, List.push_toArray, List.append_toArray, List.nil_append, List.cons_append]
 gi_wp2_with (refine ⟨trivial, ?_⟩; gi_at_call 203; refine (callsIn_wide.2 (a9j _ _ _ _)).mono ?_; rintro e w' ⟨rfl, rfl⟩)
 obtain ⟨W0, hW0⟩ : ∃ W0, ((w.alloc (.cells #[.slice none 0 0] 115)).alloc (.cells #[.slice ao xs.length ca] 115)) = W0 := ⟨_, rfl⟩
 obtain ⟨fO, fB, G0, hsz⟩ := aN6 w (.slice ao xs.length ca) W0 hW0
 rw [hW0]
 clear hW0
 obtain ⟨Bb, hBb⟩ : ∃ k, w.heap.size + 1 = k := ⟨_, rfl⟩
 rw [hBb] at fB ⊢
 obtain ⟨O, hO⟩ : ∃ k, w.heap.size = k := ⟨_, rfl⟩
 rw [show (Value.pointer (some ⟨w.heap.size, 0, none⟩)) = .pointer (some ⟨O, 0, none⟩) by rw [hO]]
 rw [hO] at fO
 have ne : Hid (Bb ≠ O ∧ w.heap.size ≤ O) := by
  refine ⟨?_, ?_⟩ <;> omega
 clear hBb hO
 have hle : w.heap.size ≤ W0.heap.size := G0.size
 refine wpIn_rangeFunc_ownF rfl (by omega) (gf := 213) (lb := #[.pointer (some ⟨Bb, 0, none⟩)]) rfl trivial (enters_of Tryz.func213 (by kernel_rfl) rfl)
  (aI5 _ (by omega) Bb w.heap.size (fun k => k = Bb) ao ca xs (by omega) (.inl rfl) (fun ad e hx => .inl (HC.out.under ad e hx)) W0 fB.cell (HC.out.keptNone G0))
  (fun h k => h.trans k) (Kp.book hle) (Below.refl _ _) (fun _ => rfl)
  (IU w O Bb (.slice ao xs.length ca)) (fun _ _ _ => False) (ae5 w O Bb (.slice ao xs.length ca) _ hle) (fun _ _ _ _ _ hs _ _ => hs)
  ⟨⟨⟨_, fO, World.ownsRow_nil _ _ _ _, trivial⟩, fB⟩, a1c G0⟩
  (fun x => { tmps := #[.slice ao xs.length ca, undef, .string ⟨#[]⟩, .pointer (some ⟨O, 0, none⟩), .int .i64 (x.1 : Int), .int .u32 (x.2.toNat : Int), .slice ao xs.length ca, .func (.func 213) #[] #[.pointer (some ⟨Bb, 0, none⟩)], .int .i64 (x.1 : Int), .int .u32 (x.2.toNat : Int), undef, undef, undef, undef, undef, undef, undef, undef, undef, undef, undef], defers := [] }) ?assign ?body ?done ?stop
 case assign =>
  intro l x W K hK
  gi_wp2
  exact hK
 case body =>
  rintro l pre ⟨i, g⟩ W ⟨⟨⟨v, hO, hrow, -⟩, hBx⟩, hB⟩ hlen
  obtain ⟨n1, l1⟩ := ne.out
  have g16 := g.toNat_lt
  have htl : (P9 pre).length ≤ 40 := by have := aY7 pre; omega
  have hB' := hB.size
  have HTW : Hid (∀ X : World, Below w.heap.size w X → j2 X) := fun X h => HT.out.below h3 h
  have HTX : Hid (P9 (pre ++ [(i, g)]) = (if 0 < i then P9 pre ++ [58] else P9 pre) ++ j6 g.toNat) := ac7 pre (i, g)
  obtain ⟨ap, cap, rfl, -⟩ := S5 hrow
  -- what the second half leaves
  have fin : ∀ (W1 w2 : World) (v1 v2 : Value) (ys : List UInt8), KeepsOthers W W1 → Below w.heap.size W W1 → Boxed W1 O 115 v1 → Boxed W1 Bb 115 (.slice ao xs.length ca) → Ap w.heap.size W1 w2 → m9 w2 w.heap.size v2 (ys ++ j6 g.toNat) → ys = (if 0 < i then P9 pre ++ [58] else P9 pre) →
    ownPostK (Kp w.heap.size fun k => k = Bb) (IU w O Bb (.slice ao xs.length ca)) (fun _ _ _ => False) (pre ++ [(i, g)]) W .normal { tmps := #[], defers := [] } (w2.setCell ⟨O, 0, none⟩ v2) := fun W1 w2 v1 v2 ys k1 b1 o1 x1 a2 o2 hy => by
   have o3 := a3Z a2 o1 (by decide)
   have x3 := T8 (i := 0) v2 (a3Z a2 x1 (by decide)) n1
   have b3 : Below w.heap.size W (w2.setCell ⟨O, 0, none⟩ v2) := (b1.trans a2.1).setCell (p := ⟨O, 0, none⟩) l1 _
   refine ⟨(k1.trans (ag0 a2)).trans (KeepsOthers.setCell _ _ _), ⟨b3, ?_⟩, ⟨⟨v2, o3.set _, ?_, trivial⟩, x3⟩, hB.trans b3⟩
   ·rintro k o rfl ho -
    unfold Boxed at hBx x3
    rw [hBx] at ho
    rw [x3]
    exact ho
   ·rw [HTX.out, ← hy]
    exact o2.kept (grownBy_setCell' w2 O v2) (.inr (o3.not_row (by decide) o2).symm)
  have HF : Hid (∀ (W1 w2 : World) (v1 v2 : Value) (ys : List UInt8), KeepsOthers W W1 → Below w.heap.size W W1 → Boxed W1 O 115 v1 → Boxed W1 Bb 115 (.slice ao xs.length ca) → Ap w.heap.size W1 w2 → m9 w2 w.heap.size v2 (ys ++ j6 g.toNat) → ys = (if 0 < i then P9 pre ++ [58] else P9 pre) →
    ownPostK (Kp w.heap.size fun k => k = Bb) (IU w O Bb (.slice ao xs.length ca)) (fun _ _ _ => False) (pre ++ [(i, g)]) W .normal { tmps := #[], defers := [] } (w2.setCell ⟨O, 0, none⟩ v2)) := fin
  clear fin fO fB HTX
  generalize P9 pre = ys at *
  have hc1 := hO.cell
  have hf1 := hO.frozen
  by_cases hi0 : 0 < i
  ·have hi' : (0 : Int) < (i : Int) := by omega
   gi_wp2_with (first
    | (gi_at_builtin; refine wpListIn_append_own _ rfl _ _ 115 rfl w.heap.size 5 i0 (.int .u8 0) 1 1 Tryz.underlying115 hi hz0 hz1 hz2 rfl (by decide) _ _ _ rfl (hrow.alloc _) ⟨W.heap.size, 0, none⟩ 1 1 [bv 58] rfl rfl (cell_one_new _ _ _) (by simp [Value.oneCell', bv]) (by unfold maxLen; omega) (by omega) (by simp; omega) ?_; intro v' w1 hown' hgrow _; obtain ⟨g', cap', rfl⟩ := ownsRow_succ hown'; obtain ⟨hv1, hv2, hr2, hk2, hb2⟩ := hO.appended (by decide) hrow (by omega) l1 hown' hgrow; have hc2 := hv1.cell; have hf2 := hv1.frozen; have hc3 := hv2.cell; have hf3 := hv2.frozen)
    | (refine ⟨trivial, ?_⟩; gi_at_call 185; refine (CallsIn.inRound l (callsIn_wide.2 (a7i w.heap.size g.toNat _ (ys ++ [58]) _ g16 (by unfold m9; rw [List.length_append, List.map_append]; exact hr2) (by have := hb2.size; omega) (by rw [List.length_append]; simp only [List.length_cons, List.length_nil]; omega) (HTW.out _ (hB.trans hb2))))).mono ?_; rintro e w2 ⟨v2, rfl, O2, A2⟩; obtain ⟨ap2, cap2, rfl, -⟩ := S5 O2; have b2 := a3Z A2 hv2 (by decide); have hc4 := b2.cell; have hf4 := b2.frozen))
   have x1 := T8 (i := 0) (.slice (some ⟨g', 0, none⟩) (ys.length + 1) cap') ((hBx.alloc _).kept hgrow (hBx.not_row (by decide) hrow)) n1
   have e : ys.length + ((j6 g.toNat).length + 1) = (ys ++ [58] ++ j6 g.toNat).length := by simp only [List.length_append, List.length_cons, List.length_nil]; omega
   exact HF.out _ w2 _ _ (ys ++ [58]) hk2 hb2 hv2 x1 A2 (by rw [e]; exact O2) (by rw [if_pos hi0])
  ·have hi' : ¬ (0 : Int) < (i : Int) := by omega
   have CA := a7i w.heap.size g.toNat (.slice ap ys.length cap) ys W g16 hrow hB' (by omega) (HTW.out _ hB)
   gi_wp2_with (refine ⟨trivial, ?_⟩; gi_at_call 185; refine (CallsIn.inRound l (callsIn_wide.2 CA)).mono ?_; rintro e w2 ⟨v2, rfl, O2, A2⟩; obtain ⟨ap2, cap2, rfl, -⟩ := S5 O2; have b2 := a3Z A2 hO (by decide); have hc2 := b2.cell; have hf2 := b2.frozen)
   exact HF.out W w2 _ _ ys (KeepsOthers.refl _) (Below.refl _ _) hO hBx A2 (by rw [List.length_append] at O2; exact O2) (by rw [if_neg hi0])
 case done =>
  rintro D ys W hD rfl ⟨⟨⟨v, hO, hrow, -⟩, -⟩, hB⟩ hK
  rw [aY6 _ (a9m xs)] at hrow
  have hcO := hO.cell
  obtain ⟨ap, cap, rfl, -⟩ := S5 hrow
  have hcv := a9J (P := Tryz.prog) (w := W) (base := w.heap.size) (ys := o7 58 ((d8 xs).map j6)) hrow 115 9 Tryz.underlying115 Tryz.underlying5 Tryz.underlying9
  clear fO fB
  gi_wp2
  refine ⟨by simp, .inl ⟨_, _, rfl, run_takeDeferred hK, ?_⟩⟩
  exact ⟨_, results_tmp rfl _ _ _, rfl, a0t (hB.trans (belowK_b (w := w) (Nat.le_refl _) W D _ _ (by omega) hK rfl rfl))⟩
 case stop =>
  rintro D c pre W _ _ h _
  exact h.elim

open Go.RowKit Go.Shelf

attribute [local go_sem] Oper.semAt_some
def a2M (q : (Nat × Nat) × (Nat × Nat)) (x : Nat × Nat) : (Nat × Nat) × (Nat × Nat) :=
 if x.2 ≠ 0 then (q.1, (x.1 + 1, 0)) else (if 2 ≤ q.2.2 + 1 ∧ q.1.2 < q.2.2 + 1 then (q.2.1, q.2.2 + 1) else q.1, (q.2.1, q.2.2 + 1))
def P0 (pre : List (Nat × Nat)) : (Nat × Nat) × (Nat × Nat) := pre.foldl a2M ((0, 0), (0, 0))
theorem a9D (pre : List (Nat × Nat)) (x : Nat × Nat) : P0 (pre ++ [x]) = a2M (P0 pre) x := by simp [P0]
def a6G (q : (Nat × Nat) × (Nat × Nat)) (x : Nat × Bool) : (Nat × Nat) × (Nat × Nat) :=
 if x.2 = false then (q.1, (x.1 + 1, 0)) else (if 2 ≤ q.2.2 + 1 ∧ q.1.2 < q.2.2 + 1 then (q.2.1, q.2.2 + 1) else q.1, (q.2.1, q.2.2 + 1))
def a42 : Nat → List Bool → Option (Nat × Nat) → Option (Nat × Nat)
 | _, [], acc => acc
 | i, g :: r, acc => a42 (i + 1) r (if a4s acc < ((g :: r).takeWhile fun b => b).length then some (i, ((g :: r).takeWhile fun b => b).length) else acc)
theorem b0D (gs : List Nat) : a1X gs = ((gs.map fun g => g == 0).takeWhile fun b => b).length := by
 unfold a1X
 induction gs with
 | nil => rfl
 | cons g r ih =>
  simp only [List.map_cons, List.takeWhile_cons]
  cases g == 0
  ·rfl
  ·simp only [if_true, List.length_cons, ih]
theorem ah8 (i : Nat) (gs : List Nat) (acc : Option (Nat × Nat)) : U7 i gs acc = a42 i (gs.map fun g => g == 0) acc := by
 induction gs generalizing i acc with
 | nil => rfl
 | cons g r ih =>
  rw [U7, ih, b0D, List.map_cons, a42]
theorem aQ0 (i : Nat) (gs : List Nat) (q : (Nat × Nat) × (Nat × Nat)) : (k6 i gs).foldl a2M q = (k6 i (gs.map fun g => g == 0)).foldl a6G q := by
 induction gs generalizing i q with
 | nil => rfl
 | cons g r ih =>
  simp only [k6, List.map_cons, List.foldl_cons]
  rw [ih]
  congr 1
  unfold a2M a6G
  by_cases h : g = 0
  ·subst h; simp
  ·have : (g == 0) = false := by simpa using h
   simp [h]
theorem aR2 : ∀ a b c d e f g h : Bool, ((k6 0 [a, b, c, d, e, f, g, h]).foldl a6G ((0, 0), (0, 0))).1 = (a42 0 [a, b, c, d, e, f, g, h] none).getD (0, 0) := by decide +kernel
theorem aP9 (gs : List Nat) (h8 : gs.length = 8) : (P0 (k6 0 gs)).1 = (U7 0 gs none).getD (0, 0) := by
 unfold P0
 rw [aQ0, ah8]
 have hl : (gs.map fun g => g == 0).length = 8 := by rw [List.length_map]; exact h8
 generalize (gs.map fun g => g == 0) = bs at *
 match bs, hl with
 | [a, b, c, d, e, f, g, h], _ => exact aR2 a b c d e f g h
def I2 (W : World) (B : Nat) (t : TypeId) (u v : Value) : Prop := W.heap[B]? = some (.cells #[u, v] t (0, 0))
theorem I2.cell0 {W : World} {B : Nat} {t : TypeId} {u v : Value} (h : I2 W B t u v) : W.cell? ⟨B, 0, none⟩ = some u := by simp [World.cell?, show W.heap[B]? = _ from h]
theorem I2.cell1 {W : World} {B : Nat} {t : TypeId} {u v : Value} (h : I2 W B t u v) : W.cell? ⟨B, 1, none⟩ = some v := by simp [World.cell?, show W.heap[B]? = _ from h]
theorem I2.free {W : World} {B : Nat} {t : TypeId} {u v : Value} (h : I2 W B t u v) (i : Nat) : W.frozen? ⟨B, i, none⟩ = false := by simp [World.frozen?, show W.heap[B]? = _ from h]
theorem I2.keep {X Y : World} {row : Option Nat} {B : Nat} {t : TypeId} {u v : Value} (h : I2 X B t u v) (hg : X.grownBy Y row) (hr : ∀ r, row = some r → ∃ o : Obj, X.heap[r]? = some o ∧ o.isCells = false) : I2 Y B t u v := by
 unfold I2 at *
 rw [hg.block B (Array.getElem?_eq_some_iff.1 h).1 (fun e => by
  obtain ⟨o, ho, hc⟩ := hr B e.symm
  rw [h] at ho
  cases ho
  cases hc)]
 exact h
theorem I2.away {W : World} {B b i : Nat} {t : TypeId} {u v : Value} (x : Value) (h : I2 W B t u v) (hb : B ≠ b) : I2 (W.setCell ⟨b, i, none⟩ x) B t u v := by
 unfold I2 at *
 rw [heap_setCell_other _ _ _ _ hb]
 exact h
theorem I2.set0 {W : World} {B : Nat} {t : TypeId} {u v : Value} (x : Value) (h : I2 W B t u v) : I2 (W.setCell ⟨B, 0, none⟩ x) B t x v := by
 unfold I2 at *
 rw [heap_setCell_same W B 0 _ t x h]
 rfl
theorem I2.set1 {W : World} {B : Nat} {t : TypeId} {u v : Value} (x : Value) (h : I2 W B t u v) : I2 (W.setCell ⟨B, 1, none⟩ x) B t u x := by
 unfold I2 at *
 rw [heap_setCell_same W B 1 _ t x h]
 rfl
theorem a71 {w : World} {g t : Nat} {xs : List UInt8} (h : AAt w g t xs) : Cells w (some ⟨g, 0, none⟩) xs := by
 refine ⟨fun e => (by cases e), fun ad e i hi => ?_⟩
 cases e
 rw [Addr.add_lit, Nat.zero_add]
 exact h.cell hi
theorem aA9 (w : World) (cs : Array Value) : ∀ W0, (((((w.alloc (.cells cs 41)).alloc (.cells #[.int .i64 0, .int .i64 0] 183)).alloc (.cells #[.int .i64 0, .int .i64 0] 183)).alloc (.cells #[.int .i64 0, .int .i64 0] 183)).alloc (.cells #[.slice (some ⟨w.heap.size, 0, none⟩) 16 16] 115)) = W0 →
  W0.heap[w.heap.size]? = some (.cells cs 41 (0, 0)) ∧ I2 W0 (w.heap.size + 1) 183 (.int .i64 0) (.int .i64 0) ∧ I2 W0 (w.heap.size + 1 + 1) 183 (.int .i64 0) (.int .i64 0) ∧ I2 W0 (w.heap.size + 1 + 1 + 1) 183 (.int .i64 0) (.int .i64 0) ∧ Boxed W0 (w.heap.size + 1 + 1 + 1 + 1) 115 (.slice (some ⟨w.heap.size, 0, none⟩) 16 16) ∧ w.grownBy W0 none ∧ W0.heap.size = w.heap.size + 5 := by
 rintro W0 rfl
 refine ⟨?_, ?_, ?_, ?_, ?_, ?_, ?_⟩
 ·exact D3 (D3 (D3 (D3 (T0 _ _ _ rfl) _) _) _) _
 ·exact D3 (D3 (D3 (T0 _ _ _ (by simp only [World.size_alloc])) _) _) _
 ·exact D3 (D3 (T0 _ _ _ (by simp only [World.size_alloc])) _) _
 ·exact D3 (T0 _ _ _ (by simp only [World.size_alloc])) _
 ·exact T0 _ _ _ (by simp only [World.size_alloc])
 ·exact d3 (d3 (d3 (d3 (World.grownBy_alloc _ _ _) (World.grownBy_alloc _ _ _)) (World.grownBy_alloc _ _ _)) (World.grownBy_alloc _ _ _)) (World.grownBy_alloc _ _ _)
 ·simp only [World.size_alloc]
def IL (w : World) (R L P : Nat) (pre : List (Nat × Nat)) (W : World) : Prop :=
 (∃ (la pa : Int) (ls ps : Nat), I2 W L 183 (.int .i64 la) (.int .i64 (ls : Int)) ∧ I2 W P 183 (.int .i64 pa) (.int .i64 (ps : Int)) ∧ I2 W R 183 (.int .i64 0) (.int .i64 0) ∧ ps ≤ pre.length ∧ ls ≤ pre.length ∧ ((∀ p ∈ pre, p.1 < 8) → la = ((P0 pre).1.1 : Int) ∧ ls = (P0 pre).1.2 ∧ pa = ((P0 pre).2.1 : Int) ∧ ps = (P0 pre).2.2)) ∧ Below w.heap.size w W
theorem ae4 (w : World) (R L P B : Nat) (hB : w.heap.size ≤ B) : OwnFrom B (IL w R L P) :=
 OwnFrom.and (Own.from (fun _ _ _ _ hs hg hr => by
  obtain ⟨la, pa, ls, ps, h1, h2, h3, h4⟩ := hs
  exact ⟨la, pa, ls, ps, h1.keep hg hr, h2.keep hg hr, h3.keep hg hr, h4⟩) _) (ownFrom_below (Nat.le_refl _) hB)
theorem a3X {pre : List (Nat × Nat)} {x : Nat × Nat} (h : ∀ p ∈ pre ++ [x], p.1 < 8) : (∀ p ∈ pre, p.1 < 8) ∧ x.1 < 8 := ⟨fun p hp => h p (by simp [hp]), h x (by simp)⟩
theorem aA8 (xs : List UInt8) (w : World) (h16 : xs.length = 16) :
  Calls Tryz.prog 183 #[.agg (xs.map bv).toArray] w fun e w' => e = .returned (.agg #[.int .i64 (((U7 0 (d8 xs) none).getD (0, 0)).1 : Int), .int .i64 (((U7 0 (d8 xs) none).getD (0, 0)).2 : Int)]) ∧ w.grownBy w' none := by
 have H16 : Hid (xs.length = 16) := h16
 have HQ : Hid ((d8 xs).length = 8) := by have := a2p xs; show _ = 8; omega
 clear h16
 obtain ⟨cs, hcs⟩ : ∃ cs, (xs.map bv).toArray = cs := ⟨_, rfl⟩
 rw [hcs]
 refine (callsIn_wide (n := 3)).1 ?_
 refine callsIn_of_wp_marks Tryz.func183 rfl trivial ?_ rfl
 simp only [Tryz.ntmps183, List.size_toArray, List.length_cons, List.length_nil, Nat.reduceAdd, Nat.reduceSub, Array.replicate_succ, Array.replicate_zero, List.push_toArray, List.append_toArray, List.nil_append, List.cons_append]
 gi_wp2_with (refine ⟨trivial, ?_⟩; gi_at_call 203; refine (callsIn_wide.2 (a9j _ _ _ _)).mono ?_; rintro e w' ⟨rfl, rfl⟩)
 obtain ⟨W0, hW0⟩ : ∃ W0, (((((w.alloc (.cells cs 41)).alloc (.cells #[.int .i64 0, .int .i64 0] 183)).alloc (.cells #[.int .i64 0, .int .i64 0] 183)).alloc (.cells #[.int .i64 0, .int .i64 0] 183)).alloc (.cells #[.slice (some ⟨w.heap.size, 0, none⟩) 16 16] 115)) = W0 := ⟨_, rfl⟩
 obtain ⟨fA, fR, fL, fP, fB, G0, hsz⟩ := aA9 w cs W0 hW0
 rw [hW0]
 clear hW0
 obtain ⟨Bb, hBb⟩ : ∃ k, w.heap.size + 1 + 1 + 1 + 1 = k := ⟨_, rfl⟩
 rw [hBb] at fB ⊢
 obtain ⟨P, hP⟩ : ∃ k, w.heap.size + 1 + 1 + 1 = k := ⟨_, rfl⟩
 rw [hP] at fP ⊢
 obtain ⟨L, hL⟩ : ∃ k, w.heap.size + 1 + 1 = k := ⟨_, rfl⟩
 rw [hL] at fL ⊢
 obtain ⟨R, hR⟩ : ∃ k, w.heap.size + 1 = k := ⟨_, rfl⟩
 rw [hR] at fR ⊢
 obtain ⟨A, hA⟩ : ∃ k, w.heap.size = k := ⟨_, rfl⟩
 rw [show (Value.pointer (some ⟨w.heap.size, 0, none⟩)) = .pointer (some ⟨A, 0, none⟩) by rw [hA], show (Value.slice (some ⟨w.heap.size, 0, none⟩) 16 16) = .slice (some ⟨A, 0, none⟩) 16 16 by rw [hA]]
 rw [show (Value.slice (some ⟨w.heap.size, 0, none⟩) 16 16) = .slice (some ⟨A, 0, none⟩) 16 16 by rw [hA]] at fB
 rw [hA] at fA
 have ne : Hid (A ≠ L ∧ A ≠ P ∧ Bb ≠ L ∧ Bb ≠ P ∧ L ≠ P ∧ L ≠ R ∧ P ≠ R ∧ w.heap.size ≤ L ∧ w.heap.size ≤ P ∧ w.heap.size ≤ R) := by
  refine ⟨?_, ?_, ?_, ?_, ?_, ?_, ?_, ?_, ?_, ?_⟩ <;> omega
 clear hBb hP hL hR hA
 have hle : w.heap.size ≤ W0.heap.size := G0.size
 have aA : AAt W0 A 41 xs := by unfold AAt; rw [hcs]; exact fA
 have hx16 : xs.length ≤ 1048576 := by have := H16.out; omega
 refine wpIn_rangeFunc_ownF rfl (by omega) (gf := 213) (lb := #[.pointer (some ⟨Bb, 0, none⟩)]) rfl trivial (enters_of Tryz.func213 (by kernel_rfl) rfl)
  (aI6 _ (by omega) Bb w.heap.size (fun k => k = Bb ∨ k = A) (some ⟨A, 0, none⟩) 16 xs hx16 (.inl (.inl rfl)) (fun ad e _ => by cases e; exact .inr (.inr rfl)) W0 (by rw [H16.out]; exact fB.cell) (a71 aA))
  (fun h k => h.trans k) (Kp.book hle) (Below.refl _ _) (fun _ => rfl)
  (IL w R L P) (fun _ _ _ => False) (ae4 w R L P _ hle) (fun _ _ _ _ _ hs _ _ => hs)
  ⟨⟨0, 0, 0, 0, fL, fP, fR, Nat.zero_le _, Nat.zero_le _, fun _ => ⟨rfl, rfl, rfl, rfl⟩⟩, a1c G0⟩
  (fun x => { tmps := #[.agg cs, .pointer (some ⟨A, 0, none⟩), .pointer (some ⟨R, 0, none⟩), .pointer (some ⟨L, 0, none⟩), .pointer (some ⟨P, 0, none⟩), .int .i64 (x.1 : Int), .int .u32 (x.2 : Int), .slice (some ⟨A, 0, none⟩) 16 16, .func (.func 213) #[] #[.pointer (some ⟨Bb, 0, none⟩)], .int .i64 (x.1 : Int), .int .u32 (x.2 : Int), undef, undef, undef, undef, undef, undef, undef, undef, undef, undef, undef, undef, undef, undef, undef, undef, undef, undef, undef, undef, undef], defers := [] }) ?assign ?body ?done ?stop
 case assign =>
  intro l x W K hK
  gi_wp2
  exact hK
 case body =>
  rintro l pre ⟨i, g⟩ W ⟨⟨la, pa, ls, ps, hL, hP, hR, hps, hls, heq⟩, hB⟩ hlen
  obtain ⟨n1, n2, n3, n4, n5, n6, n7, l1, l2, l3⟩ := ne.out
  have h8 : pre.length < 8 := by have := HQ.out; omega
  have kp : ∀ X : World, Below w.heap.size W X → (∀ k, k ≠ L → k ≠ P → X.heap[k]? = W.heap[k]?) → Kp w.heap.size (fun k => k = Bb ∨ k = A) W X := fun X hb hk => ⟨hb, fun k o hs ho _ => by
   rcases hs with rfl | rfl
   ·rw [hk _ n3 n4]; exact ho
   ·rw [hk _ n1 n2]; exact ho⟩
  have HEQ : Hid ((∀ p ∈ pre, p.1 < 8) → la = ((P0 pre).1.1 : Int) ∧ ls = (P0 pre).1.2 ∧ pa = ((P0 pre).2.1 : Int) ∧ ps = (P0 pre).2.2) := heq
  have HKP : Hid (∀ X : World, Below w.heap.size W X → (∀ k, k ≠ L → k ≠ P → X.heap[k]? = W.heap[k]?) → Kp w.heap.size (fun k => k = Bb ∨ k = A) W X) := kp
  clear heq kp fA fR fL fP fB aA
  have cP0 := hP.cell0
  have cP1 := hP.cell1
  have fP0 := hP.free 0
  have fP1 := hP.free 1
  by_cases hg : g = 0
  ·subst hg
   have hP1 := hP.set1 (.int .i64 ((ps : Int) + 1))
   have cQ0 := hP1.cell0
   have cQ1 := hP1.cell1
   have hL1 := hL.away (i := 1) (.int .i64 ((ps : Int) + 1)) n5
   have cL0 := hL1.cell0
   have cL1 := hL1.cell1
   have fL0 := hL1.free 0
   have fL1 := hL1.free 1
   have hR1 := hR.away (i := 1) (.int .i64 ((ps : Int) + 1)) (Ne.symm n7)
   have hst : ∀ ha : ∀ p ∈ pre ++ [(i, 0)], p.1 < 8, P0 (pre ++ [(i, 0)]) = (if 2 ≤ ps + 1 ∧ ls < ps + 1 then ((P0 pre).2.1, ps + 1) else (P0 pre).1, ((P0 pre).2.1, ps + 1)) := fun ha => by
    obtain ⟨-, e2, -, e4⟩ := HEQ.out (a3X ha).1
    rw [a9D, a2M, if_neg (by simp), e2, e4]
   have HST : Hid (∀ ha : ∀ p ∈ pre ++ [(i, 0)], p.1 < 8, P0 (pre ++ [(i, 0)]) = (if 2 ≤ ps + 1 ∧ ls < ps + 1 then ((P0 pre).2.1, ps + 1) else (P0 pre).1, ((P0 pre).2.1, ps + 1))) := hst
   clear hst
   by_cases ht : 2 ≤ ps + 1 ∧ ls < ps + 1
   ·have t1 : (2 : Int) ≤ (ps : Int) + 1 := by omega
    have t2 : (ls : Int) < (ps : Int) + 1 := by omega
    gi_wp2
    refine ⟨((KeepsOthers.setCell _ _ _).trans (KeepsOthers.setCell _ _ _)).trans (KeepsOthers.setCell _ _ _), HKP.out _ ((((Below.refl _ _).setCell (p := ⟨P, 1, none⟩) l2 _).setCell (p := ⟨L, 0, none⟩) l1 _).setCell (p := ⟨L, 1, none⟩) l1 _) (fun k h1 h2 => ?_), ⟨pa, pa, ps + 1, ps + 1, (hL1.set0 _).set1 _, (hP1.away _ (Ne.symm n5)).away _ (Ne.symm n5), (hR1.away _ (Ne.symm n6)).away _ (Ne.symm n6), by simp; omega, by simp; omega, fun ha => ?_⟩, ((hB.setCell (p := ⟨P, 1, none⟩) l2 _).setCell (p := ⟨L, 0, none⟩) l1 _).setCell (p := ⟨L, 1, none⟩) l1 _⟩
    ·rw [heap_setCell_other _ _ _ _ (show k ≠ L from h1), heap_setCell_other _ _ _ _ (show k ≠ L from h1), heap_setCell_other _ _ _ _ (show k ≠ P from h2)]
    ·obtain ⟨e1, e2, e3, e4⟩ := HEQ.out (a3X ha).1
     rw [HST.out ha, if_pos ht]
     exact ⟨e3, rfl, e3, rfl⟩
   ·have tt : ¬ (2 : Int) ≤ (ps : Int) + 1 ∨ ((2 : Int) ≤ (ps : Int) + 1 ∧ ¬ (ls : Int) < (ps : Int) + 1) := by omega
    have HT : Hid (¬ (2 ≤ ps + 1 ∧ ls < ps + 1)) := ht
    clear ht
    rcases tt with t1 | ⟨t1, t2⟩
    all_goals
     gi_wp2
     refine ⟨KeepsOthers.setCell _ _ _, HKP.out _ ((Below.refl _ _).setCell (p := ⟨P, 1, none⟩) l2 _) (fun k _ h2 => heap_setCell_other _ _ _ _ (show k ≠ P from h2)), ⟨la, pa, ls, ps + 1, hL1, hP1, hR1, by simp; omega, by simp; omega, fun ha => ?_⟩, hB.setCell (p := ⟨P, 1, none⟩) l2 _⟩
     obtain ⟨e1, e2, e3, e4⟩ := HEQ.out (a3X ha).1
     rw [HST.out ha, if_neg HT.out]
     exact ⟨e1, e2, e3, rfl⟩
  ·have hg' : ((g : Int) != 0) = true := by rw [bne_iff_ne]; omega
   gi_wp2
   refine ⟨(KeepsOthers.setCell _ _ _).trans (KeepsOthers.setCell _ _ _), HKP.out _ (((Below.refl _ _).setCell (p := ⟨P, 0, none⟩) l2 _).setCell (p := ⟨P, 1, none⟩) l2 _) (fun k _ h2 => ?_), ⟨la, wrap64 ((i : Int) + 1), ls, 0, (hL.away _ n5).away _ n5, (hP.set0 _).set1 _, (hR.away _ (Ne.symm n7)).away _ (Ne.symm n7), Nat.zero_le _, by simp; omega, fun ha => ?_⟩, (hB.setCell (p := ⟨P, 0, none⟩) l2 _).setCell (p := ⟨P, 1, none⟩) l2 _⟩
   ·rw [heap_setCell_other _ _ _ _ (show k ≠ P from h2), heap_setCell_other _ _ _ _ (show k ≠ P from h2)]
   ·obtain ⟨a1, a2⟩ := a3X ha
    obtain ⟨e1, e2, -, -⟩ := HEQ.out a1
    simp only at a2
    rw [a9D, a2M, if_pos hg]
    exact ⟨e1, e2, by unfold wrap64; simp only; omega, rfl⟩
 case done =>
  rintro D ys W hD rfl ⟨⟨la, pa, ls, ps, hL, hP, hR, -, -, heq⟩, hB⟩ hK
  obtain ⟨n1, n2, n3, n4, n5, n6, n7, l1, l2, l3⟩ := ne.out
  obtain ⟨e1, e2, -, -⟩ := heq (fun p hp => by have := (a6f hp).1; have := HQ.out; omega)
  rw [aP9 _ HQ.out] at e1 e2
  have cL0 := hL.cell0
  have cL1 := hL.cell1
  have cR0 := hR.cell0
  have cR1 := hR.cell1
  have fR0 := hR.free 0
  have fR1 := hR.free 1
  have HE : Hid (la = (((U7 0 (d8 xs) none).getD (0, 0)).1 : Int) ∧ ls = ((U7 0 (d8 xs) none).getD (0, 0)).2) := ⟨e1, e2⟩
  clear e1 e2 heq fA fR fL fP fB aA hP
  gi_wp2
  obtain ⟨X, hX⟩ : ∃ X, ((W.setCell ⟨R, 0, none⟩ (.int .i64 la)).setCell ⟨R, 1, none⟩ (.int .i64 (ls : Int))) = X := ⟨_, rfl⟩
  rw [hX]
  have k1 : KeepsOthers W X := by rw [← hX]; exact (KeepsOthers.setCell _ _ _).trans (KeepsOthers.setCell _ _ _)
  have k2 : I2 X R 183 (.int .i64 la) (.int .i64 (ls : Int)) := by rw [← hX]; exact (hR.set0 _).set1 _
  have k4 : Below w.heap.size w X := by rw [← hX]; exact (hB.setCell (p := ⟨R, 0, none⟩) l3 _).setCell (p := ⟨R, 1, none⟩) l3 _
  clear hX
  have hK' := k1.same D _ hK rfl
  refine ⟨by simp, .inl ⟨_, _, rfl, run_takeDeferred hK', ?_⟩⟩
  have hr : ∀ r, some D = some r → ∃ o : Obj, X.heap[r]? = some o ∧ o.isCells = false := fun r e => by cases e; exact ⟨_, hK', rfl⟩
  refine ⟨_, results_cell_row rfl _ _ R 183 _ (0, 0) _ rfl (k2.keep (grownBy_putObj' _ D (.deferred none)) hr) Tryz.underlying183 rfl (by kernel_rfl), ?_, ?_⟩
  ·rw [HE.out.1, HE.out.2]
  ·exact a0t (k4.trans (belowK_b (w := w) (Nat.le_refl _) _ D _ _ (by omega) hK' rfl rfl))
 case stop =>
  rintro D c pre W _ _ h _
  exact h.elim
theorem a9n : ∀ (k : Nat) (xs : List UInt8), d8 (xs.take (2 * k)) = (d8 xs).take k
 | 0, xs => by simp [d8]
 | k + 1, [] => by simp [d8]
 | k + 1, [_] => by simp [d8, show 2 * (k + 1) = 2 * k + 1 + 1 by omega]
 | k + 1, a :: b :: r => by
  rw [show 2 * (k + 1) = 2 * k + 1 + 1 by omega, List.take_succ_cons, List.take_succ_cons, d8, d8, List.take_succ_cons, a9n k r]
theorem a9l : ∀ (k : Nat) (xs : List UInt8), d8 (xs.drop (2 * k)) = (d8 xs).drop k
 | 0, xs => by simp
 | k + 1, [] => by simp [d8]
 | k + 1, [_] => by simp [d8, show 2 * (k + 1) = 2 * k + 1 + 1 by omega]
 | k + 1, a :: b :: r => by
  rw [show 2 * (k + 1) = 2 * k + 1 + 1 by omega, List.drop_succ_cons, List.drop_succ_cons, d8, List.drop_succ_cons, a9l k r]
theorem a73 {w : World} {g t : Nat} {xs : List UInt8} (h : AAt w g t xs) (i n : Nat) (hi : i + n ≤ xs.length) : Cells w (some ⟨g, i, none⟩) ((xs.drop i).take n) := by
 refine ⟨fun e => (by cases e), fun ad e k hk => ?_⟩
 cases e
 rw [Addr.add_lit]
 have hk' : k < n := by rw [List.length_take] at hk; omega
 have := h.cell (i := i + k) (by omega)
 rw [this]
 simp [bv]
abbrev a1E (wb : World) (B : Nat) (u v : Value) (W : World) : Prop := W.cell? ⟨B, 0, none⟩ = some u ∧ W.cell? ⟨B, 1, none⟩ = some v ∧ wb.grownBy W none
theorem a7D {wb W W' : World} {B : Nat} {u v : Value} (K : W.grownBy W' none) (h : a1E wb B u v W) : a1E wb B u v W' := ⟨K.cell h.1 (by simp), K.cell h.2.1 (by simp), d3 h.2.2 K⟩
theorem ak4 {wb W : World} {B : Nat} {u v : Value} (h : a1E wb B u v W) : a1E wb B u v W.drew := a7D (f9 W 1 none) h
theorem aN4 (xs : List UInt8) (w : World) (h16 : xs.length = 16) (T : j2 w) :
  Calls Tryz.prog 166 #[.agg (xs.map bv).toArray] w fun e w' => e = .returned (str (a01 (d8 xs))) ∧ w.grownBy w' none := by
 have HT : Hid (j2 w) := T
 have CL : Hid (∀ W : World, Calls Tryz.prog 183 #[.agg (xs.map bv).toArray] W fun e w' => e = .returned (.agg #[.int .i64 (((U7 0 (d8 xs) none).getD (0, 0)).1 : Int), .int .i64 (((U7 0 (d8 xs) none).getD (0, 0)).2 : Int)]) ∧ W.grownBy w' none) := fun W => aA8 xs W h16
 have HZ : Hid ((Tryz.prog.info? 41).map (·.size) = some (xs.map bv).toArray.size) := by
  show _ = _
  rw [S2, h16]; exact T5
 have A0 := AAt.alloc w 41 xs
 have G0 := World.grownBy_alloc w (.cells (xs.map bv).toArray 41) none
 have hh := a2p xs
 clear T
 go_enter Tryz.func166, Tryz.ntmps166
 go_wp2_with (refine wpList_load_row rfl 41 (.tmp 1) rfl w.heap.size rfl 41 (xs.map bv).toArray (0, 0) _ A0 Tryz.underlying41 rfl HZ.out ?_)
 refine (CL.out _).mono ?_
 rintro e w1 ⟨rfl, K1⟩
 have A1 := A0.grown K1 (by simp)
 have G1 := d3 G0 K1
 clear A0 G0 K1 CL
 have H16 : Hid (xs.length = 16) := h16
 have HH : Hid ((d8 xs).length = 8) := by show _ = 8; omega
 clear h16 hh HZ
 obtain ⟨A, hA⟩ : ∃ A, w.heap.size = A := ⟨_, rfl⟩
 rw [hA] at A1
 rw [show (Value.pointer (some ⟨w.heap.size, 0, none⟩)) = .pointer (some ⟨A, 0, none⟩) by rw [hA]]
 clear hA
 cases hb : U7 0 (d8 xs) none with
 | none =>
  have HP : Hid (a01 (d8 xs) = o7 58 ((d8 xs).map j6)) := by show _ = _; rw [a01, hb]
  dsimp only [Option.getD_none]
  clear hb
  have A2 := A1.grown (World.grownBy_alloc w1 (.cells #[.int .i64 0, .int .i64 0] 183) none) (by simp)
  have G2 := d3 G1 (World.grownBy_alloc w1 (.cells #[.int .i64 0, .int .i64 0] 183) none)
  have CP := fun W h t => a6n (some ⟨A, 0, none⟩) 16 xs W h (by have := H16.out; omega) t
  rw [H16.out] at CP
  rw [show ((0 : Nat) : Int) = 0 from rfl]
  go_wp2_with (go_at_call 184; refine (CP _ (a71 A2) (HT.out.grown G2)).mono ?_; rintro e w2 ⟨rfl, K2⟩)
  go_ret
  exact ⟨by rw [HP.out]; rfl, d3 G2 K2⟩
 | some p =>
  obtain ⟨h1, h2, -⟩ := a7A (d8 xs) p hb
  obtain ⟨i, n⟩ := p
  simp only at h1 h2
  have h8 : i + n ≤ 8 := by have := HH.out; omega
  have HP : Hid (a01 (d8 xs) = o7 58 (((d8 xs).take i).map j6) ++ (58 :: 58 :: o7 58 (((d8 xs).drop (i + n)).map j6))) := by show _ = _; rw [a01, hb]
  dsimp only [Option.getD_some]
  clear hb h2
  have z0 : ((n : Int) == 0) = false := by rw [beq_eq_false_iff_ne]; omega
  have A2 := A1.grown (World.grownBy_alloc w1 (.cells #[.int .i64 (i : Int), .int .i64 (n : Int)] 183) none) (by simp)
  have G2 := d3 G1 (World.grownBy_alloc w1 (.cells #[.int .i64 (i : Int), .int .i64 (n : Int)] 183) none)
  have C2 := o4 w1 183 [.int .i64 (i : Int), .int .i64 (n : Int)]
  have c0 : (w1.alloc (.cells #[.int .i64 (i : Int), .int .i64 (n : Int)] 183)).cell? ⟨w1.heap.size, 0, none⟩ = some (.int .i64 (i : Int)) := C2.2 _ rfl 0 (by simp)
  have c1 : (w1.alloc (.cells #[.int .i64 (i : Int), .int .i64 (n : Int)] 183)).cell? ⟨w1.heap.size, 1, none⟩ = some (.int .i64 (n : Int)) := C2.2 _ rfl 1 (by simp)
  have hle1 : 2 * (i : Int) ≤ 16 := by omega
  have hle2 : 2 * ((i : Int) + (n : Int)) ≤ 16 := by omega
  go_wp2_with fail
  clear C2 A1 G1
  generalize hwb : w1.alloc (.cells #[.int .i64 (i : Int), .int .i64 (n : Int)] 183) = wb at *
  generalize w1.heap.size = B at *
  clear hwb
  obtain ⟨k, hk⟩ : ∃ k, 2 * i = k := ⟨_, rfl⟩
  obtain ⟨q, hq⟩ : ∃ q, i + n = q := ⟨_, rfl⟩
  obtain ⟨r, hr⟩ : ∃ r, 2 * q = r := ⟨_, rfl⟩
  have hw1 : IntKind.i64.wrap (2 * (i : Int)) = (k : Int) := by rw [IntKind.wrap_i64]; omega
  have hw2 : IntKind.i64.wrap ((i : Int) + (n : Int)) = (q : Int) := by rw [IntKind.wrap_i64]; omega
  have hw3 : IntKind.i64.wrap (2 * (q : Int)) = (r : Int) := by rw [IntKind.wrap_i64]; omega
  have k0 : (0 : Int) ≤ (k : Int) := by omega
  have k16 : (k : Int) ≤ 16 := by omega
  have r0 : (0 : Int) ≤ (r : Int) := by omega
  have r16 : (r : Int) ≤ 16 := by omega
  have HK : Hid (2 * i = k ∧ 2 * (i + n) = r) := ⟨hk, by omega⟩
  clear hk hq hr hle1 hle2
  have B0 : a1E wb B (.int .i64 (i : Int)) (.int .i64 (n : Int)) wb.drew := ak4 ⟨c0, c1, World.grownBy.refl _ _⟩
  have e1 : (xs.drop 0).take k = xs.take (2 * i) := by rw [List.drop_zero, HK.out.1]
  have e2 : (xs.drop r).take (16 - r) = xs.drop (2 * (i + n)) := by rw [HK.out.2, List.take_of_length_le (by rw [List.length_drop]; have := H16.out; omega)]
  have l1 : (xs.take (2 * i)).length = k := by rw [List.length_take]; have := H16.out; have := HK.out.1; omega
  have l2 : (xs.drop (2 * (i + n))).length = 16 - r := by rw [List.length_drop]; have := H16.out; have := HK.out.2; omega
  have CP1 : Hid (∀ W : World, wb.grownBy W none → Calls Tryz.prog 184 #[.slice (some ⟨A, 0, none⟩) k 16] W fun e w' => e = .returned (str (o7 58 (((d8 xs).take i).map j6))) ∧ W.grownBy w' none) := fun W G => by
   have c := a73 (A2.grown G (by simp)) 0 k (by have := H16.out; omega)
   rw [e1] at c
   have h := a6n (some ⟨A, 0, none⟩) 16 (xs.take (2 * i)) W c (by omega) (HT.out.grown (d3 G2 G))
   rw [l1, a9n] at h
   exact h
  have CP2 : Hid (∀ W : World, wb.grownBy W none → Calls Tryz.prog 184 #[.slice (some (if 16 = r then ⟨A, 0, none⟩ else ⟨A, r, none⟩)) (16 - r) (16 - r)] W fun e w' => e = .returned (str (o7 58 (((d8 xs).drop (i + n)).map j6))) ∧ W.grownBy w' none) := fun W G => by
   have c : Cells W (some (if 16 = r then ⟨A, 0, none⟩ else ⟨A, r, none⟩)) (xs.drop (2 * (i + n))) := by
    by_cases hr : 16 = r
    ·have hnil : xs.drop (2 * (i + n)) = [] := List.eq_nil_of_length_eq_zero (by omega)
     rw [hnil]
     exact ⟨fun _ => rfl, fun ad _ j hj => absurd hj (by simp)⟩
    ·rw [if_neg hr]
     have c := a73 (A2.grown G (by simp)) r (16 - r) (by have := H16.out; omega)
     rw [e2] at c
     exact c
   have h := a6n (some (if 16 = r then ⟨A, 0, none⟩ else ⟨A, r, none⟩)) (16 - r) (xs.drop (2 * (i + n))) W c (by omega) (HT.out.grown (d3 G2 G))
   rw [l2, a9l] at h
   exact h
  have HG2 : Hid (w.grownBy wb none) := G2
  clear e1 e2 l1 l2 A2 G2
  have pl : ∀ zs : List Nat, ∀ l ∈ zs.map j6, l.length ≤ 4 := fun zs l hl => by
   obtain ⟨g, -, rfl⟩ := List.mem_map.1 hl
   exact (a4K g).2.2.1
  have ht1 : (o7 58 (((d8 xs).take i).map j6)).length ≤ 40 := by
   have := a2b 58 _ 4 (pl ((d8 xs).take i))
   rw [List.length_map, List.length_take] at this
   have := HH.out
   omega
  have ht2 : (o7 58 (((d8 xs).drop (i + n)).map j6)).length ≤ 40 := by
   have := a2b 58 _ 4 (pl ((d8 xs).drop (i + n)))
   rw [List.length_map, List.length_drop] at this
   have := HH.out
   omega
  clear pl
  generalize o7 58 (((d8 xs).take i).map j6) = t1 at *
  generalize o7 58 (((d8 xs).drop (i + n)).map j6) = t2 at *
  have hbig1 : ¬ 9223372036854775807 < t1.length + 2 := by omega
  have hbig2 : ¬ 9223372036854775807 < t1.length + 2 + t2.length := by omega
  go_region_held3 (fun W => W.cell? ⟨B, 0, none⟩ = some (.int .i64 (i : Int)) ∧ W.cell? ⟨B, 1, none⟩ = some (.int .i64 (n : Int)) ∧ wb.grownBy W none) (first | exact a7D K (by assumption) | (with_reducible assumption) | exact B0) (first | (go_at_call_of 184 (Value.slice (some ⟨A, 0, none⟩) k 16); refine (CP1.out _ (by exact (by assumption : a1E wb B (.int .i64 (i : Int)) (.int .i64 (n : Int)) _).2.2)).mono ?_; rintro e w' ⟨rfl, K⟩; dsimp only) | (go_at_call 184; refine (CP2.out _ (by exact (by assumption : a1E wb B (.int .i64 (i : Int)) (.int .i64 (n : Int)) _).2.2)).mono ?_; rintro e w' ⟨rfl, K⟩; dsimp only))
  have KF := (by assumption : a1E wb B (.int .i64 (i : Int)) (.int .i64 (n : Int)) w')
  have ec : ((⟨t1.toArray⟩ : ByteArray) ++ (⟨#[58, 58]⟩ : ByteArray) ++ (⟨t2.toArray⟩ : ByteArray)) = ⟨(t1 ++ 58 :: 58 :: t2).toArray⟩ := by
   rw [show (⟨#[58, 58]⟩ : ByteArray) = ⟨([58, 58] : List UInt8).toArray⟩ from rfl, cat, cat, List.append_assoc]
   rfl
  have HEC : Hid (((⟨t1.toArray⟩ : ByteArray) ++ (⟨#[58, 58]⟩ : ByteArray) ++ (⟨t2.toArray⟩ : ByteArray)) = ⟨(t1 ++ 58 :: 58 :: t2).toArray⟩) := ec
  clear ec
  go_wp2
  all_goals
   go_ret
   refine ⟨?_, d3 HG2.out KF.2.2⟩
   rw [HP.out]
   show Ending.returned (.string ((⟨t1.toArray⟩ : ByteArray) ++ (⟨#[58, 58]⟩ : ByteArray) ++ (⟨t2.toArray⟩ : ByteArray))) = _
   rw [HEC.out]
theorem aR8 (x : Ng) (w : World) (T : j2 w) : Calls Tryz.prog 138 #[.agg x.cells.toArray] w fun e w' => e = .returned (str (I0 x)) ∧ w.grownBy w' none := by
 have HT : Hid (j2 w) := T
 clear T
 have HBX := s8 x
 have h3 := World.grownBy_alloc w (.cells x.cells.toArray 43) none
 have V := NB.alloc w x
 have HAL : Hid ((k8 x).length = 16) := a06 x
 obtain ⟨X, hX⟩ : ∃ X, x.cells.toArray = X := ⟨_, rfl⟩
 rw [hX] at HBX ⊢
 go_enter Tryz.func138, Tryz.ntmps138
 go_upto_region 1 with fail
 rw [← hX] at *
 generalize w.alloc (.cells x.cells.toArray 43) = w1 at *
 generalize w.heap.size = B at *
 have c5 := V.of
 have HAR : Hid (w1.rangeAt B 7 ((k8 x).map bv)) := V.addr
 have HSZ : Hid ((Tryz.prog.info? 41).map (·.size) = some ((k8 x).map bv).length) := a4N x
 clear HBX hX X V
 by_cases h : x.of = 3
 ·have t3 : (x.of == 3) = true := by simpa using h
  have HE : Hid (I0 x = a01 (d8 (k8 x))) := by unfold Hid I0; rw [if_pos h]
  have CP := aN4 (k8 x) w1 HAL.out (HT.out.grown h3)
  generalize k8 x = al at *
  clear h
  go_wp2_with (refine wpList_load_mid rfl 41 (.tmp 7) rfl B 7 rfl (al.map bv) _ HAR.out Tryz.underlying41 rfl HSZ.out ?_)
  refine CP.mono ?_
  rintro e w2 ⟨rfl, K2⟩
  go_wp2
  go_ret
  exact ⟨by rw [HE.out]; rfl, d3 h3 K2⟩
 ·have t3 : (x.of == 3) = false := by simpa using h
  have HE : Hid (I0 x = T3 ((k8 x).take 4)) := by unfold Hid I0; rw [if_neg h]
  clear h
  go_upto_region 4 with fail
  have V2 := VAt.alloc w1 114 #[.int .u8 0, .int .u8 0, .int .u8 0, .int .u8 0]
  have K2 := World.grownBy_alloc w1 (.cells #[.int .u8 0, .int .u8 0, .int .u8 0, .int .u8 0] 114) none
  generalize w1.alloc (.cells #[.int .u8 0, .int .u8 0, .int .u8 0, .int .u8 0] 114) = w2 at *
  have HGW : Hid (w.grownBy w2 none ∧ w.heap.size ≤ w1.heap.size) := ⟨d3 h3 K2, h3.size⟩
  have HR2 : Hid (w2.rangeAt B 7 ((k8 x).map bv)) := fun j v hv => K2.cell (HAR.out j v hv) (by simp)
  generalize w1.heap.size = D at *
  obtain ⟨ys, hys⟩ : ∃ ys, (k8 x).take 4 = ys := ⟨_, rfl⟩
  have hy4 : ys.length = 4 := by rw [← hys, List.length_take, HAL.out]; rfl
  rw [hys] at HE
  have HR6 : Hid (w2.heap[D]? = some (.cells (List.replicate 4 (.int .u8 0)).toArray 114 (0, 0))) := V2
  have HC6 : Hid (∀ j v, (ys.map bv)[j]? = some v → w2.cell? ((⟨B, 7, none⟩ : Addr).add j) = some v) := fun j v hj => by
   rw [Addr.add_mid]
   refine HR2.out j v ?_
   rw [← hys, List.map_take, List.getElem?_take] at hj
   split at hj
   ·exact hj
   ·cases hj
  have HB6 : Hid (Below D w2 w2.drew) := (Below.refl D w2).grown (f9 w2 1 none) (Nat.le_of_lt V2.lt) (by simp)
  have hl4 : (ys.map bv).length = 4 := by rw [List.length_map]; exact hy4
  have hsz5 : (Tryz.prog.info? 5).map (·.size) = some 1 := by kernel_rfl
  clear K2 V2 h3
  go_region_law (refine step_copy_splice rfl (.tmp 10) (.tmp 12) 115 115 rfl 5 Tryz.underlying115 hsz5 (some ⟨D, 0, none⟩) (some ⟨B, 7, none⟩) 4 4 16 16 (by first | rfl | simp [Act.eval]) (by first | rfl | simp [Act.eval]) D 0 (List.replicate 4 (.int .u8 0)) 114 (by exact HR6.out) (ys.map bv) (by rw [hl4]; rfl) (fun _ => ⟨rfl, _, rfl, by exact HC6.out⟩) (by rw [hl4]; simp) (a0p ys) D w2 (by exact HB6.out) (Nat.le_refl _) ?_; intro w7 hg7 hb7)
  have RA7 : VAt w7 D 114 (ys.map bv).toArray := by
   unfold VAt
   rw [hg7.out, aV3 ys hy4]
  have G7 : w.grownBy w7 none := ⟨hb7.os.trans HGW.out.1.os, hb7.tape.trans HGW.out.1.tape, hb7.output.trans HGW.out.1.output, Nat.le_trans HGW.out.1.size hb7.size, fun k hk hne => (hb7.block k (by have := HGW.out.2; omega)).trans (HGW.out.1.block k hk hne)⟩
  have CP := aN2 ys w7 hy4 (HT.out.grown G7)
  have HZ4 : Hid ((Tryz.prog.info? 114).map (·.size) = some (ys.map bv).toArray.size) := by unfold Hid; rw [S2, hy4]; exact a3L
  clear hg7 hb7 HR6 HC6 HB6 hl4 hsz5
  go_wp2_with (refine wpList_load_row rfl 114 (.tmp 3) rfl D rfl 114 (ys.map bv).toArray (0, 0) _ RA7 Tryz.underlying114 rfl HZ4.out ?_)
  refine CP.mono ?_
  rintro e w8 ⟨rfl, K8⟩
  go_wp2
  go_ret
  exact ⟨by rw [HE.out]; rfl, d3 G7 K8⟩

end Go.Proofs.YtklipelnjgpnjaaGreatDoor
