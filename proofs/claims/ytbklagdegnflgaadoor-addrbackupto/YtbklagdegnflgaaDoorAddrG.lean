/-
  strconv.AppendUint to base sixteen.
-/
import Derived.Test.YtbklagdegnflgaaDoorTab6
import Derived.Test.YtbklagdegnflgaaDoorAddrQ
namespace Go.Proofs.YtbklagdegnflgaaDoor
open Go.RowKit
set_option maxRecDepth 100000

/-- The digits of a number to base sixteen, none needless; f: how many at most, less one. -/
def hexM : Nat → Nat → List UInt8
  | 0, n => [hexD (n % 16)]
  | f + 1, n => if n < 16 then [hexD n] else hexM f (n / 16) ++ [hexD (n % 16)]

theorem hexD_zero : hexD 0 = 48 := by decide
theorem hexD_ne {n : Nat} (h : n < 16) (h0 : n ≠ 0) : hexD n ≠ 48 := fun e => h0 ((hexD_dig h).2.2.2 e)

theorem hexM_short (n : Nat) (h : n < 65536) : hexM 3 n = shortV n := by
  unfold shortV fullV
  simp only [hexM]
  by_cases h1 : n < 16
  · rw [if_pos h1, show n / 4096 % 16 = 0 by omega, show n / 256 % 16 = 0 by omega, show n / 16 % 16 = 0 by omega, show n % 16 = n by omega, hexD_zero]
    simp [stripV]
  · rw [if_neg h1]
    by_cases h2 : n / 16 < 16
    · rw [if_pos h2, show n / 4096 % 16 = 0 by omega, show n / 256 % 16 = 0 by omega, show n / 16 % 16 = n / 16 by omega, hexD_zero]
      have := hexD_ne h2 (by omega)
      simp [stripV, this]
    · rw [if_neg h2]
      by_cases h3 : n / 16 / 16 < 16
      · rw [if_pos h3, show n / 4096 % 16 = 0 by omega, show n / 256 % 16 = n / 16 / 16 by omega, hexD_zero]
        have := hexD_ne h3 (by omega)
        simp [stripV, this]
      · rw [if_neg h3, show n / 4096 % 16 = n / 16 / 16 / 16 % 16 by omega, show n / 256 % 16 = n / 16 / 16 % 16 by omega]
        have := hexD_ne (n := n / 16 / 16 / 16 % 16) (by omega) (by omega)
        simp [stripV, this]

theorem hexM_step (f n : Nat) (h : 16 ≤ n) : hexM (f + 1) n = hexM f (n / 16) ++ [hexD (n % 16)] := by rw [hexM, if_neg (by omega)]
theorem hexM_last (f n : Nat) (h : n < 16) : hexM f n = [hexD n] := by
  cases f with
  | zero => rw [hexM, Nat.mod_eq_of_lt h]
  | succ f => rw [hexM, if_pos h]

/-- The thirty-six digits. -/
def hexT36 : ByteArray := ⟨#[48, 49, 50, 51, 52, 53, 54, 55, 56, 57, 97, 98, 99, 100, 101, 102, 103, 104, 105, 106, 107, 108, 109, 110, 111, 112, 113, 114, 115, 116, 117, 118, 119, 120, 121, 122]⟩
theorem hexT36_key : ∀ j : Fin 16, hexT36[j.val]'(Nat.lt_of_lt_of_le j.isLt (by decide)) = hexD j.val := by decide +kernel
theorem hexT36_at (i : Nat) (h : i < hexT36.size) (h' : i < 16) : hexT36[i] = hexD i := hexT36_key ⟨i, h'⟩

theorem u64_and15 (v : Nat) (h : v < 65536) : bits .and .u64 (v : Int) 15 = ((v % 16 : Nat) : Int) := by
  have e : bits .and .u64 (v : Int) ((15 : Nat) : Int) = _ := u64_and_nat v 15 (by omega) (by omega)
  rw [show (15 : Int) = ((15 : Nat) : Int) from rfl, e]
  congr 1
  exact Nat.and_two_pow_sub_one_eq_mod v 4

theorem size102 : (Tryd.prog.info? 102).map (·.size) = some 65 := by kernel_rfl

set_option maxHeartbeats 1000000 in
theorem tz_any (w : World) (T : Tab w) :
    Calls Tryd.prog 67 #[.int .u64 16] w fun e w' => e = .returned (.int .i64 4) ∧ w = w' := by
  have h := T.2.1
  clear T
  have e1 : IntKind.u64.wrap (-16) = 18446744073709551600 := by decide +kernel
  have e2 : bits .and .u64 16 18446744073709551600 = 16 := by decide +kernel
  have e3 : IntKind.u64.wrap (16 * 285870213051353865) = 4573923408821661840 := by decide +kernel
  have C : Calls Tryd.prog 75 #[.int .u64 16] w fun e w' => e = .returned (.int .i64 4) ∧ w = w' := by
    go_enter Tryd.func75, Tryd.ntmps75
    go_wp2
    go_ret
    exact ⟨rfl, rfl⟩
  go_enter Tryd.func67, Tryd.ntmps67
  go_wp2_with fail
  refine C.mono ?_
  rintro e w' ⟨rfl, rfl⟩
  go_wp2
  go_ret
  exact ⟨rfl, rfl⟩

/-- What the array holds: noughts, then digits. -/
def arr65 (ds : List UInt8) : List UInt8 := List.replicate (65 - ds.length) 0 ++ ds
theorem arr65_set (ds : List UInt8) (u : UInt8) (h : ds.length < 65) : (arr65 ds).set (65 - ds.length - 1) u = arr65 (u :: ds) := by
  unfold arr65
  rw [List.set_append_left _ _ (by rw [List.length_replicate]; omega)]
  rw [show 65 - ds.length = (65 - (ds.length + 1)) + 1 by omega, List.replicate_succ', Nat.add_sub_cancel, List.set_append_right _ _ (by rw [List.length_replicate]; exact Nat.le_refl _), List.length_replicate, Nat.sub_self, List.set_cons_zero, List.length_cons, List.append_assoc]
  rfl
theorem arr65_len (ds : List UInt8) (h : ds.length ≤ 65) : (arr65 ds).length = 65 := by unfold arr65; rw [List.length_append, List.length_replicate]; omega
theorem arr65_cv {w : World} {g t : Nat} {ds : List UInt8} (A : AAt w g t (arr65 ds)) (h : ds.length ≤ 65) : CV w (some ⟨g, 65 - ds.length, none⟩) (ds.map bv) := by
  refine ⟨fun e => (by cases e), fun ad e i hi => ?_⟩
  cases e
  rw [List.length_map] at hi
  rw [Addr.add_lit]
  have := A.cell (i := 65 - ds.length + i) (by rw [arr65_len ds h]; omega)
  rw [this]
  simp only [arr65, List.getElem_map]
  rw [List.getElem_append_right (by rw [List.length_replicate]; omega)]
  simp only [List.length_replicate, Nat.add_sub_cancel_left]
  rfl

set_option maxRecDepth 100000 in
set_option maxHeartbeats 4000000 in
theorem format_hex (B u : Nat) (v : Value) (xs : List UInt8) (w : World) (hu : u < 65536) (O : Owns w B v xs) (hB : B ≤ w.heap.size) (hl : xs.length + 20 ≤ 140737488355328) (T : Tab w) :
    Calls Tryd.prog 57 #[v, .int .u64 u, .int .i64 16, .bool false, .bool true] w fun e w' => ∃ v', e = .returned (.tuple #[v', .string ⟨#[]⟩]) ∧ Owns w' B v' (xs ++ shortV u) ∧ Ap B w w' := by
  obtain ⟨i0, hi, hz0, hz1, hz2⟩ := info_parts info5
  have HT : Hid (Tab w) := T
  have HO : Hid (Owns w B v xs) := O
  have HU : Hid (hexM 3 u = shortV u) := hexM_short u hu
  clear T O
  have e0 : (bits .and .i64 16 15) = 0 := by decide +kernel
  go_enter Tryd.func57, Tryd.ntmps57
  go_upto_region 4 with fail
  have A0 := AAt.alloc w 102 (List.replicate 65 0)
  have G0 := World.grownBy_alloc w (.cells ((List.replicate 65 (0 : UInt8)).map bv).toArray 102) none
  have hz65 : Tryd.zeroCells102 = ((List.replicate 65 (0 : UInt8)).map bv).toArray := by kernel_rfl
  rw [← hz65] at A0 G0
  have A1 : AAt (w.alloc (.cells Tryd.zeroCells102 102)) w.heap.size 102 (arr65 []) := A0
  obtain ⟨g, hg, hgw⟩ : ∃ g, w.heap.size = g ∧ w.heap.size ≤ g := ⟨_, rfl, Nat.le_refl _⟩
  rw [hg] at A1
  rw [show (Value.pointer (some ⟨w.heap.size, 0, none⟩)) = .pointer (some ⟨g, 0, none⟩) by rw [hg]]
  clear hz65 A0 hg
  generalize w.alloc (.cells Tryd.zeroCells102 102) = w1 at *
  go_wp2_with (first | (go_at_call 67; refine (tz_any _ (HT.out.grown G0)).mono ?_; rintro e w' ⟨rfl, rfl⟩) | go_in)
  go_loopw [1, 13] (fun x i wr => ∃ (k y : Nat) (ds : List UInt8), k ≤ 3 ∧ Hid (ds.length = k) ∧ x = .int .u64 y ∧ i = .int .i64 ((65 - k : Nat) : Int) ∧ y < 65536 / 16 ^ k ∧ Hid (hexM (3 - k) y ++ ds = shortV u) ∧ AAt wr g 102 (arr65 ds) ∧ w.grownBy wr none) (fun x _ _ => (intOf x).toNat)
  case atStart => exact ⟨0, u, [], Nat.zero_le _, rfl, rfl, rfl, by simpa using hu, by rw [List.append_nil]; exact HU, A1, G0⟩
  case round =>
    clear A1 G0
    obtain ⟨k, y, ds, hk, HK, rfl, rfl, hy, HD, A, G⟩ := hrel
    have hy6 : y < 65536 := Nat.lt_of_lt_of_le hy (Nat.div_le_self _ _)
    have hb := u64_and15 y hy6
    have HL : Hid ((arr65 ds).length = 65) := arr65_len ds (by have := HK.out; omega)
    have hfr := A.free (65 - k - 1)
    have hix : wrap64 (((65 - k : Nat) : Int) - 1) = ((65 - k - 1 : Nat) : Int) := by unfold wrap64; omega
    have hc : wr.cell? ⟨g, 65 - k - 1, none⟩ = some (.int .u8 (((arr65 ds)[65 - k - 1]'(by have := HL.out; omega)).toNat : Int)) := A.cell (i := 65 - k - 1) (by have := HL.out; omega)
    generalize ((arr65 ds)[65 - k - 1]'(by have := HL.out; omega)).toNat = old at hc
    have hS : ∀ d : UInt8, AAt (wr.setCell ⟨g, 65 - k - 1, none⟩ (.int .u8 (d.toNat : Int))) g 102 (arr65 (d :: ds)) := fun d => by
      have := A.set (65 - k - 1) d.toNat d.toNat_lt
      rw [UInt8.ofNat_toNat, ← HK.out, arr65_set ds d (by have := HK.out; omega)] at this
      rw [← HK.out]
      exact this
    have HS : Hid (∀ d : UInt8, AAt (wr.setCell ⟨g, 65 - k - 1, none⟩ (.int .u8 (d.toNat : Int))) g 102 (arr65 (d :: ds))) := hS
    have hik : 65 - k - 1 < 65 := by omega
    clear hS
    by_cases hge : 16 ≤ y
    · have hge' : (16 : Int) ≤ (y : Int) := by omega
      have hk3 : k < 3 := by
        rcases Nat.lt_or_ge k 3 with h | h
        · exact h
        · obtain rfl : k = 3 := by omega
          simp at hy
          omega
      have hm : y % 16 < 16 := by omega
      have e1 : (⟨#[48, 49, 50, 51, 52, 53, 54, 55, 56, 57, 97, 98, 99, 100, 101, 102, 103, 104, 105, 106, 107, 108, 109, 110, 111, 112, 113, 114, 115, 116, 117, 118, 119, 120, 121, 122]⟩ : ByteArray)[y % 16]'(by show _ < 36; omega) = hexD (y % 16) := hexT36_at _ _ hm
      have HD2 : Hid (hexM (3 - (k + 1)) (y / 16) ++ (hexD (y % 16) :: ds) = shortV u) := by
        show _ = _
        rw [← HD.out, show 3 - k = 3 - (k + 1) + 1 by omega, hexM_step _ _ hge, List.append_assoc]
        rfl
      have A2 := HS.out (hexD (y % 16))
      have G2 := grown_setCell G ⟨g, 65 - k - 1, none⟩ (.int .u8 ((hexD (y % 16)).toNat : Int)) (.inr hgw)
      have hy2 : y / 16 < 65536 / 16 ^ (k + 1) := by
        rw [Nat.pow_succ, ← Nat.div_div_eq_div_mul]
        have : k = 0 ∨ k = 1 ∨ k = 2 := by omega
        rcases this with rfl | rfl | rfl <;> simp at hy ⊢ <;> omega
      clear HS HD A G
      go_wp2
      go_roundw
      case rel => exact ⟨k + 1, y / 16, hexD (y % 16) :: ds, by omega, (by have := HK.out; simp; omega : (hexD (y % 16) :: ds).length = k + 1), by go_num, by rw [show ((65 - (k + 1) : Nat) : Int) = ((65 - k : Nat) : Int) - 1 by omega], hy2, HD2, A2, G2⟩
      case measure => simp [intOf]; omega
    · have hge' : ¬ (16 : Int) ≤ (y : Int) := by omega
      have hy16 : y < 16 := by omega
      have e1 : (⟨#[48, 49, 50, 51, 52, 53, 54, 55, 56, 57, 97, 98, 99, 100, 101, 102, 103, 104, 105, 106, 107, 108, 109, 110, 111, 112, 113, 114, 115, 116, 117, 118, 119, 120, 121, 122]⟩ : ByteArray)[y]'(by show _ < 36; omega) = hexD y := hexT36_at _ _ hy16
      have HD2 : Hid (hexD y :: ds = shortV u) := by
        show _ = _
        rw [← HD.out, hexM_last _ _ hy16]
        rfl
      have A2 := HS.out (hexD y)
      have G2 := grown_setCell G ⟨g, 65 - k - 1, none⟩ (.int .u8 ((hexD y).toNat : Int)) (.inr hgw)
      have CVs := arr65_cv A2 (by have := HK.out; simp; omega)
      have HC : Hid (CV (wr.setCell ⟨g, 65 - k - 1, none⟩ (.int .u8 ((hexD y).toNat : Int))) (some ⟨g, 65 - (k + 1), none⟩) ((shortV u).map bv)) := by
        rw [HD2.out] at CVs
        rw [← HD2.out] at CVs
        rw [← HD2.out]
        have e : (hexD y :: ds).length = k + 1 := by have := HK.out; simp; omega
        rw [e] at CVs
        exact CVs
      have HZ : Hid ((shortV u).length = k + 1) := by
        show _ = _
        rw [← HD2.out]
        have := HK.out
        simp
        omega
      have hBw : B ≤ wr.heap.size := Nat.le_trans hB G.size
      clear HS HD A G CVs A2 HD2 HK HL HU
      have hk4 : k = 0 ∨ k = 1 ∨ k = 2 ∨ k = 3 := by omega
      rcases hk4 with rfl | rfl | rfl | rfl
      · go_wp2_with (at_builtin; refine wpList_append_cv rfl (.tmp 95) (.tmp 97) 34 rfl 5 i0 (.int .u8 0) 1 1 Tryd.underlying34 hi hz0 hz1 hz2 rfl (by decide) B v xs.length (xs.map bv) rfl ?q1a _ _ _ ((shortV u).map bv) rfl ?q0a (by simp) ?q2a (bv_one (shortV u)) ?q3a ?q4a ?q5a ?q6a)
        case q1a => exact owns_keptNone HO.out G2
        case q0a => first | exact HZ.out | (rw [List.length_map]; exact HZ.out) | simpa using HZ.out
        case q2a => exact HC.out
        case q3a => unfold maxLen; omega
        case q4a => omega
        case q6a =>
          intro y2 w2 O2 K2
          have AP : Ap B w w2 := (Ap.ofNone hB G2).trans (Ap.ofOwn (owns_keptNone HO.out G2) (by have := G2.size; omega) K2)
          have O3 : Owns w2 B y2 (xs ++ shortV u) := by
            unfold Owns
            rw [List.length_append, List.map_append, HZ.out]
            exact O2
          clear O2 K2
          go_wp2
          go_ret2
          exact ⟨_, rfl, O3, AP⟩
      · go_wp2_with (at_builtin; refine wpList_append_cv rfl (.tmp 95) (.tmp 97) 34 rfl 5 i0 (.int .u8 0) 1 1 Tryd.underlying34 hi hz0 hz1 hz2 rfl (by decide) B v xs.length (xs.map bv) rfl ?q1b _ _ _ ((shortV u).map bv) rfl ?q0b (by simp) ?q2b (bv_one (shortV u)) ?q3b ?q4b ?q5b ?q6b)
        case q1b => exact owns_keptNone HO.out G2
        case q0b => first | exact HZ.out | (rw [List.length_map]; exact HZ.out) | simpa using HZ.out
        case q2b => exact HC.out
        case q3b => unfold maxLen; omega
        case q4b => omega
        case q6b =>
          intro y2 w2 O2 K2
          have AP : Ap B w w2 := (Ap.ofNone hB G2).trans (Ap.ofOwn (owns_keptNone HO.out G2) (by have := G2.size; omega) K2)
          have O3 : Owns w2 B y2 (xs ++ shortV u) := by
            unfold Owns
            rw [List.length_append, List.map_append, HZ.out]
            exact O2
          clear O2 K2
          go_wp2
          go_ret2
          exact ⟨_, rfl, O3, AP⟩
      · go_wp2_with (at_builtin; refine wpList_append_cv rfl (.tmp 95) (.tmp 97) 34 rfl 5 i0 (.int .u8 0) 1 1 Tryd.underlying34 hi hz0 hz1 hz2 rfl (by decide) B v xs.length (xs.map bv) rfl ?q1c _ _ _ ((shortV u).map bv) rfl ?q0c (by simp) ?q2c (bv_one (shortV u)) ?q3c ?q4c ?q5c ?q6c)
        case q1c => exact owns_keptNone HO.out G2
        case q0c => first | exact HZ.out | (rw [List.length_map]; exact HZ.out) | simpa using HZ.out
        case q2c => exact HC.out
        case q3c => unfold maxLen; omega
        case q4c => omega
        case q6c =>
          intro y2 w2 O2 K2
          have AP : Ap B w w2 := (Ap.ofNone hB G2).trans (Ap.ofOwn (owns_keptNone HO.out G2) (by have := G2.size; omega) K2)
          have O3 : Owns w2 B y2 (xs ++ shortV u) := by
            unfold Owns
            rw [List.length_append, List.map_append, HZ.out]
            exact O2
          clear O2 K2
          go_wp2
          go_ret2
          exact ⟨_, rfl, O3, AP⟩
      · go_wp2_with (at_builtin; refine wpList_append_cv rfl (.tmp 95) (.tmp 97) 34 rfl 5 i0 (.int .u8 0) 1 1 Tryd.underlying34 hi hz0 hz1 hz2 rfl (by decide) B v xs.length (xs.map bv) rfl ?q1d _ _ _ ((shortV u).map bv) rfl ?q0d (by simp) ?q2d (bv_one (shortV u)) ?q3d ?q4d ?q5d ?q6d)
        case q1d => exact owns_keptNone HO.out G2
        case q0d => first | exact HZ.out | (rw [List.length_map]; exact HZ.out) | simpa using HZ.out
        case q2d => exact HC.out
        case q3d => unfold maxLen; omega
        case q4d => omega
        case q6d =>
          intro y2 w2 O2 K2
          have AP : Ap B w w2 := (Ap.ofNone hB G2).trans (Ap.ofOwn (owns_keptNone HO.out G2) (by have := G2.size; omega) K2)
          have O3 : Owns w2 B y2 (xs ++ shortV u) := by
            unfold Owns
            rw [List.length_append, List.map_append, HZ.out]
            exact O2
          clear O2 K2
          go_wp2
          go_ret2
          exact ⟨_, rfl, O3, AP⟩

set_option maxHeartbeats 1000000 in
theorem append_hex (B u : Nat) (v : Value) (xs : List UInt8) (w : World) (hu : u < 65536) (O : Owns w B v xs) (hB : B ≤ w.heap.size) (hl : xs.length + 20 ≤ 140737488355328) (T : Tab w) :
    Calls Tryd.prog 32 #[v, .int .u64 u, .int .i64 16] w fun e w' => ∃ v', e = .returned v' ∧ Owns w' B v' (xs ++ shortV u) ∧ Ap B w w' := by
  have C : Hid (Calls Tryd.prog 48 #[v, .int .u64 u, .int .i64 16] w fun e w' => ∃ v', e = .returned v' ∧ Owns w' B v' (xs ++ shortV u) ∧ Ap B w w') := by
    show Calls _ _ _ _ _
    have C := format_hex B u v xs w hu O hB hl T
    clear O T
    go_enter Tryd.func48, Tryd.ntmps48
    go_wp2_with fail
    refine C.mono ?_
    rintro e w' ⟨v', rfl, O', A'⟩
    clear C
    go_wp2
    go_ret
    exact ⟨v', rfl, O', A'⟩
  clear O T
  go_enter Tryd.func32, Tryd.ntmps32
  go_wp2_with fail
  refine C.out.mono ?_
  rintro e w' ⟨v', rfl, O', A'⟩
  clear C
  go_wp2
  go_ret
  exact ⟨v', rfl, O', A'⟩

end Go.Proofs.YtbklagdegnflgaaDoor
