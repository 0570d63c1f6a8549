/-
  Package asm reads: a text cut at an end of line.
-/
import Derived.Test.YtcapmbeabfhjoaaDoorAsmS
import Derived.Test.YtcapmbeabfhjoaaDoorShelf
namespace Go.Proofs.YtcapmbeabfhjoaaDoor
open Go.RowKit
set_option maxRecDepth 100000

theorem index_end (s : List UInt8) : Lib.indexByte s 10 = if (cutL s).length < s.length then ((cutL s).length : Int) else -1 := by
  unfold cutL
  induction s with
  | nil => rfl
  | cons c s ih =>
    rw [Lib.indexByte]
    by_cases h : c = 10
    · subst h; simp
    · have e : (c != 10) = true := by simpa using h
      have e' : (c == 10) = false := by simpa using h
      simp only [List.takeWhile_cons, e, if_true, List.length_cons, ih]
      simp only [e']
      split <;> split <;> simp_all <;> omega

theorem cutL_take (s : List UInt8) : cutL s = s.take (cutL s).length := by
  unfold cutL
  induction s with
  | nil => rfl
  | cons c s ih =>
    simp only [List.takeWhile_cons]
    split
    · simp only [List.length_cons, List.take_succ_cons]; rw [← ih]
    · rfl
theorem cutR_drop (s : List UInt8) : cutR s = s.drop ((cutL s).length + 1) := by
  unfold cutR cutL
  induction s with
  | nil => rfl
  | cons c s ih =>
    simp only [List.takeWhile_cons, List.dropWhile_cons]
    split
    · simpa using ih
    · rfl

def CutPost (w w' : World) (e : Ending) (s : ByteArray) : Prop := ∃ (L R : ByteArray) (b : Bool), e = .returned (.tuple #[.string L, .string R, .bool b]) ∧ sl L = cutL (sl s) ∧ sl R = cutR (sl s) ∧ w.grownBy w' none

set_option maxHeartbeats 2000000 in
theorem cutlite_any (s : ByteArray) (w : World) (hs : s.size ≤ 1048576) :
    Calls Tryd.prog 44 #[.string s, .string ⟨#[10]⟩] w fun e w' => CutPost w w' e s := by
  have C := Tryd.stringslite_Index_one s 10 w
  have hi : Lib.indexByte s.data.toList 10 = _ := index_end (sl s)
  rw [hi, sl_len] at C
  clear hi
  have HL : Hid (cutL (sl s) = (sl s).take (cutL (sl s)).length) := cutL_take (sl s)
  have HR : Hid (cutR (sl s) = (sl s).drop ((cutL (sl s)).length + 1)) := cutR_drop (sl s)
  have hle := cutL_len (sl s)
  rw [sl_len] at hle
  generalize (cutL (sl s)).length = m at *
  by_cases hm : m < s.size
  · rw [if_pos hm] at C
    have h1 : (0 : Int) ≤ (m : Int) := by omega
    have h2 : (m : Int) ≤ (s.size : Int) := by omega
    have h3 : IntKind.i64.wrap ((m : Int) + 1) = (m : Int) + 1 := by rw [IntKind.wrap_i64]; omega
    have h4 : (0 : Int) ≤ (m : Int) + 1 := by omega
    have h5 : (m : Int) + 1 ≤ (s.size : Int) := by omega
    have h6 : ((m : Int) + 1).toNat = m + 1 := by omega
    go_enter Tryd.func44, Tryd.ntmps44
    go_wp2_with fail
    refine C.mono ?_
    rintro e w' ⟨rfl, rfl⟩
    clear C
    go_wp2
    go_region
    go_wp2
    go_ret3
    refine ⟨s.extract 0 m, s.extract (m + 1) s.size, true, rfl, ?_, ?_, grown_drewN _ 1 _⟩
    · rw [HL.out, sl_extract]; simp
    · rw [HR.out, sl_extract, List.take_of_length_le (by rw [List.length_drop, sl_len]; omega)]
  · rw [if_neg hm] at C
    go_enter Tryd.func44, Tryd.ntmps44
    go_wp2_with fail
    refine C.mono ?_
    rintro e w' ⟨rfl, rfl⟩
    clear C
    go_wp2
    go_ret3
    refine ⟨s, ⟨#[]⟩, false, rfl, ?_, ?_, World.grownBy.refl _ _⟩
    · rw [HL.out, List.take_of_length_le (by rw [sl_len]; omega)]
    · rw [HR.out, List.drop_eq_nil_of_le (by rw [sl_len]; omega)]; rfl

set_option maxHeartbeats 1000000 in
theorem cut_any (s : ByteArray) (w : World) (hs : s.size ≤ 1048576) :
    Calls Tryd.prog 34 #[.string s, .string ⟨#[10]⟩] w fun e w' => CutPost w w' e s := by
  go_enter Tryd.func34, Tryd.ntmps34
  go_wp2_with fail
  refine (cutlite_any s w hs).mono ?_
  rintro e w' ⟨L, R, b, rfl, h1, h2, G⟩
  go_wp2
  go_ret3
  exact ⟨L, R, b, rfl, h1, h2, G⟩

end Go.Proofs.YtcapmbeabfhjoaaDoor
