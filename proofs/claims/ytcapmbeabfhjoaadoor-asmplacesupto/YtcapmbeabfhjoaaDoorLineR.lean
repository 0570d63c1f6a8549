/-
  The document's own Line.
-/
import Derived.Test.YtcapmbeabfhjoaaDoorForm
import Derived.Deep.RegionHeld3
namespace Go.Proofs.YtcapmbeabfhjoaaDoor
open Go.RowKit
set_option maxRecDepth 100000

theorem lineN_raw {c t f k : Nat} (h : rawB c t f k = true) : lineN c t f k = rawV c t f k := by simp [lineN, h]

/-- Four cells hold, and nothing that was there is written. -/
abbrev Box4 (w0 : World) (b : Nat) (v0 v1 v2 v3 : Value) (W : World) : Prop := W.cell? ⟨b, 0, none⟩ = some v0 ∧ W.cell? ⟨b, 1, none⟩ = some v1 ∧ W.cell? ⟨b, 2, none⟩ = some v2 ∧ W.cell? ⟨b, 3, none⟩ = some v3 ∧ w0.grownBy W none

theorem box4_call {w0 W W' : World} {b : Nat} {v0 v1 v2 v3 : Value} (K : W.grownBy W' none) (h : Box4 w0 b v0 v1 v2 v3 W) : Box4 w0 b v0 v1 v2 v3 W' :=
  ⟨K.cell h.1 (by simp), K.cell h.2.1 (by simp), K.cell h.2.2.1 (by simp), K.cell h.2.2.2.1 (by simp), grown_trans h.2.2.2.2 K⟩

theorem box4_alloc (w : World) (e : TypeId) (v0 v1 v2 v3 : Value) : Box4 w w.heap.size v0 v1 v2 v3 (w.alloc (.cells #[v0, v1, v2, v3] e)) := by
  have h := cv_lit w e [v0, v1, v2, v3]
  exact ⟨h.2 _ rfl 0 (by simp), h.2 _ rfl 1 (by simp), h.2 _ rfl 2 (by simp), h.2 _ rfl 3 (by simp), World.grownBy_alloc _ _ _⟩

theorem box4_drew (w : World) (e : TypeId) (v0 v1 v2 v3 : Value) : Box4 w w.heap.size v0 v1 v2 v3 (w.alloc (.cells #[v0, v1, v2, v3] e)).drew := by
  have h := box4_alloc w e v0 v1 v2 v3
  exact ⟨h.1, h.2.1, h.2.2.1, h.2.2.2.1, grown_alloc_drew _ _ _⟩

theorem raw_cat (c t f k : Nat) : Value.string ((⟨#[114, 97, 119, 32]⟩ : ByteArray) ++ (⟨(dec c).toArray⟩ : ByteArray) ++ (⟨#[32]⟩ : ByteArray) ++ (⟨(dec t).toArray⟩ : ByteArray) ++ (⟨#[32]⟩ : ByteArray) ++ (⟨(dec f).toArray⟩ : ByteArray) ++ (⟨#[32]⟩ : ByteArray) ++ (⟨(dec k).toArray⟩ : ByteArray)) = str (rawV c t f k) := by
  rw [cat, cat, cat, cat, cat, cat, cat]
  rfl

theorem raw_parts {c : Int} {t f k : Nat} (h : rawB c t f k = true) : knownB c = false ∨ (knownB c = true ∧ usesK c = false ∧ ((k : Int) != 0) = true) ∨ (knownB c = true ∧ usesK c = true ∧ usesJ c = false ∧ ((t : Int) != 0) = true) ∨ (knownB c = true ∧ usesK c = false ∧ ((k : Int) != 0) = false ∧ usesJ c = false ∧ ((t : Int) != 0) = true)
    ∨ (knownB c = true ∧ usesK c = true ∧ usesJ c = false ∧ ((t : Int) != 0) = false ∧ ((f : Int) != 0) = true) ∨ (knownB c = true ∧ usesK c = false ∧ ((k : Int) != 0) = false ∧ usesJ c = false ∧ ((t : Int) != 0) = false ∧ ((f : Int) != 0) = true) := by
  have e : ∀ n : Nat, ((n : Int) != 0) = true ↔ n ≠ 0 := fun n => by rw [bne_iff_ne]; omega
  have e0 : ∀ n : Nat, ((n : Int) != 0) = false ↔ n = 0 := fun n => by rw [bne_eq_false_iff_eq]; omega
  simp only [e, e0]
  unfold rawB at h
  cases hk : knownB c <;> cases hu : usesK c <;> cases hj : usesJ c <;> simp [hk, hu, hj] at h ⊢ <;> omega

set_option maxRecDepth 100000 in
set_option maxHeartbeats 4000000 in
theorem refline_raw (c t f k : Nat) (w : World) (hc : c ≤ 65535) (ht : t ≤ 255) (hf : f ≤ 255) (hk : k ≤ 4294967295) (hr : rawB c t f k = true) :
    Calls Tryd.prog 10 #[.agg #[.int .u16 c, .int .u8 t, .int .u8 f, .int .u32 k]] w fun e w' => e = .returned (str (rawV c t f k)) ∧ w.grownBy w' none := by
  have hl1 := dec_len c
  have hl2 := dec_len t
  have hl3 := dec_len f
  have hl4 := dec_len k
  have n1 : ¬ 9223372036854775807 < 4 + (dec c).length := by omega
  have n2 : ¬ 9223372036854775807 < 4 + (dec c).length + 1 := by omega
  have n3 : ¬ 9223372036854775807 < 4 + (dec c).length + 1 + (dec t).length := by omega
  have n4 : ¬ 9223372036854775807 < 4 + (dec c).length + 1 + (dec t).length + 1 := by omega
  have n5 : ¬ 9223372036854775807 < 4 + (dec c).length + 1 + (dec t).length + 1 + (dec f).length := by omega
  have n6 : ¬ 9223372036854775807 < 4 + (dec c).length + 1 + (dec t).length + 1 + (dec f).length + 1 := by omega
  have n7 : ¬ 9223372036854775807 < 4 + (dec c).length + 1 + (dec t).length + 1 + (dec f).length + 1 + (dec k).length := by omega
  have v1 : IntKind.u32.wrap (c : Int) = (c : Int) := by rw [IntKind.wrap_u32]; omega
  have v2 : IntKind.u32.wrap (t : Int) = (t : Int) := by rw [IntKind.wrap_u32]; omega
  have v3 : IntKind.u32.wrap (f : Int) = (f : Int) := by rw [IntKind.wrap_u32]; omega
  have RC := raw_cat c t f k
  have HRC : Hid (Value.string ((⟨#[114, 97, 119, 32]⟩ : ByteArray) ++ (⟨(dec c).toArray⟩ : ByteArray) ++ (⟨#[32]⟩ : ByteArray) ++ (⟨(dec t).toArray⟩ : ByteArray) ++ (⟨#[32]⟩ : ByteArray) ++ (⟨(dec f).toArray⟩ : ByteArray) ++ (⟨#[32]⟩ : ByteArray) ++ (⟨(dec k).toArray⟩ : ByteArray)) = str (rawV c t f k)) := RC
  clear RC
  rcases raw_parts hr with h1 | ⟨h1, h2, h3⟩ | ⟨h1, h2, h3, h4⟩ | ⟨h1, h2, h0, h3, h4⟩ | ⟨h1, h2, h3, h0, h4⟩ | ⟨h1, h2, h0, h3, h9, h4⟩
  all_goals
    clear hr
    go_enter Tryd.func10, Tryd.ntmps10
    go_wp2_with (first | (go_at_call 24; refine (refuses_any _ _).mono ?_; rintro e w' ⟨rfl, rfl⟩) | (go_at_call 25; refine (refknown_any _ _).mono ?_; rintro e w' ⟨rfl, rfl⟩))
    go_region_held3 (fun W => W.cell? ⟨w.heap.size, 0, none⟩ = some (.int .u16 (c : Int)) ∧ W.cell? ⟨w.heap.size, 1, none⟩ = some (.int .u8 (t : Int)) ∧ W.cell? ⟨w.heap.size, 2, none⟩ = some (.int .u8 (f : Int)) ∧ W.cell? ⟨w.heap.size, 3, none⟩ = some (.int .u32 (k : Int)) ∧ w.grownBy W none) (first | exact box4_call K (by assumption) | exact box4_drew _ _ _ _ _ _) (first | (go_at_call 26; refine (num_any _ _ (by omega)).mono ?_; rintro e w' ⟨rfl, K⟩))
    have GG := (by assumption : Box4 w w.heap.size _ _ _ _ w').2.2.2.2
    go_wp2
    go_ret
    exact ⟨congrArg Ending.returned HRC.out, GG⟩

end Go.Proofs.YtcapmbeabfhjoaaDoor
