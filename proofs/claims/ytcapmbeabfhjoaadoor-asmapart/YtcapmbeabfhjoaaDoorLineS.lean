/-
  The document's own Line, of what has a form.
-/
import Derived.Test.YtcapmbeabfhjoaaDoorLineR
namespace Go.Proofs.YtcapmbeabfhjoaaDoor
open Go.RowKit
set_option maxRecDepth 100000

theorem oper_all (p : Int → Bool) (hp : ([21, 29, 37, 45, 53, 61, 69, 77, 4, 12, 20, 28, 36, 44, 52, 60, 68, 76, 84, 92, 100, 108, 116, 124, 148, 156, 164, 172] : List Int).all p = true) {c : Int} (h : (jumpB c || operB c) = true) : p c = true := by
  refine List.all_eq_true.1 hp c ?_
  simp only [jumpB, operB, Bool.or_eq_true, beq_iff_eq] at h
  simp only [List.mem_cons, List.not_mem_nil, or_false]
  omega

theorem oper_x {c : Int} (h : (jumpB c || operB c) = true) (hx : byxB c = true) : pre c = opD (bits .andNot .u16 c 8) ++ [32, 120] ∧ usesK c = false := by
  have := oper_all (fun c => !byxB c || (decide (pre c = opD (bits .andNot .u16 c 8) ++ [32, 120]) && !usesK c)) (by decide +kernel) h
  simp [hx] at this
  simpa using this

theorem oper_k {c : Int} (h : (jumpB c || operB c) = true) (hx : byxB c = false) : pre c = opD (bits .andNot .u16 c 8) ++ [32, 35] ∧ usesK c = true ∧ post c = [] := by
  have := oper_all (fun c => byxB c || (decide (pre c = opD (bits .andNot .u16 c 8) ++ [32, 35]) && (usesK c && decide (post c = [])))) (by decide +kernel) h
  simp [hx] at this
  simpa using this

theorem ite_len {p : Prop} [Decidable p] {a b : List UInt8} {n : Nat} (ha : a.length ≤ n) (hb : b.length ≤ n) : (if p then a else b).length ≤ n := by
  split
  · exact ha
  · exact hb

theorem opD_len (d : Int) : (opD d).length ≤ 4 := by
  unfold opD
  iterate 14 refine ite_len (by decide) ?_
  decide

theorem usesJ_eq (c : Int) : usesJ c = jumpB c := by cases hj : jumpB c <;> simp [usesJ, knownB, hj]

theorem form_parts {c : Int} {t f k : Nat} (h : rawB c t f k = false) : knownB c = true ∧ ((usesK c = true) ∨ (usesK c = false ∧ ((k : Int) != 0) = false)) ∧ ((usesJ c = true) ∨ (usesJ c = false ∧ ((t : Int) != 0) = false ∧ ((f : Int) != 0) = false)) := by
  have e0 : ∀ n : Nat, ((n : Int) != 0) = false ↔ n = 0 := fun n => by rw [bne_eq_false_iff_eq]; omega
  simp only [e0]
  unfold rawB at h
  cases hk : knownB c <;> cases hu : usesK c <;> cases hj : usesJ c <;> simp [hk, hu, hj] at h ⊢ <;> omega

set_option maxRecDepth 100000 in
set_option maxHeartbeats 4000000 in
theorem refline_plain (c t f k : Nat) (w : World) (hk : k ≤ 4294967295) (hr : rawB c t f k = false) (hj : jumpB c = false) (ho : operB c = false) :
    Calls Tryd.prog 10 #[.agg #[.int .u16 c, .int .u8 t, .int .u8 f, .int .u32 k]] w fun e w' => e = .returned (str (formV c k)) ∧ w.grownBy w' none := by
  obtain ⟨h1, h2, h3⟩ := form_parts hr
  have hp : plainB c = true := by simpa [knownB, hj, ho] using h1
  have hu : usesJ c = false := by rw [usesJ_eq, hj]
  obtain ⟨-, h4, h5⟩ := h3.resolve_left (by simp [hu])
  rcases h2 with h2 | ⟨h2, h6⟩
  all_goals
    clear hr
    go_enter Tryd.func10, Tryd.ntmps10
    go_wp2_with (first | (go_at_call 24; refine (refuses_any _ _).mono ?_; rintro e w' ⟨rfl, rfl⟩) | (go_at_call 25; refine (refknown_any _ _).mono ?_; rintro e w' ⟨rfl, rfl⟩) | (go_at_call 27; refine (jump_any _ _).mono ?_; rintro e w' ⟨rfl, rfl⟩) | (go_at_call 28; refine (oper_any _ _).mono ?_; rintro e w' ⟨rfl, rfl⟩))
    refine (plain_any c t f k _ hk hp).mono ?_
    rintro e w' ⟨rfl, K⟩
    have G := grown_trans (World.grownBy_alloc w _ none) K
    clear K
    go_wp2
    go_ret
    exact ⟨rfl, G⟩

theorem x_cat (a : List UInt8) : Value.string ((⟨a.toArray⟩ : ByteArray) ++ (⟨#[32, 120]⟩ : ByteArray)) = str (a ++ [32, 120]) := str_cat a [32, 120]
theorem k_cat (a b : List UInt8) : Value.string ((⟨a.toArray⟩ : ByteArray) ++ (⟨#[32, 35]⟩ : ByteArray) ++ (⟨b.toArray⟩ : ByteArray)) = str (a ++ [32, 35] ++ b) := by
  rw [cat, cat]
theorem g_cat (a : List UInt8) (t f : Nat) : Value.string ((⟨a.toArray⟩ : ByteArray) ++ (⟨#[32]⟩ : ByteArray) ++ (⟨(dec t).toArray⟩ : ByteArray) ++ (⟨#[32]⟩ : ByteArray) ++ (⟨(dec f).toArray⟩ : ByteArray)) = str (a ++ goalsV t f) := by
  rw [cat, cat, cat, cat]
  simp only [str, goalsV, List.append_assoc]

set_option maxRecDepth 100000 in
set_option maxHeartbeats 4000000 in
theorem refline_oper (c t f k : Nat) (w : World) (hk : k ≤ 4294967295) (hr : rawB c t f k = false) (hj : jumpB c = false) (ho : operB c = true) :
    Calls Tryd.prog 10 #[.agg #[.int .u16 c, .int .u8 t, .int .u8 f, .int .u32 k]] w fun e w' => e = .returned (str (formV c k)) ∧ w.grownBy w' none := by
  obtain ⟨h1, h2, h3⟩ := form_parts hr
  have hu : usesJ c = false := by rw [usesJ_eq, hj]
  obtain ⟨-, h4, h5⟩ := h3.resolve_left (by simp [hu])
  have hb : (jumpB c || operB c) = true := by simp [ho]
  have hlo := opD_len (bits .andNot .u16 c 8)
  have hlk := dec_len k
  have G0 : w.grownBy (w.alloc (.cells #[.int .u16 c, .int .u8 t, .int .u8 f, .int .u32 k] 25)) none := World.grownBy_alloc _ _ _
  cases hx : byxB c with
  | true =>
    obtain ⟨q1, q2⟩ := oper_x hb hx
    obtain ⟨-, h6⟩ := h2.resolve_left (by simp [q2])
    rw [← form_0 (k := k) q1 q2]
    have OP := fun w => operation_any c w
    generalize opD (bits .andNot .u16 c 8) = od at *
    have n1 : ¬ 9223372036854775807 < od.length + 2 := by omega
    have HOP : Hid (∀ w, Calls Tryd.prog 30 #[.int .u16 c] w fun e w' => e = .returned (str od) ∧ w = w') := OP
    clear hr OP q1 h3
    go_enter Tryd.func10, Tryd.ntmps10
    go_wp2_with (first | (go_at_call 24; refine (refuses_any _ _).mono ?_; rintro e w' ⟨rfl, rfl⟩) | (go_at_call 25; refine (refknown_any _ _).mono ?_; rintro e w' ⟨rfl, rfl⟩) | (go_at_call 27; refine (jump_any _ _).mono ?_; rintro e w' ⟨rfl, rfl⟩) | (go_at_call 28; refine (oper_any _ _).mono ?_; rintro e w' ⟨rfl, rfl⟩) | (go_at_call 31; refine (byx_any _ _).mono ?_; rintro e w' ⟨rfl, rfl⟩) | (go_at_call 30; refine (HOP.out _).mono ?_; rintro e w' ⟨rfl, rfl⟩))
    go_ret
    exact ⟨congrArg Ending.returned (x_cat _), G0⟩
  | false =>
    obtain ⟨q1, q2, q3⟩ := oper_k hb hx
    rw [← form_k0 (k := k) q1 q3 q2]
    have OP := fun w => operation_any c w
    generalize opD (bits .andNot .u16 c 8) = od at *
    have n1 : ¬ 9223372036854775807 < od.length + 2 := by omega
    have n2 : ¬ 9223372036854775807 < od.length + 2 + (dec k).length := by omega
    have HOP : Hid (∀ w, Calls Tryd.prog 30 #[.int .u16 c] w fun e w' => e = .returned (str od) ∧ w = w') := OP
    clear hr OP q1 q3 h3
    go_enter Tryd.func10, Tryd.ntmps10
    go_wp2_with (first | (go_at_call 24; refine (refuses_any _ _).mono ?_; rintro e w' ⟨rfl, rfl⟩) | (go_at_call 25; refine (refknown_any _ _).mono ?_; rintro e w' ⟨rfl, rfl⟩) | (go_at_call 27; refine (jump_any _ _).mono ?_; rintro e w' ⟨rfl, rfl⟩) | (go_at_call 28; refine (oper_any _ _).mono ?_; rintro e w' ⟨rfl, rfl⟩) | (go_at_call 31; refine (byx_any _ _).mono ?_; rintro e w' ⟨rfl, rfl⟩) | (go_at_call 30; refine (HOP.out _).mono ?_; rintro e w' ⟨rfl, rfl⟩))
    go_region_held3 (fun W => W.cell? ⟨w.heap.size, 0, none⟩ = some (.int .u16 (c : Int)) ∧ W.cell? ⟨w.heap.size, 1, none⟩ = some (.int .u8 (t : Int)) ∧ W.cell? ⟨w.heap.size, 2, none⟩ = some (.int .u8 (f : Int)) ∧ W.cell? ⟨w.heap.size, 3, none⟩ = some (.int .u32 (k : Int)) ∧ w.grownBy W none) (first | exact box4_call K (by assumption) | (with_reducible assumption) | exact box4_drew _ _ _ _ _ _) (first | (go_at_call 26; refine (num_any _ _ (by omega)).mono ?_; rintro e w' ⟨rfl, K⟩) | (go_at_call 30; refine (HOP.out _).mono ?_; rintro e w' ⟨rfl, rfl⟩))
    have GG := (by assumption : Box4 w w.heap.size _ _ _ _ w').2.2.2.2
    go_wp2
    go_ret
    exact ⟨congrArg Ending.returned (k_cat _ _), GG⟩

theorem box4_drewn {w0 W : World} {b : Nat} {v0 v1 v2 v3 : Value} (h : Box4 w0 b v0 v1 v2 v3 W) : Box4 w0 b v0 v1 v2 v3 W.drew := box4_call (grown_drewN W 1 none) h

set_option maxRecDepth 100000 in
set_option maxHeartbeats 4000000 in
theorem refline_jump (c t f k : Nat) (w : World) (ht : t ≤ 255) (hf : f ≤ 255) (hk : k ≤ 4294967295) (hr : rawB c t f k = false) (hj : jumpB c = true) :
    Calls Tryd.prog 10 #[.agg #[.int .u16 c, .int .u8 t, .int .u8 f, .int .u32 k]] w fun e w' => e = .returned (str (formV c k ++ goalsV t f)) ∧ w.grownBy w' none := by
  obtain ⟨h1, h2, h3⟩ := form_parts hr
  have hu : usesJ c = true := by rw [usesJ_eq, hj]
  have hb : (jumpB c || operB c) = true := by simp [hj]
  have hlo := opD_len (bits .andNot .u16 c 8)
  have hlk := dec_len k
  have hlt := dec_len t
  have hlf := dec_len f
  have v2 : IntKind.u32.wrap (t : Int) = (t : Int) := by rw [IntKind.wrap_u32]; omega
  have v3 : IntKind.u32.wrap (f : Int) = (f : Int) := by rw [IntKind.wrap_u32]; omega
  have GC := fun a : List UInt8 => g_cat a t f
  have HGC : Hid (∀ a : List UInt8, Value.string ((⟨a.toArray⟩ : ByteArray) ++ (⟨#[32]⟩ : ByteArray) ++ (⟨(dec t).toArray⟩ : ByteArray) ++ (⟨#[32]⟩ : ByteArray) ++ (⟨(dec f).toArray⟩ : ByteArray)) = str (a ++ goalsV t f)) := GC
  clear GC
  have B0 := box4_alloc w 25 (.int .u16 c) (.int .u8 t) (.int .u8 f) (.int .u32 k)
  cases hx : byxB c with
  | true =>
    obtain ⟨q1, q2⟩ := oper_x hb hx
    obtain ⟨-, h6⟩ := h2.resolve_left (by simp [q2])
    rw [← form_0 (k := k) q1 q2]
    have OP := fun w => operation_any c w
    generalize opD (bits .andNot .u16 c 8) = od at *
    have n1 : ¬ 9223372036854775807 < od.length + 2 := by omega
    have HOP : Hid (∀ w, Calls Tryd.prog 30 #[.int .u16 c] w fun e w' => e = .returned (str od) ∧ w = w') := OP
    clear hr OP q1 h3
    go_enter Tryd.func10, Tryd.ntmps10
    go_wp2_with (first | (go_at_call 24; refine (refuses_any _ _).mono ?_; rintro e w' ⟨rfl, rfl⟩) | (go_at_call 25; refine (refknown_any _ _).mono ?_; rintro e w' ⟨rfl, rfl⟩) | (go_at_call 27; refine (jump_any _ _).mono ?_; rintro e w' ⟨rfl, rfl⟩) | (go_at_call 28; refine (oper_any _ _).mono ?_; rintro e w' ⟨rfl, rfl⟩) | (go_at_call 31; refine (byx_any _ _).mono ?_; rintro e w' ⟨rfl, rfl⟩) | (go_at_call 30; refine (HOP.out _).mono ?_; rintro e w' ⟨rfl, rfl⟩))
    rw [x_cat]
    generalize ha : od ++ [32, 120] = a
    have hla : a.length ≤ 6 := by rw [← ha]; simp; omega
    have m1 : ¬ 9223372036854775807 < a.length + 1 := by omega
    have m2 : ¬ 9223372036854775807 < a.length + 1 + (dec t).length := by omega
    have m3 : ¬ 9223372036854775807 < a.length + 1 + (dec t).length + 1 := by omega
    have m4 : ¬ 9223372036854775807 < a.length + 1 + (dec t).length + 1 + (dec f).length := by omega
    go_region_held3 (fun W => W.cell? ⟨w.heap.size, 0, none⟩ = some (.int .u16 (c : Int)) ∧ W.cell? ⟨w.heap.size, 1, none⟩ = some (.int .u8 (t : Int)) ∧ W.cell? ⟨w.heap.size, 2, none⟩ = some (.int .u8 (f : Int)) ∧ W.cell? ⟨w.heap.size, 3, none⟩ = some (.int .u32 (k : Int)) ∧ w.grownBy W none) (first | exact box4_call K (by assumption) | (with_reducible assumption) | exact box4_drew _ _ _ _ _ _ | exact box4_drewn B0) (first | (go_at_call 26; refine (num_any _ _ (by omega)).mono ?_; rintro e w' ⟨rfl, K⟩) | (go_at_call 30; refine (HOP.out _).mono ?_; rintro e w' ⟨rfl, rfl⟩))
    have GG := (by assumption : Box4 w w.heap.size _ _ _ _ w').2.2.2.2
    go_wp2
    go_ret
    refine ⟨?_, GG⟩
    rw [ha]
    exact congrArg Ending.returned (HGC.out a)
  | false =>
    obtain ⟨q1, q2, q3⟩ := oper_k hb hx
    rw [← form_k0 (k := k) q1 q3 q2]
    have OP := fun w => operation_any c w
    generalize opD (bits .andNot .u16 c 8) = od at *
    have n1 : ¬ 9223372036854775807 < od.length + 2 := by omega
    have n2 : ¬ 9223372036854775807 < od.length + 2 + (dec k).length := by omega
    have HOP : Hid (∀ w, Calls Tryd.prog 30 #[.int .u16 c] w fun e w' => e = .returned (str od) ∧ w = w') := OP
    clear hr OP q1 q3 h3
    go_enter Tryd.func10, Tryd.ntmps10
    go_wp2_with (first | (go_at_call 24; refine (refuses_any _ _).mono ?_; rintro e w' ⟨rfl, rfl⟩) | (go_at_call 25; refine (refknown_any _ _).mono ?_; rintro e w' ⟨rfl, rfl⟩) | (go_at_call 27; refine (jump_any _ _).mono ?_; rintro e w' ⟨rfl, rfl⟩) | (go_at_call 28; refine (oper_any _ _).mono ?_; rintro e w' ⟨rfl, rfl⟩) | (go_at_call 31; refine (byx_any _ _).mono ?_; rintro e w' ⟨rfl, rfl⟩) | (go_at_call 30; refine (HOP.out _).mono ?_; rintro e w' ⟨rfl, rfl⟩))
    go_region_held3 (fun W => W.cell? ⟨w.heap.size, 0, none⟩ = some (.int .u16 (c : Int)) ∧ W.cell? ⟨w.heap.size, 1, none⟩ = some (.int .u8 (t : Int)) ∧ W.cell? ⟨w.heap.size, 2, none⟩ = some (.int .u8 (f : Int)) ∧ W.cell? ⟨w.heap.size, 3, none⟩ = some (.int .u32 (k : Int)) ∧ w.grownBy W none) (first | exact box4_call K (by assumption) | (with_reducible assumption) | exact box4_drew _ _ _ _ _ _ | exact box4_drewn B0) (first | (go_at_call 26; refine (num_any _ _ (by omega)).mono ?_; rintro e w' ⟨rfl, K⟩) | (go_at_call 30; refine (HOP.out _).mono ?_; rintro e w' ⟨rfl, rfl⟩))
    have B1 := (by assumption : Box4 w w.heap.size (.int .u16 c) (.int .u8 t) (.int .u8 f) (.int .u32 k) w')
    clear B0 K
    have B0 := B1
    clear B1
    go_wp2
    rw [k_cat]
    generalize ha : od ++ [32, 35] ++ dec k = a
    have hla : a.length ≤ 26 := by rw [← ha]; simp; omega
    have m1 : ¬ 9223372036854775807 < a.length + 1 := by omega
    have m2 : ¬ 9223372036854775807 < a.length + 1 + (dec t).length := by omega
    have m3 : ¬ 9223372036854775807 < a.length + 1 + (dec t).length + 1 := by omega
    have m4 : ¬ 9223372036854775807 < a.length + 1 + (dec t).length + 1 + (dec f).length := by omega
    go_region_held3 (fun W => W.cell? ⟨w.heap.size, 0, none⟩ = some (.int .u16 (c : Int)) ∧ W.cell? ⟨w.heap.size, 1, none⟩ = some (.int .u8 (t : Int)) ∧ W.cell? ⟨w.heap.size, 2, none⟩ = some (.int .u8 (f : Int)) ∧ W.cell? ⟨w.heap.size, 3, none⟩ = some (.int .u32 (k : Int)) ∧ w.grownBy W none) (first | exact box4_call K (by assumption) | (with_reducible assumption) | exact box4_drew _ _ _ _ _ _ | exact box4_drewn B0) (first | (go_at_call 26; refine (num_any _ _ (by omega)).mono ?_; rintro e w' ⟨rfl, K⟩) | (go_at_call 30; refine (HOP.out _).mono ?_; rintro e w' ⟨rfl, rfl⟩))
    have GG := (by assumption : Box4 w w.heap.size _ _ _ _ w').2.2.2.2
    go_wp2
    go_ret
    refine ⟨?_, GG⟩
    rw [ha]
    exact congrArg Ending.returned (HGC.out a)

/-- P3.1, the document's own Line. -/
theorem refline_any (c t f k : Nat) (w : World) (hc : c ≤ 65535) (ht : t ≤ 255) (hf : f ≤ 255) (hk : k ≤ 4294967295) :
    Calls Tryd.prog 10 #[.agg #[.int .u16 c, .int .u8 t, .int .u8 f, .int .u32 k]] w fun e w' => e = .returned (str (lineN c t f k)) ∧ w.grownBy w' none := by
  cases hr : rawB c t f k with
  | true => rw [lineN, if_pos hr]; exact refline_raw c t f k w hc ht hf hk hr
  | false =>
    rw [lineN, if_neg (by rw [hr]; simp), usesJ_eq]
    cases hj : jumpB c with
    | true => rw [if_pos rfl]; exact refline_jump c t f k w ht hf hk hr hj
    | false =>
      rw [if_neg (by simp), List.append_nil]
      cases ho : operB c with
      | true => exact refline_oper c t f k w hk hr hj ho
      | false => exact refline_plain c t f k w hk hr hj ho

theorem lineN_len (c t f k : Nat) : (lineN c t f k).length ≤ 128 := by
  have hl1 := dec_len c
  have hl2 := dec_len t
  have hl3 := dec_len f
  have hl4 := dec_len k
  have hp : (pre c).length ≤ 9 ∧ (post c).length ≤ 5 := by
    have : forms.all (fun f => decide (f.2.1.length ≤ 9) && decide (f.2.2.length ≤ 5)) = true := by decide +kernel
    unfold pre post
    cases h : forms.find? (fun f => f.1 == (c : Int)) with
    | none => simp
    | some g =>
      have := List.all_eq_true.1 this g (List.mem_of_find?_eq_some h)
      simpa using this
  unfold lineN
  split
  · simp only [rawV, List.length_append, List.length_cons, List.length_nil]; omega
  · simp only [formV, List.length_append]
    split <;> split <;> simp only [goalsV, List.length_append, List.length_cons, List.length_nil] <;> omega

end Go.Proofs.YtcapmbeabfhjoaaDoor
