/-
  Package asm writes: a form's text, an instruction's.
-/
import Derived.Test.YtcapmbeabfhjoaaDoorAsmT
namespace Go.Proofs.YtcapmbeabfhjoaaDoor
open Go.RowKit
set_option maxRecDepth 100000

/-- An instruction in a box of its own. -/
def BoxAt (w : World) (b c t f k : Nat) : Prop := w.heap[b]? = some (.cells #[.int .u16 (c : Int), .int .u8 (t : Int), .int .u8 (f : Int), .int .u32 (k : Int)] 25 (0, 0))
theorem BoxAt.cells {w : World} {b c t f k : Nat} (h : BoxAt w b c t f k) : w.cell? ⟨b, 0, none⟩ = some (.int .u16 (c : Int)) ∧ w.cell? ⟨b, 1, none⟩ = some (.int .u8 (t : Int)) ∧ w.cell? ⟨b, 2, none⟩ = some (.int .u8 (f : Int)) ∧ w.cell? ⟨b, 3, none⟩ = some (.int .u32 (k : Int)) := by
  unfold BoxAt at h
  simp [World.cell?, h]
theorem BoxAt.ap {w w' : World} {B b c t f k : Nat} (h : BoxAt w b c t f k) (A : Ap B w w') : BoxAt w' b c t f k := A.heap h (by decide)
theorem boxAt_new (w : World) (c t f k : Nat) : BoxAt (w.alloc (.cells #[.int .u16 (c : Int), .int .u8 (t : Int), .int .u8 (f : Int), .int .u32 (k : Int)] 25)) w.heap.size c t f k := heap_alloc_new w _

theorem render_take (c t f k : Nat) (s : List UInt8) (j : Nat) (h : j < s.length) : render c t f k (s.take (j + 1)) = render c t f k (s.take j) ++ rend c t f k s[j] := by
  rw [List.take_succ_eq_append_getElem h, render_app]; simp [render]

set_option maxHeartbeats 4000000 in
theorem append_form (B : Nat) (v : Value) (xs : List UInt8) (s : ByteArray) (c t f k : Nat) (w : World) (hc : c ≤ 65535) (ht : t ≤ 255) (hf : f ≤ 255) (hk : k ≤ 4294967295)
    (O : Owns w B v xs) (hB : B ≤ w.heap.size) (hT : 1 < B) (hs : s.size ≤ 1000) (hl : xs.length ≤ 140737488300000) (T : Tab w) :
    Calls Tryd.prog 40 #[v, .string s, .agg #[.int .u16 c, .int .u8 t, .int .u8 f, .int .u32 k]] w fun e w' => ∃ v', e = .returned v' ∧ Owns w' B v' (xs ++ render c t f k (sl s)) ∧ Ap B w w' := by
  obtain ⟨i0, hi, hz0, hz1, hz2⟩ := info_parts info5
  have A0 : Ap B w (w.alloc (.cells #[.int .u16 (c : Int), .int .u8 (t : Int), .int .u8 (f : Int), .int .u32 (k : Int)] 25)) := Ap.ofNone hB (World.grownBy_alloc _ _ _)
  have O0 := O.alloc (.cells #[.int .u16 (c : Int), .int .u8 (t : Int), .int .u8 (f : Int), .int .u32 (k : Int)] 25)
  have X0 := boxAt_new w c t f k
  clear O
  go_enter Tryd.func40, Tryd.ntmps40
  go_wp2
  go_loopw [0, 10] (fun u i wr => ∃ j : Nat, j ≤ s.size ∧ i = .int .i64 j ∧ Owns wr B u (xs ++ render c t f k ((sl s).take j)) ∧ BoxAt wr w.heap.size c t f k ∧ Ap B w wr) (fun _ i _ => s.size - (intOf i).toNat)
  case atStart => exact ⟨0, Nat.zero_le _, rfl, by simpa [render] using O0, X0, A0⟩
  case round =>
    clear O0 X0 A0
    obtain ⟨j, hj, rfl, O, X, A⟩ := hrel
    by_cases hlt : j < s.size
    · have hlt' : (j : Int) < (s.size : Int) := by omega
      have HR : Hid (render c t f k ((sl s).take (j + 1)) = render c t f k ((sl s).take j) ++ rend c t f k s[j]) := render_take c t f k (sl s) j (by rw [sl_len]; exact hlt)
      have HL : Hid ((xs ++ render c t f k ((sl s).take j)).length + 20 ≤ 140737488355328) := by
        show (xs ++ render c t f k ((sl s).take j)).length + 20 ≤ 140737488355328
        have := render_len c t f k ((sl s).take j)
        have : ((sl s).take j).length ≤ 1000 := by rw [List.length_take]; omega
        rw [List.length_append]
        omega
      have hBr := Nat.le_trans hB A.size
      have T1 := T.below hT A.1
      obtain ⟨x0, x1, x2, x3⟩ := X.cells
      have hb := s[j].toNat_lt
      have hne : ∀ n : Nat, n < 256 → s[j] ≠ UInt8.ofNat n → ((s[j].toNat : Int) == (n : Int)) = false := fun n hn h => by
        rw [beq_eq_false_iff_ne]
        intro e
        exact h (UInt8.toNat_inj.1 (by simp; omega))
      by_cases h : s[j] = 67
      · have e1 : ((s[j].toNat : Int) == 67) = true := by rw [h]; rfl
        have HN : Hid (rend c t f k s[j] = dec c) := by show rend c t f k s[j] = dec c; rw [h]; rfl
        clear hne h
        go_wp2_with fail
        refine (append_uint B c _ _ _ (by omega) O hBr HL.out T1).mono ?_
        rintro e w1 ⟨v1, rfl, O1, A1⟩
        have A2 := A.trans A1
        have X1 := X.ap A1
        rw [List.append_assoc, ← HN.out, ← HR.out] at O1
        clear O A A1 X T1 x0 x1 x2 x3
        go_wp2
        go_roundw
        case rel => exact ⟨j + 1, by omega, by go_num, O1, X1, A2⟩
        case measure => simp [intOf]; omega
      have e1 := hne 67 (by omega) h
      have n1 := h
      clear h
      by_cases h : s[j] = 84
      · have e2 : ((s[j].toNat : Int) == 84) = true := by rw [h]; rfl
        have HN : Hid (rend c t f k s[j] = dec t) := by show rend c t f k s[j] = dec t; rw [h]; rfl
        clear hne h
        go_wp2_with fail
        refine (append_uint B t _ _ _ (by omega) O hBr HL.out T1).mono ?_
        rintro e w1 ⟨v1, rfl, O1, A1⟩
        have A2 := A.trans A1
        have X1 := X.ap A1
        rw [List.append_assoc, ← HN.out, ← HR.out] at O1
        clear O A A1 X T1 x0 x1 x2 x3
        go_wp2
        go_roundw
        case rel => exact ⟨j + 1, by omega, by go_num, O1, X1, A2⟩
        case measure => simp [intOf]; omega
      have e2 := hne 84 (by omega) h
      have n2 := h
      clear h
      by_cases h : s[j] = 70
      · have e3 : ((s[j].toNat : Int) == 70) = true := by rw [h]; rfl
        have HN : Hid (rend c t f k s[j] = dec f) := by show rend c t f k s[j] = dec f; rw [h]; rfl
        clear hne h
        go_wp2_with fail
        refine (append_uint B f _ _ _ (by omega) O hBr HL.out T1).mono ?_
        rintro e w1 ⟨v1, rfl, O1, A1⟩
        have A2 := A.trans A1
        have X1 := X.ap A1
        rw [List.append_assoc, ← HN.out, ← HR.out] at O1
        clear O A A1 X T1 x0 x1 x2 x3
        go_wp2
        go_roundw
        case rel => exact ⟨j + 1, by omega, by go_num, O1, X1, A2⟩
        case measure => simp [intOf]; omega
      have e3 := hne 70 (by omega) h
      have n3 := h
      clear h
      by_cases h : s[j] = 75
      · have e4 : ((s[j].toNat : Int) == 75) = true := by rw [h]; rfl
        have HN : Hid (rend c t f k s[j] = dec k) := by show rend c t f k s[j] = dec k; rw [h]; rfl
        clear hne h
        go_wp2_with fail
        refine (append_uint B k _ _ _ (by omega) O hBr HL.out T1).mono ?_
        rintro e w1 ⟨v1, rfl, O1, A1⟩
        have A2 := A.trans A1
        have X1 := X.ap A1
        rw [List.append_assoc, ← HN.out, ← HR.out] at O1
        clear O A A1 X T1 x0 x1 x2 x3
        go_wp2
        go_roundw
        case rel => exact ⟨j + 1, by omega, by go_num, O1, X1, A2⟩
        case measure => simp [intOf]; omega
      have e4 := hne 75 (by omega) h
      have n4 := h
      have HN : Hid (rend c t f k s[j] = [s[j]]) := by show rend c t f k s[j] = [s[j]]; rw [rend, if_neg n1, if_neg n2, if_neg n3, if_neg n4]
      clear h n1 n2 n3 n4 hne
      go_wp2_with (at_builtin; refine wpList_append_rd rfl (.tmp 16) (.tmp 20) 45 rfl i0 Tryd.underlying45 hi hz0 hz1 hz2 B _ (xs ++ render c t f k ((sl s).take j)) rfl ?q1 (some ⟨wr.heap.size, 0, none⟩) 1 [s[j]] rfl (by simp) ?q2 ?q3 ?q4 ?q5)
      case q1 => exact O.alloc _
      case q2 => exact cells_lit wr [s[j]]
      case q3 => have := HL.out; simp only [List.length_cons, List.length_nil]; omega
      case q4 => simp; omega
      case q5 =>
        intro v1 w1 O1 K1
        have A1 : Ap B w w1 := (A.trans (Ap.ofNone hBr (World.grownBy_alloc _ _ _))).trans (Ap.ofOwn (O.alloc _) (by simp; omega) K1)
        have X1 : BoxAt w1 w.heap.size c t f k := (X.ap (Ap.ofNone hBr (World.grownBy_alloc _ _ _))).ap (Ap.ofOwn (O.alloc _) (by simp; omega) K1)
        rw [← HN.out, ← HR.out] at O1
        clear O A X T1 x0 x1 x2 x3 K1
        go_wp2
        go_roundw
        case rel => exact ⟨j + 1, by omega, by go_num, O1, X1, A1⟩
        case measure => simp [intOf]; omega
    · obtain rfl : j = s.size := by omega
      have e : (sl s).take s.size = sl s := List.take_of_length_le (by rw [sl_len]; omega)
      rw [e] at O
      clear e
      go_wp2
      go_ret
      exact ⟨_, rfl, O, A⟩

theorem tri (x a : Bool) : x = true ∨ (x = false ∧ a = true) ∨ (x = false ∧ a = false) := by cases x <;> cases a <;> simp

theorem has_letter (s : ByteArray) (x : UInt8) (w : World) :
    Calls Tryd.prog 46 #[.string s, .string ⟨#[x]⟩] w fun e w' => e = .returned (.bool ((sl s).contains x)) ∧ w = w' := by
  refine (Tryd.strings_Contains_one s x w).mono ?_
  rintro e w' ⟨rfl, rfl⟩
  exact ⟨by rw [Lib.contains_iff_indexByte]; rfl, rfl⟩

set_option maxHeartbeats 4000000 in
theorem shows_any (r : Nat) (s : ByteArray) (c t f k : Nat) (w : World) :
    Calls Tryd.prog 39 #[.agg #[.int .u16 r, .string s], .agg #[.int .u16 c, .int .u8 t, .int .u8 f, .int .u32 k]] w fun e w' => e = .returned (.bool (showsB (sl s) t f k)) ∧ w.grownBy w' none := by
  have G : w.grownBy ((w.alloc (.cells #[.int .u16 (r : Int), .string s] 67)).alloc (.cells #[.int .u16 (c : Int), .int .u8 (t : Int), .int .u8 (f : Int), .int .u32 (k : Int)] 25)) none := grown_trans (World.grownBy_alloc _ _ _) (World.grownBy_alloc _ _ _)
  unfold showsB
  have C1 := fun w => has_letter s 75 w
  have C2 := fun w => has_letter s 84 w
  have C3 := fun w => has_letter s 70 w
  generalize (sl s).contains 75 = a at *
  generalize (sl s).contains 84 = b at *
  generalize (sl s).contains 70 = d at *
  rcases tri ((k : Int) == 0) a with h1 | ⟨h1, rfl⟩ | ⟨h1, rfl⟩
  case inr.inr => 
    (go_enter Tryd.func39, Tryd.ntmps39
     go_wp2_with (first | (go_at_call_of 46 (Value.string ⟨#[75]⟩); refine (C1 _).mono ?_; rintro e w' ⟨rfl, rfl⟩) | (go_at_call_of 46 (Value.string ⟨#[84]⟩); refine (C2 _).mono ?_; rintro e w' ⟨rfl, rfl⟩) | (go_at_call_of 46 (Value.string ⟨#[70]⟩); refine (C3 _).mono ?_; rintro e w' ⟨rfl, rfl⟩))
     go_ret
     first | exact ⟨rfl, G⟩ | exact ⟨by simp [*], G⟩)
  all_goals rcases tri ((t : Int) == 0) b with h2 | ⟨h2, rfl⟩ | ⟨h2, rfl⟩
  case inl.inr.inr => 
    (go_enter Tryd.func39, Tryd.ntmps39
     go_wp2_with (first | (go_at_call_of 46 (Value.string ⟨#[75]⟩); refine (C1 _).mono ?_; rintro e w' ⟨rfl, rfl⟩) | (go_at_call_of 46 (Value.string ⟨#[84]⟩); refine (C2 _).mono ?_; rintro e w' ⟨rfl, rfl⟩) | (go_at_call_of 46 (Value.string ⟨#[70]⟩); refine (C3 _).mono ?_; rintro e w' ⟨rfl, rfl⟩))
     go_ret
     first | exact ⟨rfl, G⟩ | exact ⟨by simp [*], G⟩)
  case inr.inl.inr.inr => 
    (go_enter Tryd.func39, Tryd.ntmps39
     go_wp2_with (first | (go_at_call_of 46 (Value.string ⟨#[75]⟩); refine (C1 _).mono ?_; rintro e w' ⟨rfl, rfl⟩) | (go_at_call_of 46 (Value.string ⟨#[84]⟩); refine (C2 _).mono ?_; rintro e w' ⟨rfl, rfl⟩) | (go_at_call_of 46 (Value.string ⟨#[70]⟩); refine (C3 _).mono ?_; rintro e w' ⟨rfl, rfl⟩))
     go_ret
     first | exact ⟨rfl, G⟩ | exact ⟨by simp [*], G⟩)
  all_goals rcases tri ((f : Int) == 0) d with h3 | ⟨h3, rfl⟩ | ⟨h3, rfl⟩
  all_goals 
    (go_enter Tryd.func39, Tryd.ntmps39
     go_wp2_with (first | (go_at_call_of 46 (Value.string ⟨#[75]⟩); refine (C1 _).mono ?_; rintro e w' ⟨rfl, rfl⟩) | (go_at_call_of 46 (Value.string ⟨#[84]⟩); refine (C2 _).mono ?_; rintro e w' ⟨rfl, rfl⟩) | (go_at_call_of 46 (Value.string ⟨#[70]⟩); refine (C3 _).mono ?_; rintro e w' ⟨rfl, rfl⟩))
     go_ret
     first | exact ⟨rfl, G⟩ | exact ⟨by simp [*], G⟩)

end Go.Proofs.YtcapmbeabfhjoaaDoor
