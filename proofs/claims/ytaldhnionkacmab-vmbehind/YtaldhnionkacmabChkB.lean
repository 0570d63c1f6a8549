/-
  Package check as landed: the five questions walked, and the row of them.
-/
import Derived.Test.YtaldhnionkacmabChkA
namespace Go.Proofs.Ytaldhnionkacmab
open Go.RowKit
set_option maxRecDepth 100000

set_option maxHeartbeats 400000 in
theorem q1_any (at' c t f k : Nat) (w : World) :
    Calls Try.prog 34 #[.int .i64 (at' : Int), .agg #[.int .u16 (c : Int), .int .u8 t, .int .u8 f, .int .u32 k]] w fun e w' => e = .returned (.bool (!knownB c)) ∧ w.grownBy w' none := by
  have G0 : w.grownBy (w.alloc (.cells #[.int .u16 (c : Int), .int .u8 t, .int .u8 f, .int .u32 k] 27)) none := World.grownBy_alloc _ _ _
  go_enter Try.func34, Try.ntmps34
  go_wp2_with fail
  refine (known_any c _).mono ?_
  rintro e w' ⟨rfl, G⟩
  go_wp2
  go_ret
  exact ⟨rfl, grown_trans G0 G⟩

set_option maxHeartbeats 400000 in
theorem q2_any (at' c t f k : Nat) (w : World) :
    Calls Try.prog 35 #[.int .i64 (at' : Int), .agg #[.int .u16 (c : Int), .int .u8 t, .int .u8 f, .int .u32 k]] w fun e w' => e = .returned (.bool (memB c && decide (16 ≤ k))) ∧ w.grownBy w' none := by
  have G0 : w.grownBy (w.alloc (.cells #[.int .u16 (c : Int), .int .u8 t, .int .u8 f, .int .u32 k] 27)) none := World.grownBy_alloc _ _ _
  have e16 : decide (16 ≤ k) = decide ((16 : Int) ≤ (k : Int)) := by simp only [decide_eq_decide]; omega
  rw [e16]
  cases hm : memB c with
  | false =>
    go_enter Try.func35, Try.ntmps35
    go_wp2_with fail
    refine (scratch_any c t f k _).mono ?_
    rintro e w1 ⟨rfl, G⟩
    rw [hm]
    go_wp2
    go_ret
    exact ⟨rfl, grown_trans G0 G⟩
  | true =>
    go_enter Try.func35, Try.ntmps35
    go_wp2_with fail
    refine (scratch_any c t f k _).mono ?_
    rintro e w1 ⟨rfl, G⟩
    rw [hm]
    have y3 : w1.cell? ⟨w.heap.size, 3, none⟩ = some (.int .u32 (k : Int)) := G.cell ((cv_lit w 27 [.int .u16 (c : Int), .int .u8 t, .int .u8 f, .int .u32 k]).2 _ rfl 3 (by simp)) (by simp)
    have G1 := grown_trans G0 G
    clear G0 G
    go_wp2
    go_ret
    exact ⟨rfl, G1⟩

set_option maxHeartbeats 400000 in
theorem q3_any (at' c t f k : Nat) (w : World) :
    Calls Try.prog 37 #[.int .i64 (at' : Int), .agg #[.int .u16 (c : Int), .int .u8 t, .int .u8 f, .int .u32 k]] w fun e w' => e = .returned (.bool (divB c && k == 0)) ∧ w.grownBy w' none := by
  have ek : (k == 0) = ((k : Int) == 0) := by
    by_cases h : k = 0
    · rw [h]; rfl
    · rw [beq_eq_false_iff_ne.2 h, beq_eq_false_iff_ne.2 (by omega)]
  rw [ek]
  cases h1 : ((c : Int) == 52) with
  | true =>
    go_enter Try.func37, Try.ntmps37
    go_wp2
    go_ret
    exact ⟨ret_bool (by simp [divB, h1]), World.grownBy_alloc _ _ _⟩
  | false =>
    cases h2 : ((c : Int) == 148) with
    | true =>
      go_enter Try.func37, Try.ntmps37
      go_wp2
      go_ret
      exact ⟨ret_bool (by simp [divB, h1, h2]), World.grownBy_alloc _ _ _⟩
    | false =>
      go_enter Try.func37, Try.ntmps37
      go_wp2
      go_ret
      exact ⟨ret_bool (by simp [divB, h1, h2]), World.grownBy_alloc _ _ _⟩

set_option maxHeartbeats 400000 in
theorem q4_any (at' c t f k : Nat) (w : World) :
    Calls Try.prog 38 #[.int .i64 (at' : Int), .agg #[.int .u16 (c : Int), .int .u8 t, .int .u8 f, .int .u32 k]] w fun e w' => e = .returned (.bool (shfB c && decide (31 < k))) ∧ w.grownBy w' none := by
  have ek : decide (31 < k) = decide ((31 : Int) < (k : Int)) := by simp only [decide_eq_decide]; omega
  rw [ek]
  cases h1 : ((c : Int) == 100) with
  | true =>
    go_enter Try.func38, Try.ntmps38
    go_wp2
    go_ret
    exact ⟨ret_bool (by simp [shfB, h1]), World.grownBy_alloc _ _ _⟩
  | false =>
    cases h2 : ((c : Int) == 116) with
    | true =>
      go_enter Try.func38, Try.ntmps38
      go_wp2
      go_ret
      exact ⟨ret_bool (by simp [shfB, h1, h2]), World.grownBy_alloc _ _ _⟩
    | false =>
      go_enter Try.func38, Try.ntmps38
      go_wp2
      go_ret
      exact ⟨ret_bool (by simp [shfB, h1, h2]), World.grownBy_alloc _ _ _⟩

set_option maxHeartbeats 1000000 in
theorem q5_any (at' c t f k b n : Nat) (w : World) (hc : w.cell? ⟨b, 0, none⟩ = some (.int .i64 (n : Int))) (ha : at' < n) (hn : n ≤ 4096) (ht : t < 256) (hf : f < 256) :
    Calls Try.prog 39 #[.int .i64 (at' : Int), .agg #[.int .u16 (c : Int), .int .u8 t, .int .u8 f, .int .u32 k], .pointer (some ⟨b, 0, none⟩)] w fun e w' => e = .returned (.bool (jumpBad c t f k (n - 1 - at'))) ∧ w.grownBy w' none := by
  have G0 : w.grownBy (w.alloc (.cells #[.int .u16 (c : Int), .int .u8 t, .int .u8 f, .int .u32 k] 27)) none := World.grownBy_alloc _ _ _
  have hc' := G0.cell hc (by simp)
  rw [← goals_bad]
  obtain ⟨room, hr⟩ : ∃ room : Nat, n - 1 - at' = room := ⟨_, rfl⟩
  rw [hr]
  have hr1 : IntKind.u32.wrap ((n : Int) - 1 - (at' : Int)) = (room : Int) := by rw [IntKind.wrap_u32]; omega
  have HR : Hid (n - 1 - at' = room) := hr
  clear hr
  cases hl : leapB c with
  | false =>
    go_enter Try.func39, Try.ntmps39
    go_wp2_with fail
    refine (leaps_any c t f k _ ht hf).mono ?_
    rintro e w1 ⟨rfl, G⟩
    have G1 := grown_trans G0 G
    clear G G0 hc hc' hr1
    rw [hl]
    go_wp2
    go_ret
    exact ⟨rfl, G1⟩
  | true =>
    go_enter Try.func39, Try.ntmps39
    go_wp2_with fail
    refine (leaps_any c t f k _ ht hf).mono ?_
    rintro e w1 ⟨rfl, G⟩
    have G1 := grown_trans G0 G
    clear G G0 hc hc' hr1
    rw [hl]
    go_wp2
    all_goals
      go_ret
      refine ⟨ret_bool ?_, G1⟩
      first
        | rfl
        | (simp; omega)

theorem ask_any (q n at' b : Nat) (x : In) (w : World) (hq : q < 5) (hc : w.cell? ⟨b, 0, none⟩ = some (.int .i64 (n : Int))) (ha : at' < n) (hn : n ≤ 4096) :
    Calls Try.prog (askN q) (#[.int .i64 (at' : Int), .agg #[.int .u16 (x.code.toNat : Int), .int .u8 (x.jt.toNat : Int), .int .u8 (x.jf.toNat : Int), .int .u32 (x.k.toNat : Int)]] ++ askC b q) w fun e w' => e = .returned (.bool (askB n at' x q)) ∧ w.grownBy w' none := by
  have hs : q = 0 ∨ q = 1 ∨ q = 2 ∨ q = 3 ∨ q = 4 := by omega
  rcases hs with rfl | rfl | rfl | rfl | rfl
  · exact q1_any at' _ _ _ _ w
  · exact q2_any at' _ _ _ _ w
  · exact q3_any at' _ _ _ _ w
  · exact q4_any at' _ _ _ _ w
  · exact q5_any at' _ _ _ _ b n w hc ha hn x.jt.toNat_lt x.jf.toNat_lt

/-- The row of questions, and the number that the last one has caught. -/
def RowAt (w : World) (g b n : Nat) : Prop := (∀ q, q < 5 → w.cell? ⟨g, q * 2, none⟩ = some (.int .i64 (askE q)) ∧ w.cell? ⟨g, q * 2 + 1, none⟩ = some (.func (.func (askN q)) #[] (askC b q))) ∧ w.cell? ⟨b, 0, none⟩ = some (.int .i64 (n : Int))
theorem RowAt.grown {w w' : World} {g b n : Nat} (h : RowAt w g b n) (G : w.grownBy w' none) : RowAt w' g b n :=
  ⟨fun q hq => ⟨G.cell (h.1 q hq).1 (by simp), G.cell (h.1 q hq).2 (by simp)⟩, G.cell h.2 (by simp)⟩

set_option maxHeartbeats 1000000 in
theorem questions_any (n : Nat) (w : World) :
    Calls Try.prog 27 #[.int .i64 (n : Int)] w fun e w' => ∃ g b, e = .returned (.slice (some ⟨g, 0, none⟩) 5 5) ∧ RowAt w' g b n ∧ w.grownBy w' none := by
  go_enter Try.func27, Try.ntmps27
  go_wp2
  go_ret
  have C1 := cv_lit w 3 [.int .i64 (n : Int)]
  have C2 := cv_lit (w.alloc (.cells #[.int .i64 (n : Int)] 3)) 76 [.int .i64 42, .func (.func 34) #[] #[], .int .i64 43, .func (.func 35) #[] #[], .int .i64 44, .func (.func 37) #[] #[], .int .i64 45, .func (.func 38) #[] #[], .int .i64 46, .func (.func 39) #[] #[.pointer (some ⟨w.heap.size, 0, none⟩)]]
  have K2 := World.grownBy_alloc (w.alloc (.cells #[.int .i64 (n : Int)] 3)) (.cells #[.int .i64 42, .func (.func 34) #[] #[], .int .i64 43, .func (.func 35) #[] #[], .int .i64 44, .func (.func 37) #[] #[], .int .i64 45, .func (.func 38) #[] #[], .int .i64 46, .func (.func 39) #[] #[.pointer (some ⟨w.heap.size, 0, none⟩)]] 76) none
  have G2 := grown_trans (World.grownBy_alloc w (.cells #[.int .i64 (n : Int)] 3) none) K2
  have hz : (w.alloc (.cells #[.int .i64 (n : Int)] 3)).heap.size = w.heap.size + 1 := by simp
  rw [hz] at C2
  have hb := K2.cell (C1.2 _ rfl 0 (by simp)) (by simp)
  refine ⟨_, w.heap.size, rfl, ⟨fun q hq => ?_, ?_⟩, ?_⟩
  · have hs : q = 0 ∨ q = 1 ∨ q = 2 ∨ q = 3 ∨ q = 4 := by omega
    rcases hs with rfl | rfl | rfl | rfl | rfl
    · exact ⟨C2.2 _ rfl 0 (by simp), C2.2 _ rfl 1 (by simp)⟩
    · exact ⟨C2.2 _ rfl 2 (by simp), C2.2 _ rfl 3 (by simp)⟩
    · exact ⟨C2.2 _ rfl 4 (by simp), C2.2 _ rfl 5 (by simp)⟩
    · exact ⟨C2.2 _ rfl 6 (by simp), C2.2 _ rfl 7 (by simp)⟩
    · exact ⟨C2.2 _ rfl 8 (by simp), C2.2 _ rfl 9 (by simp)⟩
  · exact hb
  · exact G2

end Go.Proofs.Ytaldhnionkacmab
