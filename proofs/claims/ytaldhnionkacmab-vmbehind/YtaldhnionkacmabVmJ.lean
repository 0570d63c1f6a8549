/-
  The landed run: how far a jump leaps.
-/
import Derived.Test.YtaldhnionkacmabVmI2
namespace Go.Proofs.Ytaldhnionkacmab
open Go.RowKit
set_option maxRecDepth 100000

/-- How many instructions a jump leaves out. -/
def leapV (c t f k : Nat) (M : Mc) : Nat := if ((c : Int) == 5) = true then k else if asksC c k M = true then t else f

set_option maxHeartbeats 400000 in
theorem leap_ja (g c t f k : Nat) (R : Rn) (w : World) (hk : k ≤ 4294967295) (h5 : ((c : Int) == 5) = true) :
    Calls Try.prog 25 #[.pointer (some ⟨g, 0, none⟩), .agg #[.int .u16 (c : Int), .int .u8 (t : Int), .int .u8 (f : Int), .int .u32 (k : Int)]] w fun e w' => e = .returned (.int .i64 (leapV c t f k R.M : Int)) ∧ w.grownBy w' none := by
  have e : leapV c t f k R.M = k := by rw [leapV, if_pos h5]
  rw [e]
  have G0 : w.grownBy (w.alloc (.cells #[.int .u16 (c : Int), .int .u8 (t : Int), .int .u8 (f : Int), .int .u32 (k : Int)] 27)) none := World.grownBy_alloc _ _ _
  go_enter Try.func25, Try.ntmps25
  go_wp2
  go_ret
  exact ⟨rfl, G0⟩

/-- An instruction in a box, through calls. -/
abbrev BoxI (w0 : World) (b : Nat) (c t f k : Int) (W : World) : Prop := W.cell? ⟨b, 0, none⟩ = some (.int .u16 c) ∧ W.cell? ⟨b, 1, none⟩ = some (.int .u8 t) ∧ W.cell? ⟨b, 2, none⟩ = some (.int .u8 f) ∧ W.cell? ⟨b, 3, none⟩ = some (.int .u32 k) ∧ w0.grownBy W none

theorem boxI_call {w0 W W' : World} {b : Nat} {c t f k : Int} (K : W.grownBy W' none) (h : BoxI w0 b c t f k W) : BoxI w0 b c t f k W' :=
  ⟨K.cell h.1 (by simp), K.cell h.2.1 (by simp), K.cell h.2.2.1 (by simp), K.cell h.2.2.2.1 (by simp), grown_trans h.2.2.2.2 K⟩

theorem boxI_drewn {w0 W : World} {b n : Nat} {c t f k : Int} (h : BoxI w0 b c t f k W) : BoxI w0 b c t f k (W.drewN n) := boxI_call (grown_drewN _ _ none) h

theorem boxI_alloc (w : World) (e : TypeId) (c t f k : Int) : BoxI w w.heap.size c t f k (w.alloc (.cells #[.int .u16 c, .int .u8 t, .int .u8 f, .int .u32 k] e)) := by
  have h := cv_lit w e [.int .u16 c, .int .u8 t, .int .u8 f, .int .u32 k]
  exact ⟨h.2 _ rfl 0 (by simp), h.2 _ rfl 1 (by simp), h.2 _ rfl 2 (by simp), h.2 _ rfl 3 (by simp), World.grownBy_alloc _ _ _⟩

set_option maxHeartbeats 1000000 in
theorem leap_q (g d c t f k : Nat) (R : Rn) (w : World) (hr : RAt w g R) (hd : R.q = .slice (some ⟨d, 0, none⟩) 78 78) (T : QTab w d) (hM : R.M.ok) (hk : k ≤ 4294967295) (ht : t < 256) (hf : f < 256) (h5 : ((c : Int) == 5) = false) (hj : jumpB (c : Int) = true) :
    Calls Try.prog 25 #[.pointer (some ⟨g, 0, none⟩), .agg #[.int .u16 (c : Int), .int .u8 (t : Int), .int .u8 (f : Int), .int .u32 (k : Int)]] w fun e w' => e = .returned (.int .i64 (leapV c t f k R.M : Int)) ∧ w.grownBy w' none := by
  have B0 := boxI_alloc w 27 c t f k
  have HA : Hid (∀ W : World, w.grownBy W none → Calls Try.prog 32 #[.pointer (some ⟨g, 0, none⟩), .agg #[.int .u16 (c : Int), .int .u8 (t : Int), .int .u8 (f : Int), .int .u32 (k : Int)]] W fun e w' => e = .returned (.bool (asksC c k R.M)) ∧ W.grownBy w' none) := fun W K => askc_any c g d t f k R W (hr.kept K) hd (T.grown K (by simp)) hM hk hj
  have e : leapV c t f k R.M = if asksC c k R.M = true then t else f := by rw [leapV, if_neg (by rw [h5]; simp)]
  rw [e]
  clear hr hd T e
  generalize asksC c k R.M = yes at *
  go_enter Try.func25, Try.ntmps25
  go_upto_region 3 with fail
  generalize w.alloc (.cells #[.int .u16 (c : Int), .int .u8 (t : Int), .int .u8 (f : Int), .int .u32 (k : Int)] 27) = w1 at *
  generalize w.heap.size = B at *
  go_region_held3 (fun W => W.cell? ⟨B, 0, none⟩ = some (.int .u16 (c : Int)) ∧ W.cell? ⟨B, 1, none⟩ = some (.int .u8 (t : Int)) ∧ W.cell? ⟨B, 2, none⟩ = some (.int .u8 (f : Int)) ∧ W.cell? ⟨B, 3, none⟩ = some (.int .u32 (k : Int)) ∧ w.grownBy W none) (first | exact boxI_call K2 (by assumption) | exact boxI_drewn B0) (first
    | (go_at_call 32; refine (HA.out _ (by exact (by assumption : BoxI w B c t f k _).2.2.2.2)).mono ?_; rintro e w2 ⟨rfl, K2⟩))
  have B2 := (by assumption : BoxI w B c t f k w2)
  clear B0 K2 HA
  obtain ⟨x0, x1, x2, x3, G⟩ := B2
  cases yes with
  | true =>
    go_wp2
    go_ret
    exact ⟨rfl, G⟩
  | false =>
    go_wp2
    go_ret
    exact ⟨rfl, G⟩

end Go.Proofs.Ytaldhnionkacmab
