/-
  vm's run beside graph's: a block of 28 cells. The landed run: how far a jump leaps.
-/
import Derived.Test.YtencoknpocipbaaVmI2
namespace Go.Proofs.Ytencoknpocipbaa
open Go.RowKit
set_option maxRecDepth 100000

/-- A run of vm: its words, the packet, the fault, the two tables, the program, the place, is it over?, the verdict. -/
structure Vn where
  M : Mc
  pk : Value
  f : Int
  d : Value
  q : Value
  p : Value
  j : Nat
  o : Bool
  v : Nat
  vf : Int
  s : Nat

def Vn.rest (R : Vn) : List Value := [R.p, .int .i64 (R.j : Int), .bool R.o, .int .u32 (R.v : Int), .int .i64 R.vf, .int .i64 (R.s : Int)]
def Vn.rn (R : Vn) : Rn := ⟨R.M, R.pk, R.f, R.d, R.q, 87, R.rest⟩
def Vn.tail (R : Vn) : List Value := R.pk :: .int .i64 R.f :: R.d :: R.q :: R.rest
def Vn.arr (R : Vn) : Array Value := R.rn.arr
/-- It lies in a block. -/
def VnAt (w : World) (g : Nat) (R : Vn) : Prop := RAt w g R.rn

theorem VnAt.tl {w : World} {g : Nat} {R : Vn} (h : VnAt w g R) (i : Nat) : w.cell? ⟨g, 18 + i, none⟩ = R.tail[i]? := RAt.tl h i
theorem VnAt.lt {w : World} {g : Nat} {R : Vn} (h : VnAt w g R) : g < w.heap.size := GVt.lt (And.left h)
theorem VnAt.free {w : World} {g : Nat} {R : Vn} (h : VnAt w g R) (i : Nat) : w.frozen? ⟨g, i, none⟩ = false := RAt.free h i
theorem VnAt.grown {w w' : World} {g : Nat} {R : Vn} {row : Option Nat} (h : VnAt w g R) (G : w.grownBy w' row) (hr : row ≠ some g) : VnAt w' g R := RAt.grown h G hr
theorem VnAt.kept {w w' : World} {g : Nat} {R : Vn} (h : VnAt w g R) (G : w.grownBy w' none) : VnAt w' g R := RAt.kept h G
theorem VnAt.setTail {w : World} {g : Nat} {R R' : Vn} {v : Value} (h : VnAt w g R) (i : Nat) (hM : R'.M = R.M) (ht : R'.rn.tail = R.rn.tail.set i v) : VnAt (w.setCell ⟨g, 18 + i, none⟩ v) g R' := RAt.setTail (R := R.rn) (R' := R'.rn) h i hM ht
theorem VnAt.setJ {w : World} {g : Nat} {R : Vn} (h : VnAt w g R) (j : Nat) : VnAt (w.setCell ⟨g, 23, none⟩ (.int .i64 (j : Int))) g { R with j := j } := h.setTail 5 rfl rfl
theorem VnAt.setO {w : World} {g : Nat} {R : Vn} (h : VnAt w g R) (o : Bool) : VnAt (w.setCell ⟨g, 24, none⟩ (.bool o)) g { R with o := o } := h.setTail 6 rfl rfl
theorem VnAt.setV {w : World} {g : Nat} {R : Vn} (h : VnAt w g R) (v : Nat) : VnAt (w.setCell ⟨g, 25, none⟩ (.int .u32 (v : Int))) g { R with v := v } := h.setTail 7 rfl rfl
theorem VnAt.setVf {w : World} {g : Nat} {R : Vn} (h : VnAt w g R) (f : Int) : VnAt (w.setCell ⟨g, 26, none⟩ (.int .i64 f)) g { R with vf := f } := h.setTail 8 rfl rfl
theorem VnAt.setS {w : World} {g : Nat} {R : Vn} (h : VnAt w g R) (s : Nat) : VnAt (w.setCell ⟨g, 27, none⟩ (.int .i64 (s : Int))) g { R with s := s } := h.setTail 9 rfl rfl

/-- What Do leaves. -/
def VoPost (w : World) (g : Nat) (R : Vn) (good : Mc → Prop) (fl : Int) (e : Ending) (w' : World) : Prop := e = .returned (.int .i64 fl) ∧ ∃ M, good M ∧ VnAt w' g { R with M := M, f := fl } ∧ w.grownBy w' (some g)
theorem VoPost.of {w w' : World} {g : Nat} {R : Vn} {good : Mc → Prop} {fl : Int} {e : Ending} (h : DoPost w g R.rn good fl e w') : VoPost w g R good fl e w' := h

end Go.Proofs.Ytencoknpocipbaa

namespace Go.Proofs.Ytencoknpocipbaa
open Go.RowKit
set_option maxRecDepth 100000

/-- How many instructions a jump leaves out. -/
def leapV (c t f k : Nat) (M : Mc) : Nat := if ((c : Int) == 5) = true then k else if asksC c k M = true then t else f

set_option maxHeartbeats 400000 in
theorem leap_ja (g c t f k : Nat) (R : Vn) (w : World) (hk : k ≤ 4294967295) (h5 : ((c : Int) == 5) = true) :
    Calls Try.prog 37 #[.pointer (some ⟨g, 0, none⟩), .agg #[.int .u16 (c : Int), .int .u8 (t : Int), .int .u8 (f : Int), .int .u32 (k : Int)]] w fun e w' => e = .returned (.int .i64 (leapV c t f k R.M : Int)) ∧ w.grownBy w' none := by
  have e : leapV c t f k R.M = k := by rw [leapV, if_pos h5]
  rw [e]
  have G0 : w.grownBy (w.alloc (.cells #[.int .u16 (c : Int), .int .u8 (t : Int), .int .u8 (f : Int), .int .u32 (k : Int)] 46)) none := World.grownBy_alloc _ _ _
  go_enter Try.func37, Try.ntmps37
  go_wp2
  go_ret
  exact ⟨rfl, G0⟩

/-- An instruction in a box, through calls. -/
abbrev BoxI (w0 : World) (b : Nat) (c t f k : Int) (W : World) : Prop := W.cell? ⟨b, 0, none⟩ = some (.int .u16 c) ∧ W.cell? ⟨b, 1, none⟩ = some (.int .u8 t) ∧ W.cell? ⟨b, 2, none⟩ = some (.int .u8 f) ∧ W.cell? ⟨b, 3, none⟩ = some (.int .u32 k) ∧ w0.grownBy W none

theorem boxI_call {w0 W W' : World} {b : Nat} {c t f k : Int} (K : W.grownBy W' none) (h : BoxI w0 b c t f k W) : BoxI w0 b c t f k W' :=
  ⟨K.cell h.1 (by simp), K.cell h.2.1 (by simp), K.cell h.2.2.1 (by simp), K.cell h.2.2.2.1 (by simp), grown_trans h.2.2.2.2 K⟩

theorem boxI_drewn {w0 W : World} {b n : Nat} {c t f k : Int} (h : BoxI w0 b c t f k W) : BoxI w0 b c t f k (W.drewN n) := boxI_call (grown_drewN _ _ none) h

theorem boxI_alloc (w : World) (e : TypeId) (c t f k : Int) : BoxI w w.heap.size c t f k (w.alloc (.cells #[.int .u16 c, .int .u8 t, .int .u8 f, .int .u32 k] e)) := by
  have h := cv_lit w e [.int .u16 c, .int .u8 t, .int .u8 f, .int .u32 k]
  exact ⟨h.2 _ rfl 0 (by simp), h.2 _ rfl 1 (by simp), h.2 _ rfl 2 (by simp), h.2 _ rfl 3 (by simp), World.grownBy_alloc _ _ _⟩

set_option maxHeartbeats 1000000 in
theorem leap_q (g d c t f k : Nat) (R : Vn) (w : World) (hr : VnAt w g R) (hd : R.q = .slice (some ⟨d, 0, none⟩) 78 78) (T : QTab w d) (hM : R.M.ok) (hk : k ≤ 4294967295) (ht : t < 256) (hf : f < 256) (h5 : ((c : Int) == 5) = false) (hj : jumpB (c : Int) = true) :
    Calls Try.prog 37 #[.pointer (some ⟨g, 0, none⟩), .agg #[.int .u16 (c : Int), .int .u8 (t : Int), .int .u8 (f : Int), .int .u32 (k : Int)]] w fun e w' => e = .returned (.int .i64 (leapV c t f k R.M : Int)) ∧ w.grownBy w' none := by
  have B0 := boxI_alloc w 46 c t f k
  have HA : Hid (∀ W : World, w.grownBy W none → Calls Try.prog 61 #[.pointer (some ⟨g, 0, none⟩), .agg #[.int .u16 (c : Int), .int .u8 (t : Int), .int .u8 (f : Int), .int .u32 (k : Int)]] W fun e w' => e = .returned (.bool (asksC c k R.M)) ∧ W.grownBy w' none) := fun W K => askc_any c g d t f k R.rn W (hr.kept K) hd (T.grown K (by simp)) hM hk hj
  have e : leapV c t f k R.M = if asksC c k R.M = true then t else f := by rw [leapV, if_neg (by rw [h5]; simp)]
  rw [e]
  clear hr hd T e
  generalize asksC c k R.M = yes at *
  go_enter Try.func37, Try.ntmps37
  go_upto_region 3 with fail
  generalize w.alloc (.cells #[.int .u16 (c : Int), .int .u8 (t : Int), .int .u8 (f : Int), .int .u32 (k : Int)] 46) = w1 at *
  generalize w.heap.size = B at *
  go_region_held3 (fun W => W.cell? ⟨B, 0, none⟩ = some (.int .u16 (c : Int)) ∧ W.cell? ⟨B, 1, none⟩ = some (.int .u8 (t : Int)) ∧ W.cell? ⟨B, 2, none⟩ = some (.int .u8 (f : Int)) ∧ W.cell? ⟨B, 3, none⟩ = some (.int .u32 (k : Int)) ∧ w.grownBy W none) (first | exact boxI_call K2 (by assumption) | exact boxI_drewn B0) (first
    | (go_at_call 61; refine (HA.out _ (by exact (by assumption : BoxI w B c t f k _).2.2.2.2)).mono ?_; rintro e w2 ⟨rfl, K2⟩))
  have B2 := (by assumption : BoxI w B c t f k w2)
  clear B0 K2 HA
  obtain ⟨x0, x1, x2, x3, G⟩ := B2
  cases yes with
  | true =>
    go_wp2
    go_ret
    exact ⟨rfl, G⟩
  | false =>
    go_wp2
    go_ret
    exact ⟨rfl, G⟩

end Go.Proofs.Ytencoknpocipbaa
