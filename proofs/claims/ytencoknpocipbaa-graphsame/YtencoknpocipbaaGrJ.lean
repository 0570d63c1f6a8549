/-
  Package graph as landed: how a run leaves a block.
-/
import Derived.Test.YtencoknpocipbaaLotP19
import Derived.Test.YtencoknpocipbaaVmI2
namespace Go.Proofs.Ytencoknpocipbaa
open Go.RowKit
set_option maxRecDepth 100000

theorem RAt.setS' {w : World} {g : Nat} {R : Rn} {z : Int} (h : RAt w g R) {o : Bool} {v : Nat} {vf : Int} {s : Nat} (hr : R.rest = gRest o v vf s) (s' : Nat) (hz : z = (s' : Int)) : RAt (w.setCell ⟨g, 25, none⟩ (.int .i64 z)) g { R with rest := gRest o v vf s' } := by
  subst hz
  exact h.setS hr s'

theorem box8_alloc (w : World) (b : Bk) (a : Option Addr) (ca : Nat) : Box8 w w.heap.size b.en b.last.code.toNat b.last.jt.toNat b.last.jf.toNat b.last.k.toNat b.yes b.no (w.alloc (.cells (bkA b a ca) 48)) := by
  have h := cv_lit w 48 (bkA b a ca).toList
  exact ⟨h.2 _ rfl 1 (by simp), h.2 _ rfl 2 (by simp), h.2 _ rfl 3 (by simp), h.2 _ rfl 4 (by simp), h.2 _ rfl 5 (by simp), h.2 _ rfl 6 (by simp), h.2 _ rfl 7 (by simp), World.grownBy_alloc _ _ _⟩

set_option maxHeartbeats 2000000 in
theorem leave_go (b : Bk) (a : Option Addr) (ca g : Nat) (w : World) (he : b.en = 2) :
    Calls Try.prog 41 #[.pointer (some ⟨g, 0, none⟩), bkV b a ca] w fun e w' => e = .returned (.int .i64 b.yes) ∧ w.grownBy w' none := by
  have B0 := box8_alloc w b a ca
  go_enter Try.func41, Try.ntmps41
  go_upto_region 1 with fail
  generalize w.alloc (.cells (bkA b a ca) 48) = w1 at *
  generalize w.heap.size = B at *
  obtain ⟨x1, -, -, -, -, x6, -, G⟩ := B0
  rw [he] at x1
  go_wp2
  go_ret
  exact ⟨rfl, G⟩

set_option maxHeartbeats 2000000 in
theorem leave_ret (b : Bk) (a : Option Addr) (ca g : Nat) (R : Rn) (o : Bool) (v s : Nat) (vf : Int) (w : World) (hr : RAt w g R) (hR : R.rest = gRest o v vf s) (hs : s ≤ 1000000) (he : b.en = 1) :
    Calls Try.prog 41 #[.pointer (some ⟨g, 0, none⟩), bkV b a ca] w fun e w' => e = .returned (.int .i64 0) ∧ RAt w' g { R with rest := gRest true (giveV b.last R.M) vf (s + 1) } ∧ w.grownBy w' (some g) := by
  have B0 := box8_alloc w b a ca
  have HLT : Hid (w.heap.size ≠ g) := Nat.ne_of_gt hr.1.lt
  have HR : Hid (RAt w g R) := hr
  obtain ⟨R1, hR1⟩ : ∃ R1 : Rn, R1 = { R with rest := gRest o v vf (s + 1) } := ⟨_, rfl⟩
  have hM1 : R1.M = R.M := by rw [hR1]
  have HGV : Hid (∀ W : World, RAt W g R1 → Calls Try.prog 36 #[.pointer (some ⟨g, 0, none⟩), .agg #[.int .u16 (b.last.code.toNat : Int), .int .u8 (b.last.jt.toNat : Int), .int .u8 (b.last.jf.toNat : Int), .int .u32 (b.last.k.toNat : Int)]] W fun e w' => e = .returned (.int .u32 (giveV b.last R.M : Int)) ∧ W.grownBy w' none) := fun W h => by
    have := mgive_any g b.last.code.toNat b.last.jt.toNat b.last.jf.toNat b.last.k.toNat R1 W h
    rw [hM1] at this
    exact this
  have HR1 : Hid (R1.rest = gRest o v vf (s + 1)) := by show _ = _; rw [hR1]
  have HR2 : Hid (∀ V, { R1 with rest := V } = { R with rest := V }) := by intro V; rw [hR1]
  have HS1 : Hid (∀ W : World, RAt W g R → RAt (W.setCell ⟨g, 25, none⟩ (.int .i64 ((s : Int) + 1))) g R1) := fun W h => by
    rw [hR1]
    exact h.setS' hR (s + 1) (by omega)
  clear hR1 hM1
  have d25 := fun W (h : RAt W g R) => h.s hR
  generalize giveV b.last R.M = gv at *
  go_enter Try.func41, Try.ntmps41
  go_upto_region 1 with fail
  generalize w.alloc (.cells (bkA b a ca) 48) = w1 at *
  generalize w.heap.size = B at *
  obtain ⟨x1, x2, x3, x4, x5, -, -, G1⟩ := B0
  rw [he] at x1
  have r1 := HR.out.kept G1
  have e25 := d25 w1 r1
  have f25 := r1.free 25
  have hne : ((B : Nat) == g) = false := by rw [beq_eq_false_iff_ne]; exact HLT.out
  have HR3 : Hid (RAt (w1.setCell ⟨g, 25, none⟩ (.int .i64 ((s : Int) + 1))) g R1) := HS1.out w1 r1
  have HK3 : Hid (w1.grownBy (w1.setCell ⟨g, 25, none⟩ (.int .i64 ((s : Int) + 1))) (some g)) := grown_set1 w1 ⟨g, 25, none⟩ _
  clear d25 HR HS1 r1 hr
  go_upto_region 4 with fail
  generalize w1.setCell ⟨g, 25, none⟩ (.int .i64 ((s : Int) + 1)) = w3 at *
  have hBg : some B ≠ some g := by simpa using HLT.out
  have y1 := HK3.out.cell x1 hBg
  have y2 := HK3.out.cell x2 hBg
  have y3 := HK3.out.cell x3 hBg
  have y4 := HK3.out.cell x4 hBg
  have y5 := HK3.out.cell x5 hBg
  have HG4 : Hid (w.grownBy w3 (some g)) := grown_trans (grown_mono (row := some g) G1) HK3.out
  have d23 : w3.cell? ⟨g, 23, none⟩ = some (.int .u32 (v : Int)) := HR3.out.v HR1.out
  clear x1 x2 x3 x4 x5 G1 HK3 e25 f25 hBg HLT hne
  clear w1
  go_upto_region 5 with fail
  go_region_with (first
    | (go_at_call 36; refine (HGV.out _ ?_).mono ?_; (first | exact HR3.out | exact HR3.out.kept (grown_drewN _ 1 none)); rintro e w5 ⟨rfl, K5⟩; have R5 : Hid (RAt w5 g R1) := (by first | exact HR3.out.kept K5 | exact HR3.out.kept (grown_trans (grown_drewN w3 1 none) K5)); have G5 : Hid (w.grownBy w5 (some g)) := (by first | exact grown_trans HG4.out (grown_mono K5) | exact grown_trans HG4.out (grown_mono (grown_trans (grown_drewN w3 1 none) K5))); have d26 : w5.cell? ⟨g, 23, none⟩ = some (.int .u32 (v : Int)) := R5.out.v HR1.out; have f26 := R5.out.free 23))
  have R6 := R5.out.setV HR1.out gv
  have G6 := grown_trans G5.out (grown_set1 w5 ⟨g, 23, none⟩ (.int .u32 (gv : Int)))
  clear d23 d26 f26 R5 G5 K5 HR3 HG4 HGV y1 y2 y3 y4 y5
  go_upto_region 6 with fail
  generalize w5.setCell ⟨g, 23, none⟩ (.int .u32 (gv : Int)) = w6 at *
  have d22 : w6.cell? ⟨g, 22, none⟩ = some (.bool o) := R6.o rfl
  have f22 := R6.free 22
  have R7 := R6.setO rfl true
  have G7 := grown_trans G6 (grown_set1 w6 ⟨g, 22, none⟩ (.bool true))
  clear R6 G6
  go_wp2
  go_ret
  refine ⟨rfl, ?_, G7⟩
  rw [← HR2.out]
  exact R7

set_option maxHeartbeats 2000000 in
theorem leave_test (b : Bk) (a : Option Addr) (ca g q : Nat) (R : Rn) (o : Bool) (v s : Nat) (vf : Int) (w : World) (hr : RAt w g R) (hR : R.rest = gRest o v vf s) (hs : s ≤ 1000000) (hq : R.q = .slice (some ⟨q, 0, none⟩) 78 78) (T : QTab w q) (hqg : q ≠ g) (hM : R.M.ok) (he : b.en = 3) (hj : jumpB b.last.code.toNat = true) :
    Calls Try.prog 41 #[.pointer (some ⟨g, 0, none⟩), bkV b a ca] w fun e w' => e = .returned (.int .i64 (if asksV b.last R.M = true then b.yes else b.no)) ∧ RAt w' g { R with rest := gRest o v vf (s + 1) } ∧ w.grownBy w' (some g) := by
  have B0 := box8_alloc w b a ca
  have HLT : Hid (w.heap.size ≠ g) := Nat.ne_of_gt hr.1.lt
  have HR : Hid (RAt w g R) := hr
  obtain ⟨R1, hR1⟩ : ∃ R1 : Rn, R1 = { R with rest := gRest o v vf (s + 1) } := ⟨_, rfl⟩
  have HAK : Hid (∀ W : World, RAt W g R1 → w.grownBy W (some g) → Calls Try.prog 61 #[.pointer (some ⟨g, 0, none⟩), .agg #[.int .u16 (b.last.code.toNat : Int), .int .u8 (b.last.jt.toNat : Int), .int .u8 (b.last.jf.toNat : Int), .int .u32 (b.last.k.toNat : Int)]] W fun e w' => e = .returned (.bool (asksV b.last R.M)) ∧ W.grownBy w' none) := fun W h G => by
    have := askc_any b.last.code.toNat g q b.last.jt.toNat b.last.jf.toNat b.last.k.toNat R1 W h (by rw [hR1]; exact hq) (T.grown G (by simpa using hqg)) (by rw [hR1]; exact hM) (by have := b.last.k.toNat_lt; omega) hj
    rw [show R1.M = R.M by rw [hR1]] at this
    exact this
  have HS1 : Hid (∀ W : World, RAt W g R → RAt (W.setCell ⟨g, 25, none⟩ (.int .i64 ((s : Int) + 1))) g R1) := fun W h => by
    rw [hR1]
    exact h.setS' hR (s + 1) (by omega)
  rw [← hR1]
  clear hR1 hj hM T hq
  have d25 := fun W (h : RAt W g R) => h.s hR
  generalize asksV b.last R.M = yes at *
  go_enter Try.func41, Try.ntmps41
  go_upto_region 1 with fail
  generalize w.alloc (.cells (bkA b a ca) 48) = w1 at *
  generalize w.heap.size = B at *
  obtain ⟨x1, x2, x3, x4, x5, x6, x7, G1⟩ := B0
  rw [he] at x1
  have r1 := HR.out.kept G1
  have e25 := d25 w1 r1
  have f25 := r1.free 25
  have hne : ((B : Nat) == g) = false := by rw [beq_eq_false_iff_ne]; exact HLT.out
  have HR3 : Hid (RAt (w1.setCell ⟨g, 25, none⟩ (.int .i64 ((s : Int) + 1))) g R1) := HS1.out w1 r1
  have HK3 : Hid (w1.grownBy (w1.setCell ⟨g, 25, none⟩ (.int .i64 ((s : Int) + 1))) (some g)) := grown_set1 w1 ⟨g, 25, none⟩ _
  clear d25 HR HS1 r1 hr
  go_upto_region 4 with fail
  generalize w1.setCell ⟨g, 25, none⟩ (.int .i64 ((s : Int) + 1)) = w3 at *
  have hBg : some B ≠ some g := by simpa using HLT.out
  have y1 := HK3.out.cell x1 hBg
  have y2 := HK3.out.cell x2 hBg
  have y3 := HK3.out.cell x3 hBg
  have y4 := HK3.out.cell x4 hBg
  have y5 := HK3.out.cell x5 hBg
  have y6 := HK3.out.cell x6 hBg
  have y7 := HK3.out.cell x7 hBg
  have HG4 : Hid (w.grownBy w3 (some g)) := grown_trans (grown_mono (row := some g) G1) HK3.out
  have B3 : Box8 w3 B 3 b.last.code.toNat b.last.jt.toNat b.last.jf.toNat b.last.k.toNat b.yes b.no w3 := ⟨y1, y2, y3, y4, y5, y6, y7, World.grownBy.refl _ _⟩
  clear x1 x2 x3 x4 x5 x6 x7 G1 HK3 e25 f25 hBg HLT hne
  clear w1
  go_upto_region 8 with fail
  go_region_held3 (fun W => Box8 w3 B 3 b.last.code.toNat b.last.jt.toNat b.last.jf.toNat b.last.k.toNat b.yes b.no W) (first | exact box8_call (by assumption) (by assumption) | exact box8_drewn B3) (first
    | (go_at_call 61; refine (HAK.out _ (HR3.out.kept (by exact (by assumption : Box8 w3 B _ _ _ _ _ _ _ _).2.2.2.2.2.2.2)) (grown_trans HG4.out (grown_mono (by exact (by assumption : Box8 w3 B _ _ _ _ _ _ _ _).2.2.2.2.2.2.2)))).mono ?_; rintro e w4 ⟨rfl, K4⟩))
  have B4 := (by assumption : Box8 w3 B 3 b.last.code.toNat b.last.jt.toNat b.last.jf.toNat b.last.k.toNat b.yes b.no w4)
  clear y1 y2 y3 y4 y5 y6 y7 B3 K4 HAK
  obtain ⟨-, -, -, -, -, z6, z7, G5⟩ := B4
  have RF := HR3.out.kept G5
  have GF := grown_trans HG4.out (grown_mono (row := some g) G5)
  cases yes with
  | true =>
    go_wp2
    go_ret
    exact ⟨rfl, RF, GF⟩
  | false =>
    go_wp2
    go_ret
    exact ⟨rfl, RF, GF⟩

end Go.Proofs.Ytencoknpocipbaa
