/-
  The landed run: one step.
-/
import Derived.Test.YtencoknpocipbaaLotP33
namespace Go.Proofs.Ytencoknpocipbaa
open Go.RowKit
set_option maxRecDepth 100000

theorem VnAt.setJ' {w : World} {g : Nat} {R : Vn} {z : Int} (h : VnAt w g R) (j : Nat) (hz : z = (j : Int)) : VnAt (w.setCell ⟨g, 23, none⟩ (.int .i64 z)) g { R with j := j } := by
  subst hz
  exact h.setJ j
theorem VnAt.setS' {w : World} {g : Nat} {R : Vn} {z : Int} (h : VnAt w g R) (s : Nat) (hz : z = (s : Int)) : VnAt (w.setCell ⟨g, 27, none⟩ (.int .i64 z)) g { R with s := s } := by
  subst hz
  exact h.setS s
theorem class5_ret {c : Nat} (h : ((c : Int) == 6 || (c : Int) == 22) = true) : classV (c : Int) = 6 := by
  have : c = 6 ∨ c = 22 := by
    simp only [Bool.or_eq_true, beq_iff_eq] at h
    omega
  rcases this with rfl | rfl <;> rfl
theorem class5_jmp {c : Nat} (h : ((c : Int) == 5 || jumpB (c : Int)) = true) : classV (c : Int) = 5 := by
  have : c = 5 ∨ c = 21 ∨ c = 29 ∨ c = 37 ∨ c = 45 ∨ c = 53 ∨ c = 61 ∨ c = 69 ∨ c = 77 := by
    simp only [jumpB, Bool.or_eq_true, beq_iff_eq] at h
    omega
  rcases this with rfl | rfl | rfl | rfl | rfl | rfl | rfl | rfl | rfl <;> rfl
theorem class5_other {c : Nat} (hk : knownB (c : Int) = true) (h6 : ((c : Int) == 6) = false) (h22 : ((c : Int) == 22) = false) (h5 : ((c : Int) == 5) = false) (hj : jumpB (c : Int) = false) : (classV (c : Int) == 6) = false ∧ (classV (c : Int) == 5) = false := by
  have := known_all (fun c => (c == 6 || c == 22 || c == 5 || jumpB c) || ((classV c == 6) == false && (classV c == 5) == false)) (by decide +kernel) hk
  simp only [h6, h22, h5, hj, Bool.or_self, Bool.false_or, Bool.and_eq_true, beq_iff_eq] at this
  exact this

/-- One instruction carried out: the place behind it, one step more. -/
def Vn.next (R : Vn) : Vn := { R with j := R.j + 1, s := R.s + 1 }

set_option maxHeartbeats 2000000 in
theorem step_ret (g ba oa ca n c t f k : Nat) (R : Vn) (w : World) (hr : VnAt w g R) (hp : R.p = .slice (some ⟨ba, oa, none⟩) n ca) (hj : R.j < n) (hn : n ≤ 4096) (hs : R.s ≤ 4096) (hc : c ≤ 65535)
    (c0 : w.cell? ⟨ba, oa + R.j * 4, none⟩ = some (.int .u16 (c : Int))) (c1 : w.cell? ⟨ba, oa + R.j * 4 + 1, none⟩ = some (.int .u8 (t : Int))) (c2 : w.cell? ⟨ba, oa + R.j * 4 + 2, none⟩ = some (.int .u8 (f : Int))) (c3 : w.cell? ⟨ba, oa + R.j * 4 + 3, none⟩ = some (.int .u32 (k : Int)))
    (hret : ((c : Int) == 6 || (c : Int) == 22) = true) :
    Calls Try.prog 23 #[.pointer (some ⟨g, 0, none⟩)] w fun e w' => e = .returned (.tuple #[]) ∧ VnAt w' g { R.next with v := byV c k R.M.a, o := true } ∧ w.grownBy w' (some g) := by
  have cp : w.cell? ⟨g, 22, none⟩ = some (.slice (some ⟨ba, oa, none⟩) n ca) := by rw [← hp]; exact hr.tl 4
  have cj : w.cell? ⟨g, 23, none⟩ = some (.int .i64 (R.j : Int)) := hr.tl 5
  have HR : Hid (VnAt w g R) := hr
  have hl : (R.j : Int) < (n : Int) := by omega
  have HLT : Hid (w.heap.size ≠ g) := by
    have := hr.lt
    exact Nat.ne_of_gt this
  have Z0 : w.grownBy (w.alloc (.cells #[.int .u16 0, .int .u8 0, .int .u8 0, .int .u32 0] 46)) none := World.grownBy_alloc _ _ _
  have z0 := Z0.cell c0 (by simp)
  have z1 := Z0.cell c1 (by simp)
  have z2 := Z0.cell c2 (by simp)
  have z3 := Z0.cell c3 (by simp)
  have zp := Z0.cell cp (by simp)
  have zj := Z0.cell cj (by simp)
  have HB : Hid (BoxI w w.heap.size c t f k (w.alloc (.cells #[.int .u16 (c : Int), .int .u8 (t : Int), .int .u8 (f : Int), .int .u32 (k : Int)] 46)).drew) := boxI_call (grown_drewN _ 1 none) (boxI_alloc w 46 c t f k)
  clear hr Z0
  go_enter Try.func23, Try.ntmps23
  go_upto_region 0 with fail
  go_region
  clear c0 c1 c2 c3 cp cj z0 z1 z2 z3 zp zj
  generalize (w.alloc (.cells #[.int .u16 (c : Int), .int .u8 (t : Int), .int .u8 (f : Int), .int .u32 (k : Int)] 46)).drew = wb at *
  generalize w.heap.size = B at *
  obtain ⟨x0, x1, x2, x3, GB⟩ := HB.out
  have RB := HR.out.kept GB
  have d23 : wb.cell? ⟨g, 23, none⟩ = some (.int .i64 (R.j : Int)) := RB.tl 5
  have d27 : wb.cell? ⟨g, 27, none⟩ = some (.int .i64 (R.s : Int)) := RB.tl 9
  have f23 := RB.free 23
  have f27 := RB.free 27
  have HR3 : Hid (VnAt ((wb.setCell ⟨g, 23, none⟩ (.int .i64 ((R.j : Int) + 1))).setCell ⟨g, 27, none⟩ (.int .i64 ((R.s : Int) + 1))) g R.next) := (RB.setJ' (R.j + 1) (by omega)).setS' (R.s + 1) (by omega)
  have HK3 : Hid (wb.grownBy ((wb.setCell ⟨g, 23, none⟩ (.int .i64 ((R.j : Int) + 1))).setCell ⟨g, 27, none⟩ (.int .i64 ((R.s : Int) + 1))) (some g)) := grown_trans (grown_set1 wb ⟨g, 23, none⟩ (.int .i64 ((R.j : Int) + 1))) (grown_set1 _ ⟨g, 27, none⟩ (.int .i64 ((R.s : Int) + 1)))
  have hne : ((B : Nat) == g) = false := by rw [beq_eq_false_iff_ne]; exact HLT.out
  clear RB HB HR
  go_upto_region 3 with fail
  generalize (wb.setCell ⟨g, 23, none⟩ (.int .i64 ((R.j : Int) + 1))).setCell ⟨g, 27, none⟩ (.int .i64 ((R.s : Int) + 1)) = w3 at *
  have hBg : some B ≠ some g := by simpa using HLT.out
  have y0 := HK3.out.cell x0 hBg
  have y1 := HK3.out.cell x1 hBg
  have y2 := HK3.out.cell x2 hBg
  have y3 := HK3.out.cell x3 hBg
  have G3 := grown_trans (grown_mono (row := some g) GB) HK3.out
  clear x0 x1 x2 x3 GB HK3 d23 d27 f23 f27 hBg HLT hne
  clear wb
  go_wp2_with fail
  refine (class_any c _ (by omega) (by omega)).mono ?_
  rintro e w4 ⟨rfl, K4⟩
  have B4 : BoxI w3 B c t f k w4 := ⟨K4.cell y0 (by simp), K4.cell y1 (by simp), K4.cell y2 (by simp), K4.cell y3 (by simp), K4⟩
  have HR4 : Hid (VnAt w4 g R.next) := HR3.out.kept K4
  have HG4 : Hid (w.grownBy w4 (some g)) := grown_trans G3 (grown_mono K4)
  clear y0 y1 y2 y3 HR3 G3 K4
  rw [class5_ret hret]
  have d25 : w4.cell? ⟨g, 25, none⟩ = some (.int .u32 (R.v : Int)) := HR4.out.tl 7
  have HGV : Hid (∀ W : World, VnAt W g R.next → Calls Try.prog 36 #[.pointer (some ⟨g, 0, none⟩), .agg #[.int .u16 (c : Int), .int .u8 (t : Int), .int .u8 (f : Int), .int .u32 (k : Int)]] W fun e w' => e = .returned (.int .u32 (byV c k R.M.a : Int)) ∧ W.grownBy w' none) := fun W h => mgive_any g c t f k R.next.rn W h
  obtain ⟨x0, x1, x2, x3, -⟩ := B4
  go_upto_region 7 with fail
  go_region_with (first
    | (go_at_call 36; refine (HGV.out _ ?_).mono ?_; (first | exact HR4.out | exact HR4.out.kept (grown_drewN _ 1 none)); rintro e w5 ⟨rfl, K5⟩; have R5 : Hid (VnAt w5 g R.next) := (by first | exact HR4.out.kept K5 | exact HR4.out.kept (grown_trans (grown_drewN w4 1 none) K5)); have G5 : Hid (w.grownBy w5 (some g)) := (by first | exact grown_trans HG4.out (grown_mono K5) | exact grown_trans HG4.out (grown_mono (grown_trans (grown_drewN w4 1 none) K5))); have d26 : w5.cell? ⟨g, 25, none⟩ = some (.int .u32 (R.v : Int)) := R5.out.tl 7; have f26 := R5.out.free 25))
  have R6 := R5.out.setV (byV c k R.M.a)
  have G6 := grown_trans G5.out (grown_set1 w5 ⟨g, 25, none⟩ (.int .u32 (byV c k R.M.a : Int)))
  clear d25 d26 f26 R5 G5 K5 HR4 HG4 HGV x0 x1 x2 x3
  go_upto_region 8 with fail
  generalize w5.setCell ⟨g, 25, none⟩ (.int .u32 (byV c k R.M.a : Int)) = w6 at *
  have d24 : w6.cell? ⟨g, 24, none⟩ = some (.bool R.o) := R6.tl 6
  have f24 := R6.free 24
  have R7 := R6.setO true
  have G7 := grown_trans G6 (grown_set1 w6 ⟨g, 24, none⟩ (.bool true))
  clear R6 G6
  go_wp2
  (try simp only [Exit.inBlock, Exit.then]); (first | refine bodyPost_end (results_none rfl _ _ _) rfl ?_ | refine bodyPost_ret (results_none rfl _ _ _) rfl ?_)
  exact ⟨rfl, R7, G7⟩

set_option maxHeartbeats 2000000 in
theorem step_jump (g ba oa ca n c t f k : Nat) (R : Vn) (w : World) (hr : VnAt w g R) (hp : R.p = .slice (some ⟨ba, oa, none⟩) n ca) (hj : R.j < n) (hn : n ≤ 4096) (hs : R.s ≤ 4096) (hc : c ≤ 65535)
    (c0 : w.cell? ⟨ba, oa + R.j * 4, none⟩ = some (.int .u16 (c : Int))) (c1 : w.cell? ⟨ba, oa + R.j * 4 + 1, none⟩ = some (.int .u8 (t : Int))) (c2 : w.cell? ⟨ba, oa + R.j * 4 + 2, none⟩ = some (.int .u8 (f : Int))) (c3 : w.cell? ⟨ba, oa + R.j * 4 + 3, none⟩ = some (.int .u32 (k : Int))) (L : Nat) (hLb : L ≤ 4294967295)
    (hL : ∀ W : World, w.grownBy W (some g) → VnAt W g R.next → Calls Try.prog 37 #[.pointer (some ⟨g, 0, none⟩), .agg #[.int .u16 (c : Int), .int .u8 (t : Int), .int .u8 (f : Int), .int .u32 (k : Int)]] W fun e w' => e = .returned (.int .i64 (L : Int)) ∧ W.grownBy w' none)
    (hjmp : ((c : Int) == 5 || jumpB (c : Int)) = true) :
    Calls Try.prog 23 #[.pointer (some ⟨g, 0, none⟩)] w fun e w' => e = .returned (.tuple #[]) ∧ VnAt w' g { R.next with j := R.j + 1 + L } ∧ w.grownBy w' (some g) := by
  have HL : Hid (∀ W : World, w.grownBy W (some g) → VnAt W g R.next → Calls Try.prog 37 #[.pointer (some ⟨g, 0, none⟩), .agg #[.int .u16 (c : Int), .int .u8 (t : Int), .int .u8 (f : Int), .int .u32 (k : Int)]] W fun e w' => e = .returned (.int .i64 (L : Int)) ∧ W.grownBy w' none) := hL
  clear hL
  have cp : w.cell? ⟨g, 22, none⟩ = some (.slice (some ⟨ba, oa, none⟩) n ca) := by rw [← hp]; exact hr.tl 4
  have cj : w.cell? ⟨g, 23, none⟩ = some (.int .i64 (R.j : Int)) := hr.tl 5
  have HR : Hid (VnAt w g R) := hr
  have hl : (R.j : Int) < (n : Int) := by omega
  have HLT : Hid (w.heap.size ≠ g) := by
    have := hr.lt
    exact Nat.ne_of_gt this
  have Z0 : w.grownBy (w.alloc (.cells #[.int .u16 0, .int .u8 0, .int .u8 0, .int .u32 0] 46)) none := World.grownBy_alloc _ _ _
  have z0 := Z0.cell c0 (by simp)
  have z1 := Z0.cell c1 (by simp)
  have z2 := Z0.cell c2 (by simp)
  have z3 := Z0.cell c3 (by simp)
  have zp := Z0.cell cp (by simp)
  have zj := Z0.cell cj (by simp)
  have HB : Hid (BoxI w w.heap.size c t f k (w.alloc (.cells #[.int .u16 (c : Int), .int .u8 (t : Int), .int .u8 (f : Int), .int .u32 (k : Int)] 46)).drew) := boxI_call (grown_drewN _ 1 none) (boxI_alloc w 46 c t f k)
  clear hr Z0
  go_enter Try.func23, Try.ntmps23
  go_upto_region 0 with fail
  go_region
  clear c0 c1 c2 c3 cp cj z0 z1 z2 z3 zp zj
  generalize (w.alloc (.cells #[.int .u16 (c : Int), .int .u8 (t : Int), .int .u8 (f : Int), .int .u32 (k : Int)] 46)).drew = wb at *
  generalize w.heap.size = B at *
  obtain ⟨x0, x1, x2, x3, GB⟩ := HB.out
  have RB := HR.out.kept GB
  have d23 : wb.cell? ⟨g, 23, none⟩ = some (.int .i64 (R.j : Int)) := RB.tl 5
  have d27 : wb.cell? ⟨g, 27, none⟩ = some (.int .i64 (R.s : Int)) := RB.tl 9
  have f23 := RB.free 23
  have f27 := RB.free 27
  have HR3 : Hid (VnAt ((wb.setCell ⟨g, 23, none⟩ (.int .i64 ((R.j : Int) + 1))).setCell ⟨g, 27, none⟩ (.int .i64 ((R.s : Int) + 1))) g R.next) := (RB.setJ' (R.j + 1) (by omega)).setS' (R.s + 1) (by omega)
  have HK3 : Hid (wb.grownBy ((wb.setCell ⟨g, 23, none⟩ (.int .i64 ((R.j : Int) + 1))).setCell ⟨g, 27, none⟩ (.int .i64 ((R.s : Int) + 1))) (some g)) := grown_trans (grown_set1 wb ⟨g, 23, none⟩ (.int .i64 ((R.j : Int) + 1))) (grown_set1 _ ⟨g, 27, none⟩ (.int .i64 ((R.s : Int) + 1)))
  have hne : ((B : Nat) == g) = false := by rw [beq_eq_false_iff_ne]; exact HLT.out
  clear RB HB HR
  go_upto_region 3 with fail
  generalize (wb.setCell ⟨g, 23, none⟩ (.int .i64 ((R.j : Int) + 1))).setCell ⟨g, 27, none⟩ (.int .i64 ((R.s : Int) + 1)) = w3 at *
  have hBg : some B ≠ some g := by simpa using HLT.out
  have y0 := HK3.out.cell x0 hBg
  have y1 := HK3.out.cell x1 hBg
  have y2 := HK3.out.cell x2 hBg
  have y3 := HK3.out.cell x3 hBg
  have G3 := grown_trans (grown_mono (row := some g) GB) HK3.out
  clear x0 x1 x2 x3 GB HK3 d23 d27 f23 f27 hBg HLT hne
  clear wb
  go_wp2_with fail
  refine (class_any c _ (by omega) (by omega)).mono ?_
  rintro e w4 ⟨rfl, K4⟩
  have B4 : BoxI w3 B c t f k w4 := ⟨K4.cell y0 (by simp), K4.cell y1 (by simp), K4.cell y2 (by simp), K4.cell y3 (by simp), K4⟩
  have HR4 : Hid (VnAt w4 g R.next) := HR3.out.kept K4
  have HG4 : Hid (w.grownBy w4 (some g)) := grown_trans G3 (grown_mono K4)
  clear y0 y1 y2 y3 HR3 G3 K4
  rw [class5_jmp hjmp]
  obtain ⟨J, hJ⟩ : ∃ J : Nat, R.j + 1 = J := ⟨_, rfl⟩
  have HJ : Hid (R.j + 1 = J) := hJ
  have hJb : J ≤ 4096 := by omega
  have d23 : w4.cell? ⟨g, 23, none⟩ = some (.int .i64 (J : Int)) := by rw [← hJ]; exact HR4.out.tl 5
  have hw : IntKind.i64.wrap ((J : Int) + (L : Int)) = (J : Int) + (L : Int) := by rw [IntKind.wrap_i64]; omega
  clear hJ
  obtain ⟨x0, x1, x2, x3, -⟩ := B4
  go_upto_region 10 with fail
  go_region_with (first
    | (go_at_call 37; refine (HL.out _ ?_ ?_).mono ?_; (first | exact HG4.out | exact grown_trans HG4.out (grown_drewN _ 1 (some g))); (first | exact HR4.out | exact HR4.out.kept (grown_drewN _ 1 none)); rintro e w5 ⟨rfl, K5⟩; have R5 : Hid (VnAt w5 g R.next) := (by first | exact HR4.out.kept K5 | exact HR4.out.kept (grown_trans (grown_drewN w4 1 none) K5)); have G5 : Hid (w.grownBy w5 (some g)) := (by first | exact grown_trans HG4.out (grown_mono K5) | exact grown_trans HG4.out (grown_mono (grown_trans (grown_drewN w4 1 none) K5))); have d26 : w5.cell? ⟨g, 23, none⟩ = some (.int .i64 (J : Int)) := (by rw [← HJ.out]; exact R5.out.tl 5); have f26 := R5.out.free 23))
  all_goals
    have R6 := R5.out.setJ' (z := (J : Int) + (L : Int)) (R.j + 1 + L) (by have := HJ.out; omega)
    have G6 := grown_trans G5.out (grown_set1 w5 ⟨g, 23, none⟩ (.int .i64 ((J : Int) + (L : Int))))
    clear d23 d26 f26 R5 G5 K5 HR4 HG4 HL x0 x1 x2 x3
    go_wp2
    (try simp only [Exit.inBlock, Exit.then]); (first | refine bodyPost_end (results_none rfl _ _ _) rfl ?_ | refine bodyPost_ret (results_none rfl _ _ _) rfl ?_)
    exact ⟨rfl, R6, G6⟩

set_option maxHeartbeats 2000000 in
theorem step_do (g ba oa ca n c t f k : Nat) (R : Vn) (w : World) (hr : VnAt w g R) (hp : R.p = .slice (some ⟨ba, oa, none⟩) n ca) (hj : R.j < n) (hn : n ≤ 4096) (hs : R.s ≤ 4096) (hc : c ≤ 65535)
    (c0 : w.cell? ⟨ba, oa + R.j * 4, none⟩ = some (.int .u16 (c : Int))) (c1 : w.cell? ⟨ba, oa + R.j * 4 + 1, none⟩ = some (.int .u8 (t : Int))) (c2 : w.cell? ⟨ba, oa + R.j * 4 + 2, none⟩ = some (.int .u8 (f : Int))) (c3 : w.cell? ⟨ba, oa + R.j * 4 + 3, none⟩ = some (.int .u32 (k : Int))) (good : Mc → Prop) (fl : Int)
    (hD : ∀ W : World, w.grownBy W (some g) → VnAt W g R.next → Calls Try.prog 38 #[.pointer (some ⟨g, 0, none⟩), .agg #[.int .u16 (c : Int), .int .u8 (t : Int), .int .u8 (f : Int), .int .u32 (k : Int)]] W fun e w' => VoPost W g R.next good fl e w')
    (h6 : (classV (c : Int) == 6) = false) (h5 : (classV (c : Int) == 5) = false) :
    Calls Try.prog 23 #[.pointer (some ⟨g, 0, none⟩)] w fun e w' => e = .returned (.tuple #[]) ∧ (∃ M, good M ∧ VnAt w' g { R.next with M := M, f := fl, vf := fl, o := fl != 0 }) ∧ w.grownBy w' (some g) := by
  have HD : Hid (∀ W : World, w.grownBy W (some g) → VnAt W g R.next → Calls Try.prog 38 #[.pointer (some ⟨g, 0, none⟩), .agg #[.int .u16 (c : Int), .int .u8 (t : Int), .int .u8 (f : Int), .int .u32 (k : Int)]] W fun e w' => VoPost W g R.next good fl e w') := hD
  clear hD
  have cp : w.cell? ⟨g, 22, none⟩ = some (.slice (some ⟨ba, oa, none⟩) n ca) := by rw [← hp]; exact hr.tl 4
  have cj : w.cell? ⟨g, 23, none⟩ = some (.int .i64 (R.j : Int)) := hr.tl 5
  have HR : Hid (VnAt w g R) := hr
  have hl : (R.j : Int) < (n : Int) := by omega
  have HLT : Hid (w.heap.size ≠ g) := by
    have := hr.lt
    exact Nat.ne_of_gt this
  have Z0 : w.grownBy (w.alloc (.cells #[.int .u16 0, .int .u8 0, .int .u8 0, .int .u32 0] 46)) none := World.grownBy_alloc _ _ _
  have z0 := Z0.cell c0 (by simp)
  have z1 := Z0.cell c1 (by simp)
  have z2 := Z0.cell c2 (by simp)
  have z3 := Z0.cell c3 (by simp)
  have zp := Z0.cell cp (by simp)
  have zj := Z0.cell cj (by simp)
  have HB : Hid (BoxI w w.heap.size c t f k (w.alloc (.cells #[.int .u16 (c : Int), .int .u8 (t : Int), .int .u8 (f : Int), .int .u32 (k : Int)] 46)).drew) := boxI_call (grown_drewN _ 1 none) (boxI_alloc w 46 c t f k)
  clear hr Z0
  go_enter Try.func23, Try.ntmps23
  go_upto_region 0 with fail
  go_region
  clear c0 c1 c2 c3 cp cj z0 z1 z2 z3 zp zj
  generalize (w.alloc (.cells #[.int .u16 (c : Int), .int .u8 (t : Int), .int .u8 (f : Int), .int .u32 (k : Int)] 46)).drew = wb at *
  generalize w.heap.size = B at *
  obtain ⟨x0, x1, x2, x3, GB⟩ := HB.out
  have RB := HR.out.kept GB
  have d23 : wb.cell? ⟨g, 23, none⟩ = some (.int .i64 (R.j : Int)) := RB.tl 5
  have d27 : wb.cell? ⟨g, 27, none⟩ = some (.int .i64 (R.s : Int)) := RB.tl 9
  have f23 := RB.free 23
  have f27 := RB.free 27
  have HR3 : Hid (VnAt ((wb.setCell ⟨g, 23, none⟩ (.int .i64 ((R.j : Int) + 1))).setCell ⟨g, 27, none⟩ (.int .i64 ((R.s : Int) + 1))) g R.next) := (RB.setJ' (R.j + 1) (by omega)).setS' (R.s + 1) (by omega)
  have HK3 : Hid (wb.grownBy ((wb.setCell ⟨g, 23, none⟩ (.int .i64 ((R.j : Int) + 1))).setCell ⟨g, 27, none⟩ (.int .i64 ((R.s : Int) + 1))) (some g)) := grown_trans (grown_set1 wb ⟨g, 23, none⟩ (.int .i64 ((R.j : Int) + 1))) (grown_set1 _ ⟨g, 27, none⟩ (.int .i64 ((R.s : Int) + 1)))
  have hne : ((B : Nat) == g) = false := by rw [beq_eq_false_iff_ne]; exact HLT.out
  clear RB HB HR
  go_upto_region 3 with fail
  generalize (wb.setCell ⟨g, 23, none⟩ (.int .i64 ((R.j : Int) + 1))).setCell ⟨g, 27, none⟩ (.int .i64 ((R.s : Int) + 1)) = w3 at *
  have hBg : some B ≠ some g := by simpa using HLT.out
  have y0 := HK3.out.cell x0 hBg
  have y1 := HK3.out.cell x1 hBg
  have y2 := HK3.out.cell x2 hBg
  have y3 := HK3.out.cell x3 hBg
  have G3 := grown_trans (grown_mono (row := some g) GB) HK3.out
  clear x0 x1 x2 x3 GB HK3 d23 d27 f23 f27 hBg HLT hne
  clear wb
  go_wp2_with fail
  refine (class_any c _ (by omega) (by omega)).mono ?_
  rintro e w4 ⟨rfl, K4⟩
  have B4 : BoxI w3 B c t f k w4 := ⟨K4.cell y0 (by simp), K4.cell y1 (by simp), K4.cell y2 (by simp), K4.cell y3 (by simp), K4⟩
  have HR4 : Hid (VnAt w4 g R.next) := HR3.out.kept K4
  have HG4 : Hid (w.grownBy w4 (some g)) := grown_trans G3 (grown_mono K4)
  clear y0 y1 y2 y3 HR3 G3 K4
  generalize classV (c : Int) = cl at *
  obtain ⟨x0, x1, x2, x3, -⟩ := B4
  go_upto_region 4 with fail
  go_region_with (first
    | (go_at_call 38; refine (HD.out _ ?_ ?_).mono ?_; (first | exact HG4.out | exact grown_trans HG4.out (grown_drewN _ 1 (some g))); (first | exact HR4.out | exact HR4.out.kept (grown_drewN _ 1 none)); rintro e w5 ⟨rfl, M5, hg5, r5, K5⟩; have R5 : Hid (VnAt w5 g { R.next with M := M5, f := fl }) := r5; have G5 : Hid (w.grownBy w5 (some g)) := (by first | exact grown_trans HG4.out K5 | exact grown_trans HG4.out (grown_trans (grown_drewN w4 1 (some g)) K5)); have d26 : w5.cell? ⟨g, 26, none⟩ = some (.int .i64 R.vf) := R5.out.tl 8; have f26 := R5.out.free 26))
  have R6 := R5.out.setVf fl
  have G6 := grown_trans G5.out (grown_set1 w5 ⟨g, 26, none⟩ (.int .i64 fl))
  clear d26 f26 R5 G5 K5 HR4 HG4 HD x0 x1 x2 x3 r5
  go_upto_region 5 with fail
  generalize w5.setCell ⟨g, 26, none⟩ (.int .i64 fl) = w6 at *
  have d24 : w6.cell? ⟨g, 24, none⟩ = some (.bool R.o) := R6.tl 6
  have d26 : w6.cell? ⟨g, 26, none⟩ = some (.int .i64 fl) := R6.tl 8
  have f24 := R6.free 24
  have R7 := R6.setO (fl != 0)
  have G7 := grown_trans G6 (grown_set1 w6 ⟨g, 24, none⟩ (.bool (fl != 0)))
  clear R6 G6
  go_wp2
  (try simp only [Exit.inBlock, Exit.then]); (first | refine bodyPost_end (results_none rfl _ _ _) rfl ?_ | refine bodyPost_ret (results_none rfl _ _ _) rfl ?_)
  exact ⟨rfl, ⟨M5, hg5, R7⟩, G7⟩

end Go.Proofs.Ytencoknpocipbaa
