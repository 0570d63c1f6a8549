/-
  The landed machine: what stands in its table of questions; Ask of every jump; the tables made. Package graph as landed: how a run leaves a block.
-/
import Derived.Test.YtencoknpocipbaaGreatLotP33
import Derived.Test.YtencoknpocipbaaGreatVmI
import Derived.Test.YtencoknpocipbaaGreatLotP23
namespace Go.Proofs.YtencoknpocipbaaGreat
open Go.RowKit
set_option maxRecDepth 100000

/-- The questions, by their codes. -/
def askT : List (Nat × FuncId) :=
  [(21, 89), (29, 89), (37, 90), (45, 90), (53, 91), (61, 91), (69, 92), (77, 92)]
def QTab (w : World) (d : Nat) : Prop := Kind w d 144 ∧ ∀ r ∈ askT, w.cell? ⟨d, r.1, none⟩ = some (.func (.func r.2) #[] #[])
theorem QTab.grown {w w' : World} {d : Nat} {row : Option Nat} (h : QTab w d) (G : w.grownBy w' row) (hr : some d ≠ row) : QTab w' d := ⟨h.1.grown G hr, fun r m => G.cell (h.2 r m) hr⟩

def asksC (c k : Nat) (M : Mc) : Bool := holdsV (bits .andNot .u16 (c : Int) 8) M.a (sideV (c : Int) k M.x)

set_option maxHeartbeats 400000 in
theorem asks_21 (g d t f k : Nat) (R : Rn) (w : World) (hr : RAt w g R) (hd : R.q = .slice (some ⟨d, 0, none⟩) 78 78) (T : QTab w d) (hM : R.M.ok) (hk : k ≤ 4294967295) :
    Calls Tryz.prog 95 #[.pointer (some ⟨g, 0, none⟩), .agg #[.int .u16 ((21 : Nat) : Int), .int .u8 (t : Int), .int .u8 (f : Int), .int .u32 (k : Int)]] w fun e w' => e = .returned (.bool (asksC 21 k R.M)) ∧ w.grownBy w' none := by
  have _h := hk
  have hb : bits .andNot .u16 ((21 : Nat) : Int) 8 = 21 := by decide
  have hs : byxB ((21 : Nat) : Int) = false := by decide
  have e : asksC 21 k R.M = (R.M.a == k) := by simp only [asksC, holdsV, sideV, hb, hs]; rfl
  rw [e]
  refine ask_fn g d 21 t f k 89 k R _ w hr hd (by omega) (T.2 (21, 89) (by simp [askT])) (enters_of Tryz.func89 (by kernel_rfl) rfl) (by rw [byV, show usesK ((21 : Nat) : Int) = true by rfl]; rfl) (fun W K h => ?_)
  exact ask_equal g k R W h hk hM

set_option maxHeartbeats 400000 in
theorem asks_29 (g d t f k : Nat) (R : Rn) (w : World) (hr : RAt w g R) (hd : R.q = .slice (some ⟨d, 0, none⟩) 78 78) (T : QTab w d) (hM : R.M.ok) (hk : k ≤ 4294967295) :
    Calls Tryz.prog 95 #[.pointer (some ⟨g, 0, none⟩), .agg #[.int .u16 ((29 : Nat) : Int), .int .u8 (t : Int), .int .u8 (f : Int), .int .u32 (k : Int)]] w fun e w' => e = .returned (.bool (asksC 29 k R.M)) ∧ w.grownBy w' none := by
  have _h := hk
  have hb : bits .andNot .u16 ((29 : Nat) : Int) 8 = 21 := by decide
  have hs : byxB ((29 : Nat) : Int) = true := by decide
  have e : asksC 29 k R.M = (R.M.a == R.M.x) := by simp only [asksC, holdsV, sideV, hb, hs]; rfl
  rw [e]
  refine ask_fn g d 29 t f k 89 R.M.x R _ w hr hd (by omega) (T.2 (29, 89) (by simp [askT])) (enters_of Tryz.func89 (by kernel_rfl) rfl) (by rw [byV, show usesK ((29 : Nat) : Int) = false by rfl]; rfl) (fun W K h => ?_)
  exact ask_equal g R.M.x R W h hM.2.1 hM

set_option maxHeartbeats 400000 in
theorem asks_37 (g d t f k : Nat) (R : Rn) (w : World) (hr : RAt w g R) (hd : R.q = .slice (some ⟨d, 0, none⟩) 78 78) (T : QTab w d) (hM : R.M.ok) (hk : k ≤ 4294967295) :
    Calls Tryz.prog 95 #[.pointer (some ⟨g, 0, none⟩), .agg #[.int .u16 ((37 : Nat) : Int), .int .u8 (t : Int), .int .u8 (f : Int), .int .u32 (k : Int)]] w fun e w' => e = .returned (.bool (asksC 37 k R.M)) ∧ w.grownBy w' none := by
  have _h := hk
  have hb : bits .andNot .u16 ((37 : Nat) : Int) 8 = 37 := by decide
  have hs : byxB ((37 : Nat) : Int) = false := by decide
  have e : asksC 37 k R.M = (decide (k < R.M.a)) := by simp only [asksC, holdsV, sideV, hb, hs]; rfl
  rw [e]
  refine ask_fn g d 37 t f k 90 k R _ w hr hd (by omega) (T.2 (37, 90) (by simp [askT])) (enters_of Tryz.func90 (by kernel_rfl) rfl) (by rw [byV, show usesK ((37 : Nat) : Int) = true by rfl]; rfl) (fun W K h => ?_)
  exact ask_above g k R W h hk hM

set_option maxHeartbeats 400000 in
theorem asks_45 (g d t f k : Nat) (R : Rn) (w : World) (hr : RAt w g R) (hd : R.q = .slice (some ⟨d, 0, none⟩) 78 78) (T : QTab w d) (hM : R.M.ok) (hk : k ≤ 4294967295) :
    Calls Tryz.prog 95 #[.pointer (some ⟨g, 0, none⟩), .agg #[.int .u16 ((45 : Nat) : Int), .int .u8 (t : Int), .int .u8 (f : Int), .int .u32 (k : Int)]] w fun e w' => e = .returned (.bool (asksC 45 k R.M)) ∧ w.grownBy w' none := by
  have _h := hk
  have hb : bits .andNot .u16 ((45 : Nat) : Int) 8 = 37 := by decide
  have hs : byxB ((45 : Nat) : Int) = true := by decide
  have e : asksC 45 k R.M = (decide (R.M.x < R.M.a)) := by simp only [asksC, holdsV, sideV, hb, hs]; rfl
  rw [e]
  refine ask_fn g d 45 t f k 90 R.M.x R _ w hr hd (by omega) (T.2 (45, 90) (by simp [askT])) (enters_of Tryz.func90 (by kernel_rfl) rfl) (by rw [byV, show usesK ((45 : Nat) : Int) = false by rfl]; rfl) (fun W K h => ?_)
  exact ask_above g R.M.x R W h hM.2.1 hM

set_option maxHeartbeats 400000 in
theorem asks_53 (g d t f k : Nat) (R : Rn) (w : World) (hr : RAt w g R) (hd : R.q = .slice (some ⟨d, 0, none⟩) 78 78) (T : QTab w d) (hM : R.M.ok) (hk : k ≤ 4294967295) :
    Calls Tryz.prog 95 #[.pointer (some ⟨g, 0, none⟩), .agg #[.int .u16 ((53 : Nat) : Int), .int .u8 (t : Int), .int .u8 (f : Int), .int .u32 (k : Int)]] w fun e w' => e = .returned (.bool (asksC 53 k R.M)) ∧ w.grownBy w' none := by
  have _h := hk
  have hb : bits .andNot .u16 ((53 : Nat) : Int) 8 = 53 := by decide
  have hs : byxB ((53 : Nat) : Int) = false := by decide
  have e : asksC 53 k R.M = (decide (k ≤ R.M.a)) := by simp only [asksC, holdsV, sideV, hb, hs]; rfl
  rw [e]
  refine ask_fn g d 53 t f k 91 k R _ w hr hd (by omega) (T.2 (53, 91) (by simp [askT])) (enters_of Tryz.func91 (by kernel_rfl) rfl) (by rw [byV, show usesK ((53 : Nat) : Int) = true by rfl]; rfl) (fun W K h => ?_)
  exact ask_atLeast g k R W h hk hM

set_option maxHeartbeats 400000 in
theorem asks_61 (g d t f k : Nat) (R : Rn) (w : World) (hr : RAt w g R) (hd : R.q = .slice (some ⟨d, 0, none⟩) 78 78) (T : QTab w d) (hM : R.M.ok) (hk : k ≤ 4294967295) :
    Calls Tryz.prog 95 #[.pointer (some ⟨g, 0, none⟩), .agg #[.int .u16 ((61 : Nat) : Int), .int .u8 (t : Int), .int .u8 (f : Int), .int .u32 (k : Int)]] w fun e w' => e = .returned (.bool (asksC 61 k R.M)) ∧ w.grownBy w' none := by
  have _h := hk
  have hb : bits .andNot .u16 ((61 : Nat) : Int) 8 = 53 := by decide
  have hs : byxB ((61 : Nat) : Int) = true := by decide
  have e : asksC 61 k R.M = (decide (R.M.x ≤ R.M.a)) := by simp only [asksC, holdsV, sideV, hb, hs]; rfl
  rw [e]
  refine ask_fn g d 61 t f k 91 R.M.x R _ w hr hd (by omega) (T.2 (61, 91) (by simp [askT])) (enters_of Tryz.func91 (by kernel_rfl) rfl) (by rw [byV, show usesK ((61 : Nat) : Int) = false by rfl]; rfl) (fun W K h => ?_)
  exact ask_atLeast g R.M.x R W h hM.2.1 hM

set_option maxHeartbeats 400000 in
theorem asks_69 (g d t f k : Nat) (R : Rn) (w : World) (hr : RAt w g R) (hd : R.q = .slice (some ⟨d, 0, none⟩) 78 78) (T : QTab w d) (hM : R.M.ok) (hk : k ≤ 4294967295) :
    Calls Tryz.prog 95 #[.pointer (some ⟨g, 0, none⟩), .agg #[.int .u16 ((69 : Nat) : Int), .int .u8 (t : Int), .int .u8 (f : Int), .int .u32 (k : Int)]] w fun e w' => e = .returned (.bool (asksC 69 k R.M)) ∧ w.grownBy w' none := by
  have _h := hk
  have hb : bits .andNot .u16 ((69 : Nat) : Int) 8 = 69 := by decide
  have hs : byxB ((69 : Nat) : Int) = false := by decide
  have e : asksC 69 k R.M = ((R.M.a &&& k) != 0) := by simp only [asksC, holdsV, sideV, hb, hs]; rfl
  rw [e]
  refine ask_fn g d 69 t f k 92 k R _ w hr hd (by omega) (T.2 (69, 92) (by simp [askT])) (enters_of Tryz.func92 (by kernel_rfl) rfl) (by rw [byV, show usesK ((69 : Nat) : Int) = true by rfl]; rfl) (fun W K h => ?_)
  exact ask_common g k R W h hk hM

set_option maxHeartbeats 400000 in
theorem asks_77 (g d t f k : Nat) (R : Rn) (w : World) (hr : RAt w g R) (hd : R.q = .slice (some ⟨d, 0, none⟩) 78 78) (T : QTab w d) (hM : R.M.ok) (hk : k ≤ 4294967295) :
    Calls Tryz.prog 95 #[.pointer (some ⟨g, 0, none⟩), .agg #[.int .u16 ((77 : Nat) : Int), .int .u8 (t : Int), .int .u8 (f : Int), .int .u32 (k : Int)]] w fun e w' => e = .returned (.bool (asksC 77 k R.M)) ∧ w.grownBy w' none := by
  have _h := hk
  have hb : bits .andNot .u16 ((77 : Nat) : Int) 8 = 69 := by decide
  have hs : byxB ((77 : Nat) : Int) = true := by decide
  have e : asksC 77 k R.M = ((R.M.a &&& R.M.x) != 0) := by simp only [asksC, holdsV, sideV, hb, hs]; rfl
  rw [e]
  refine ask_fn g d 77 t f k 92 R.M.x R _ w hr hd (by omega) (T.2 (77, 92) (by simp [askT])) (enters_of Tryz.func92 (by kernel_rfl) rfl) (by rw [byV, show usesK ((77 : Nat) : Int) = false by rfl]; rfl) (fun W K h => ?_)
  exact ask_common g R.M.x R W h hM.2.1 hM

theorem askc_any (c g d t f k : Nat) (R : Rn) (w : World) (hr : RAt w g R) (hd : R.q = .slice (some ⟨d, 0, none⟩) 78 78) (T : QTab w d) (hM : R.M.ok) (hk : k ≤ 4294967295) (hj : jumpB (c : Int) = true) :
    Calls Tryz.prog 95 #[.pointer (some ⟨g, 0, none⟩), .agg #[.int .u16 (c : Int), .int .u8 (t : Int), .int .u8 (f : Int), .int .u32 (k : Int)]] w fun e w' => e = .returned (.bool (asksC c k R.M)) ∧ w.grownBy w' none := by
  have hin : c ∈ ([21, 29, 37, 45, 53, 61, 69, 77] : List Nat) := by
    simp only [jumpB, Bool.or_eq_true, beq_iff_eq] at hj
    simp only [List.mem_cons, List.not_mem_nil, or_false]
    omega
  simp only [List.mem_cons, List.not_mem_nil, or_false] at hin
  rcases hin with rfl | rfl | rfl | rfl | rfl | rfl | rfl | rfl
  · exact asks_21 g d t f k R w hr hd T hM hk
  · exact asks_29 g d t f k R w hr hd T hM hk
  · exact asks_37 g d t f k R w hr hd T hM hk
  · exact asks_45 g d t f k R w hr hd T hM hk
  · exact asks_53 g d t f k R w hr hd T hM hk
  · exact asks_61 g d t f k R w hr hd T hM hk
  · exact asks_69 g d t f k R w hr hd T hM hk
  · exact asks_77 g d t f k R w hr hd T hM hk

set_option maxRecDepth 100000 in
set_option maxHeartbeats 4000000 in
theorem deeds_any (w : World) :
    Calls Tryz.prog 40 #[] w fun e w' => ∃ d, e = .returned (.slice (some ⟨d, 0, none⟩) 178 178) ∧ DTab w' d ∧ w.heap.size ≤ d ∧ w.grownBy w' none := by
  go_enter Tryz.func40, Tryz.ntmps40
  go_wp2
  go_ret
  refine ⟨w.heap.size, rfl, ⟨⟨_, GVt.alloc w _ _⟩, fun r hr => ?_⟩, Nat.le_refl _, World.grownBy_alloc _ _ _⟩
  rw [cell_of_row _ w.heap.size r.1 _ _ _ (heap_alloc_new w _)]
  simp only [deedT, List.mem_cons, List.not_mem_nil, or_false] at hr
  rcases hr with rfl | rfl | rfl | rfl | rfl | rfl | rfl | rfl | rfl | rfl | rfl | rfl | rfl | rfl | rfl | rfl | rfl | rfl | rfl | rfl | rfl | rfl | rfl | rfl | rfl | rfl | rfl | rfl | rfl | rfl | rfl | rfl | rfl | rfl | rfl | rfl | rfl | rfl
  all_goals rfl

set_option maxRecDepth 100000 in
set_option maxHeartbeats 4000000 in
theorem questions5_any (w : World) :
    Calls Tryz.prog 41 #[] w fun e w' => ∃ d, e = .returned (.slice (some ⟨d, 0, none⟩) 78 78) ∧ QTab w' d ∧ w.heap.size ≤ d ∧ w.grownBy w' none := by
  go_enter Tryz.func41, Tryz.ntmps41
  go_wp2
  go_ret
  refine ⟨w.heap.size, rfl, ⟨⟨_, GVt.alloc w _ _⟩, fun r hr => ?_⟩, Nat.le_refl _, World.grownBy_alloc _ _ _⟩
  rw [cell_of_row _ w.heap.size r.1 _ _ _ (heap_alloc_new w _)]
  simp only [askT, List.mem_cons, List.not_mem_nil, or_false] at hr
  rcases hr with rfl | rfl | rfl | rfl | rfl | rfl | rfl | rfl
  all_goals rfl

end Go.Proofs.YtencoknpocipbaaGreat

namespace Go.Proofs.YtencoknpocipbaaGreat
open Go.RowKit
set_option maxRecDepth 100000

theorem RAt.setS' {w : World} {g : Nat} {R : Rn} {z : Int} (h : RAt w g R) {o : Bool} {v : Nat} {vf : Int} {s : Nat} (hr : R.rest = gRest o v vf s) (s' : Nat) (hz : z = (s' : Int)) : RAt (w.setCell ⟨g, 25, none⟩ (.int .i64 z)) g { R with rest := gRest o v vf s' } := by
  subst hz
  exact h.setS hr s'

theorem box8_alloc (w : World) (b : Bk) (a : Option Addr) (ca : Nat) : Box8 w w.heap.size b.en b.last.code.toNat b.last.jt.toNat b.last.jf.toNat b.last.k.toNat b.yes b.no (w.alloc (.cells (bkA b a ca) 56)) := by
  have h := cv_lit w 56 (bkA b a ca).toList
  exact ⟨h.2 _ rfl 1 (by simp), h.2 _ rfl 2 (by simp), h.2 _ rfl 3 (by simp), h.2 _ rfl 4 (by simp), h.2 _ rfl 5 (by simp), h.2 _ rfl 6 (by simp), h.2 _ rfl 7 (by simp), World.grownBy_alloc _ _ _⟩

set_option maxHeartbeats 2000000 in
theorem leave_go (b : Bk) (a : Option Addr) (ca g : Nat) (w : World) (he : b.en = 2) :
    Calls Tryz.prog 43 #[.pointer (some ⟨g, 0, none⟩), bkV b a ca] w fun e w' => e = .returned (.int .i64 b.yes) ∧ w.grownBy w' none := by
  have B0 := box8_alloc w b a ca
  go_enter Tryz.func43, Tryz.ntmps43
  go_upto_region 1 with fail
  generalize w.alloc (.cells (bkA b a ca) 56) = w1 at *
  generalize w.heap.size = B at *
  obtain ⟨x1, -, -, -, -, x6, -, G⟩ := B0
  rw [he] at x1
  go_wp2
  go_ret
  exact ⟨rfl, G⟩

set_option maxHeartbeats 2000000 in
theorem leave_ret (b : Bk) (a : Option Addr) (ca g : Nat) (R : Rn) (o : Bool) (v s : Nat) (vf : Int) (w : World) (hr : RAt w g R) (hR : R.rest = gRest o v vf s) (hs : s ≤ 1000000) (he : b.en = 1) :
    Calls Tryz.prog 43 #[.pointer (some ⟨g, 0, none⟩), bkV b a ca] w fun e w' => e = .returned (.int .i64 0) ∧ RAt w' g { R with rest := gRest true (giveV b.last R.M) vf (s + 1) } ∧ w.grownBy w' (some g) := by
  have B0 := box8_alloc w b a ca
  have HLT : Hid (w.heap.size ≠ g) := Nat.ne_of_gt hr.1.lt
  have HR : Hid (RAt w g R) := hr
  obtain ⟨R1, hR1⟩ : ∃ R1 : Rn, R1 = { R with rest := gRest o v vf (s + 1) } := ⟨_, rfl⟩
  have hM1 : R1.M = R.M := by rw [hR1]
  have HGV : Hid (∀ W : World, RAt W g R1 → Calls Tryz.prog 94 #[.pointer (some ⟨g, 0, none⟩), .agg #[.int .u16 (b.last.code.toNat : Int), .int .u8 (b.last.jt.toNat : Int), .int .u8 (b.last.jf.toNat : Int), .int .u32 (b.last.k.toNat : Int)]] W fun e w' => e = .returned (.int .u32 (giveV b.last R.M : Int)) ∧ W.grownBy w' none) := fun W h => by
    have := mgive_any g b.last.code.toNat b.last.jt.toNat b.last.jf.toNat b.last.k.toNat R1 W h
    rw [hM1] at this
    exact this
  have HR1 : Hid (R1.rest = gRest o v vf (s + 1)) := by show _ = _; rw [hR1]
  have HR2 : Hid (∀ V, { R1 with rest := V } = { R with rest := V }) := by intro V; rw [hR1]
  have HS1 : Hid (∀ W : World, RAt W g R → RAt (W.setCell ⟨g, 25, none⟩ (.int .i64 ((s : Int) + 1))) g R1) := fun W h => by
    rw [hR1]
    exact h.setS' hR (s + 1) (by omega)
  clear hR1 hM1
  have d25 := fun W (h : RAt W g R) => h.s hR
  generalize giveV b.last R.M = gv at *
  go_enter Tryz.func43, Tryz.ntmps43
  go_upto_region 1 with fail
  generalize w.alloc (.cells (bkA b a ca) 56) = w1 at *
  generalize w.heap.size = B at *
  obtain ⟨x1, x2, x3, x4, x5, -, -, G1⟩ := B0
  rw [he] at x1
  have r1 := HR.out.kept G1
  have e25 := d25 w1 r1
  have f25 := r1.free 25
  have hne : ((B : Nat) == g) = false := by rw [beq_eq_false_iff_ne]; exact HLT.out
  have HR3 : Hid (RAt (w1.setCell ⟨g, 25, none⟩ (.int .i64 ((s : Int) + 1))) g R1) := HS1.out w1 r1
  have HK3 : Hid (w1.grownBy (w1.setCell ⟨g, 25, none⟩ (.int .i64 ((s : Int) + 1))) (some g)) := grown_set1 w1 ⟨g, 25, none⟩ _
  clear d25 HR HS1 r1 hr
  go_upto_region 4 with fail
  generalize w1.setCell ⟨g, 25, none⟩ (.int .i64 ((s : Int) + 1)) = w3 at *
  have hBg : some B ≠ some g := by simpa using HLT.out
  have y1 := HK3.out.cell x1 hBg
  have y2 := HK3.out.cell x2 hBg
  have y3 := HK3.out.cell x3 hBg
  have y4 := HK3.out.cell x4 hBg
  have y5 := HK3.out.cell x5 hBg
  have HG4 : Hid (w.grownBy w3 (some g)) := grown_trans (grown_mono (row := some g) G1) HK3.out
  have d23 : w3.cell? ⟨g, 23, none⟩ = some (.int .u32 (v : Int)) := HR3.out.v HR1.out
  clear x1 x2 x3 x4 x5 G1 HK3 e25 f25 hBg HLT hne
  clear w1
  go_upto_region 5 with fail
  go_region_with (first
    | (go_at_call 94; refine (HGV.out _ ?_).mono ?_; (first | exact HR3.out | exact HR3.out.kept (grown_drewN _ 1 none)); rintro e w5 ⟨rfl, K5⟩; have R5 : Hid (RAt w5 g R1) := (by first | exact HR3.out.kept K5 | exact HR3.out.kept (grown_trans (grown_drewN w3 1 none) K5)); have G5 : Hid (w.grownBy w5 (some g)) := (by first | exact grown_trans HG4.out (grown_mono K5) | exact grown_trans HG4.out (grown_mono (grown_trans (grown_drewN w3 1 none) K5))); have d26 : w5.cell? ⟨g, 23, none⟩ = some (.int .u32 (v : Int)) := R5.out.v HR1.out; have f26 := R5.out.free 23))
  have R6 := R5.out.setV HR1.out gv
  have G6 := grown_trans G5.out (grown_set1 w5 ⟨g, 23, none⟩ (.int .u32 (gv : Int)))
  clear d23 d26 f26 R5 G5 K5 HR3 HG4 HGV y1 y2 y3 y4 y5
  go_upto_region 6 with fail
  generalize w5.setCell ⟨g, 23, none⟩ (.int .u32 (gv : Int)) = w6 at *
  have d22 : w6.cell? ⟨g, 22, none⟩ = some (.bool o) := R6.o rfl
  have f22 := R6.free 22
  have R7 := R6.setO rfl true
  have G7 := grown_trans G6 (grown_set1 w6 ⟨g, 22, none⟩ (.bool true))
  clear R6 G6
  go_wp2
  go_ret
  refine ⟨rfl, ?_, G7⟩
  rw [← HR2.out]
  exact R7

set_option maxHeartbeats 2000000 in
theorem leave_test (b : Bk) (a : Option Addr) (ca g q : Nat) (R : Rn) (o : Bool) (v s : Nat) (vf : Int) (w : World) (hr : RAt w g R) (hR : R.rest = gRest o v vf s) (hs : s ≤ 1000000) (hq : R.q = .slice (some ⟨q, 0, none⟩) 78 78) (T : QTab w q) (hqg : q ≠ g) (hM : R.M.ok) (he : b.en = 3) (hj : jumpB b.last.code.toNat = true) :
    Calls Tryz.prog 43 #[.pointer (some ⟨g, 0, none⟩), bkV b a ca] w fun e w' => e = .returned (.int .i64 (if asksV b.last R.M = true then b.yes else b.no)) ∧ RAt w' g { R with rest := gRest o v vf (s + 1) } ∧ w.grownBy w' (some g) := by
  have B0 := box8_alloc w b a ca
  have HLT : Hid (w.heap.size ≠ g) := Nat.ne_of_gt hr.1.lt
  have HR : Hid (RAt w g R) := hr
  obtain ⟨R1, hR1⟩ : ∃ R1 : Rn, R1 = { R with rest := gRest o v vf (s + 1) } := ⟨_, rfl⟩
  have HAK : Hid (∀ W : World, RAt W g R1 → w.grownBy W (some g) → Calls Tryz.prog 95 #[.pointer (some ⟨g, 0, none⟩), .agg #[.int .u16 (b.last.code.toNat : Int), .int .u8 (b.last.jt.toNat : Int), .int .u8 (b.last.jf.toNat : Int), .int .u32 (b.last.k.toNat : Int)]] W fun e w' => e = .returned (.bool (asksV b.last R.M)) ∧ W.grownBy w' none) := fun W h G => by
    have := askc_any b.last.code.toNat g q b.last.jt.toNat b.last.jf.toNat b.last.k.toNat R1 W h (by rw [hR1]; exact hq) (T.grown G (by simpa using hqg)) (by rw [hR1]; exact hM) (by have := b.last.k.toNat_lt; omega) hj
    rw [show R1.M = R.M by rw [hR1]] at this
    exact this
  have HS1 : Hid (∀ W : World, RAt W g R → RAt (W.setCell ⟨g, 25, none⟩ (.int .i64 ((s : Int) + 1))) g R1) := fun W h => by
    rw [hR1]
    exact h.setS' hR (s + 1) (by omega)
  rw [← hR1]
  clear hR1 hj hM T hq
  have d25 := fun W (h : RAt W g R) => h.s hR
  generalize asksV b.last R.M = yes at *
  go_enter Tryz.func43, Tryz.ntmps43
  go_upto_region 1 with fail
  generalize w.alloc (.cells (bkA b a ca) 56) = w1 at *
  generalize w.heap.size = B at *
  obtain ⟨x1, x2, x3, x4, x5, x6, x7, G1⟩ := B0
  rw [he] at x1
  have r1 := HR.out.kept G1
  have e25 := d25 w1 r1
  have f25 := r1.free 25
  have hne : ((B : Nat) == g) = false := by rw [beq_eq_false_iff_ne]; exact HLT.out
  have HR3 : Hid (RAt (w1.setCell ⟨g, 25, none⟩ (.int .i64 ((s : Int) + 1))) g R1) := HS1.out w1 r1
  have HK3 : Hid (w1.grownBy (w1.setCell ⟨g, 25, none⟩ (.int .i64 ((s : Int) + 1))) (some g)) := grown_set1 w1 ⟨g, 25, none⟩ _
  clear d25 HR HS1 r1 hr
  go_upto_region 4 with fail
  generalize w1.setCell ⟨g, 25, none⟩ (.int .i64 ((s : Int) + 1)) = w3 at *
  have hBg : some B ≠ some g := by simpa using HLT.out
  have y1 := HK3.out.cell x1 hBg
  have y2 := HK3.out.cell x2 hBg
  have y3 := HK3.out.cell x3 hBg
  have y4 := HK3.out.cell x4 hBg
  have y5 := HK3.out.cell x5 hBg
  have y6 := HK3.out.cell x6 hBg
  have y7 := HK3.out.cell x7 hBg
  have HG4 : Hid (w.grownBy w3 (some g)) := grown_trans (grown_mono (row := some g) G1) HK3.out
  have B3 : Box8 w3 B 3 b.last.code.toNat b.last.jt.toNat b.last.jf.toNat b.last.k.toNat b.yes b.no w3 := ⟨y1, y2, y3, y4, y5, y6, y7, World.grownBy.refl _ _⟩
  clear x1 x2 x3 x4 x5 x6 x7 G1 HK3 e25 f25 hBg HLT hne
  clear w1
  go_upto_region 8 with fail
  go_region_held3 (fun W => Box8 w3 B 3 b.last.code.toNat b.last.jt.toNat b.last.jf.toNat b.last.k.toNat b.yes b.no W) (first | exact box8_call (by assumption) (by assumption) | exact box8_drewn B3) (first
    | (go_at_call 95; refine (HAK.out _ (HR3.out.kept (by exact (by assumption : Box8 w3 B _ _ _ _ _ _ _ _).2.2.2.2.2.2.2)) (grown_trans HG4.out (grown_mono (by exact (by assumption : Box8 w3 B _ _ _ _ _ _ _ _).2.2.2.2.2.2.2)))).mono ?_; rintro e w4 ⟨rfl, K4⟩))
  have B4 := (by assumption : Box8 w3 B 3 b.last.code.toNat b.last.jt.toNat b.last.jf.toNat b.last.k.toNat b.yes b.no w4)
  clear y1 y2 y3 y4 y5 y6 y7 B3 K4 HAK
  obtain ⟨-, -, -, -, -, z6, z7, G5⟩ := B4
  have RF := HR3.out.kept G5
  have GF := grown_trans HG4.out (grown_mono (row := some g) G5)
  cases yes with
  | true =>
    go_wp2
    go_ret
    exact ⟨rfl, RF, GF⟩
  | false =>
    go_wp2
    go_ret
    exact ⟨rfl, RF, GF⟩

end Go.Proofs.YtencoknpocipbaaGreat
