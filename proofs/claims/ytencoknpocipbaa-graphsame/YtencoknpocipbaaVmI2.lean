/-
  The landed machine: what stands in its table of questions; Ask of every jump; the tables made.
-/
import Derived.Test.YtencoknpocipbaaLotP23
import Derived.Test.YtencoknpocipbaaVmI
namespace Go.Proofs.Ytencoknpocipbaa
open Go.RowKit
set_option maxRecDepth 100000

/-- The questions, by their codes. -/
def askT : List (Nat × FuncId) :=
  [(21, 91), (29, 91), (37, 92), (45, 92), (53, 93), (61, 93), (69, 94), (77, 94)]
def QTab (w : World) (d : Nat) : Prop := Kind w d 119 ∧ ∀ r ∈ askT, w.cell? ⟨d, r.1, none⟩ = some (.func (.func r.2) #[] #[])
theorem QTab.grown {w w' : World} {d : Nat} {row : Option Nat} (h : QTab w d) (G : w.grownBy w' row) (hr : some d ≠ row) : QTab w' d := ⟨h.1.grown G hr, fun r m => G.cell (h.2 r m) hr⟩

def asksC (c k : Nat) (M : Mc) : Bool := holdsV (bits .andNot .u16 (c : Int) 8) M.a (sideV (c : Int) k M.x)

set_option maxHeartbeats 400000 in
theorem asks_21 (g d t f k : Nat) (R : Rn) (w : World) (hr : RAt w g R) (hd : R.q = .slice (some ⟨d, 0, none⟩) 78 78) (T : QTab w d) (hM : R.M.ok) (hk : k ≤ 4294967295) :
    Calls Try.prog 61 #[.pointer (some ⟨g, 0, none⟩), .agg #[.int .u16 ((21 : Nat) : Int), .int .u8 (t : Int), .int .u8 (f : Int), .int .u32 (k : Int)]] w fun e w' => e = .returned (.bool (asksC 21 k R.M)) ∧ w.grownBy w' none := by
  have _h := hk
  have hb : bits .andNot .u16 ((21 : Nat) : Int) 8 = 21 := by decide
  have hs : byxB ((21 : Nat) : Int) = false := by decide
  have e : asksC 21 k R.M = (R.M.a == k) := by simp only [asksC, holdsV, sideV, hb, hs]; rfl
  rw [e]
  refine ask_fn g d 21 t f k 91 k R _ w hr hd (by omega) (T.2 (21, 91) (by simp [askT])) (enters_of Try.func91 (by kernel_rfl) rfl) (by rw [byV, show usesK ((21 : Nat) : Int) = true by rfl]; rfl) (fun W K h => ?_)
  exact ask_equal g k R W h hk hM

set_option maxHeartbeats 400000 in
theorem asks_29 (g d t f k : Nat) (R : Rn) (w : World) (hr : RAt w g R) (hd : R.q = .slice (some ⟨d, 0, none⟩) 78 78) (T : QTab w d) (hM : R.M.ok) (hk : k ≤ 4294967295) :
    Calls Try.prog 61 #[.pointer (some ⟨g, 0, none⟩), .agg #[.int .u16 ((29 : Nat) : Int), .int .u8 (t : Int), .int .u8 (f : Int), .int .u32 (k : Int)]] w fun e w' => e = .returned (.bool (asksC 29 k R.M)) ∧ w.grownBy w' none := by
  have _h := hk
  have hb : bits .andNot .u16 ((29 : Nat) : Int) 8 = 21 := by decide
  have hs : byxB ((29 : Nat) : Int) = true := by decide
  have e : asksC 29 k R.M = (R.M.a == R.M.x) := by simp only [asksC, holdsV, sideV, hb, hs]; rfl
  rw [e]
  refine ask_fn g d 29 t f k 91 R.M.x R _ w hr hd (by omega) (T.2 (29, 91) (by simp [askT])) (enters_of Try.func91 (by kernel_rfl) rfl) (by rw [byV, show usesK ((29 : Nat) : Int) = false by rfl]; rfl) (fun W K h => ?_)
  exact ask_equal g R.M.x R W h hM.2.1 hM

set_option maxHeartbeats 400000 in
theorem asks_37 (g d t f k : Nat) (R : Rn) (w : World) (hr : RAt w g R) (hd : R.q = .slice (some ⟨d, 0, none⟩) 78 78) (T : QTab w d) (hM : R.M.ok) (hk : k ≤ 4294967295) :
    Calls Try.prog 61 #[.pointer (some ⟨g, 0, none⟩), .agg #[.int .u16 ((37 : Nat) : Int), .int .u8 (t : Int), .int .u8 (f : Int), .int .u32 (k : Int)]] w fun e w' => e = .returned (.bool (asksC 37 k R.M)) ∧ w.grownBy w' none := by
  have _h := hk
  have hb : bits .andNot .u16 ((37 : Nat) : Int) 8 = 37 := by decide
  have hs : byxB ((37 : Nat) : Int) = false := by decide
  have e : asksC 37 k R.M = (decide (k < R.M.a)) := by simp only [asksC, holdsV, sideV, hb, hs]; rfl
  rw [e]
  refine ask_fn g d 37 t f k 92 k R _ w hr hd (by omega) (T.2 (37, 92) (by simp [askT])) (enters_of Try.func92 (by kernel_rfl) rfl) (by rw [byV, show usesK ((37 : Nat) : Int) = true by rfl]; rfl) (fun W K h => ?_)
  exact ask_above g k R W h hk hM

set_option maxHeartbeats 400000 in
theorem asks_45 (g d t f k : Nat) (R : Rn) (w : World) (hr : RAt w g R) (hd : R.q = .slice (some ⟨d, 0, none⟩) 78 78) (T : QTab w d) (hM : R.M.ok) (hk : k ≤ 4294967295) :
    Calls Try.prog 61 #[.pointer (some ⟨g, 0, none⟩), .agg #[.int .u16 ((45 : Nat) : Int), .int .u8 (t : Int), .int .u8 (f : Int), .int .u32 (k : Int)]] w fun e w' => e = .returned (.bool (asksC 45 k R.M)) ∧ w.grownBy w' none := by
  have _h := hk
  have hb : bits .andNot .u16 ((45 : Nat) : Int) 8 = 37 := by decide
  have hs : byxB ((45 : Nat) : Int) = true := by decide
  have e : asksC 45 k R.M = (decide (R.M.x < R.M.a)) := by simp only [asksC, holdsV, sideV, hb, hs]; rfl
  rw [e]
  refine ask_fn g d 45 t f k 92 R.M.x R _ w hr hd (by omega) (T.2 (45, 92) (by simp [askT])) (enters_of Try.func92 (by kernel_rfl) rfl) (by rw [byV, show usesK ((45 : Nat) : Int) = false by rfl]; rfl) (fun W K h => ?_)
  exact ask_above g R.M.x R W h hM.2.1 hM

set_option maxHeartbeats 400000 in
theorem asks_53 (g d t f k : Nat) (R : Rn) (w : World) (hr : RAt w g R) (hd : R.q = .slice (some ⟨d, 0, none⟩) 78 78) (T : QTab w d) (hM : R.M.ok) (hk : k ≤ 4294967295) :
    Calls Try.prog 61 #[.pointer (some ⟨g, 0, none⟩), .agg #[.int .u16 ((53 : Nat) : Int), .int .u8 (t : Int), .int .u8 (f : Int), .int .u32 (k : Int)]] w fun e w' => e = .returned (.bool (asksC 53 k R.M)) ∧ w.grownBy w' none := by
  have _h := hk
  have hb : bits .andNot .u16 ((53 : Nat) : Int) 8 = 53 := by decide
  have hs : byxB ((53 : Nat) : Int) = false := by decide
  have e : asksC 53 k R.M = (decide (k ≤ R.M.a)) := by simp only [asksC, holdsV, sideV, hb, hs]; rfl
  rw [e]
  refine ask_fn g d 53 t f k 93 k R _ w hr hd (by omega) (T.2 (53, 93) (by simp [askT])) (enters_of Try.func93 (by kernel_rfl) rfl) (by rw [byV, show usesK ((53 : Nat) : Int) = true by rfl]; rfl) (fun W K h => ?_)
  exact ask_atLeast g k R W h hk hM

set_option maxHeartbeats 400000 in
theorem asks_61 (g d t f k : Nat) (R : Rn) (w : World) (hr : RAt w g R) (hd : R.q = .slice (some ⟨d, 0, none⟩) 78 78) (T : QTab w d) (hM : R.M.ok) (hk : k ≤ 4294967295) :
    Calls Try.prog 61 #[.pointer (some ⟨g, 0, none⟩), .agg #[.int .u16 ((61 : Nat) : Int), .int .u8 (t : Int), .int .u8 (f : Int), .int .u32 (k : Int)]] w fun e w' => e = .returned (.bool (asksC 61 k R.M)) ∧ w.grownBy w' none := by
  have _h := hk
  have hb : bits .andNot .u16 ((61 : Nat) : Int) 8 = 53 := by decide
  have hs : byxB ((61 : Nat) : Int) = true := by decide
  have e : asksC 61 k R.M = (decide (R.M.x ≤ R.M.a)) := by simp only [asksC, holdsV, sideV, hb, hs]; rfl
  rw [e]
  refine ask_fn g d 61 t f k 93 R.M.x R _ w hr hd (by omega) (T.2 (61, 93) (by simp [askT])) (enters_of Try.func93 (by kernel_rfl) rfl) (by rw [byV, show usesK ((61 : Nat) : Int) = false by rfl]; rfl) (fun W K h => ?_)
  exact ask_atLeast g R.M.x R W h hM.2.1 hM

set_option maxHeartbeats 400000 in
theorem asks_69 (g d t f k : Nat) (R : Rn) (w : World) (hr : RAt w g R) (hd : R.q = .slice (some ⟨d, 0, none⟩) 78 78) (T : QTab w d) (hM : R.M.ok) (hk : k ≤ 4294967295) :
    Calls Try.prog 61 #[.pointer (some ⟨g, 0, none⟩), .agg #[.int .u16 ((69 : Nat) : Int), .int .u8 (t : Int), .int .u8 (f : Int), .int .u32 (k : Int)]] w fun e w' => e = .returned (.bool (asksC 69 k R.M)) ∧ w.grownBy w' none := by
  have _h := hk
  have hb : bits .andNot .u16 ((69 : Nat) : Int) 8 = 69 := by decide
  have hs : byxB ((69 : Nat) : Int) = false := by decide
  have e : asksC 69 k R.M = ((R.M.a &&& k) != 0) := by simp only [asksC, holdsV, sideV, hb, hs]; rfl
  rw [e]
  refine ask_fn g d 69 t f k 94 k R _ w hr hd (by omega) (T.2 (69, 94) (by simp [askT])) (enters_of Try.func94 (by kernel_rfl) rfl) (by rw [byV, show usesK ((69 : Nat) : Int) = true by rfl]; rfl) (fun W K h => ?_)
  exact ask_common g k R W h hk hM

set_option maxHeartbeats 400000 in
theorem asks_77 (g d t f k : Nat) (R : Rn) (w : World) (hr : RAt w g R) (hd : R.q = .slice (some ⟨d, 0, none⟩) 78 78) (T : QTab w d) (hM : R.M.ok) (hk : k ≤ 4294967295) :
    Calls Try.prog 61 #[.pointer (some ⟨g, 0, none⟩), .agg #[.int .u16 ((77 : Nat) : Int), .int .u8 (t : Int), .int .u8 (f : Int), .int .u32 (k : Int)]] w fun e w' => e = .returned (.bool (asksC 77 k R.M)) ∧ w.grownBy w' none := by
  have _h := hk
  have hb : bits .andNot .u16 ((77 : Nat) : Int) 8 = 69 := by decide
  have hs : byxB ((77 : Nat) : Int) = true := by decide
  have e : asksC 77 k R.M = ((R.M.a &&& R.M.x) != 0) := by simp only [asksC, holdsV, sideV, hb, hs]; rfl
  rw [e]
  refine ask_fn g d 77 t f k 94 R.M.x R _ w hr hd (by omega) (T.2 (77, 94) (by simp [askT])) (enters_of Try.func94 (by kernel_rfl) rfl) (by rw [byV, show usesK ((77 : Nat) : Int) = false by rfl]; rfl) (fun W K h => ?_)
  exact ask_common g R.M.x R W h hM.2.1 hM

theorem askc_any (c g d t f k : Nat) (R : Rn) (w : World) (hr : RAt w g R) (hd : R.q = .slice (some ⟨d, 0, none⟩) 78 78) (T : QTab w d) (hM : R.M.ok) (hk : k ≤ 4294967295) (hj : jumpB (c : Int) = true) :
    Calls Try.prog 61 #[.pointer (some ⟨g, 0, none⟩), .agg #[.int .u16 (c : Int), .int .u8 (t : Int), .int .u8 (f : Int), .int .u32 (k : Int)]] w fun e w' => e = .returned (.bool (asksC c k R.M)) ∧ w.grownBy w' none := by
  have hin : c ∈ ([21, 29, 37, 45, 53, 61, 69, 77] : List Nat) := by
    simp only [jumpB, Bool.or_eq_true, beq_iff_eq] at hj
    simp only [List.mem_cons, List.not_mem_nil, or_false]
    omega
  simp only [List.mem_cons, List.not_mem_nil, or_false] at hin
  rcases hin with rfl | rfl | rfl | rfl | rfl | rfl | rfl | rfl
  · exact asks_21 g d t f k R w hr hd T hM hk
  · exact asks_29 g d t f k R w hr hd T hM hk
  · exact asks_37 g d t f k R w hr hd T hM hk
  · exact asks_45 g d t f k R w hr hd T hM hk
  · exact asks_53 g d t f k R w hr hd T hM hk
  · exact asks_61 g d t f k R w hr hd T hM hk
  · exact asks_69 g d t f k R w hr hd T hM hk
  · exact asks_77 g d t f k R w hr hd T hM hk

set_option maxRecDepth 100000 in
set_option maxHeartbeats 4000000 in
theorem deeds_any (w : World) :
    Calls Try.prog 39 #[] w fun e w' => ∃ d, e = .returned (.slice (some ⟨d, 0, none⟩) 178 178) ∧ DTab w' d ∧ w.heap.size ≤ d ∧ w.grownBy w' none := by
  go_enter Try.func39, Try.ntmps39
  go_wp2
  go_ret
  refine ⟨w.heap.size, rfl, ⟨⟨_, GVt.alloc w _ _⟩, fun r hr => ?_⟩, Nat.le_refl _, World.grownBy_alloc _ _ _⟩
  rw [cell_of_row _ w.heap.size r.1 _ _ _ (heap_alloc_new w _)]
  simp only [deedT, List.mem_cons, List.not_mem_nil, or_false] at hr
  rcases hr with rfl | rfl | rfl | rfl | rfl | rfl | rfl | rfl | rfl | rfl | rfl | rfl | rfl | rfl | rfl | rfl | rfl | rfl | rfl | rfl | rfl | rfl | rfl | rfl | rfl | rfl | rfl | rfl | rfl | rfl | rfl | rfl | rfl | rfl | rfl | rfl | rfl | rfl
  all_goals rfl

set_option maxRecDepth 100000 in
set_option maxHeartbeats 4000000 in
theorem questions5_any (w : World) :
    Calls Try.prog 40 #[] w fun e w' => ∃ d, e = .returned (.slice (some ⟨d, 0, none⟩) 78 78) ∧ QTab w' d ∧ w.heap.size ≤ d ∧ w.grownBy w' none := by
  go_enter Try.func40, Try.ntmps40
  go_wp2
  go_ret
  refine ⟨w.heap.size, rfl, ⟨⟨_, GVt.alloc w _ _⟩, fun r hr => ?_⟩, Nat.le_refl _, World.grownBy_alloc _ _ _⟩
  rw [cell_of_row _ w.heap.size r.1 _ _ _ (heap_alloc_new w _)]
  simp only [askT, List.mem_cons, List.not_mem_nil, or_false] at hr
  rcases hr with rfl | rfl | rfl | rfl | rfl | rfl | rfl | rfl
  all_goals rfl

end Go.Proofs.Ytencoknpocipbaa
