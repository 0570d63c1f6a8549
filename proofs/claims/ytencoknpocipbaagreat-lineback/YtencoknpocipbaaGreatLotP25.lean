/-
  Rows of two kinds apart; places behind others. The document's own Step.
-/
import Derived.Test.YtencoknpocipbaaGreatLotP6
import Derived.Test.YtencoknpocipbaaGreatLotP12
import Derived.Deep.RegionHeld3
import Derived.Deep.DeepCutAuto
namespace Go.Proofs.YtencoknpocipbaaGreat
open Go.RowKit
set_option maxRecDepth 100000

/-- Rows of two kinds of elements: the one stays where the other is written. -/
theorem row_kinds {w w' : World} {base base' e e' size size' n n' : Nat} {v v' : Value} {vs vs' : List Value} (h : w.ownsRow base e size v n vs) (O : w.ownsRow base' e' size' v' n' vs') (he : e ≠ e') (K : w.grownBy w' v'.ownBlock) : w'.ownsRow base e size v n vs := by
  refine h.kept K ?_
  rcases h.2 with ⟨rfl, -⟩ | ⟨g, cap, cur, rfl, -, hg, -⟩
  · exact .inl rfl
  · right
    intro hh
    rcases O.2 with ⟨rfl, -⟩ | ⟨g', cap', cur', rfl, -, hg', -⟩
    · cases hh
    · simp only [Value.ownBlock, Option.some.injEq] at hh
      subst hh
      rw [hg] at hg'
      simp only [Option.some.injEq, Obj.cells.injEq] at hg'
      exact he hg'.2.1

theorem row_blk {w w' : World} {base e e' size n g m : Nat} {v : Value} {vs : List Value} (h : w.ownsRow base e size v n vs) (B : BlkN w e' g m) (he : e ≠ e') (K : w.grownBy w' (some g)) : w'.ownsRow base e size v n vs := by
  refine h.kept K ?_
  rcases h.2 with ⟨rfl, -⟩ | ⟨g1, cap, cur, rfl, -, hg, -⟩
  · exact .inl rfl
  · right
    intro hh
    simp only [Value.ownBlock, Option.some.injEq] at hh
    subst hh
    obtain ⟨cur', hb, -⟩ := B
    rw [hg] at hb
    simp only [Option.some.injEq, Obj.cells.injEq] at hb
    exact he hb.2.1

theorem blk_row {w w' : World} {base e e' size n g m : Nat} {v : Value} {vs : List Value} (B : BlkN w e' g m) (h : w.ownsRow base e size v n vs) (he : e ≠ e') (K : w.grownBy w' v.ownBlock) : BlkN w' e' g m := by
  refine B.kept K ?_
  rcases h.2 with ⟨rfl, -⟩ | ⟨g1, cap, cur, rfl, -, hg, -⟩
  · simp [Value.ownBlock]
  · intro hh
    simp only [Value.ownBlock, Option.some.injEq] at hh
    subst hh
    obtain ⟨cur', hb, -⟩ := B
    rw [hg] at hb
    simp only [Option.some.injEq, Obj.cells.injEq] at hb
    exact he hb.2.1

theorem vblk_set {w : World} {g i : Nat} {cur : Array Value} {e : TypeId} (h : w.heap[g]? = some (.cells cur e (0, 0))) (u : Value) : (w.setCell ⟨g, i, none⟩ u).heap[g]? = some (.cells (cur.setIfInBounds i u) e (0, 0)) := heap_setCell_same w g i cur e u h

/-- Three cells, written one behind the other. -/
theorem set3 {W : World} {g : Nat} {e : TypeId} (h : BlkN W e g 3) (v0 v1 v2 : Value) :
    let W3 := ((W.setCell ⟨g, 0, none⟩ v0).setCell ⟨g, 1, none⟩ v1).setCell ⟨g, 2, none⟩ v2
    W3.cell? ⟨g, 0, none⟩ = some v0 ∧ W3.cell? ⟨g, 1, none⟩ = some v1 ∧ W3.cell? ⟨g, 2, none⟩ = some v2 := by
  obtain ⟨cur, hh, hs⟩ := h
  have k := vblk_set (i := 2) (vblk_set (i := 1) (vblk_set (i := 0) hh v0) v1) v2
  intro W3
  have hc : ∀ i, W3.cell? ⟨g, i, none⟩ = (((cur.setIfInBounds 0 v0).setIfInBounds 1 v1).setIfInBounds 2 v2)[i]? := fun i => cell_of_row W3 g i _ _ _ k
  refine ⟨?_, ?_, ?_⟩ <;> rw [hc] <;> simp [hs]

/-- Places behind others. -/
def preV (ts : List Nat) (r : Nat × Int × List Nat) : Nat × Int × List Nat := (r.1, r.2.1, ts ++ r.2.2)
def zl (ts : List Nat) : List Int := ts.map fun n : Nat => (n : Int)

theorem preV_hd (ts : List Nat) (j : Nat) (r : Nat × Int × List Nat) : preV ts (hdV j r) = preV (ts ++ [j]) r := by
  simp [preV, hdV]

/-- Cells of an instruction that is boxed. -/
abbrev Bx (w : World) (b : Nat) (c t f k : Int) : Prop := w.cell? ⟨b, 0, none⟩ = some (.int .u16 c) ∧ w.cell? ⟨b, 1, none⟩ = some (.int .u8 t) ∧ w.cell? ⟨b, 2, none⟩ = some (.int .u8 f) ∧ w.cell? ⟨b, 3, none⟩ = some (.int .u32 k)

theorem bx_alloc (w : World) (e : TypeId) (c t f k : Int) : Bx (w.alloc (.cells #[.int .u16 c, .int .u8 t, .int .u8 f, .int .u32 k] e)) w.heap.size c t f k := by
  have h : ∀ i : Nat, (w.alloc (.cells #[.int .u16 c, .int .u8 t, .int .u8 f, .int .u32 k] e)).cell? ⟨w.heap.size, i, none⟩ = (#[.int .u16 c, .int .u8 t, .int .u8 f, .int .u32 k] : Array Value)[i]? := fun i => cell_of_row _ w.heap.size i _ _ _ (heap_alloc_new w _)
  exact ⟨h 0, h 1, h 2, h 3⟩

end Go.Proofs.YtencoknpocipbaaGreat

namespace Go.Proofs.YtencoknpocipbaaGreat
open Go.RowKit
set_option maxRecDepth 100000

/-- What Step leaves. -/
def StepPost (w : World) (t base g : Nat) (M : Mc) (f : Int) (e : Ending) (w' : World) : Prop := e = .returned (.int .i64 f) ∧ MAt w' t base g M ∧ w.grownBy w' (some g)

set_option maxHeartbeats 1000000 in
theorem step_0 (b : Option Addr) (cb : Nat) (pk : List UInt8) (g base : Nat) (M : Mc) (t f k : Nat) (w : World) (hm : MAt w 90 base g M) (hk : k ≤ 4294967295) :
    Calls Tryz.prog 34 #[.pointer (some ⟨g, 0, none⟩), .agg #[.int .u16 0, .int .u8 t, .int .u8 f, .int .u32 k], .slice b pk.length cb] w fun e w' => StepPost w 90 base g ⟨k, M.x, M.m⟩ 0 e w' := by
  have HG : Hid (w.grownBy (w.alloc (.cells #[.int .u16 0, .int .u8 t, .int .u8 f, .int .u32 k] 54)) none) := World.grownBy_alloc _ _ _
  have HM : Hid (MAt (w.alloc (.cells #[.int .u16 0, .int .u8 t, .int .u8 f, .int .u32 k] 54)) 90 base g M) := hm.kept (row := none) (World.grownBy_alloc _ _ _) (by simp)
  have HX : Hid (Bx (w.alloc (.cells #[.int .u16 0, .int .u8 t, .int .u8 f, .int .u32 k] 54)) w.heap.size 0 t f k) := bx_alloc w 54 0 t f k
  have hlt := hm.lt.2
  have _hk : k ≤ 4294967295 := hk
  clear hm
  go_enter Tryz.func34, Tryz.ntmps34
  go_upto_region 2 with fail
  generalize w.alloc (.cells #[.int .u16 0, .int .u8 t, .int .u8 f, .int .u32 k] 54) = w1 at *
  have hne : ((w.heap.size : Nat) == g) = false := by rw [beq_eq_false_iff_ne]; omega
  have hne2 : w.heap.size ≠ g := by omega
  generalize w.heap.size = B at *
  have G0 : w.grownBy w1 (some g) := grown_mono HG.out
  have M0 := HM.out
  obtain ⟨x0, x1, x2, x3⟩ := HX.out
  clear HG HM HX
  have c0 := M0.a
  have c1 := M0.x
  have f0 := M0.free (0)
  have M1 := M0.setA k
  have G1 := grown_setCell G0 ⟨g, 0, none⟩ (.int .u32 ((k : Nat) : Int)) (.inl rfl)
  clear M0 G0
  go_wp2
  go_ret
  exact ⟨rfl, M1, G1⟩

set_option maxHeartbeats 1000000 in
theorem step_1 (b : Option Addr) (cb : Nat) (pk : List UInt8) (g base : Nat) (M : Mc) (t f k : Nat) (w : World) (hm : MAt w 90 base g M) (hk : k ≤ 4294967295) :
    Calls Tryz.prog 34 #[.pointer (some ⟨g, 0, none⟩), .agg #[.int .u16 1, .int .u8 t, .int .u8 f, .int .u32 k], .slice b pk.length cb] w fun e w' => StepPost w 90 base g ⟨M.a, k, M.m⟩ 0 e w' := by
  have HG : Hid (w.grownBy (w.alloc (.cells #[.int .u16 1, .int .u8 t, .int .u8 f, .int .u32 k] 54)) none) := World.grownBy_alloc _ _ _
  have HM : Hid (MAt (w.alloc (.cells #[.int .u16 1, .int .u8 t, .int .u8 f, .int .u32 k] 54)) 90 base g M) := hm.kept (row := none) (World.grownBy_alloc _ _ _) (by simp)
  have HX : Hid (Bx (w.alloc (.cells #[.int .u16 1, .int .u8 t, .int .u8 f, .int .u32 k] 54)) w.heap.size 1 t f k) := bx_alloc w 54 1 t f k
  have hlt := hm.lt.2
  have _hk : k ≤ 4294967295 := hk
  clear hm
  go_enter Tryz.func34, Tryz.ntmps34
  go_upto_region 2 with fail
  generalize w.alloc (.cells #[.int .u16 1, .int .u8 t, .int .u8 f, .int .u32 k] 54) = w1 at *
  have hne : ((w.heap.size : Nat) == g) = false := by rw [beq_eq_false_iff_ne]; omega
  have hne2 : w.heap.size ≠ g := by omega
  generalize w.heap.size = B at *
  have G0 : w.grownBy w1 (some g) := grown_mono HG.out
  have M0 := HM.out
  obtain ⟨x0, x1, x2, x3⟩ := HX.out
  clear HG HM HX
  have c0 := M0.a
  have c1 := M0.x
  have f0 := M0.free (1)
  have M1 := M0.setX k
  have G1 := grown_setCell G0 ⟨g, 1, none⟩ (.int .u32 ((k : Nat) : Int)) (.inl rfl)
  clear M0 G0
  go_wp2
  go_ret
  exact ⟨rfl, M1, G1⟩

set_option maxHeartbeats 1000000 in
theorem step_7 (b : Option Addr) (cb : Nat) (pk : List UInt8) (g base : Nat) (M : Mc) (t f k : Nat) (w : World) (hm : MAt w 90 base g M) (hk : k ≤ 4294967295) :
    Calls Tryz.prog 34 #[.pointer (some ⟨g, 0, none⟩), .agg #[.int .u16 7, .int .u8 t, .int .u8 f, .int .u32 k], .slice b pk.length cb] w fun e w' => StepPost w 90 base g ⟨M.a, M.a, M.m⟩ 0 e w' := by
  have HG : Hid (w.grownBy (w.alloc (.cells #[.int .u16 7, .int .u8 t, .int .u8 f, .int .u32 k] 54)) none) := World.grownBy_alloc _ _ _
  have HM : Hid (MAt (w.alloc (.cells #[.int .u16 7, .int .u8 t, .int .u8 f, .int .u32 k] 54)) 90 base g M) := hm.kept (row := none) (World.grownBy_alloc _ _ _) (by simp)
  have HX : Hid (Bx (w.alloc (.cells #[.int .u16 7, .int .u8 t, .int .u8 f, .int .u32 k] 54)) w.heap.size 7 t f k) := bx_alloc w 54 7 t f k
  have hlt := hm.lt.2
  have _hk : k ≤ 4294967295 := hk
  clear hm
  go_enter Tryz.func34, Tryz.ntmps34
  go_upto_region 2 with fail
  generalize w.alloc (.cells #[.int .u16 7, .int .u8 t, .int .u8 f, .int .u32 k] 54) = w1 at *
  have hne : ((w.heap.size : Nat) == g) = false := by rw [beq_eq_false_iff_ne]; omega
  have hne2 : w.heap.size ≠ g := by omega
  generalize w.heap.size = B at *
  have G0 : w.grownBy w1 (some g) := grown_mono HG.out
  have M0 := HM.out
  obtain ⟨x0, x1, x2, x3⟩ := HX.out
  clear HG HM HX
  have c0 := M0.a
  have c1 := M0.x
  have f0 := M0.free (1)
  have M1 := M0.setX M.a
  have G1 := grown_setCell G0 ⟨g, 1, none⟩ (.int .u32 ((M.a : Nat) : Int)) (.inl rfl)
  clear M0 G0
  go_wp2
  go_ret
  exact ⟨rfl, M1, G1⟩

set_option maxHeartbeats 1000000 in
theorem step_135 (b : Option Addr) (cb : Nat) (pk : List UInt8) (g base : Nat) (M : Mc) (t f k : Nat) (w : World) (hm : MAt w 90 base g M) (hk : k ≤ 4294967295) :
    Calls Tryz.prog 34 #[.pointer (some ⟨g, 0, none⟩), .agg #[.int .u16 135, .int .u8 t, .int .u8 f, .int .u32 k], .slice b pk.length cb] w fun e w' => StepPost w 90 base g ⟨M.x, M.x, M.m⟩ 0 e w' := by
  have HG : Hid (w.grownBy (w.alloc (.cells #[.int .u16 135, .int .u8 t, .int .u8 f, .int .u32 k] 54)) none) := World.grownBy_alloc _ _ _
  have HM : Hid (MAt (w.alloc (.cells #[.int .u16 135, .int .u8 t, .int .u8 f, .int .u32 k] 54)) 90 base g M) := hm.kept (row := none) (World.grownBy_alloc _ _ _) (by simp)
  have HX : Hid (Bx (w.alloc (.cells #[.int .u16 135, .int .u8 t, .int .u8 f, .int .u32 k] 54)) w.heap.size 135 t f k) := bx_alloc w 54 135 t f k
  have hlt := hm.lt.2
  have _hk : k ≤ 4294967295 := hk
  clear hm
  go_enter Tryz.func34, Tryz.ntmps34
  go_upto_region 2 with fail
  generalize w.alloc (.cells #[.int .u16 135, .int .u8 t, .int .u8 f, .int .u32 k] 54) = w1 at *
  have hne : ((w.heap.size : Nat) == g) = false := by rw [beq_eq_false_iff_ne]; omega
  have hne2 : w.heap.size ≠ g := by omega
  generalize w.heap.size = B at *
  have G0 : w.grownBy w1 (some g) := grown_mono HG.out
  have M0 := HM.out
  obtain ⟨x0, x1, x2, x3⟩ := HX.out
  clear HG HM HX
  have c0 := M0.a
  have c1 := M0.x
  have f0 := M0.free (0)
  have M1 := M0.setA M.x
  have G1 := grown_setCell G0 ⟨g, 0, none⟩ (.int .u32 ((M.x : Nat) : Int)) (.inl rfl)
  clear M0 G0
  go_wp2
  go_ret
  exact ⟨rfl, M1, G1⟩

set_option maxHeartbeats 1000000 in
theorem step_128 (b : Option Addr) (cb : Nat) (pk : List UInt8) (g base : Nat) (M : Mc) (t f k : Nat) (w : World) (hm : MAt w 90 base g M) (hk : k ≤ 4294967295) (hp : pk.length ≤ 4294967295) :
    Calls Tryz.prog 34 #[.pointer (some ⟨g, 0, none⟩), .agg #[.int .u16 128, .int .u8 t, .int .u8 f, .int .u32 k], .slice b pk.length cb] w fun e w' => StepPost w 90 base g ⟨pk.length, M.x, M.m⟩ 0 e w' := by
  have HG : Hid (w.grownBy (w.alloc (.cells #[.int .u16 128, .int .u8 t, .int .u8 f, .int .u32 k] 54)) none) := World.grownBy_alloc _ _ _
  have HM : Hid (MAt (w.alloc (.cells #[.int .u16 128, .int .u8 t, .int .u8 f, .int .u32 k] 54)) 90 base g M) := hm.kept (row := none) (World.grownBy_alloc _ _ _) (by simp)
  have HX : Hid (Bx (w.alloc (.cells #[.int .u16 128, .int .u8 t, .int .u8 f, .int .u32 k] 54)) w.heap.size 128 t f k) := bx_alloc w 54 128 t f k
  have hlt := hm.lt.2
  have _hk : k ≤ 4294967295 := hk
  clear hm
  go_enter Tryz.func34, Tryz.ntmps34
  go_upto_region 2 with fail
  generalize w.alloc (.cells #[.int .u16 128, .int .u8 t, .int .u8 f, .int .u32 k] 54) = w1 at *
  have hne : ((w.heap.size : Nat) == g) = false := by rw [beq_eq_false_iff_ne]; omega
  have hne2 : w.heap.size ≠ g := by omega
  generalize w.heap.size = B at *
  have G0 : w.grownBy w1 (some g) := grown_mono HG.out
  have M0 := HM.out
  obtain ⟨x0, x1, x2, x3⟩ := HX.out
  clear HG HM HX
  have c0 := M0.a
  have c1 := M0.x
  have f0 := M0.free (0)
  have M1 := M0.setA pk.length
  have G1 := grown_setCell G0 ⟨g, 0, none⟩ (.int .u32 ((pk.length : Nat) : Int)) (.inl rfl)
  clear M0 G0
  go_wp2
  go_ret
  exact ⟨rfl, M1, G1⟩

set_option maxHeartbeats 1000000 in
theorem step_129 (b : Option Addr) (cb : Nat) (pk : List UInt8) (g base : Nat) (M : Mc) (t f k : Nat) (w : World) (hm : MAt w 90 base g M) (hk : k ≤ 4294967295) (hp : pk.length ≤ 4294967295) :
    Calls Tryz.prog 34 #[.pointer (some ⟨g, 0, none⟩), .agg #[.int .u16 129, .int .u8 t, .int .u8 f, .int .u32 k], .slice b pk.length cb] w fun e w' => StepPost w 90 base g ⟨M.a, pk.length, M.m⟩ 0 e w' := by
  have HG : Hid (w.grownBy (w.alloc (.cells #[.int .u16 129, .int .u8 t, .int .u8 f, .int .u32 k] 54)) none) := World.grownBy_alloc _ _ _
  have HM : Hid (MAt (w.alloc (.cells #[.int .u16 129, .int .u8 t, .int .u8 f, .int .u32 k] 54)) 90 base g M) := hm.kept (row := none) (World.grownBy_alloc _ _ _) (by simp)
  have HX : Hid (Bx (w.alloc (.cells #[.int .u16 129, .int .u8 t, .int .u8 f, .int .u32 k] 54)) w.heap.size 129 t f k) := bx_alloc w 54 129 t f k
  have hlt := hm.lt.2
  have _hk : k ≤ 4294967295 := hk
  clear hm
  go_enter Tryz.func34, Tryz.ntmps34
  go_upto_region 2 with fail
  generalize w.alloc (.cells #[.int .u16 129, .int .u8 t, .int .u8 f, .int .u32 k] 54) = w1 at *
  have hne : ((w.heap.size : Nat) == g) = false := by rw [beq_eq_false_iff_ne]; omega
  have hne2 : w.heap.size ≠ g := by omega
  generalize w.heap.size = B at *
  have G0 : w.grownBy w1 (some g) := grown_mono HG.out
  have M0 := HM.out
  obtain ⟨x0, x1, x2, x3⟩ := HX.out
  clear HG HM HX
  have c0 := M0.a
  have c1 := M0.x
  have f0 := M0.free (1)
  have M1 := M0.setX pk.length
  have G1 := grown_setCell G0 ⟨g, 1, none⟩ (.int .u32 ((pk.length : Nat) : Int)) (.inl rfl)
  clear M0 G0
  go_wp2
  go_ret
  exact ⟨rfl, M1, G1⟩

set_option maxHeartbeats 1000000 in
theorem step_132 (b : Option Addr) (cb : Nat) (pk : List UInt8) (g base : Nat) (M : Mc) (t f k : Nat) (w : World) (hm : MAt w 90 base g M) (hk : k ≤ 4294967295) (hM : M.ok) :
    Calls Tryz.prog 34 #[.pointer (some ⟨g, 0, none⟩), .agg #[.int .u16 132, .int .u8 t, .int .u8 f, .int .u32 k], .slice b pk.length cb] w fun e w' => StepPost w 90 base g ⟨(4294967296 - M.a) % 4294967296, M.x, M.m⟩ 0 e w' := by
  have HG : Hid (w.grownBy (w.alloc (.cells #[.int .u16 132, .int .u8 t, .int .u8 f, .int .u32 k] 54)) none) := World.grownBy_alloc _ _ _
  have HM : Hid (MAt (w.alloc (.cells #[.int .u16 132, .int .u8 t, .int .u8 f, .int .u32 k] 54)) 90 base g M) := hm.kept (row := none) (World.grownBy_alloc _ _ _) (by simp)
  have HX : Hid (Bx (w.alloc (.cells #[.int .u16 132, .int .u8 t, .int .u8 f, .int .u32 k] 54)) w.heap.size 132 t f k) := bx_alloc w 54 132 t f k
  have hlt := hm.lt.2
  have _hk : k ≤ 4294967295 := hk
  clear hm
  have ev : -(M.a : Int) % 4294967296 = (((4294967296 - M.a) % 4294967296 : Nat) : Int) := by have := hM.1; omega
  generalize (4294967296 - M.a) % 4294967296 = v at *
  go_enter Tryz.func34, Tryz.ntmps34
  go_upto_region 2 with fail
  generalize w.alloc (.cells #[.int .u16 132, .int .u8 t, .int .u8 f, .int .u32 k] 54) = w1 at *
  have hne : ((w.heap.size : Nat) == g) = false := by rw [beq_eq_false_iff_ne]; omega
  have hne2 : w.heap.size ≠ g := by omega
  generalize w.heap.size = B at *
  have G0 : w.grownBy w1 (some g) := grown_mono HG.out
  have M0 := HM.out
  obtain ⟨x0, x1, x2, x3⟩ := HX.out
  clear HG HM HX
  have c0 := M0.a
  have c1 := M0.x
  have f0 := M0.free (0)
  have M1 := M0.setA v
  have G1 := grown_setCell G0 ⟨g, 0, none⟩ (.int .u32 ((v : Nat) : Int)) (.inl rfl)
  clear M0 G0
  go_wp2
  go_ret
  exact ⟨rfl, M1, G1⟩

set_option maxHeartbeats 1000000 in
theorem step_96 (b : Option Addr) (cb : Nat) (pk : List UInt8) (g base : Nat) (M : Mc) (t f k : Nat) (w : World) (hm : MAt w 90 base g M) (hk : k ≤ 4294967295) (hM : M.ok) :
    Calls Tryz.prog 34 #[.pointer (some ⟨g, 0, none⟩), .agg #[.int .u16 96, .int .u8 t, .int .u8 f, .int .u32 k], .slice b pk.length cb] w fun e w' => StepPost w 90 base g ⟨M.m.getD (k % 16) 0, M.x, M.m⟩ 0 e w' := by
  have HG : Hid (w.grownBy (w.alloc (.cells #[.int .u16 96, .int .u8 t, .int .u8 f, .int .u32 k] 54)) none) := World.grownBy_alloc _ _ _
  have HM : Hid (MAt (w.alloc (.cells #[.int .u16 96, .int .u8 t, .int .u8 f, .int .u32 k] 54)) 90 base g M) := hm.kept (row := none) (World.grownBy_alloc _ _ _) (by simp)
  have HX : Hid (Bx (w.alloc (.cells #[.int .u16 96, .int .u8 t, .int .u8 f, .int .u32 k] 54)) w.heap.size 96 t f k) := bx_alloc w 54 96 t f k
  have hlt := hm.lt.2
  have _hk : k ≤ 4294967295 := hk
  clear hm
  have hb0 : k % 16 < 16 := by omega
  have ha := vand15 k hk
  generalize k % 16 = q at *
  have hb1 : (0 : Int) ≤ (q : Int) := by omega
  have hb2 : (q : Int) < 16 := by omega
  have cmH : Hid (∀ W : World, MAt W 90 base g M → W.cell? ⟨g, 2 + q, none⟩ = some (.int .u32 (M.m.getD q 0 : Int))) := fun W h => h.m hM.2.2.1 q hb0
  generalize M.m.getD q 0 = v at *
  go_enter Tryz.func34, Tryz.ntmps34
  go_upto_region 2 with fail
  generalize w.alloc (.cells #[.int .u16 96, .int .u8 t, .int .u8 f, .int .u32 k] 54) = w1 at *
  have hne : ((w.heap.size : Nat) == g) = false := by rw [beq_eq_false_iff_ne]; omega
  have hne2 : w.heap.size ≠ g := by omega
  generalize w.heap.size = B at *
  have G0 : w.grownBy w1 (some g) := grown_mono HG.out
  have M0 := HM.out
  obtain ⟨x0, x1, x2, x3⟩ := HX.out
  clear HG HM HX
  have c0 := M0.a
  have c1 := M0.x
  have cm := cmH.out _ M0
  have f0 := M0.free (0)
  have M1 := M0.setA v
  have G1 := grown_setCell G0 ⟨g, 0, none⟩ (.int .u32 (v : Int)) (.inl rfl)
  clear M0 G0 cmH
  go_wp2
  go_region
  go_wp2
  go_ret
  exact ⟨rfl, M1.kept (row := none) (grown_drewN _ 1 none) (by simp), grown_trans G1 (grown_drewN _ 1 _)⟩

set_option maxHeartbeats 1000000 in
theorem step_97 (b : Option Addr) (cb : Nat) (pk : List UInt8) (g base : Nat) (M : Mc) (t f k : Nat) (w : World) (hm : MAt w 90 base g M) (hk : k ≤ 4294967295) (hM : M.ok) :
    Calls Tryz.prog 34 #[.pointer (some ⟨g, 0, none⟩), .agg #[.int .u16 97, .int .u8 t, .int .u8 f, .int .u32 k], .slice b pk.length cb] w fun e w' => StepPost w 90 base g ⟨M.a, M.m.getD (k % 16) 0, M.m⟩ 0 e w' := by
  have HG : Hid (w.grownBy (w.alloc (.cells #[.int .u16 97, .int .u8 t, .int .u8 f, .int .u32 k] 54)) none) := World.grownBy_alloc _ _ _
  have HM : Hid (MAt (w.alloc (.cells #[.int .u16 97, .int .u8 t, .int .u8 f, .int .u32 k] 54)) 90 base g M) := hm.kept (row := none) (World.grownBy_alloc _ _ _) (by simp)
  have HX : Hid (Bx (w.alloc (.cells #[.int .u16 97, .int .u8 t, .int .u8 f, .int .u32 k] 54)) w.heap.size 97 t f k) := bx_alloc w 54 97 t f k
  have hlt := hm.lt.2
  have _hk : k ≤ 4294967295 := hk
  clear hm
  have hb0 : k % 16 < 16 := by omega
  have ha := vand15 k hk
  generalize k % 16 = q at *
  have hb1 : (0 : Int) ≤ (q : Int) := by omega
  have hb2 : (q : Int) < 16 := by omega
  have cmH : Hid (∀ W : World, MAt W 90 base g M → W.cell? ⟨g, 2 + q, none⟩ = some (.int .u32 (M.m.getD q 0 : Int))) := fun W h => h.m hM.2.2.1 q hb0
  generalize M.m.getD q 0 = v at *
  go_enter Tryz.func34, Tryz.ntmps34
  go_upto_region 2 with fail
  generalize w.alloc (.cells #[.int .u16 97, .int .u8 t, .int .u8 f, .int .u32 k] 54) = w1 at *
  have hne : ((w.heap.size : Nat) == g) = false := by rw [beq_eq_false_iff_ne]; omega
  have hne2 : w.heap.size ≠ g := by omega
  generalize w.heap.size = B at *
  have G0 : w.grownBy w1 (some g) := grown_mono HG.out
  have M0 := HM.out
  obtain ⟨x0, x1, x2, x3⟩ := HX.out
  clear HG HM HX
  have c0 := M0.a
  have c1 := M0.x
  have cm := cmH.out _ M0
  have f0 := M0.free (1)
  have M1 := M0.setX v
  have G1 := grown_setCell G0 ⟨g, 1, none⟩ (.int .u32 (v : Int)) (.inl rfl)
  clear M0 G0 cmH
  go_wp2
  go_region
  go_wp2
  go_ret
  exact ⟨rfl, M1.kept (row := none) (grown_drewN _ 1 none) (by simp), grown_trans G1 (grown_drewN _ 1 _)⟩

set_option maxHeartbeats 1000000 in
theorem step_2 (b : Option Addr) (cb : Nat) (pk : List UInt8) (g base : Nat) (M : Mc) (t f k : Nat) (w : World) (hm : MAt w 90 base g M) (hk : k ≤ 4294967295) (hM : M.ok) :
    Calls Tryz.prog 34 #[.pointer (some ⟨g, 0, none⟩), .agg #[.int .u16 2, .int .u8 t, .int .u8 f, .int .u32 k], .slice b pk.length cb] w fun e w' => StepPost w 90 base g ⟨M.a, M.x, M.m.set (k % 16) M.a⟩ 0 e w' := by
  have HG : Hid (w.grownBy (w.alloc (.cells #[.int .u16 2, .int .u8 t, .int .u8 f, .int .u32 k] 54)) none) := World.grownBy_alloc _ _ _
  have HM : Hid (MAt (w.alloc (.cells #[.int .u16 2, .int .u8 t, .int .u8 f, .int .u32 k] 54)) 90 base g M) := hm.kept (row := none) (World.grownBy_alloc _ _ _) (by simp)
  have HX : Hid (Bx (w.alloc (.cells #[.int .u16 2, .int .u8 t, .int .u8 f, .int .u32 k] 54)) w.heap.size 2 t f k) := bx_alloc w 54 2 t f k
  have hlt := hm.lt.2
  have _hk : k ≤ 4294967295 := hk
  clear hm
  have hb0 : k % 16 < 16 := by omega
  have ha := vand15 k hk
  generalize k % 16 = q at *
  have hb1 : (0 : Int) ≤ (q : Int) := by omega
  have hb2 : (q : Int) < 16 := by omega
  have cmH : Hid (∀ W : World, MAt W 90 base g M → W.cell? ⟨g, 2 + q, none⟩ = some (.int .u32 (M.m.getD q 0 : Int))) := fun W h => h.m hM.2.2.1 q hb0
  generalize M.m.getD q 0 = v at *
  go_enter Tryz.func34, Tryz.ntmps34
  go_upto_region 2 with fail
  generalize w.alloc (.cells #[.int .u16 2, .int .u8 t, .int .u8 f, .int .u32 k] 54) = w1 at *
  have hne : ((w.heap.size : Nat) == g) = false := by rw [beq_eq_false_iff_ne]; omega
  have hne2 : w.heap.size ≠ g := by omega
  generalize w.heap.size = B at *
  have G0 : w.grownBy w1 (some g) := grown_mono HG.out
  have M0 := HM.out
  obtain ⟨x0, x1, x2, x3⟩ := HX.out
  clear HG HM HX
  have c0 := M0.a
  have c1 := M0.x
  have cm := cmH.out _ M0
  have f0 := M0.free (2 + q)
  have M1 := M0.setM q M.a
  have G1 := grown_setCell G0 ⟨g, 2 + q, none⟩ (.int .u32 (M.a : Int)) (.inl rfl)
  clear M0 G0 cmH
  go_wp2
  go_region
  go_wp2
  go_ret
  exact ⟨rfl, M1.kept (row := none) (grown_drewN _ 1 none) (by simp), grown_trans G1 (grown_drewN _ 1 _)⟩

set_option maxHeartbeats 1000000 in
theorem step_3 (b : Option Addr) (cb : Nat) (pk : List UInt8) (g base : Nat) (M : Mc) (t f k : Nat) (w : World) (hm : MAt w 90 base g M) (hk : k ≤ 4294967295) (hM : M.ok) :
    Calls Tryz.prog 34 #[.pointer (some ⟨g, 0, none⟩), .agg #[.int .u16 3, .int .u8 t, .int .u8 f, .int .u32 k], .slice b pk.length cb] w fun e w' => StepPost w 90 base g ⟨M.a, M.x, M.m.set (k % 16) M.x⟩ 0 e w' := by
  have HG : Hid (w.grownBy (w.alloc (.cells #[.int .u16 3, .int .u8 t, .int .u8 f, .int .u32 k] 54)) none) := World.grownBy_alloc _ _ _
  have HM : Hid (MAt (w.alloc (.cells #[.int .u16 3, .int .u8 t, .int .u8 f, .int .u32 k] 54)) 90 base g M) := hm.kept (row := none) (World.grownBy_alloc _ _ _) (by simp)
  have HX : Hid (Bx (w.alloc (.cells #[.int .u16 3, .int .u8 t, .int .u8 f, .int .u32 k] 54)) w.heap.size 3 t f k) := bx_alloc w 54 3 t f k
  have hlt := hm.lt.2
  have _hk : k ≤ 4294967295 := hk
  clear hm
  have hb0 : k % 16 < 16 := by omega
  have ha := vand15 k hk
  generalize k % 16 = q at *
  have hb1 : (0 : Int) ≤ (q : Int) := by omega
  have hb2 : (q : Int) < 16 := by omega
  have cmH : Hid (∀ W : World, MAt W 90 base g M → W.cell? ⟨g, 2 + q, none⟩ = some (.int .u32 (M.m.getD q 0 : Int))) := fun W h => h.m hM.2.2.1 q hb0
  generalize M.m.getD q 0 = v at *
  go_enter Tryz.func34, Tryz.ntmps34
  go_upto_region 2 with fail
  generalize w.alloc (.cells #[.int .u16 3, .int .u8 t, .int .u8 f, .int .u32 k] 54) = w1 at *
  have hne : ((w.heap.size : Nat) == g) = false := by rw [beq_eq_false_iff_ne]; omega
  have hne2 : w.heap.size ≠ g := by omega
  generalize w.heap.size = B at *
  have G0 : w.grownBy w1 (some g) := grown_mono HG.out
  have M0 := HM.out
  obtain ⟨x0, x1, x2, x3⟩ := HX.out
  clear HG HM HX
  have c0 := M0.a
  have c1 := M0.x
  have cm := cmH.out _ M0
  have f0 := M0.free (2 + q)
  have M1 := M0.setM q M.x
  have G1 := grown_setCell G0 ⟨g, 2 + q, none⟩ (.int .u32 (M.x : Int)) (.inl rfl)
  clear M0 G0 cmH
  go_wp2
  go_region
  go_wp2
  go_ret
  exact ⟨rfl, M1.kept (row := none) (grown_drewN _ 1 none) (by simp), grown_trans G1 (grown_drewN _ 1 _)⟩

end Go.Proofs.YtencoknpocipbaaGreat
