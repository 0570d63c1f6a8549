/-
  Rows of two kinds apart; places behind others. The document's own Step. The document's own Step: loads. The document's own Step, of whatever instruction. The document's own Takes and Run of a graph. KeptBlocks, and what it leaves as it was: all that lies behind the lent memory.
-/
import Derived.Test.YtpoleldfoahpoaaGreatLotP10
import Derived.Test.YtpoleldfoahpoaaGreatLotP21
import Derived.Deep.RegionHeld3
import Derived.Deep.DeepCutAuto
import Derived.Deep.RegionWith
import Derived.Test.YtpoleldfoahpoaaGreatGrU
import Derived.Test.YtpoleldfoahpoaaGreatLotP37
import Derived.Test.YtpoleldfoahpoaaGreatGrZ
namespace Go.Proofs.YtpoleldfoahpoaaGreat
open Go.RowKit
set_option maxRecDepth 100000

/-- Rows of two kinds of elements: the one stays where the other is written. -/
theorem row_kinds {w w' : World} {base base' e e' size size' n n' : Nat} {v v' : Value} {vs vs' : List Value} (h : w.ownsRow base e size v n vs) (O : w.ownsRow base' e' size' v' n' vs') (he : e ≠ e') (K : w.grownBy w' v'.ownBlock) : w'.ownsRow base e size v n vs := by
  refine h.kept K ?_
  rcases h.2 with ⟨rfl, -⟩ | ⟨g, cap, cur, rfl, -, hg, -⟩
  · exact .inl rfl
  · right
    intro hh
    rcases O.2 with ⟨rfl, -⟩ | ⟨g', cap', cur', rfl, -, hg', -⟩
    · cases hh
    · simp only [Value.ownBlock, Option.some.injEq] at hh
      subst hh
      rw [hg] at hg'
      simp only [Option.some.injEq, Obj.cells.injEq] at hg'
      exact he hg'.2.1

theorem row_blk {w w' : World} {base e e' size n g m : Nat} {v : Value} {vs : List Value} (h : w.ownsRow base e size v n vs) (B : BlkN w e' g m) (he : e ≠ e') (K : w.grownBy w' (some g)) : w'.ownsRow base e size v n vs := by
  refine h.kept K ?_
  rcases h.2 with ⟨rfl, -⟩ | ⟨g1, cap, cur, rfl, -, hg, -⟩
  · exact .inl rfl
  · right
    intro hh
    simp only [Value.ownBlock, Option.some.injEq] at hh
    subst hh
    obtain ⟨cur', hb, -⟩ := B
    rw [hg] at hb
    simp only [Option.some.injEq, Obj.cells.injEq] at hb
    exact he hb.2.1

theorem blk_row {w w' : World} {base e e' size n g m : Nat} {v : Value} {vs : List Value} (B : BlkN w e' g m) (h : w.ownsRow base e size v n vs) (he : e ≠ e') (K : w.grownBy w' v.ownBlock) : BlkN w' e' g m := by
  refine B.kept K ?_
  rcases h.2 with ⟨rfl, -⟩ | ⟨g1, cap, cur, rfl, -, hg, -⟩
  · simp [Value.ownBlock]
  · intro hh
    simp only [Value.ownBlock, Option.some.injEq] at hh
    subst hh
    obtain ⟨cur', hb, -⟩ := B
    rw [hg] at hb
    simp only [Option.some.injEq, Obj.cells.injEq] at hb
    exact he hb.2.1

theorem vblk_set {w : World} {g i : Nat} {cur : Array Value} {e : TypeId} (h : w.heap[g]? = some (.cells cur e (0, 0))) (u : Value) : (w.setCell ⟨g, i, none⟩ u).heap[g]? = some (.cells (cur.setIfInBounds i u) e (0, 0)) := heap_setCell_same w g i cur e u h

/-- Three cells, written one behind the other. -/
theorem set3 {W : World} {g : Nat} {e : TypeId} (h : BlkN W e g 3) (v0 v1 v2 : Value) :
    let W3 := ((W.setCell ⟨g, 0, none⟩ v0).setCell ⟨g, 1, none⟩ v1).setCell ⟨g, 2, none⟩ v2
    W3.cell? ⟨g, 0, none⟩ = some v0 ∧ W3.cell? ⟨g, 1, none⟩ = some v1 ∧ W3.cell? ⟨g, 2, none⟩ = some v2 := by
  obtain ⟨cur, hh, hs⟩ := h
  have k := vblk_set (i := 2) (vblk_set (i := 1) (vblk_set (i := 0) hh v0) v1) v2
  intro W3
  have hc : ∀ i, W3.cell? ⟨g, i, none⟩ = (((cur.setIfInBounds 0 v0).setIfInBounds 1 v1).setIfInBounds 2 v2)[i]? := fun i => cell_of_row W3 g i _ _ _ k
  refine ⟨?_, ?_, ?_⟩ <;> rw [hc] <;> simp [hs]

/-- Places behind others. -/
def preV (ts : List Nat) (r : Nat × Int × List Nat) : Nat × Int × List Nat := (r.1, r.2.1, ts ++ r.2.2)
def zl (ts : List Nat) : List Int := ts.map fun n : Nat => (n : Int)

theorem preV_hd (ts : List Nat) (j : Nat) (r : Nat × Int × List Nat) : preV ts (hdV j r) = preV (ts ++ [j]) r := by
  simp [preV, hdV]

/-- Cells of an instruction that is boxed. -/
abbrev Bx (w : World) (b : Nat) (c t f k : Int) : Prop := w.cell? ⟨b, 0, none⟩ = some (.int .u16 c) ∧ w.cell? ⟨b, 1, none⟩ = some (.int .u8 t) ∧ w.cell? ⟨b, 2, none⟩ = some (.int .u8 f) ∧ w.cell? ⟨b, 3, none⟩ = some (.int .u32 k)

theorem bx_alloc (w : World) (e : TypeId) (c t f k : Int) : Bx (w.alloc (.cells #[.int .u16 c, .int .u8 t, .int .u8 f, .int .u32 k] e)) w.heap.size c t f k := by
  have h : ∀ i : Nat, (w.alloc (.cells #[.int .u16 c, .int .u8 t, .int .u8 f, .int .u32 k] e)).cell? ⟨w.heap.size, i, none⟩ = (#[.int .u16 c, .int .u8 t, .int .u8 f, .int .u32 k] : Array Value)[i]? := fun i => cell_of_row _ w.heap.size i _ _ _ (heap_alloc_new w _)
  exact ⟨h 0, h 1, h 2, h 3⟩

end Go.Proofs.YtpoleldfoahpoaaGreat

namespace Go.Proofs.YtpoleldfoahpoaaGreat
open Go.RowKit
set_option maxRecDepth 100000

/-- What Step leaves. -/
def StepPost (w : World) (t base g : Nat) (M : Mc) (f : Int) (e : Ending) (w' : World) : Prop := e = .returned (.int .i64 f) ∧ MAt w' t base g M ∧ w.grownBy w' (some g)

set_option maxHeartbeats 1000000 in
theorem step_0 (b : Option Addr) (cb : Nat) (pk : List UInt8) (g base : Nat) (M : Mc) (t f k : Nat) (w : World) (hm : MAt w 64 base g M) (hk : k ≤ 4294967295) :
    Calls Tryz.prog 39 #[.pointer (some ⟨g, 0, none⟩), .agg #[.int .u16 0, .int .u8 t, .int .u8 f, .int .u32 k], .slice b pk.length cb] w fun e w' => StepPost w 64 base g ⟨k, M.x, M.m⟩ 0 e w' := by
  have HG : Hid (w.grownBy (w.alloc (.cells #[.int .u16 0, .int .u8 t, .int .u8 f, .int .u32 k] 54)) none) := World.grownBy_alloc _ _ _
  have HM : Hid (MAt (w.alloc (.cells #[.int .u16 0, .int .u8 t, .int .u8 f, .int .u32 k] 54)) 64 base g M) := hm.kept (row := none) (World.grownBy_alloc _ _ _) (by simp)
  have HX : Hid (Bx (w.alloc (.cells #[.int .u16 0, .int .u8 t, .int .u8 f, .int .u32 k] 54)) w.heap.size 0 t f k) := bx_alloc w 54 0 t f k
  have hlt := hm.lt.2
  have _hk : k ≤ 4294967295 := hk
  clear hm
  go_enter Tryz.func39, Tryz.ntmps39
  go_upto_region 2 with fail
  generalize w.alloc (.cells #[.int .u16 0, .int .u8 t, .int .u8 f, .int .u32 k] 54) = w1 at *
  have hne : ((w.heap.size : Nat) == g) = false := by rw [beq_eq_false_iff_ne]; omega
  have hne2 : w.heap.size ≠ g := by omega
  generalize w.heap.size = B at *
  have G0 : w.grownBy w1 (some g) := grown_mono HG.out
  have M0 := HM.out
  obtain ⟨x0, x1, x2, x3⟩ := HX.out
  clear HG HM HX
  have c0 := M0.a
  have c1 := M0.x
  have f0 := M0.free (0)
  have M1 := M0.setA k
  have G1 := grown_setCell G0 ⟨g, 0, none⟩ (.int .u32 ((k : Nat) : Int)) (.inl rfl)
  clear M0 G0
  go_wp2
  go_ret
  exact ⟨rfl, M1, G1⟩

set_option maxHeartbeats 1000000 in
theorem step_1 (b : Option Addr) (cb : Nat) (pk : List UInt8) (g base : Nat) (M : Mc) (t f k : Nat) (w : World) (hm : MAt w 64 base g M) (hk : k ≤ 4294967295) :
    Calls Tryz.prog 39 #[.pointer (some ⟨g, 0, none⟩), .agg #[.int .u16 1, .int .u8 t, .int .u8 f, .int .u32 k], .slice b pk.length cb] w fun e w' => StepPost w 64 base g ⟨M.a, k, M.m⟩ 0 e w' := by
  have HG : Hid (w.grownBy (w.alloc (.cells #[.int .u16 1, .int .u8 t, .int .u8 f, .int .u32 k] 54)) none) := World.grownBy_alloc _ _ _
  have HM : Hid (MAt (w.alloc (.cells #[.int .u16 1, .int .u8 t, .int .u8 f, .int .u32 k] 54)) 64 base g M) := hm.kept (row := none) (World.grownBy_alloc _ _ _) (by simp)
  have HX : Hid (Bx (w.alloc (.cells #[.int .u16 1, .int .u8 t, .int .u8 f, .int .u32 k] 54)) w.heap.size 1 t f k) := bx_alloc w 54 1 t f k
  have hlt := hm.lt.2
  have _hk : k ≤ 4294967295 := hk
  clear hm
  go_enter Tryz.func39, Tryz.ntmps39
  go_upto_region 2 with fail
  generalize w.alloc (.cells #[.int .u16 1, .int .u8 t, .int .u8 f, .int .u32 k] 54) = w1 at *
  have hne : ((w.heap.size : Nat) == g) = false := by rw [beq_eq_false_iff_ne]; omega
  have hne2 : w.heap.size ≠ g := by omega
  generalize w.heap.size = B at *
  have G0 : w.grownBy w1 (some g) := grown_mono HG.out
  have M0 := HM.out
  obtain ⟨x0, x1, x2, x3⟩ := HX.out
  clear HG HM HX
  have c0 := M0.a
  have c1 := M0.x
  have f0 := M0.free (1)
  have M1 := M0.setX k
  have G1 := grown_setCell G0 ⟨g, 1, none⟩ (.int .u32 ((k : Nat) : Int)) (.inl rfl)
  clear M0 G0
  go_wp2
  go_ret
  exact ⟨rfl, M1, G1⟩

set_option maxHeartbeats 1000000 in
theorem step_7 (b : Option Addr) (cb : Nat) (pk : List UInt8) (g base : Nat) (M : Mc) (t f k : Nat) (w : World) (hm : MAt w 64 base g M) (hk : k ≤ 4294967295) :
    Calls Tryz.prog 39 #[.pointer (some ⟨g, 0, none⟩), .agg #[.int .u16 7, .int .u8 t, .int .u8 f, .int .u32 k], .slice b pk.length cb] w fun e w' => StepPost w 64 base g ⟨M.a, M.a, M.m⟩ 0 e w' := by
  have HG : Hid (w.grownBy (w.alloc (.cells #[.int .u16 7, .int .u8 t, .int .u8 f, .int .u32 k] 54)) none) := World.grownBy_alloc _ _ _
  have HM : Hid (MAt (w.alloc (.cells #[.int .u16 7, .int .u8 t, .int .u8 f, .int .u32 k] 54)) 64 base g M) := hm.kept (row := none) (World.grownBy_alloc _ _ _) (by simp)
  have HX : Hid (Bx (w.alloc (.cells #[.int .u16 7, .int .u8 t, .int .u8 f, .int .u32 k] 54)) w.heap.size 7 t f k) := bx_alloc w 54 7 t f k
  have hlt := hm.lt.2
  have _hk : k ≤ 4294967295 := hk
  clear hm
  go_enter Tryz.func39, Tryz.ntmps39
  go_upto_region 2 with fail
  generalize w.alloc (.cells #[.int .u16 7, .int .u8 t, .int .u8 f, .int .u32 k] 54) = w1 at *
  have hne : ((w.heap.size : Nat) == g) = false := by rw [beq_eq_false_iff_ne]; omega
  have hne2 : w.heap.size ≠ g := by omega
  generalize w.heap.size = B at *
  have G0 : w.grownBy w1 (some g) := grown_mono HG.out
  have M0 := HM.out
  obtain ⟨x0, x1, x2, x3⟩ := HX.out
  clear HG HM HX
  have c0 := M0.a
  have c1 := M0.x
  have f0 := M0.free (1)
  have M1 := M0.setX M.a
  have G1 := grown_setCell G0 ⟨g, 1, none⟩ (.int .u32 ((M.a : Nat) : Int)) (.inl rfl)
  clear M0 G0
  go_wp2
  go_ret
  exact ⟨rfl, M1, G1⟩

set_option maxHeartbeats 1000000 in
theorem step_135 (b : Option Addr) (cb : Nat) (pk : List UInt8) (g base : Nat) (M : Mc) (t f k : Nat) (w : World) (hm : MAt w 64 base g M) (hk : k ≤ 4294967295) :
    Calls Tryz.prog 39 #[.pointer (some ⟨g, 0, none⟩), .agg #[.int .u16 135, .int .u8 t, .int .u8 f, .int .u32 k], .slice b pk.length cb] w fun e w' => StepPost w 64 base g ⟨M.x, M.x, M.m⟩ 0 e w' := by
  have HG : Hid (w.grownBy (w.alloc (.cells #[.int .u16 135, .int .u8 t, .int .u8 f, .int .u32 k] 54)) none) := World.grownBy_alloc _ _ _
  have HM : Hid (MAt (w.alloc (.cells #[.int .u16 135, .int .u8 t, .int .u8 f, .int .u32 k] 54)) 64 base g M) := hm.kept (row := none) (World.grownBy_alloc _ _ _) (by simp)
  have HX : Hid (Bx (w.alloc (.cells #[.int .u16 135, .int .u8 t, .int .u8 f, .int .u32 k] 54)) w.heap.size 135 t f k) := bx_alloc w 54 135 t f k
  have hlt := hm.lt.2
  have _hk : k ≤ 4294967295 := hk
  clear hm
  go_enter Tryz.func39, Tryz.ntmps39
  go_upto_region 2 with fail
  generalize w.alloc (.cells #[.int .u16 135, .int .u8 t, .int .u8 f, .int .u32 k] 54) = w1 at *
  have hne : ((w.heap.size : Nat) == g) = false := by rw [beq_eq_false_iff_ne]; omega
  have hne2 : w.heap.size ≠ g := by omega
  generalize w.heap.size = B at *
  have G0 : w.grownBy w1 (some g) := grown_mono HG.out
  have M0 := HM.out
  obtain ⟨x0, x1, x2, x3⟩ := HX.out
  clear HG HM HX
  have c0 := M0.a
  have c1 := M0.x
  have f0 := M0.free (0)
  have M1 := M0.setA M.x
  have G1 := grown_setCell G0 ⟨g, 0, none⟩ (.int .u32 ((M.x : Nat) : Int)) (.inl rfl)
  clear M0 G0
  go_wp2
  go_ret
  exact ⟨rfl, M1, G1⟩

set_option maxHeartbeats 1000000 in
theorem step_128 (b : Option Addr) (cb : Nat) (pk : List UInt8) (g base : Nat) (M : Mc) (t f k : Nat) (w : World) (hm : MAt w 64 base g M) (hk : k ≤ 4294967295) (hp : pk.length ≤ 4294967295) :
    Calls Tryz.prog 39 #[.pointer (some ⟨g, 0, none⟩), .agg #[.int .u16 128, .int .u8 t, .int .u8 f, .int .u32 k], .slice b pk.length cb] w fun e w' => StepPost w 64 base g ⟨pk.length, M.x, M.m⟩ 0 e w' := by
  have HG : Hid (w.grownBy (w.alloc (.cells #[.int .u16 128, .int .u8 t, .int .u8 f, .int .u32 k] 54)) none) := World.grownBy_alloc _ _ _
  have HM : Hid (MAt (w.alloc (.cells #[.int .u16 128, .int .u8 t, .int .u8 f, .int .u32 k] 54)) 64 base g M) := hm.kept (row := none) (World.grownBy_alloc _ _ _) (by simp)
  have HX : Hid (Bx (w.alloc (.cells #[.int .u16 128, .int .u8 t, .int .u8 f, .int .u32 k] 54)) w.heap.size 128 t f k) := bx_alloc w 54 128 t f k
  have hlt := hm.lt.2
  have _hk : k ≤ 4294967295 := hk
  clear hm
  go_enter Tryz.func39, Tryz.ntmps39
  go_upto_region 2 with fail
  generalize w.alloc (.cells #[.int .u16 128, .int .u8 t, .int .u8 f, .int .u32 k] 54) = w1 at *
  have hne : ((w.heap.size : Nat) == g) = false := by rw [beq_eq_false_iff_ne]; omega
  have hne2 : w.heap.size ≠ g := by omega
  generalize w.heap.size = B at *
  have G0 : w.grownBy w1 (some g) := grown_mono HG.out
  have M0 := HM.out
  obtain ⟨x0, x1, x2, x3⟩ := HX.out
  clear HG HM HX
  have c0 := M0.a
  have c1 := M0.x
  have f0 := M0.free (0)
  have M1 := M0.setA pk.length
  have G1 := grown_setCell G0 ⟨g, 0, none⟩ (.int .u32 ((pk.length : Nat) : Int)) (.inl rfl)
  clear M0 G0
  go_wp2
  go_ret
  exact ⟨rfl, M1, G1⟩

set_option maxHeartbeats 1000000 in
theorem step_129 (b : Option Addr) (cb : Nat) (pk : List UInt8) (g base : Nat) (M : Mc) (t f k : Nat) (w : World) (hm : MAt w 64 base g M) (hk : k ≤ 4294967295) (hp : pk.length ≤ 4294967295) :
    Calls Tryz.prog 39 #[.pointer (some ⟨g, 0, none⟩), .agg #[.int .u16 129, .int .u8 t, .int .u8 f, .int .u32 k], .slice b pk.length cb] w fun e w' => StepPost w 64 base g ⟨M.a, pk.length, M.m⟩ 0 e w' := by
  have HG : Hid (w.grownBy (w.alloc (.cells #[.int .u16 129, .int .u8 t, .int .u8 f, .int .u32 k] 54)) none) := World.grownBy_alloc _ _ _
  have HM : Hid (MAt (w.alloc (.cells #[.int .u16 129, .int .u8 t, .int .u8 f, .int .u32 k] 54)) 64 base g M) := hm.kept (row := none) (World.grownBy_alloc _ _ _) (by simp)
  have HX : Hid (Bx (w.alloc (.cells #[.int .u16 129, .int .u8 t, .int .u8 f, .int .u32 k] 54)) w.heap.size 129 t f k) := bx_alloc w 54 129 t f k
  have hlt := hm.lt.2
  have _hk : k ≤ 4294967295 := hk
  clear hm
  go_enter Tryz.func39, Tryz.ntmps39
  go_upto_region 2 with fail
  generalize w.alloc (.cells #[.int .u16 129, .int .u8 t, .int .u8 f, .int .u32 k] 54) = w1 at *
  have hne : ((w.heap.size : Nat) == g) = false := by rw [beq_eq_false_iff_ne]; omega
  have hne2 : w.heap.size ≠ g := by omega
  generalize w.heap.size = B at *
  have G0 : w.grownBy w1 (some g) := grown_mono HG.out
  have M0 := HM.out
  obtain ⟨x0, x1, x2, x3⟩ := HX.out
  clear HG HM HX
  have c0 := M0.a
  have c1 := M0.x
  have f0 := M0.free (1)
  have M1 := M0.setX pk.length
  have G1 := grown_setCell G0 ⟨g, 1, none⟩ (.int .u32 ((pk.length : Nat) : Int)) (.inl rfl)
  clear M0 G0
  go_wp2
  go_ret
  exact ⟨rfl, M1, G1⟩

set_option maxHeartbeats 1000000 in
theorem step_132 (b : Option Addr) (cb : Nat) (pk : List UInt8) (g base : Nat) (M : Mc) (t f k : Nat) (w : World) (hm : MAt w 64 base g M) (hk : k ≤ 4294967295) (hM : M.ok) :
    Calls Tryz.prog 39 #[.pointer (some ⟨g, 0, none⟩), .agg #[.int .u16 132, .int .u8 t, .int .u8 f, .int .u32 k], .slice b pk.length cb] w fun e w' => StepPost w 64 base g ⟨(4294967296 - M.a) % 4294967296, M.x, M.m⟩ 0 e w' := by
  have HG : Hid (w.grownBy (w.alloc (.cells #[.int .u16 132, .int .u8 t, .int .u8 f, .int .u32 k] 54)) none) := World.grownBy_alloc _ _ _
  have HM : Hid (MAt (w.alloc (.cells #[.int .u16 132, .int .u8 t, .int .u8 f, .int .u32 k] 54)) 64 base g M) := hm.kept (row := none) (World.grownBy_alloc _ _ _) (by simp)
  have HX : Hid (Bx (w.alloc (.cells #[.int .u16 132, .int .u8 t, .int .u8 f, .int .u32 k] 54)) w.heap.size 132 t f k) := bx_alloc w 54 132 t f k
  have hlt := hm.lt.2
  have _hk : k ≤ 4294967295 := hk
  clear hm
  have ev : -(M.a : Int) % 4294967296 = (((4294967296 - M.a) % 4294967296 : Nat) : Int) := by have := hM.1; omega
  generalize (4294967296 - M.a) % 4294967296 = v at *
  go_enter Tryz.func39, Tryz.ntmps39
  go_upto_region 2 with fail
  generalize w.alloc (.cells #[.int .u16 132, .int .u8 t, .int .u8 f, .int .u32 k] 54) = w1 at *
  have hne : ((w.heap.size : Nat) == g) = false := by rw [beq_eq_false_iff_ne]; omega
  have hne2 : w.heap.size ≠ g := by omega
  generalize w.heap.size = B at *
  have G0 : w.grownBy w1 (some g) := grown_mono HG.out
  have M0 := HM.out
  obtain ⟨x0, x1, x2, x3⟩ := HX.out
  clear HG HM HX
  have c0 := M0.a
  have c1 := M0.x
  have f0 := M0.free (0)
  have M1 := M0.setA v
  have G1 := grown_setCell G0 ⟨g, 0, none⟩ (.int .u32 ((v : Nat) : Int)) (.inl rfl)
  clear M0 G0
  go_wp2
  go_ret
  exact ⟨rfl, M1, G1⟩

set_option maxHeartbeats 1000000 in
theorem step_96 (b : Option Addr) (cb : Nat) (pk : List UInt8) (g base : Nat) (M : Mc) (t f k : Nat) (w : World) (hm : MAt w 64 base g M) (hk : k ≤ 4294967295) (hM : M.ok) :
    Calls Tryz.prog 39 #[.pointer (some ⟨g, 0, none⟩), .agg #[.int .u16 96, .int .u8 t, .int .u8 f, .int .u32 k], .slice b pk.length cb] w fun e w' => StepPost w 64 base g ⟨M.m.getD (k % 16) 0, M.x, M.m⟩ 0 e w' := by
  have HG : Hid (w.grownBy (w.alloc (.cells #[.int .u16 96, .int .u8 t, .int .u8 f, .int .u32 k] 54)) none) := World.grownBy_alloc _ _ _
  have HM : Hid (MAt (w.alloc (.cells #[.int .u16 96, .int .u8 t, .int .u8 f, .int .u32 k] 54)) 64 base g M) := hm.kept (row := none) (World.grownBy_alloc _ _ _) (by simp)
  have HX : Hid (Bx (w.alloc (.cells #[.int .u16 96, .int .u8 t, .int .u8 f, .int .u32 k] 54)) w.heap.size 96 t f k) := bx_alloc w 54 96 t f k
  have hlt := hm.lt.2
  have _hk : k ≤ 4294967295 := hk
  clear hm
  have hb0 : k % 16 < 16 := by omega
  have ha := and15 k hk
  generalize k % 16 = q at *
  have hb1 : (0 : Int) ≤ (q : Int) := by omega
  have hb2 : (q : Int) < 16 := by omega
  have cmH : Hid (∀ W : World, MAt W 64 base g M → W.cell? ⟨g, 2 + q, none⟩ = some (.int .u32 (M.m.getD q 0 : Int))) := fun W h => h.m hM.2.2.1 q hb0
  generalize M.m.getD q 0 = v at *
  go_enter Tryz.func39, Tryz.ntmps39
  go_upto_region 2 with fail
  generalize w.alloc (.cells #[.int .u16 96, .int .u8 t, .int .u8 f, .int .u32 k] 54) = w1 at *
  have hne : ((w.heap.size : Nat) == g) = false := by rw [beq_eq_false_iff_ne]; omega
  have hne2 : w.heap.size ≠ g := by omega
  generalize w.heap.size = B at *
  have G0 : w.grownBy w1 (some g) := grown_mono HG.out
  have M0 := HM.out
  obtain ⟨x0, x1, x2, x3⟩ := HX.out
  clear HG HM HX
  have c0 := M0.a
  have c1 := M0.x
  have cm := cmH.out _ M0
  have f0 := M0.free (0)
  have M1 := M0.setA v
  have G1 := grown_setCell G0 ⟨g, 0, none⟩ (.int .u32 (v : Int)) (.inl rfl)
  clear M0 G0 cmH
  go_wp2
  go_region
  go_wp2
  go_ret
  exact ⟨rfl, M1.kept (row := none) (grown_drewN _ 1 none) (by simp), grown_trans G1 (grown_drewN _ 1 _)⟩

set_option maxHeartbeats 1000000 in
theorem step_97 (b : Option Addr) (cb : Nat) (pk : List UInt8) (g base : Nat) (M : Mc) (t f k : Nat) (w : World) (hm : MAt w 64 base g M) (hk : k ≤ 4294967295) (hM : M.ok) :
    Calls Tryz.prog 39 #[.pointer (some ⟨g, 0, none⟩), .agg #[.int .u16 97, .int .u8 t, .int .u8 f, .int .u32 k], .slice b pk.length cb] w fun e w' => StepPost w 64 base g ⟨M.a, M.m.getD (k % 16) 0, M.m⟩ 0 e w' := by
  have HG : Hid (w.grownBy (w.alloc (.cells #[.int .u16 97, .int .u8 t, .int .u8 f, .int .u32 k] 54)) none) := World.grownBy_alloc _ _ _
  have HM : Hid (MAt (w.alloc (.cells #[.int .u16 97, .int .u8 t, .int .u8 f, .int .u32 k] 54)) 64 base g M) := hm.kept (row := none) (World.grownBy_alloc _ _ _) (by simp)
  have HX : Hid (Bx (w.alloc (.cells #[.int .u16 97, .int .u8 t, .int .u8 f, .int .u32 k] 54)) w.heap.size 97 t f k) := bx_alloc w 54 97 t f k
  have hlt := hm.lt.2
  have _hk : k ≤ 4294967295 := hk
  clear hm
  have hb0 : k % 16 < 16 := by omega
  have ha := and15 k hk
  generalize k % 16 = q at *
  have hb1 : (0 : Int) ≤ (q : Int) := by omega
  have hb2 : (q : Int) < 16 := by omega
  have cmH : Hid (∀ W : World, MAt W 64 base g M → W.cell? ⟨g, 2 + q, none⟩ = some (.int .u32 (M.m.getD q 0 : Int))) := fun W h => h.m hM.2.2.1 q hb0
  generalize M.m.getD q 0 = v at *
  go_enter Tryz.func39, Tryz.ntmps39
  go_upto_region 2 with fail
  generalize w.alloc (.cells #[.int .u16 97, .int .u8 t, .int .u8 f, .int .u32 k] 54) = w1 at *
  have hne : ((w.heap.size : Nat) == g) = false := by rw [beq_eq_false_iff_ne]; omega
  have hne2 : w.heap.size ≠ g := by omega
  generalize w.heap.size = B at *
  have G0 : w.grownBy w1 (some g) := grown_mono HG.out
  have M0 := HM.out
  obtain ⟨x0, x1, x2, x3⟩ := HX.out
  clear HG HM HX
  have c0 := M0.a
  have c1 := M0.x
  have cm := cmH.out _ M0
  have f0 := M0.free (1)
  have M1 := M0.setX v
  have G1 := grown_setCell G0 ⟨g, 1, none⟩ (.int .u32 (v : Int)) (.inl rfl)
  clear M0 G0 cmH
  go_wp2
  go_region
  go_wp2
  go_ret
  exact ⟨rfl, M1.kept (row := none) (grown_drewN _ 1 none) (by simp), grown_trans G1 (grown_drewN _ 1 _)⟩

set_option maxHeartbeats 1000000 in
theorem step_2 (b : Option Addr) (cb : Nat) (pk : List UInt8) (g base : Nat) (M : Mc) (t f k : Nat) (w : World) (hm : MAt w 64 base g M) (hk : k ≤ 4294967295) (hM : M.ok) :
    Calls Tryz.prog 39 #[.pointer (some ⟨g, 0, none⟩), .agg #[.int .u16 2, .int .u8 t, .int .u8 f, .int .u32 k], .slice b pk.length cb] w fun e w' => StepPost w 64 base g ⟨M.a, M.x, M.m.set (k % 16) M.a⟩ 0 e w' := by
  have HG : Hid (w.grownBy (w.alloc (.cells #[.int .u16 2, .int .u8 t, .int .u8 f, .int .u32 k] 54)) none) := World.grownBy_alloc _ _ _
  have HM : Hid (MAt (w.alloc (.cells #[.int .u16 2, .int .u8 t, .int .u8 f, .int .u32 k] 54)) 64 base g M) := hm.kept (row := none) (World.grownBy_alloc _ _ _) (by simp)
  have HX : Hid (Bx (w.alloc (.cells #[.int .u16 2, .int .u8 t, .int .u8 f, .int .u32 k] 54)) w.heap.size 2 t f k) := bx_alloc w 54 2 t f k
  have hlt := hm.lt.2
  have _hk : k ≤ 4294967295 := hk
  clear hm
  have hb0 : k % 16 < 16 := by omega
  have ha := and15 k hk
  generalize k % 16 = q at *
  have hb1 : (0 : Int) ≤ (q : Int) := by omega
  have hb2 : (q : Int) < 16 := by omega
  have cmH : Hid (∀ W : World, MAt W 64 base g M → W.cell? ⟨g, 2 + q, none⟩ = some (.int .u32 (M.m.getD q 0 : Int))) := fun W h => h.m hM.2.2.1 q hb0
  generalize M.m.getD q 0 = v at *
  go_enter Tryz.func39, Tryz.ntmps39
  go_upto_region 2 with fail
  generalize w.alloc (.cells #[.int .u16 2, .int .u8 t, .int .u8 f, .int .u32 k] 54) = w1 at *
  have hne : ((w.heap.size : Nat) == g) = false := by rw [beq_eq_false_iff_ne]; omega
  have hne2 : w.heap.size ≠ g := by omega
  generalize w.heap.size = B at *
  have G0 : w.grownBy w1 (some g) := grown_mono HG.out
  have M0 := HM.out
  obtain ⟨x0, x1, x2, x3⟩ := HX.out
  clear HG HM HX
  have c0 := M0.a
  have c1 := M0.x
  have cm := cmH.out _ M0
  have f0 := M0.free (2 + q)
  have M1 := M0.setM q M.a
  have G1 := grown_setCell G0 ⟨g, 2 + q, none⟩ (.int .u32 (M.a : Int)) (.inl rfl)
  clear M0 G0 cmH
  go_wp2
  go_region
  go_wp2
  go_ret
  exact ⟨rfl, M1.kept (row := none) (grown_drewN _ 1 none) (by simp), grown_trans G1 (grown_drewN _ 1 _)⟩

set_option maxHeartbeats 1000000 in
theorem step_3 (b : Option Addr) (cb : Nat) (pk : List UInt8) (g base : Nat) (M : Mc) (t f k : Nat) (w : World) (hm : MAt w 64 base g M) (hk : k ≤ 4294967295) (hM : M.ok) :
    Calls Tryz.prog 39 #[.pointer (some ⟨g, 0, none⟩), .agg #[.int .u16 3, .int .u8 t, .int .u8 f, .int .u32 k], .slice b pk.length cb] w fun e w' => StepPost w 64 base g ⟨M.a, M.x, M.m.set (k % 16) M.x⟩ 0 e w' := by
  have HG : Hid (w.grownBy (w.alloc (.cells #[.int .u16 3, .int .u8 t, .int .u8 f, .int .u32 k] 54)) none) := World.grownBy_alloc _ _ _
  have HM : Hid (MAt (w.alloc (.cells #[.int .u16 3, .int .u8 t, .int .u8 f, .int .u32 k] 54)) 64 base g M) := hm.kept (row := none) (World.grownBy_alloc _ _ _) (by simp)
  have HX : Hid (Bx (w.alloc (.cells #[.int .u16 3, .int .u8 t, .int .u8 f, .int .u32 k] 54)) w.heap.size 3 t f k) := bx_alloc w 54 3 t f k
  have hlt := hm.lt.2
  have _hk : k ≤ 4294967295 := hk
  clear hm
  have hb0 : k % 16 < 16 := by omega
  have ha := and15 k hk
  generalize k % 16 = q at *
  have hb1 : (0 : Int) ≤ (q : Int) := by omega
  have hb2 : (q : Int) < 16 := by omega
  have cmH : Hid (∀ W : World, MAt W 64 base g M → W.cell? ⟨g, 2 + q, none⟩ = some (.int .u32 (M.m.getD q 0 : Int))) := fun W h => h.m hM.2.2.1 q hb0
  generalize M.m.getD q 0 = v at *
  go_enter Tryz.func39, Tryz.ntmps39
  go_upto_region 2 with fail
  generalize w.alloc (.cells #[.int .u16 3, .int .u8 t, .int .u8 f, .int .u32 k] 54) = w1 at *
  have hne : ((w.heap.size : Nat) == g) = false := by rw [beq_eq_false_iff_ne]; omega
  have hne2 : w.heap.size ≠ g := by omega
  generalize w.heap.size = B at *
  have G0 : w.grownBy w1 (some g) := grown_mono HG.out
  have M0 := HM.out
  obtain ⟨x0, x1, x2, x3⟩ := HX.out
  clear HG HM HX
  have c0 := M0.a
  have c1 := M0.x
  have cm := cmH.out _ M0
  have f0 := M0.free (2 + q)
  have M1 := M0.setM q M.x
  have G1 := grown_setCell G0 ⟨g, 2 + q, none⟩ (.int .u32 (M.x : Int)) (.inl rfl)
  clear M0 G0 cmH
  go_wp2
  go_region
  go_wp2
  go_ret
  exact ⟨rfl, M1.kept (row := none) (grown_drewN _ 1 none) (by simp), grown_trans G1 (grown_drewN _ 1 _)⟩

end Go.Proofs.YtpoleldfoahpoaaGreat

namespace Go.Proofs.YtpoleldfoahpoaaGreat
open Go.RowKit
set_option maxRecDepth 100000

set_option maxHeartbeats 1000000 in
theorem step_32 (b : Option Addr) (cb : Nat) (pk : List UInt8) (g base : Nat) (M : Mc) (t f k : Nat) (w : World) (hm : MAt w 64 base g M) (hk : k ≤ 4294967295) (hC : Cells w b pk) (hp : pk.length ≤ 65536) :
    Calls Tryz.prog 39 #[.pointer (some ⟨g, 0, none⟩), .agg #[.int .u16 32, .int .u8 t, .int .u8 f, .int .u32 k], .slice b pk.length cb] w fun e w' => StepPost w 64 base g ⟨(readAtV pk k (sizeV 32)).1, M.x, M.m⟩ (readAtV pk k (sizeV 32)).2 e w' := by
  have HG : Hid (w.grownBy (w.alloc (.cells #[.int .u16 32, .int .u8 t, .int .u8 f, .int .u32 k] 54)) none) := World.grownBy_alloc _ _ _
  have HM : Hid (MAt (w.alloc (.cells #[.int .u16 32, .int .u8 t, .int .u8 f, .int .u32 k] 54)) 64 base g M) := hm.kept (row := none) (World.grownBy_alloc _ _ _) (by simp)
  have HX : Hid (Bx (w.alloc (.cells #[.int .u16 32, .int .u8 t, .int .u8 f, .int .u32 k] 54)) w.heap.size 32 t f k) := bx_alloc w 54 32 t f k
  have hlt := hm.lt.2
  have _hk : k ≤ 4294967295 := hk
  clear hm
  obtain ⟨v, fl, hr⟩ : ∃ v fl, readAtV pk (k) (sizeV 32) = (v, fl) := ⟨_, _, rfl⟩
  have HR : Hid (∀ (W : World), Cells W b pk → Calls Tryz.prog 62 #[.slice b pk.length cb, .int .u64 ((k : Nat) : Int), .int .i64 ((sizeV 32 : Nat) : Int)] W fun e w' => e = .returned (.tuple #[.int .u32 (v : Int), .int .i64 fl]) ∧ W = w') := fun W h => by
    have := read_at b cb pk (k) (sizeV 32) W h (by omega) (by omega)
    rw [hr] at this
    exact this
  have hw : IntKind.u64.wrap (k : Int) = (k : Int) := by rw [IntKind.wrap_u64]; omega
  have HC : Hid (Cells (w.alloc (.cells #[.int .u16 32, .int .u8 t, .int .u8 f, .int .u32 k] 54)) b pk) := hC.keptNone (World.grownBy_alloc _ _ _)
  rw [hr]
  clear hr hC
  go_enter Tryz.func39, Tryz.ntmps39
  go_upto_region 2 with fail
  generalize w.alloc (.cells #[.int .u16 32, .int .u8 t, .int .u8 f, .int .u32 k] 54) = w1 at *
  have hne : ((w.heap.size : Nat) == g) = false := by rw [beq_eq_false_iff_ne]; omega
  have hne2 : w.heap.size ≠ g := by omega
  generalize w.heap.size = B at *
  have G0 : w.grownBy w1 (some g) := grown_mono HG.out
  have M0 := HM.out
  obtain ⟨x0, x1, x2, x3⟩ := HX.out
  clear HG HM HX
  have c0 := M0.a
  have c1 := M0.x
  have f0 := M0.free 0
  have M1 := M0.setA v
  have G1 := grown_setCell G0 ⟨g, 0, none⟩ (.int .u32 (v : Int)) (.inl rfl)
  have GS : w1.grownBy (w1.setCell ⟨g, 0, none⟩ (.int .u32 (v : Int))) (some g) := grown_setCell (World.grownBy.refl _ _) _ _ (.inl rfl)
  have k0 : (w1.setCell ⟨g, 0, none⟩ (.int .u32 (v : Int))).cell? ⟨B, 0, none⟩ = some (.int .u16 32) := GS.cell x0 (by simp only [ne_eq, Option.some.injEq]; exact hne2)
  have k3 : (w1.setCell ⟨g, 0, none⟩ (.int .u32 (v : Int))).cell? ⟨B, 3, none⟩ = some (.int .u32 (k : Int)) := GS.cell x3 (by simp only [ne_eq, Option.some.injEq]; exact hne2)
  have k1 := M1.x
  have HK : Hid ((w1.setCell ⟨g, 0, none⟩ (.int .u32 (v : Int))).cell? ⟨B, 0, none⟩ = some (.int .u16 32) ∧ (w1.setCell ⟨g, 0, none⟩ (.int .u32 (v : Int))).cell? ⟨B, 3, none⟩ = some (.int .u32 (k : Int)) ∧ (w1.setCell ⟨g, 0, none⟩ (.int .u32 (v : Int))).cell? ⟨g, 1, none⟩ = some (.int .u32 (M.x : Int))) := ⟨k0, k3, k1⟩
  clear M0 G0 GS k0 k3 k1
  go_wp2
  go_region_held3 (fun W => W.cell? ⟨B, 0, none⟩ = some (.int .u16 32) ∧ W.cell? ⟨B, 3, none⟩ = some (.int .u32 (k : Int)) ∧ W.cell? ⟨g, 1, none⟩ = some (.int .u32 (M.x : Int))) (first | exact HK.out | go_keep) (first | (go_at_call 63; refine (size_any _ _).mono ?_; rintro e w' ⟨rfl, rfl⟩) | (go_at_call 62; refine (HR.out _ (by exact HC.out)).mono ?_; rintro e w' ⟨rfl, rfl⟩))
  all_goals
    go_wp2
    go_ret
    exact ⟨rfl, M1, grown_trans G1 (grown_drewN _ 1 _)⟩

set_option maxHeartbeats 1000000 in
theorem step_40 (b : Option Addr) (cb : Nat) (pk : List UInt8) (g base : Nat) (M : Mc) (t f k : Nat) (w : World) (hm : MAt w 64 base g M) (hk : k ≤ 4294967295) (hC : Cells w b pk) (hp : pk.length ≤ 65536) :
    Calls Tryz.prog 39 #[.pointer (some ⟨g, 0, none⟩), .agg #[.int .u16 40, .int .u8 t, .int .u8 f, .int .u32 k], .slice b pk.length cb] w fun e w' => StepPost w 64 base g ⟨(readAtV pk k (sizeV 40)).1, M.x, M.m⟩ (readAtV pk k (sizeV 40)).2 e w' := by
  have HG : Hid (w.grownBy (w.alloc (.cells #[.int .u16 40, .int .u8 t, .int .u8 f, .int .u32 k] 54)) none) := World.grownBy_alloc _ _ _
  have HM : Hid (MAt (w.alloc (.cells #[.int .u16 40, .int .u8 t, .int .u8 f, .int .u32 k] 54)) 64 base g M) := hm.kept (row := none) (World.grownBy_alloc _ _ _) (by simp)
  have HX : Hid (Bx (w.alloc (.cells #[.int .u16 40, .int .u8 t, .int .u8 f, .int .u32 k] 54)) w.heap.size 40 t f k) := bx_alloc w 54 40 t f k
  have hlt := hm.lt.2
  have _hk : k ≤ 4294967295 := hk
  clear hm
  obtain ⟨v, fl, hr⟩ : ∃ v fl, readAtV pk (k) (sizeV 40) = (v, fl) := ⟨_, _, rfl⟩
  have HR : Hid (∀ (W : World), Cells W b pk → Calls Tryz.prog 62 #[.slice b pk.length cb, .int .u64 ((k : Nat) : Int), .int .i64 ((sizeV 40 : Nat) : Int)] W fun e w' => e = .returned (.tuple #[.int .u32 (v : Int), .int .i64 fl]) ∧ W = w') := fun W h => by
    have := read_at b cb pk (k) (sizeV 40) W h (by omega) (by omega)
    rw [hr] at this
    exact this
  have hw : IntKind.u64.wrap (k : Int) = (k : Int) := by rw [IntKind.wrap_u64]; omega
  have HC : Hid (Cells (w.alloc (.cells #[.int .u16 40, .int .u8 t, .int .u8 f, .int .u32 k] 54)) b pk) := hC.keptNone (World.grownBy_alloc _ _ _)
  rw [hr]
  clear hr hC
  go_enter Tryz.func39, Tryz.ntmps39
  go_upto_region 2 with fail
  generalize w.alloc (.cells #[.int .u16 40, .int .u8 t, .int .u8 f, .int .u32 k] 54) = w1 at *
  have hne : ((w.heap.size : Nat) == g) = false := by rw [beq_eq_false_iff_ne]; omega
  have hne2 : w.heap.size ≠ g := by omega
  generalize w.heap.size = B at *
  have G0 : w.grownBy w1 (some g) := grown_mono HG.out
  have M0 := HM.out
  obtain ⟨x0, x1, x2, x3⟩ := HX.out
  clear HG HM HX
  have c0 := M0.a
  have c1 := M0.x
  have f0 := M0.free 0
  have M1 := M0.setA v
  have G1 := grown_setCell G0 ⟨g, 0, none⟩ (.int .u32 (v : Int)) (.inl rfl)
  have GS : w1.grownBy (w1.setCell ⟨g, 0, none⟩ (.int .u32 (v : Int))) (some g) := grown_setCell (World.grownBy.refl _ _) _ _ (.inl rfl)
  have k0 : (w1.setCell ⟨g, 0, none⟩ (.int .u32 (v : Int))).cell? ⟨B, 0, none⟩ = some (.int .u16 40) := GS.cell x0 (by simp only [ne_eq, Option.some.injEq]; exact hne2)
  have k3 : (w1.setCell ⟨g, 0, none⟩ (.int .u32 (v : Int))).cell? ⟨B, 3, none⟩ = some (.int .u32 (k : Int)) := GS.cell x3 (by simp only [ne_eq, Option.some.injEq]; exact hne2)
  have k1 := M1.x
  have HK : Hid ((w1.setCell ⟨g, 0, none⟩ (.int .u32 (v : Int))).cell? ⟨B, 0, none⟩ = some (.int .u16 40) ∧ (w1.setCell ⟨g, 0, none⟩ (.int .u32 (v : Int))).cell? ⟨B, 3, none⟩ = some (.int .u32 (k : Int)) ∧ (w1.setCell ⟨g, 0, none⟩ (.int .u32 (v : Int))).cell? ⟨g, 1, none⟩ = some (.int .u32 (M.x : Int))) := ⟨k0, k3, k1⟩
  clear M0 G0 GS k0 k3 k1
  go_wp2
  go_region_held3 (fun W => W.cell? ⟨B, 0, none⟩ = some (.int .u16 40) ∧ W.cell? ⟨B, 3, none⟩ = some (.int .u32 (k : Int)) ∧ W.cell? ⟨g, 1, none⟩ = some (.int .u32 (M.x : Int))) (first | exact HK.out | go_keep) (first | (go_at_call 63; refine (size_any _ _).mono ?_; rintro e w' ⟨rfl, rfl⟩) | (go_at_call 62; refine (HR.out _ (by exact HC.out)).mono ?_; rintro e w' ⟨rfl, rfl⟩))
  all_goals
    go_wp2
    go_ret
    exact ⟨rfl, M1, grown_trans G1 (grown_drewN _ 1 _)⟩

set_option maxHeartbeats 1000000 in
theorem step_48 (b : Option Addr) (cb : Nat) (pk : List UInt8) (g base : Nat) (M : Mc) (t f k : Nat) (w : World) (hm : MAt w 64 base g M) (hk : k ≤ 4294967295) (hC : Cells w b pk) (hp : pk.length ≤ 65536) :
    Calls Tryz.prog 39 #[.pointer (some ⟨g, 0, none⟩), .agg #[.int .u16 48, .int .u8 t, .int .u8 f, .int .u32 k], .slice b pk.length cb] w fun e w' => StepPost w 64 base g ⟨(readAtV pk k (sizeV 48)).1, M.x, M.m⟩ (readAtV pk k (sizeV 48)).2 e w' := by
  have HG : Hid (w.grownBy (w.alloc (.cells #[.int .u16 48, .int .u8 t, .int .u8 f, .int .u32 k] 54)) none) := World.grownBy_alloc _ _ _
  have HM : Hid (MAt (w.alloc (.cells #[.int .u16 48, .int .u8 t, .int .u8 f, .int .u32 k] 54)) 64 base g M) := hm.kept (row := none) (World.grownBy_alloc _ _ _) (by simp)
  have HX : Hid (Bx (w.alloc (.cells #[.int .u16 48, .int .u8 t, .int .u8 f, .int .u32 k] 54)) w.heap.size 48 t f k) := bx_alloc w 54 48 t f k
  have hlt := hm.lt.2
  have _hk : k ≤ 4294967295 := hk
  clear hm
  obtain ⟨v, fl, hr⟩ : ∃ v fl, readAtV pk (k) (sizeV 48) = (v, fl) := ⟨_, _, rfl⟩
  have HR : Hid (∀ (W : World), Cells W b pk → Calls Tryz.prog 62 #[.slice b pk.length cb, .int .u64 ((k : Nat) : Int), .int .i64 ((sizeV 48 : Nat) : Int)] W fun e w' => e = .returned (.tuple #[.int .u32 (v : Int), .int .i64 fl]) ∧ W = w') := fun W h => by
    have := read_at b cb pk (k) (sizeV 48) W h (by omega) (by omega)
    rw [hr] at this
    exact this
  have hw : IntKind.u64.wrap (k : Int) = (k : Int) := by rw [IntKind.wrap_u64]; omega
  have HC : Hid (Cells (w.alloc (.cells #[.int .u16 48, .int .u8 t, .int .u8 f, .int .u32 k] 54)) b pk) := hC.keptNone (World.grownBy_alloc _ _ _)
  rw [hr]
  clear hr hC
  go_enter Tryz.func39, Tryz.ntmps39
  go_upto_region 2 with fail
  generalize w.alloc (.cells #[.int .u16 48, .int .u8 t, .int .u8 f, .int .u32 k] 54) = w1 at *
  have hne : ((w.heap.size : Nat) == g) = false := by rw [beq_eq_false_iff_ne]; omega
  have hne2 : w.heap.size ≠ g := by omega
  generalize w.heap.size = B at *
  have G0 : w.grownBy w1 (some g) := grown_mono HG.out
  have M0 := HM.out
  obtain ⟨x0, x1, x2, x3⟩ := HX.out
  clear HG HM HX
  have c0 := M0.a
  have c1 := M0.x
  have f0 := M0.free 0
  have M1 := M0.setA v
  have G1 := grown_setCell G0 ⟨g, 0, none⟩ (.int .u32 (v : Int)) (.inl rfl)
  have GS : w1.grownBy (w1.setCell ⟨g, 0, none⟩ (.int .u32 (v : Int))) (some g) := grown_setCell (World.grownBy.refl _ _) _ _ (.inl rfl)
  have k0 : (w1.setCell ⟨g, 0, none⟩ (.int .u32 (v : Int))).cell? ⟨B, 0, none⟩ = some (.int .u16 48) := GS.cell x0 (by simp only [ne_eq, Option.some.injEq]; exact hne2)
  have k3 : (w1.setCell ⟨g, 0, none⟩ (.int .u32 (v : Int))).cell? ⟨B, 3, none⟩ = some (.int .u32 (k : Int)) := GS.cell x3 (by simp only [ne_eq, Option.some.injEq]; exact hne2)
  have k1 := M1.x
  have HK : Hid ((w1.setCell ⟨g, 0, none⟩ (.int .u32 (v : Int))).cell? ⟨B, 0, none⟩ = some (.int .u16 48) ∧ (w1.setCell ⟨g, 0, none⟩ (.int .u32 (v : Int))).cell? ⟨B, 3, none⟩ = some (.int .u32 (k : Int)) ∧ (w1.setCell ⟨g, 0, none⟩ (.int .u32 (v : Int))).cell? ⟨g, 1, none⟩ = some (.int .u32 (M.x : Int))) := ⟨k0, k3, k1⟩
  clear M0 G0 GS k0 k3 k1
  go_wp2
  go_region_held3 (fun W => W.cell? ⟨B, 0, none⟩ = some (.int .u16 48) ∧ W.cell? ⟨B, 3, none⟩ = some (.int .u32 (k : Int)) ∧ W.cell? ⟨g, 1, none⟩ = some (.int .u32 (M.x : Int))) (first | exact HK.out | go_keep) (first | (go_at_call 63; refine (size_any _ _).mono ?_; rintro e w' ⟨rfl, rfl⟩) | (go_at_call 62; refine (HR.out _ (by exact HC.out)).mono ?_; rintro e w' ⟨rfl, rfl⟩))
  all_goals
    go_wp2
    go_ret
    exact ⟨rfl, M1, grown_trans G1 (grown_drewN _ 1 _)⟩

set_option maxHeartbeats 1000000 in
theorem step_64 (b : Option Addr) (cb : Nat) (pk : List UInt8) (g base : Nat) (M : Mc) (t f k : Nat) (w : World) (hm : MAt w 64 base g M) (hk : k ≤ 4294967295) (hC : Cells w b pk) (hp : pk.length ≤ 65536) (hM : M.ok) :
    Calls Tryz.prog 39 #[.pointer (some ⟨g, 0, none⟩), .agg #[.int .u16 64, .int .u8 t, .int .u8 f, .int .u32 k], .slice b pk.length cb] w fun e w' => StepPost w 64 base g ⟨(readAtV pk (k + M.x) (sizeV 64)).1, M.x, M.m⟩ (readAtV pk (k + M.x) (sizeV 64)).2 e w' := by
  have HG : Hid (w.grownBy (w.alloc (.cells #[.int .u16 64, .int .u8 t, .int .u8 f, .int .u32 k] 54)) none) := World.grownBy_alloc _ _ _
  have HM : Hid (MAt (w.alloc (.cells #[.int .u16 64, .int .u8 t, .int .u8 f, .int .u32 k] 54)) 64 base g M) := hm.kept (row := none) (World.grownBy_alloc _ _ _) (by simp)
  have HX : Hid (Bx (w.alloc (.cells #[.int .u16 64, .int .u8 t, .int .u8 f, .int .u32 k] 54)) w.heap.size 64 t f k) := bx_alloc w 54 64 t f k
  have hlt := hm.lt.2
  have _hk : k ≤ 4294967295 := hk
  clear hm
  have hx := hM.2.1
  obtain ⟨v, fl, hr⟩ : ∃ v fl, readAtV pk (k + M.x) (sizeV 64) = (v, fl) := ⟨_, _, rfl⟩
  have HR : Hid (∀ (W : World), Cells W b pk → Calls Tryz.prog 62 #[.slice b pk.length cb, .int .u64 ((k : Int) + (M.x : Int)), .int .i64 ((sizeV 64 : Nat) : Int)] W fun e w' => e = .returned (.tuple #[.int .u32 (v : Int), .int .i64 fl]) ∧ W = w') := fun W h => by
    have := read_at b cb pk (k + M.x) (sizeV 64) W h (by omega) (by omega)
    rw [hr, Int.natCast_add] at this
    exact this
  have hw : IntKind.u64.wrap (k : Int) = (k : Int) := by rw [IntKind.wrap_u64]; omega
  have hw2 : IntKind.u64.wrap (M.x : Int) = (M.x : Int) := by rw [IntKind.wrap_u64]; omega
  have hw3 : IntKind.u64.wrap ((k : Int) + (M.x : Int)) = (k : Int) + (M.x : Int) := by rw [IntKind.wrap_u64]; omega
  have HC : Hid (Cells (w.alloc (.cells #[.int .u16 64, .int .u8 t, .int .u8 f, .int .u32 k] 54)) b pk) := hC.keptNone (World.grownBy_alloc _ _ _)
  rw [hr]
  clear hr hC
  go_enter Tryz.func39, Tryz.ntmps39
  go_upto_region 2 with fail
  generalize w.alloc (.cells #[.int .u16 64, .int .u8 t, .int .u8 f, .int .u32 k] 54) = w1 at *
  have hne : ((w.heap.size : Nat) == g) = false := by rw [beq_eq_false_iff_ne]; omega
  have hne2 : w.heap.size ≠ g := by omega
  generalize w.heap.size = B at *
  have G0 : w.grownBy w1 (some g) := grown_mono HG.out
  have M0 := HM.out
  obtain ⟨x0, x1, x2, x3⟩ := HX.out
  clear HG HM HX
  have c0 := M0.a
  have c1 := M0.x
  have f0 := M0.free 0
  have M1 := M0.setA v
  have G1 := grown_setCell G0 ⟨g, 0, none⟩ (.int .u32 (v : Int)) (.inl rfl)
  have GS : w1.grownBy (w1.setCell ⟨g, 0, none⟩ (.int .u32 (v : Int))) (some g) := grown_setCell (World.grownBy.refl _ _) _ _ (.inl rfl)
  have k0 : (w1.setCell ⟨g, 0, none⟩ (.int .u32 (v : Int))).cell? ⟨B, 0, none⟩ = some (.int .u16 64) := GS.cell x0 (by simp only [ne_eq, Option.some.injEq]; exact hne2)
  have k3 : (w1.setCell ⟨g, 0, none⟩ (.int .u32 (v : Int))).cell? ⟨B, 3, none⟩ = some (.int .u32 (k : Int)) := GS.cell x3 (by simp only [ne_eq, Option.some.injEq]; exact hne2)
  have k1 := M1.x
  have HK : Hid ((w1.setCell ⟨g, 0, none⟩ (.int .u32 (v : Int))).cell? ⟨B, 0, none⟩ = some (.int .u16 64) ∧ (w1.setCell ⟨g, 0, none⟩ (.int .u32 (v : Int))).cell? ⟨B, 3, none⟩ = some (.int .u32 (k : Int)) ∧ (w1.setCell ⟨g, 0, none⟩ (.int .u32 (v : Int))).cell? ⟨g, 1, none⟩ = some (.int .u32 (M.x : Int))) := ⟨k0, k3, k1⟩
  clear M0 G0 GS k0 k3 k1
  go_wp2
  go_region_held3 (fun W => W.cell? ⟨B, 0, none⟩ = some (.int .u16 64) ∧ W.cell? ⟨B, 3, none⟩ = some (.int .u32 (k : Int)) ∧ W.cell? ⟨g, 1, none⟩ = some (.int .u32 (M.x : Int))) (first | exact HK.out | go_keep) (first | (go_at_call 63; refine (size_any _ _).mono ?_; rintro e w' ⟨rfl, rfl⟩) | (go_at_call 62; refine (HR.out _ (by exact HC.out)).mono ?_; rintro e w' ⟨rfl, rfl⟩))
  all_goals
    go_wp2
    go_ret
    exact ⟨rfl, M1, grown_trans G1 (grown_drewN _ 1 _)⟩

set_option maxHeartbeats 1000000 in
theorem step_72 (b : Option Addr) (cb : Nat) (pk : List UInt8) (g base : Nat) (M : Mc) (t f k : Nat) (w : World) (hm : MAt w 64 base g M) (hk : k ≤ 4294967295) (hC : Cells w b pk) (hp : pk.length ≤ 65536) (hM : M.ok) :
    Calls Tryz.prog 39 #[.pointer (some ⟨g, 0, none⟩), .agg #[.int .u16 72, .int .u8 t, .int .u8 f, .int .u32 k], .slice b pk.length cb] w fun e w' => StepPost w 64 base g ⟨(readAtV pk (k + M.x) (sizeV 72)).1, M.x, M.m⟩ (readAtV pk (k + M.x) (sizeV 72)).2 e w' := by
  have HG : Hid (w.grownBy (w.alloc (.cells #[.int .u16 72, .int .u8 t, .int .u8 f, .int .u32 k] 54)) none) := World.grownBy_alloc _ _ _
  have HM : Hid (MAt (w.alloc (.cells #[.int .u16 72, .int .u8 t, .int .u8 f, .int .u32 k] 54)) 64 base g M) := hm.kept (row := none) (World.grownBy_alloc _ _ _) (by simp)
  have HX : Hid (Bx (w.alloc (.cells #[.int .u16 72, .int .u8 t, .int .u8 f, .int .u32 k] 54)) w.heap.size 72 t f k) := bx_alloc w 54 72 t f k
  have hlt := hm.lt.2
  have _hk : k ≤ 4294967295 := hk
  clear hm
  have hx := hM.2.1
  obtain ⟨v, fl, hr⟩ : ∃ v fl, readAtV pk (k + M.x) (sizeV 72) = (v, fl) := ⟨_, _, rfl⟩
  have HR : Hid (∀ (W : World), Cells W b pk → Calls Tryz.prog 62 #[.slice b pk.length cb, .int .u64 ((k : Int) + (M.x : Int)), .int .i64 ((sizeV 72 : Nat) : Int)] W fun e w' => e = .returned (.tuple #[.int .u32 (v : Int), .int .i64 fl]) ∧ W = w') := fun W h => by
    have := read_at b cb pk (k + M.x) (sizeV 72) W h (by omega) (by omega)
    rw [hr, Int.natCast_add] at this
    exact this
  have hw : IntKind.u64.wrap (k : Int) = (k : Int) := by rw [IntKind.wrap_u64]; omega
  have hw2 : IntKind.u64.wrap (M.x : Int) = (M.x : Int) := by rw [IntKind.wrap_u64]; omega
  have hw3 : IntKind.u64.wrap ((k : Int) + (M.x : Int)) = (k : Int) + (M.x : Int) := by rw [IntKind.wrap_u64]; omega
  have HC : Hid (Cells (w.alloc (.cells #[.int .u16 72, .int .u8 t, .int .u8 f, .int .u32 k] 54)) b pk) := hC.keptNone (World.grownBy_alloc _ _ _)
  rw [hr]
  clear hr hC
  go_enter Tryz.func39, Tryz.ntmps39
  go_upto_region 2 with fail
  generalize w.alloc (.cells #[.int .u16 72, .int .u8 t, .int .u8 f, .int .u32 k] 54) = w1 at *
  have hne : ((w.heap.size : Nat) == g) = false := by rw [beq_eq_false_iff_ne]; omega
  have hne2 : w.heap.size ≠ g := by omega
  generalize w.heap.size = B at *
  have G0 : w.grownBy w1 (some g) := grown_mono HG.out
  have M0 := HM.out
  obtain ⟨x0, x1, x2, x3⟩ := HX.out
  clear HG HM HX
  have c0 := M0.a
  have c1 := M0.x
  have f0 := M0.free 0
  have M1 := M0.setA v
  have G1 := grown_setCell G0 ⟨g, 0, none⟩ (.int .u32 (v : Int)) (.inl rfl)
  have GS : w1.grownBy (w1.setCell ⟨g, 0, none⟩ (.int .u32 (v : Int))) (some g) := grown_setCell (World.grownBy.refl _ _) _ _ (.inl rfl)
  have k0 : (w1.setCell ⟨g, 0, none⟩ (.int .u32 (v : Int))).cell? ⟨B, 0, none⟩ = some (.int .u16 72) := GS.cell x0 (by simp only [ne_eq, Option.some.injEq]; exact hne2)
  have k3 : (w1.setCell ⟨g, 0, none⟩ (.int .u32 (v : Int))).cell? ⟨B, 3, none⟩ = some (.int .u32 (k : Int)) := GS.cell x3 (by simp only [ne_eq, Option.some.injEq]; exact hne2)
  have k1 := M1.x
  have HK : Hid ((w1.setCell ⟨g, 0, none⟩ (.int .u32 (v : Int))).cell? ⟨B, 0, none⟩ = some (.int .u16 72) ∧ (w1.setCell ⟨g, 0, none⟩ (.int .u32 (v : Int))).cell? ⟨B, 3, none⟩ = some (.int .u32 (k : Int)) ∧ (w1.setCell ⟨g, 0, none⟩ (.int .u32 (v : Int))).cell? ⟨g, 1, none⟩ = some (.int .u32 (M.x : Int))) := ⟨k0, k3, k1⟩
  clear M0 G0 GS k0 k3 k1
  go_wp2
  go_region_held3 (fun W => W.cell? ⟨B, 0, none⟩ = some (.int .u16 72) ∧ W.cell? ⟨B, 3, none⟩ = some (.int .u32 (k : Int)) ∧ W.cell? ⟨g, 1, none⟩ = some (.int .u32 (M.x : Int))) (first | exact HK.out | go_keep) (first | (go_at_call 63; refine (size_any _ _).mono ?_; rintro e w' ⟨rfl, rfl⟩) | (go_at_call 62; refine (HR.out _ (by exact HC.out)).mono ?_; rintro e w' ⟨rfl, rfl⟩))
  all_goals
    go_wp2
    go_ret
    exact ⟨rfl, M1, grown_trans G1 (grown_drewN _ 1 _)⟩

set_option maxHeartbeats 1000000 in
theorem step_80 (b : Option Addr) (cb : Nat) (pk : List UInt8) (g base : Nat) (M : Mc) (t f k : Nat) (w : World) (hm : MAt w 64 base g M) (hk : k ≤ 4294967295) (hC : Cells w b pk) (hp : pk.length ≤ 65536) (hM : M.ok) :
    Calls Tryz.prog 39 #[.pointer (some ⟨g, 0, none⟩), .agg #[.int .u16 80, .int .u8 t, .int .u8 f, .int .u32 k], .slice b pk.length cb] w fun e w' => StepPost w 64 base g ⟨(readAtV pk (k + M.x) (sizeV 80)).1, M.x, M.m⟩ (readAtV pk (k + M.x) (sizeV 80)).2 e w' := by
  have HG : Hid (w.grownBy (w.alloc (.cells #[.int .u16 80, .int .u8 t, .int .u8 f, .int .u32 k] 54)) none) := World.grownBy_alloc _ _ _
  have HM : Hid (MAt (w.alloc (.cells #[.int .u16 80, .int .u8 t, .int .u8 f, .int .u32 k] 54)) 64 base g M) := hm.kept (row := none) (World.grownBy_alloc _ _ _) (by simp)
  have HX : Hid (Bx (w.alloc (.cells #[.int .u16 80, .int .u8 t, .int .u8 f, .int .u32 k] 54)) w.heap.size 80 t f k) := bx_alloc w 54 80 t f k
  have hlt := hm.lt.2
  have _hk : k ≤ 4294967295 := hk
  clear hm
  have hx := hM.2.1
  obtain ⟨v, fl, hr⟩ : ∃ v fl, readAtV pk (k + M.x) (sizeV 80) = (v, fl) := ⟨_, _, rfl⟩
  have HR : Hid (∀ (W : World), Cells W b pk → Calls Tryz.prog 62 #[.slice b pk.length cb, .int .u64 ((k : Int) + (M.x : Int)), .int .i64 ((sizeV 80 : Nat) : Int)] W fun e w' => e = .returned (.tuple #[.int .u32 (v : Int), .int .i64 fl]) ∧ W = w') := fun W h => by
    have := read_at b cb pk (k + M.x) (sizeV 80) W h (by omega) (by omega)
    rw [hr, Int.natCast_add] at this
    exact this
  have hw : IntKind.u64.wrap (k : Int) = (k : Int) := by rw [IntKind.wrap_u64]; omega
  have hw2 : IntKind.u64.wrap (M.x : Int) = (M.x : Int) := by rw [IntKind.wrap_u64]; omega
  have hw3 : IntKind.u64.wrap ((k : Int) + (M.x : Int)) = (k : Int) + (M.x : Int) := by rw [IntKind.wrap_u64]; omega
  have HC : Hid (Cells (w.alloc (.cells #[.int .u16 80, .int .u8 t, .int .u8 f, .int .u32 k] 54)) b pk) := hC.keptNone (World.grownBy_alloc _ _ _)
  rw [hr]
  clear hr hC
  go_enter Tryz.func39, Tryz.ntmps39
  go_upto_region 2 with fail
  generalize w.alloc (.cells #[.int .u16 80, .int .u8 t, .int .u8 f, .int .u32 k] 54) = w1 at *
  have hne : ((w.heap.size : Nat) == g) = false := by rw [beq_eq_false_iff_ne]; omega
  have hne2 : w.heap.size ≠ g := by omega
  generalize w.heap.size = B at *
  have G0 : w.grownBy w1 (some g) := grown_mono HG.out
  have M0 := HM.out
  obtain ⟨x0, x1, x2, x3⟩ := HX.out
  clear HG HM HX
  have c0 := M0.a
  have c1 := M0.x
  have f0 := M0.free 0
  have M1 := M0.setA v
  have G1 := grown_setCell G0 ⟨g, 0, none⟩ (.int .u32 (v : Int)) (.inl rfl)
  have GS : w1.grownBy (w1.setCell ⟨g, 0, none⟩ (.int .u32 (v : Int))) (some g) := grown_setCell (World.grownBy.refl _ _) _ _ (.inl rfl)
  have k0 : (w1.setCell ⟨g, 0, none⟩ (.int .u32 (v : Int))).cell? ⟨B, 0, none⟩ = some (.int .u16 80) := GS.cell x0 (by simp only [ne_eq, Option.some.injEq]; exact hne2)
  have k3 : (w1.setCell ⟨g, 0, none⟩ (.int .u32 (v : Int))).cell? ⟨B, 3, none⟩ = some (.int .u32 (k : Int)) := GS.cell x3 (by simp only [ne_eq, Option.some.injEq]; exact hne2)
  have k1 := M1.x
  have HK : Hid ((w1.setCell ⟨g, 0, none⟩ (.int .u32 (v : Int))).cell? ⟨B, 0, none⟩ = some (.int .u16 80) ∧ (w1.setCell ⟨g, 0, none⟩ (.int .u32 (v : Int))).cell? ⟨B, 3, none⟩ = some (.int .u32 (k : Int)) ∧ (w1.setCell ⟨g, 0, none⟩ (.int .u32 (v : Int))).cell? ⟨g, 1, none⟩ = some (.int .u32 (M.x : Int))) := ⟨k0, k3, k1⟩
  clear M0 G0 GS k0 k3 k1
  go_wp2
  go_region_held3 (fun W => W.cell? ⟨B, 0, none⟩ = some (.int .u16 80) ∧ W.cell? ⟨B, 3, none⟩ = some (.int .u32 (k : Int)) ∧ W.cell? ⟨g, 1, none⟩ = some (.int .u32 (M.x : Int))) (first | exact HK.out | go_keep) (first | (go_at_call 63; refine (size_any _ _).mono ?_; rintro e w' ⟨rfl, rfl⟩) | (go_at_call 62; refine (HR.out _ (by exact HC.out)).mono ?_; rintro e w' ⟨rfl, rfl⟩))
  all_goals
    go_wp2
    go_ret
    exact ⟨rfl, M1, grown_trans G1 (grown_drewN _ 1 _)⟩

set_option maxHeartbeats 1000000 in
theorem step_177 (b : Option Addr) (cb : Nat) (pk : List UInt8) (g base : Nat) (M : Mc) (t f k : Nat) (w : World) (hm : MAt w 64 base g M) (hk : k ≤ 4294967295) (hC : Cells w b pk) (hp : pk.length ≤ 65536) :
    Calls Tryz.prog 39 #[.pointer (some ⟨g, 0, none⟩), .agg #[.int .u16 177, .int .u8 t, .int .u8 f, .int .u32 k], .slice b pk.length cb] w fun e w' => StepPost w 64 base g ⟨M.a, 4 * ((readAtV pk k 1).1 % 16), M.m⟩ (readAtV pk k 1).2 e w' := by
  have HG : Hid (w.grownBy (w.alloc (.cells #[.int .u16 177, .int .u8 t, .int .u8 f, .int .u32 k] 54)) none) := World.grownBy_alloc _ _ _
  have HM : Hid (MAt (w.alloc (.cells #[.int .u16 177, .int .u8 t, .int .u8 f, .int .u32 k] 54)) 64 base g M) := hm.kept (row := none) (World.grownBy_alloc _ _ _) (by simp)
  have HX : Hid (Bx (w.alloc (.cells #[.int .u16 177, .int .u8 t, .int .u8 f, .int .u32 k] 54)) w.heap.size 177 t f k) := bx_alloc w 54 177 t f k
  have hlt := hm.lt.2
  have _hk : k ≤ 4294967295 := hk
  clear hm
  obtain ⟨v, fl, hr⟩ : ∃ v fl, readAtV pk (k) (1) = (v, fl) := ⟨_, _, rfl⟩
  have HR : Hid (∀ (W : World), Cells W b pk → Calls Tryz.prog 62 #[.slice b pk.length cb, .int .u64 ((k : Nat) : Int), .int .i64 ((1 : Nat) : Int)] W fun e w' => e = .returned (.tuple #[.int .u32 (v : Int), .int .i64 fl]) ∧ W = w') := fun W h => by
    have := read_at b cb pk (k) (1) W h (by omega) (by omega)
    rw [hr] at this
    exact this
  have hw : IntKind.u64.wrap (k : Int) = (k : Int) := by rw [IntKind.wrap_u64]; omega
  have HC : Hid (Cells (w.alloc (.cells #[.int .u16 177, .int .u8 t, .int .u8 f, .int .u32 k] 54)) b pk) := hC.keptNone (World.grownBy_alloc _ _ _)
  rw [hr]
  have hv : v ≤ 4294967295 := by have := readAtV_le pk k 1 (by omega); rw [hr] at this; exact this
  clear hr hC
  have hu0 : 4 * (v % 16) < 4294967296 := by omega
  have hu1 : 4 * bits .and .u32 (v : Int) 15 % 4294967296 = ((4 * (v % 16) : Nat) : Int) := by rw [and15 v hv]; omega
  have hu2 : (4 : Int) * ((v % 16 : Nat) : Int) = ((4 * (v % 16) : Nat) : Int) := by omega
  generalize 4 * (v % 16) = u at *
  go_enter Tryz.func39, Tryz.ntmps39
  go_upto_region 2 with fail
  generalize w.alloc (.cells #[.int .u16 177, .int .u8 t, .int .u8 f, .int .u32 k] 54) = w1 at *
  have hne : ((w.heap.size : Nat) == g) = false := by rw [beq_eq_false_iff_ne]; omega
  have hne2 : w.heap.size ≠ g := by omega
  generalize w.heap.size = B at *
  have G0 : w.grownBy w1 (some g) := grown_mono HG.out
  have M0 := HM.out
  obtain ⟨x0, x1, x2, x3⟩ := HX.out
  clear HG HM HX
  have c1 := M0.x
  have f1 := M0.free 1
  have HM1 : Hid (MAt (w1.setCell ⟨g, 1, none⟩ (.int .u32 (v : Int))) 64 base g ⟨M.a, v, M.m⟩) := M0.setX v
  have HG1 : Hid (w.grownBy (w1.setCell ⟨g, 1, none⟩ (.int .u32 (v : Int))) (some g)) := grown_setCell G0 ⟨g, 1, none⟩ (.int .u32 (v : Int)) (.inl rfl)
  clear M0 G0
  go_upto_region 29 with (go_at_call 62; refine (HR.out _ (by exact HC.out)).mono ?_; rintro e w' ⟨rfl, rfl⟩)
  clear c1 f1 x0 x1 x2 x3 HC
  generalize w1.setCell ⟨g, 1, none⟩ (.int .u32 (v : Int)) = w2 at *
  have c1 := HM1.out.x
  have f1 := HM1.out.free 1
  have M2 := HM1.out.setX u
  have G2 := grown_setCell HG1.out ⟨g, 1, none⟩ (.int .u32 (u : Int)) (.inl rfl)
  clear HM1 HG1
  go_wp2
  go_ret
  exact ⟨rfl, M2, G2⟩

set_option maxHeartbeats 1000000 in
theorem step_op_true (b : Option Addr) (cb : Nat) (pk : List UInt8) (g base : Nat) (M : Mc) (c : Int) (t f k : Nat) (w : World) (hm : MAt w 64 base g M) (hk : k ≤ 4294967295) (hM : M.ok) (hb : byxB c = true) (q0 : (c == 0) = false) (q32 : (c == 32) = false) (q40 : (c == 40) = false) (q48 : (c == 48) = false) (q64 : (c == 64) = false) (q72 : (c == 72) = false) (q80 : (c == 80) = false) (q96 : (c == 96) = false) (q128 : (c == 128) = false) (q1 : (c == 1) = false) (q97 : (c == 97) = false) (q129 : (c == 129) = false) (q177 : (c == 177) = false) (q2 : (c == 2) = false) (q3 : (c == 3) = false) (q132 : (c == 132) = false) (q7 : (c == 7) = false) (q135 : (c == 135) = false) :
    Calls Tryz.prog 39 #[.pointer (some ⟨g, 0, none⟩), .agg #[.int .u16 c, .int .u8 t, .int .u8 f, .int .u32 k], .slice b pk.length cb] w fun e w' => StepPost w 64 base g ⟨(operV (bits .andNot .u16 c 8) M.a (sideV c k M.x)).1, M.x, M.m⟩ (operV (bits .andNot .u16 c 8) M.a (sideV c k M.x)).2 e w' := by
  have HG : Hid (w.grownBy (w.alloc (.cells #[.int .u16 c, .int .u8 t, .int .u8 f, .int .u32 k] 54)) none) := World.grownBy_alloc _ _ _
  have HM : Hid (MAt (w.alloc (.cells #[.int .u16 c, .int .u8 t, .int .u8 f, .int .u32 k] 54)) 64 base g M) := hm.kept (row := none) (World.grownBy_alloc _ _ _) (by simp)
  have HX : Hid (Bx (w.alloc (.cells #[.int .u16 c, .int .u8 t, .int .u8 f, .int .u32 k] 54)) w.heap.size c t f k) := bx_alloc w 54 c t f k
  have hlt := hm.lt.2
  have _hk : k ≤ 4294967295 := hk
  clear hm
  obtain ⟨v, fl, hr⟩ : ∃ v fl, operV (bits .andNot .u16 c 8) M.a (sideV c k M.x) = (v, fl) := ⟨_, _, rfl⟩
  have HO : Hid (∀ (W : World), Calls Tryz.prog 65 #[.int .u16 c, .int .u32 (M.a : Int), .int .u32 (M.x : Int)] W fun e w' => e = .returned (.tuple #[.int .u32 (v : Int), .int .i64 fl]) ∧ W = w') := fun W => by
    have := operate_any c M.a M.x W hM.1 hM.2.1
    have e : sideV c k M.x = M.x := by simp [sideV, hb]
    rw [e] at hr
    rw [hr] at this
    exact this
  rw [hr]
  clear hr
  go_enter Tryz.func39, Tryz.ntmps39
  go_upto_region 2 with fail
  generalize w.alloc (.cells #[.int .u16 c, .int .u8 t, .int .u8 f, .int .u32 k] 54) = w1 at *
  have hne : ((w.heap.size : Nat) == g) = false := by rw [beq_eq_false_iff_ne]; omega
  have hne2 : w.heap.size ≠ g := by omega
  generalize w.heap.size = B at *
  have G0 : w.grownBy w1 (some g) := grown_mono HG.out
  have M0 := HM.out
  obtain ⟨x0, x1, x2, x3⟩ := HX.out
  clear HG HM HX
  have c0 := M0.a
  have c1 := M0.x
  have f0 := M0.free 0
  have M1 := M0.setA v
  have G1 := grown_setCell G0 ⟨g, 0, none⟩ (.int .u32 (v : Int)) (.inl rfl)
  clear M0 G0
  go_wp2_with (go_at_call 64; refine (byx_any _ _).mono ?_; rintro e w' ⟨rfl, rfl⟩)
  go_region_with (go_at_call 65; refine (HO.out _).mono ?_; rintro e w' ⟨rfl, rfl⟩)
  all_goals
    go_wp2
    go_ret
    exact ⟨rfl, M1, grown_trans G1 (grown_drewN _ 1 _)⟩

set_option maxHeartbeats 1000000 in
theorem step_op_false (b : Option Addr) (cb : Nat) (pk : List UInt8) (g base : Nat) (M : Mc) (c : Int) (t f k : Nat) (w : World) (hm : MAt w 64 base g M) (hk : k ≤ 4294967295) (hM : M.ok) (hb : byxB c = false) (q0 : (c == 0) = false) (q32 : (c == 32) = false) (q40 : (c == 40) = false) (q48 : (c == 48) = false) (q64 : (c == 64) = false) (q72 : (c == 72) = false) (q80 : (c == 80) = false) (q96 : (c == 96) = false) (q128 : (c == 128) = false) (q1 : (c == 1) = false) (q97 : (c == 97) = false) (q129 : (c == 129) = false) (q177 : (c == 177) = false) (q2 : (c == 2) = false) (q3 : (c == 3) = false) (q132 : (c == 132) = false) (q7 : (c == 7) = false) (q135 : (c == 135) = false) :
    Calls Tryz.prog 39 #[.pointer (some ⟨g, 0, none⟩), .agg #[.int .u16 c, .int .u8 t, .int .u8 f, .int .u32 k], .slice b pk.length cb] w fun e w' => StepPost w 64 base g ⟨(operV (bits .andNot .u16 c 8) M.a (sideV c k M.x)).1, M.x, M.m⟩ (operV (bits .andNot .u16 c 8) M.a (sideV c k M.x)).2 e w' := by
  have HG : Hid (w.grownBy (w.alloc (.cells #[.int .u16 c, .int .u8 t, .int .u8 f, .int .u32 k] 54)) none) := World.grownBy_alloc _ _ _
  have HM : Hid (MAt (w.alloc (.cells #[.int .u16 c, .int .u8 t, .int .u8 f, .int .u32 k] 54)) 64 base g M) := hm.kept (row := none) (World.grownBy_alloc _ _ _) (by simp)
  have HX : Hid (Bx (w.alloc (.cells #[.int .u16 c, .int .u8 t, .int .u8 f, .int .u32 k] 54)) w.heap.size c t f k) := bx_alloc w 54 c t f k
  have hlt := hm.lt.2
  have _hk : k ≤ 4294967295 := hk
  clear hm
  obtain ⟨v, fl, hr⟩ : ∃ v fl, operV (bits .andNot .u16 c 8) M.a (sideV c k M.x) = (v, fl) := ⟨_, _, rfl⟩
  have HO : Hid (∀ (W : World), Calls Tryz.prog 65 #[.int .u16 c, .int .u32 (M.a : Int), .int .u32 (k : Int)] W fun e w' => e = .returned (.tuple #[.int .u32 (v : Int), .int .i64 fl]) ∧ W = w') := fun W => by
    have := operate_any c M.a k W hM.1 hk
    have e : sideV c k M.x = k := by simp [sideV, hb]
    rw [e] at hr
    rw [hr] at this
    exact this
  rw [hr]
  clear hr
  go_enter Tryz.func39, Tryz.ntmps39
  go_upto_region 2 with fail
  generalize w.alloc (.cells #[.int .u16 c, .int .u8 t, .int .u8 f, .int .u32 k] 54) = w1 at *
  have hne : ((w.heap.size : Nat) == g) = false := by rw [beq_eq_false_iff_ne]; omega
  have hne2 : w.heap.size ≠ g := by omega
  generalize w.heap.size = B at *
  have G0 : w.grownBy w1 (some g) := grown_mono HG.out
  have M0 := HM.out
  obtain ⟨x0, x1, x2, x3⟩ := HX.out
  clear HG HM HX
  have c0 := M0.a
  have c1 := M0.x
  have f0 := M0.free 0
  have M1 := M0.setA v
  have G1 := grown_setCell G0 ⟨g, 0, none⟩ (.int .u32 (v : Int)) (.inl rfl)
  clear M0 G0
  go_wp2_with (go_at_call 64; refine (byx_any _ _).mono ?_; rintro e w' ⟨rfl, rfl⟩)
  go_region_with (go_at_call 65; refine (HO.out _).mono ?_; rintro e w' ⟨rfl, rfl⟩)
  all_goals
    go_wp2
    go_ret
    exact ⟨rfl, M1, grown_trans G1 (grown_drewN _ 1 _)⟩

end Go.Proofs.YtpoleldfoahpoaaGreat

namespace Go.Proofs.YtpoleldfoahpoaaGreat
open Go.RowKit
set_option maxRecDepth 100000

theorem beq_no {c : Int} {n : Int} (h : ¬ c = n) : (c == n) = false := by rw [beq_eq_false_iff_ne]; exact h

set_option maxHeartbeats 1000000 in
theorem refstep_any (b : Option Addr) (cb : Nat) (pk : List UInt8) (g base : Nat) (M : Mc) (c : Int) (t f k : Nat) (w : World) (hm : MAt w 64 base g M) (hk : k ≤ 4294967295) (hC : Cells w b pk) (hp : pk.length ≤ 65536) (hM : M.ok) :
    Calls Tryz.prog 39 #[.pointer (some ⟨g, 0, none⟩), .agg #[.int .u16 c, .int .u8 t, .int .u8 f, .int .u32 k], .slice b pk.length cb] w fun e w' => StepPost w 64 base g (stepV c k pk M).1 (stepV c k pk M).2 e w' := by
  have hp2 : pk.length ≤ 4294967295 := by omega
  by_cases q0 : c = 0
  · subst q0; have e : stepV 0 k pk M = (⟨k, M.x, M.m⟩, 0) := by simp [stepV]
    rw [e]; exact step_0 b cb pk g base M t f k w hm hk
  by_cases q32 : c = 32
  · subst q32; have e : stepV 32 k pk M = (⟨(readAtV pk k (sizeV 32)).1, M.x, M.m⟩, (readAtV pk k (sizeV 32)).2) := by simp [stepV]
    rw [e]; exact step_32 b cb pk g base M t f k w hm hk hC hp
  by_cases q40 : c = 40
  · subst q40; have e : stepV 40 k pk M = (⟨(readAtV pk k (sizeV 40)).1, M.x, M.m⟩, (readAtV pk k (sizeV 40)).2) := by simp [stepV]
    rw [e]; exact step_40 b cb pk g base M t f k w hm hk hC hp
  by_cases q48 : c = 48
  · subst q48; have e : stepV 48 k pk M = (⟨(readAtV pk k (sizeV 48)).1, M.x, M.m⟩, (readAtV pk k (sizeV 48)).2) := by simp [stepV]
    rw [e]; exact step_48 b cb pk g base M t f k w hm hk hC hp
  by_cases q64 : c = 64
  · subst q64; have e : stepV 64 k pk M = (⟨(readAtV pk (k + M.x) (sizeV 64)).1, M.x, M.m⟩, (readAtV pk (k + M.x) (sizeV 64)).2) := by simp [stepV]
    rw [e]; exact step_64 b cb pk g base M t f k w hm hk hC hp hM
  by_cases q72 : c = 72
  · subst q72; have e : stepV 72 k pk M = (⟨(readAtV pk (k + M.x) (sizeV 72)).1, M.x, M.m⟩, (readAtV pk (k + M.x) (sizeV 72)).2) := by simp [stepV]
    rw [e]; exact step_72 b cb pk g base M t f k w hm hk hC hp hM
  by_cases q80 : c = 80
  · subst q80; have e : stepV 80 k pk M = (⟨(readAtV pk (k + M.x) (sizeV 80)).1, M.x, M.m⟩, (readAtV pk (k + M.x) (sizeV 80)).2) := by simp [stepV]
    rw [e]; exact step_80 b cb pk g base M t f k w hm hk hC hp hM
  by_cases q96 : c = 96
  · subst q96; have e : stepV 96 k pk M = (⟨M.m.getD (k % 16) 0, M.x, M.m⟩, 0) := by simp [stepV]
    rw [e]; exact step_96 b cb pk g base M t f k w hm hk hM
  by_cases q128 : c = 128
  · subst q128; have e : stepV 128 k pk M = (⟨pk.length, M.x, M.m⟩, 0) := by simp [stepV]
    rw [e]; exact step_128 b cb pk g base M t f k w hm hk hp2
  by_cases q1 : c = 1
  · subst q1; have e : stepV 1 k pk M = (⟨M.a, k, M.m⟩, 0) := by simp [stepV]
    rw [e]; exact step_1 b cb pk g base M t f k w hm hk
  by_cases q97 : c = 97
  · subst q97; have e : stepV 97 k pk M = (⟨M.a, M.m.getD (k % 16) 0, M.m⟩, 0) := by simp [stepV]
    rw [e]; exact step_97 b cb pk g base M t f k w hm hk hM
  by_cases q129 : c = 129
  · subst q129; have e : stepV 129 k pk M = (⟨M.a, pk.length, M.m⟩, 0) := by simp [stepV]
    rw [e]; exact step_129 b cb pk g base M t f k w hm hk hp2
  by_cases q177 : c = 177
  · subst q177; have e : stepV 177 k pk M = (⟨M.a, 4 * ((readAtV pk k 1).1 % 16), M.m⟩, (readAtV pk k 1).2) := by simp [stepV]
    rw [e]; exact step_177 b cb pk g base M t f k w hm hk hC hp
  by_cases q2 : c = 2
  · subst q2; have e : stepV 2 k pk M = (⟨M.a, M.x, M.m.set (k % 16) M.a⟩, 0) := by simp [stepV]
    rw [e]; exact step_2 b cb pk g base M t f k w hm hk hM
  by_cases q3 : c = 3
  · subst q3; have e : stepV 3 k pk M = (⟨M.a, M.x, M.m.set (k % 16) M.x⟩, 0) := by simp [stepV]
    rw [e]; exact step_3 b cb pk g base M t f k w hm hk hM
  by_cases q132 : c = 132
  · subst q132; have e : stepV 132 k pk M = (⟨(4294967296 - M.a) % 4294967296, M.x, M.m⟩, 0) := by simp [stepV]
    rw [e]; exact step_132 b cb pk g base M t f k w hm hk hM
  by_cases q7 : c = 7
  · subst q7; have e : stepV 7 k pk M = (⟨M.a, M.a, M.m⟩, 0) := by simp [stepV]
    rw [e]; exact step_7 b cb pk g base M t f k w hm hk
  by_cases q135 : c = 135
  · subst q135; have e : stepV 135 k pk M = (⟨M.x, M.x, M.m⟩, 0) := by simp [stepV]
    rw [e]; exact step_135 b cb pk g base M t f k w hm hk
  have e : stepV c k pk M = (⟨(operV (bits .andNot .u16 c 8) M.a (sideV c k M.x)).1, M.x, M.m⟩, (operV (bits .andNot .u16 c 8) M.a (sideV c k M.x)).2) := by
    simp [stepV, q0, q32, q40, q48, q64, q72, q80, q96, q128, q1, q97, q129, q177, q2, q3, q132, q7, q135]
  rw [e]
  cases hb : byxB c with
  | true => exact step_op_true b cb pk g base M c t f k w hm hk hM hb (beq_no q0) (beq_no q32) (beq_no q40) (beq_no q48) (beq_no q64) (beq_no q72) (beq_no q80) (beq_no q96) (beq_no q128) (beq_no q1) (beq_no q97) (beq_no q129) (beq_no q177) (beq_no q2) (beq_no q3) (beq_no q132) (beq_no q7) (beq_no q135)
  | false => exact step_op_false b cb pk g base M c t f k w hm hk hM hb (beq_no q0) (beq_no q32) (beq_no q40) (beq_no q48) (beq_no q64) (beq_no q72) (beq_no q80) (beq_no q96) (beq_no q128) (beq_no q1) (beq_no q97) (beq_no q129) (beq_no q177) (beq_no q2) (beq_no q3) (beq_no q132) (beq_no q7) (beq_no q135)

end Go.Proofs.YtpoleldfoahpoaaGreat

namespace Go.Proofs.YtpoleldfoahpoaaGreat
open Go.RowKit
set_option maxRecDepth 100000

theorem reftakes_any (a : Option Addr) (ca : Nat) (xs : List Bv) (w : World) (ha : GC w a xs) (hlen : ∀ x ∈ xs, x.b.code.length ≤ 4611686018427387904) :
    Calls Tryz.prog 16 #[.slice a xs.length ca] w fun e w' => e = .returned (.bool (takenB (gOf xs))) ∧ w.grownBy w' none := by
  have C := refgcheck_any a ca xs w ha hlen
  have HT : Hid (takenB (gOf xs) = ((checkG (gOf xs)).2 == 0)) := (rfl : takenB (gOf xs) = ((checkG (gOf xs)).2 == 0))
  generalize checkG (gOf xs) = ck at *
  obtain ⟨p, q⟩ := ck
  simp only at C HT
  go_enter Tryz.func16, Tryz.ntmps16
  go_wp2_with fail
  refine C.mono ?_
  rintro e w1 ⟨rfl, K⟩
  go_wp2
  go_ret
  exact ⟨ret_bool HT.out.symm, K⟩

theorem give_ret {x : In} (M : Mc) (h : (classV x.code.toNat == 6) = true) : giveV x M = if ((x.code.toNat : Int) == 6) = true then x.k.toNat else M.a := by
  rw [class6_ret] at h
  simp only [retB, Bool.or_eq_true, beq_iff_eq] at h
  rw [giveV]
  rcases h with h | h
  · rw [h]
    rfl
  · rw [h]
    rfl

/-- What lies in memory while the document's own run goes on. -/
structure GsI (w wr : World) (V g : Nat) (M : Mc) : Prop where
  ver : VAt wr V 33 #[.int .u32 0, .int .i64 0, .int .i64 0]
  mach : MAt wr 64 w.heap.size g M
  up : w.grownBy wr none
  ne : V ≠ g
  ok : M.ok

theorem GsI.kept {w wr w' : World} {V g : Nat} {M : Mc} (I : GsI w wr V g M) (K : wr.grownBy w' none) : GsI w w' V g M :=
  ⟨I.ver.kept K, I.mach.kept K (by simp), grown_trans I.up K, I.ne, I.ok⟩
theorem GsI.stepped {w wr w' : World} {V g : Nat} {M M2 : Mc} (I : GsI w wr V g M) (h : MAt w' 64 w.heap.size g M2) (K : wr.grownBy w' (some g)) (h2 : M2.ok) : GsI w w' V g M2 :=
  ⟨I.ver.grown K (by simpa using Ne.symm I.ne), h, grown_trans_new I.up K (fun x e => by cases e; exact I.mach.lt.1), I.ne, h2⟩

set_option maxHeartbeats 8000000 in
theorem refgrun_any (a pb : Option Addr) (ca cb : Nat) (xs : List Bv) (pk : List UInt8) (w : World) (ha : GC w a xs) (hlen : ∀ x ∈ xs, x.b.code.length ≤ 4611686018427387904) (hb : Cells w pb pk) (hpl : pk.length ≤ 9223372036854775807) :
    Calls Tryz.prog 12 #[.slice a xs.length ca, .slice pb pk.length cb] w fun e w' => GEnd w (runG (gOf xs) pk) (runGE (gOf xs) pk) e w' := by
  have CT := fun W (G : w.grownBy W none) => reftakes_any a ca xs W (ha.keptNone G) hlen
  have H : Hid (GC w a xs) := ha
  have HP : Hid (Cells w pb pk) := hb
  have V0 := VAt.alloc w 33 #[.int .u32 0, .int .i64 0, .int .i64 0]
  have G0 : w.grownBy (w.alloc (.cells #[.int .u32 0, .int .i64 0, .int .i64 0] 33)) none := World.grownBy_alloc _ _ _
  have hsz : w.heap.size < (w.alloc (.cells #[.int .u32 0, .int .i64 0, .int .i64 0] 33)).heap.size := by simp
  clear ha hb
  cases ht : takenB (gOf xs) with
  | false =>
    rw [ht] at CT
    have e1 : runGE (gOf xs) pk = 155 := by rw [runGE, if_neg (by rw [← takenB_iff, ht]; simp)]
    have e2 : runG (gOf xs) pk = (0, 0, 0) := by rw [runG, e1]; rfl
    rw [e1, e2]
    clear e1 e2
    go_enter Tryz.func12, Tryz.ntmps12
    go_upto_region 1 with fail
    generalize w.alloc (.cells #[.int .u32 0, .int .i64 0, .int .i64 0] 33) = wa at *
    obtain ⟨V, hV⟩ : ∃ V, w.heap.size = V := ⟨_, rfl⟩
    have HV : Hid (w.heap.size ≤ V) := Nat.le_of_eq hV
    rw [hV] at V0 ⊢
    clear hV
    go_wp2_with fail
    refine (CT _ G0).mono ?_
    rintro e w1 ⟨rfl, K⟩
    have V1 := V0.kept K
    have G1 := grown_trans G0 K
    clear K V0 G0 CT
    go_wp2_with (refine wpList_store_row rfl 33 (.tmp 4) (.tmp 15) rfl V #[.int .u32 0, .int .i64 0, .int .i64 0] rfl rfl 33 _ V1 size33 rfl (by simp [Value.oneCell']) ?_)
    refine bodyPost_ret (ret_row rfl _ _ V #[.int .u32 0, .int .i64 0, .int .i64 0] _ rfl (V1.setRow _) Tryz.underlying33 rfl size33) rfl ?_
    exact ⟨rfl, vgrown_setRow G1 _ _ (.inr HV.out)⟩
  | true =>
    rw [ht] at CT
    have htk := takenB_iff.1 ht
    by_cases hl : 65536 < pk.length
    · have e1 : runGE (gOf xs) pk = 51 := by rw [runGE, if_pos htk, if_pos hl]
      have e2 : runG (gOf xs) pk = (0, 0, 0) := by rw [runG, e1]; rfl
      rw [e1, e2]
      have hl' : (65536 : Int) < (pk.length : Int) := by omega
      clear e1 e2 htk ht
      go_enter Tryz.func12, Tryz.ntmps12
      go_upto_region 1 with fail
      generalize w.alloc (.cells #[.int .u32 0, .int .i64 0, .int .i64 0] 33) = wa at *
      obtain ⟨V, hV⟩ : ∃ V, w.heap.size = V := ⟨_, rfl⟩
      have HV : Hid (w.heap.size ≤ V) := Nat.le_of_eq hV
      rw [hV] at V0 ⊢
      clear hV
      go_wp2_with fail
      refine (CT _ G0).mono ?_
      rintro e w1 ⟨rfl, K⟩
      have V1 := V0.kept K
      have G1 := grown_trans G0 K
      clear K V0 G0 CT
      go_wp2_with (refine wpList_store_row rfl 33 (.tmp 4) (.tmp 19) rfl V #[.int .u32 0, .int .i64 0, .int .i64 0] rfl rfl 33 _ V1 size33 rfl (by simp [Value.oneCell']) ?_)
      refine bodyPost_ret (ret_row rfl _ _ V #[.int .u32 0, .int .i64 0, .int .i64 0] _ rfl (V1.setRow _) Tryz.underlying33 rfl size33) rfl ?_
      exact ⟨rfl, vgrown_setRow G1 _ _ (.inr HV.out)⟩
    · have e1 : runGE (gOf xs) pk = 0 := by rw [runGE, if_pos htk, if_neg hl]
      have e2 : runG (gOf xs) pk = goG (gOf xs) pk xs.length 0 mc0 := by rw [runG, if_pos e1, gOf_len]
      have hl' : ¬ (65536 : Int) < (pk.length : Int) := by omega
      have hpk : pk.length ≤ 65536 := by omega
      have hT := taken_g htk
      have HT : Hid (TakenG (gOf xs)) := hT
      have hn0 : 0 < xs.length := by have := hT.pos; rwa [gOf_len] at this
      have hn1 : xs.length ≤ 4096 := by have := hT.few; rwa [gOf_len] at this
      rw [e1]
      obtain ⟨Res, hRes⟩ : ∃ r, runG (gOf xs) pk = r := ⟨_, rfl⟩
      rw [hRes]
      have HRes : Hid (goG (gOf xs) pk xs.length 0 mc0 = Res) := e2.symm.trans hRes
      clear e1 e2 htk ht hRes hT
      go_enter Tryz.func12, Tryz.ntmps12
      go_upto_region 1 with fail
      generalize w.alloc (.cells #[.int .u32 0, .int .i64 0, .int .i64 0] 33) = wa at *
      obtain ⟨V, hV⟩ : ∃ V, w.heap.size = V := ⟨_, rfl⟩
      have HV : Hid (w.heap.size ≤ V) := Nat.le_of_eq hV
      rw [hV] at V0 hsz ⊢
      clear hV
      go_wp2_with fail
      refine (CT _ G0).mono ?_
      rintro e w1 ⟨rfl, K⟩
      have V1 := V0.kept K
      have G1 := grown_trans G0 K
      have hV1 : V < w1.heap.size := Nat.lt_of_lt_of_le hsz K.size
      clear K V0 G0 CT hsz
      have KM : w1.grownBy (w1.alloc (.cells #[.int .u32 0, .int .u32 0, .int .u32 0, .int .u32 0, .int .u32 0, .int .u32 0, .int .u32 0, .int .u32 0, .int .u32 0, .int .u32 0, .int .u32 0, .int .u32 0, .int .u32 0, .int .u32 0, .int .u32 0, .int .u32 0, .int .u32 0, .int .u32 0] 64)) none := World.grownBy_alloc _ _ _
      have HI : Hid (GsI w (w1.alloc (.cells #[.int .u32 0, .int .u32 0, .int .u32 0, .int .u32 0, .int .u32 0, .int .u32 0, .int .u32 0, .int .u32 0, .int .u32 0, .int .u32 0, .int .u32 0, .int .u32 0, .int .u32 0, .int .u32 0, .int .u32 0, .int .u32 0, .int .u32 0, .int .u32 0] 64)) V w1.heap.size mc0) :=
        ⟨V1.kept KM, mat_new w1 _ _ G1.size, grown_trans G1 KM, by omega, mc0_ok⟩
      clear KM V1 G1 hV1
      go_upto_region 6 with fail
      generalize w1.alloc (.cells #[.int .u32 0, .int .u32 0, .int .u32 0, .int .u32 0, .int .u32 0, .int .u32 0, .int .u32 0, .int .u32 0, .int .u32 0, .int .u32 0, .int .u32 0, .int .u32 0, .int .u32 0, .int .u32 0, .int .u32 0, .int .u32 0, .int .u32 0, .int .u32 0] 64) = w2 at *
      generalize w1.heap.size = g at *
      go_wp2
      go_loopw [7, 8] (fun sl i wr => ∃ (k f s : Nat) (M : Mc), sl = .int .i64 (s : Int) ∧ i = .int .i64 (k : Int) ∧ k < xs.length ∧ s ≤ codeLen ((gOf xs).take k) + k ∧ xs.length ≤ f + k ∧ Hid (GsI w wr V g M) ∧ Hid (addS s (goG (gOf xs) pk f k M) = Res)) (fun _ i _ => xs.length - (intOf i).toNat)
      case atStart =>
        refine ⟨0, xs.length, 0, mc0, rfl, rfl, hn0, Nat.zero_le _, by omega, HI, ?_⟩
        show addS 0 (goG (gOf xs) pk xs.length 0 mc0) = Res
        rw [HRes.out]
        simp [addS]
      case round =>
        clear HI HRes
        obtain ⟨k, f, s, M, rfl, rfl, hk, hs, hf, HI, HGo⟩ := hrel
        obtain ⟨f, rfl⟩ : ∃ m, f = m + 1 := ⟨f - 1, by omega⟩
        have hl2 : (k : Int) < (xs.length : Int) := by omega
        have hk' : k < (gOf xs).length := by rw [gOf_len]; exact hk
        have hb : (gOf xs)[k] = xs[k].b := by simp [gOf]
        have hcl : codeLen ((gOf xs).take k) ≤ 4096 := Nat.le_trans (codeLen_take _ _) HT.out.room
        have hcs : codeLen ((gOf xs).take (k + 1)) = codeLen ((gOf xs).take k) + xs[k].b.code.length := by rw [codeLen_succ hk', hb]
        have hc2 : codeLen ((gOf xs).take (k + 1)) ≤ 4096 := Nat.le_trans (codeLen_take _ _) HT.out.room
        have hcd : xs[k].b.code.length ≤ 4096 := by omega
        have HCS : Hid (codeLen ((gOf xs).take (k + 1)) = codeLen ((gOf xs).take k) + xs[k].b.code.length) := hcs
        obtain ⟨t1, t2, t3⟩ := HT.out.ok k hk'
        rw [hb] at t1 t2 t3
        have hnx := leads_next t2 t3
        rw [gOf_len] at hnx
        have hok := (H.out.keptNone HI.out.up).2 xs[k] (List.getElem_mem hk)
        obtain ⟨r, hr⟩ : ∃ r, codeF pk xs[k].b.code M = r := ⟨_, rfl⟩
        have hgo := goG_eq (f := f) (pk := pk) (M := M) hk' r (by rw [hb]; exact hr)
        rw [hb] at hgo
        rw [hgo] at HGo
        obtain ⟨b1, o1, rfl, h1⟩ := ((H.out.keptNone HI.out.up).1).blocks hk
        have h1' := h1 k hk
        clear h1
        have hcw := H.out.2 xs[k] (List.getElem_mem hk)
        clear hgo hcs hc2 hb
        generalize xs[k] = x at *
        obtain ⟨⟨code, en, ⟨ic, it, jf, ik⟩, yes, no⟩, xa, xc⟩ := x
        have c0 := h1' 0 _ rfl
        have c1 := h1' 1 _ rfl
        have c2 := h1' 2 _ rfl
        have c3 := h1' 3 _ rfl
        have c4 := h1' 4 _ rfl
        have c5 := h1' 5 _ rfl
        have c6 := h1' 6 _ rfl
        have c7 := h1' 7 _ rfl
        clear h1'
        rw [Nat.add_zero] at c0
        simp only at *
        have HE : Hid (endsB ⟨code, en, ⟨ic, it, jf, ik⟩, yes, no⟩ = true) := t2
        have HN : Hid (∀ j ∈ nextL ⟨code, en, ⟨ic, it, jf, ik⟩, yes, no⟩, k < j ∧ j < xs.length) := hnx
        have HX : Hid (codeF pk code M = r) := hr
        have HC : Hid (CV w xa (flat code)) := hcw.1
        have hrl := codeF_le (pk := pk) code M
        have hrM := codeF_ok (pk := pk) (by omega) code M HI.out.ok
        rw [hr] at hrl hrM
        have ends := ends_cases t2
        simp only at ends
        have KB : wr.grownBy (wr.alloc (.cells #[.slice xa code.length xc, .int .i64 en, .int .u16 (ic.toNat : Int), .int .u8 (it.toNat : Int), .int .u8 (jf.toNat : Int), .int .u32 (ik.toNat : Int), .int .i64 yes, .int .i64 no] 56)) none := World.grownBy_alloc _ _ _
        have HVB : Hid (VAt (wr.alloc (.cells #[.slice xa code.length xc, .int .i64 en, .int .u16 (ic.toNat : Int), .int .u8 (it.toNat : Int), .int .u8 (jf.toNat : Int), .int .u32 (ik.toNat : Int), .int .i64 yes, .int .i64 no] 56)) wr.heap.size 56 #[.slice xa code.length xc, .int .i64 en, .int .u16 (ic.toNat : Int), .int .u8 (it.toNat : Int), .int .u8 (jf.toNat : Int), .int .u32 (ik.toNat : Int), .int .i64 yes, .int .i64 no]) := VAt.alloc wr _ _
        have HBg : Hid (wr.heap.size ≠ g) := Nat.ne_of_gt HI.out.mach.lt.2
        have HI2 := HI.out.kept KB
        have hs2 : s ≤ 8192 := by omega
        clear t1 t2 t3 hnx hr hcw hok KB HI
        go_upto_region 9 with fail
        generalize wr.alloc (.cells #[.slice xa code.length xc, .int .i64 en, .int .u16 (ic.toNat : Int), .int .u8 (it.toNat : Int), .int .u8 (jf.toNat : Int), .int .u32 (ik.toNat : Int), .int .i64 yes, .int .i64 no] 56) = w3 at *
        generalize wr.heap.size = B at *
        clear c0 c1 c2 c3 c4 c5 c6 c7
        go_wp2
        go_loopw [7, 10] (fun sl i wr => ∃ (j : Nat) (M' : Mc), sl = .int .i64 ((s + j : Nat) : Int) ∧ i = .int .i64 (j : Int) ∧ j ≤ code.length ∧ Hid (GsI w wr V g M') ∧ Hid (VAt wr B 56 #[.slice xa code.length xc, .int .i64 en, .int .u16 (ic.toNat : Int), .int .u8 (it.toNat : Int), .int .u8 (jf.toNat : Int), .int .u32 (ik.toNat : Int), .int .i64 yes, .int .i64 no]) ∧ Hid (addC j (codeF pk (code.drop j) M') = r)) (fun _ i _ => code.length - (intOf i).toNat)
        case atStart =>
          refine ⟨0, M, rfl, rfl, Nat.zero_le _, HI2, HVB, ?_⟩
          show addC 0 (codeF pk (code.drop 0) M) = r
          rw [List.drop_zero, HX.out]
          simp [addC]
        case round =>
          clear HI2 HVB HX
          obtain ⟨j, M', rfl, rfl, hj, HI, HVB, HX⟩ := hrel
          obtain ⟨sj, hsj⟩ : ∃ sj, s + j = sj := ⟨_, rfl⟩
          have hsj2 : sj ≤ 20000 := by omega
          have HSJ : Hid (s + j = sj) := hsj
          rw [hsj]
          clear hsj
          have a0 : wr.cell? ⟨B, 0, none⟩ = some (.slice xa code.length xc) := HVB.out.cell 0
          by_cases hlt : j < code.length
          · have hl3 : (j : Int) < (code.length : Int) := by omega
            have hX := HX.out
            rw [codeF_step hlt] at hX
            obtain ⟨ba, oa, hae, hc⟩ := (HC.out.keptNone HI.out.up).insns hlt
            obtain ⟨c0, c1, c2, c3⟩ := hc j hlt
            have b3 := code[j].k.toNat_lt
            have hM2 : (stepV code[j].code.toNat code[j].k.toNat pk M').1.ok := stepV_ok HI.out.ok (by omega) (by omega)
            have HS := refstep_any pb cb pk g w.heap.size M' code[j].code.toNat code[j].jt.toNat code[j].jf.toNat code[j].k.toNat wr HI.out.mach (by omega) (HP.out.keptNone HI.out.up) hpk HI.out.ok
            generalize stepV code[j].code.toNat code[j].k.toNat pk M' = sv at *
            obtain ⟨M2, fl⟩ := sv
            simp only at HS hM2 hX
            have HX2 : Hid (addC j (if fl = 0 then addC 1 (codeF pk (code.drop (j + 1)) M2) else (M2, fl, 1)) = r) := hX
            generalize code[j] = x at *
            have HSS : Hid (Calls Tryz.prog 39 #[.pointer (some ⟨g, 0, none⟩), .agg #[.int .u16 (x.code.toNat : Int), .int .u8 (x.jt.toNat : Int), .int .u8 (x.jf.toNat : Int), .int .u32 (x.k.toNat : Int)], .slice pb pk.length cb] wr fun e w' => StepPost wr 64 w.heap.size g M2 fl e w') := HS
            subst hae
            clear HS hX HX hc
            go_wp2_with fail
            refine HSS.out.mono ?_
            rintro e w6 ⟨rfl, MA6, K6⟩
            have HI6 : Hid (GsI w w6 V g M2) := HI.out.stepped MA6 K6 hM2
            have HV6 : Hid (VAt w6 B 56 #[.slice (some ⟨ba, oa, none⟩) code.length xc, .int .i64 en, .int .u16 (ic.toNat : Int), .int .u8 (it.toNat : Int), .int .u8 (jf.toNat : Int), .int .u32 (ik.toNat : Int), .int .i64 yes, .int .i64 no]) := HVB.out.grown K6 (by simpa using Ne.symm HBg.out)
            clear c0 c1 c2 c3 K6 MA6 HI HVB HSS a0
            by_cases hfl : fl = 0
            · subst hfl
              have hX := HX2.out
              rw [if_pos rfl] at hX
              have HX3 : Hid (addC (j + 1) (codeF pk (code.drop (j + 1)) M2) = r) := by
                show _ = _
                rw [← hX]
                simp only [addC, Nat.add_assoc]
              clear hX HX2
              go_wp2
              go_roundw
              case rel => exact ⟨j + 1, M2, by have := HSJ.out; go_num, by go_num, by omega, HI6, HV6, HX3⟩
              case measure => simp [intOf]; omega
            · have hflb : (fl != 0) = true := by rw [bne_iff_ne]; exact hfl
              have hX := HX2.out
              rw [if_neg hfl] at hX
              have HR : Hid (Res = (0, fl, sj + 1)) := by
                show _ = _
                rw [← HGo.out, if_pos (show r.2.1 ≠ 0 by rw [← hX]; exact hfl), ← hX, ← HSJ.out]
                simp only [addC, addS, Nat.add_assoc]
              clear hX HX2
              go_wp2_with (refine wpList_store_row rfl 33 (.tmp 4) (.tmp 44) rfl V #[.int .u32 0, .int .i64 fl, .int .i64 ((sj : Int) + 1)] rfl rfl 33 _ HI6.out.ver size33 rfl (by simp [Value.oneCell']) ?_)
              refine bodyPost_ret (ret_row rfl _ _ V #[.int .u32 0, .int .i64 fl, .int .i64 ((sj : Int) + 1)] _ rfl (VAt.setRow HI6.out.ver _) Tryz.underlying33 rfl size33) rfl ?_
              rw [HR.out]
              exact ⟨rfl, vgrown_setRow HI6.out.up _ _ (.inr HV.out)⟩
          · have hl3 : ¬ (j : Int) < (code.length : Int) := by omega
            have hX := HX.out
            rw [codeF_over hlt] at hX
            have hr0 : r = (M', 0, j) := by rw [← hX]; simp [addC]
            subst hr0
            simp only at HGo hrM hrl
            clear hX HX
            have a1 : wr.cell? ⟨B, 1, none⟩ = some (.int .i64 en) := HVB.out.cell 1
            have a2 : wr.cell? ⟨B, 2, none⟩ = some (.int .u16 (ic.toNat : Int)) := HVB.out.cell 2
            have a3 : wr.cell? ⟨B, 3, none⟩ = some (.int .u8 (it.toNat : Int)) := HVB.out.cell 3
            have a4 : wr.cell? ⟨B, 4, none⟩ = some (.int .u8 (jf.toNat : Int)) := HVB.out.cell 4
            have a5 : wr.cell? ⟨B, 5, none⟩ = some (.int .u32 (ik.toNat : Int)) := HVB.out.cell 5
            have a6 : wr.cell? ⟨B, 6, none⟩ = some (.int .i64 yes) := HVB.out.cell 6
            have a7 : wr.cell? ⟨B, 7, none⟩ = some (.int .i64 no) := HVB.out.cell 7
            have m0 := HI.out.mach.a
            have m1 := HI.out.mach.x
            rcases ends with rfl | rfl | rfl
            · have hcl6 : (classV ic.toNat == 6) = true := by
                have h := HE.out
                simp only [endsB, if_true, Bool.and_eq_true] at h
                exact h.1.1
              have hgv := give_ret (x := ⟨ic, it, jf, ik⟩) M' hcl6
              simp only at hgv
              cases h6 : ((ic.toNat : Int) == 6) with
              | true =>
                have HR : Hid (Res = (ik.toNat, 0, sj + 1)) := by
                  show _ = _
                  rw [← HGo.out, hgv, h6, ← HSJ.out]
                  simp only [addS, Nat.add_assoc, ne_eq, not_true, if_true, if_false]
                clear hcl6 hgv
                go_wp2_with (refine wpList_store_row rfl 33 (.tmp 4) (.tmp 66) rfl V #[.int .u32 (ik.toNat : Int), .int .i64 0, .int .i64 ((sj : Int) + 1)] rfl rfl 33 _ HI.out.ver size33 rfl (by simp [Value.oneCell']) ?_)
                refine bodyPost_ret (ret_row rfl _ _ V #[.int .u32 (ik.toNat : Int), .int .i64 0, .int .i64 ((sj : Int) + 1)] _ rfl (VAt.setRow HI.out.ver _) Tryz.underlying33 rfl size33) rfl ?_
                rw [HR.out]
                exact ⟨rfl, vgrown_setRow HI.out.up _ _ (.inr HV.out)⟩
              | false =>
                have HR : Hid (Res = (M'.a, 0, sj + 1)) := by
                  show _ = _
                  rw [← HGo.out, hgv, h6, ← HSJ.out]
                  simp [addS, Nat.add_assoc]
                clear hcl6 hgv
                go_wp2_with (refine wpList_store_row rfl 33 (.tmp 4) (.tmp 74) rfl V #[.int .u32 (M'.a : Int), .int .i64 0, .int .i64 ((sj : Int) + 1)] rfl rfl 33 _ HI.out.ver size33 rfl (by simp [Value.oneCell']) ?_)
                refine bodyPost_ret (ret_row rfl _ _ V #[.int .u32 (M'.a : Int), .int .i64 0, .int .i64 ((sj : Int) + 1)] _ rfl (VAt.setRow HI.out.ver _) Tryz.underlying33 rfl size33) rfl ?_
                rw [HR.out]
                exact ⟨rfl, vgrown_setRow HI.out.up _ _ (.inr HV.out)⟩
            · have hy : nextL ⟨code, 2, ⟨ic, it, jf, ik⟩, yes, no⟩ = [yes.toNat] := by rw [nextL, if_neg (by simp), if_pos rfl]
              have hl1 := HN.out yes.toNat (by rw [hy]; simp)
              have HGO : Hid (addS sj (goG (gOf xs) pk f yes.toNat M') = Res) := by
                show _ = _
                rw [← HGo.out, if_neg (by decide), if_neg (by decide), if_pos rfl, addS_addS, ← HSJ.out]
              have hsn := HSJ.out
              have hcn := HCS.out
              have hmn := codeLen_mono (gOf xs) (show k + 1 ≤ yes.toNat by omega)
              clear hy
              go_wp2
              go_roundw
              case rel => exact ⟨yes.toNat, f, sj, M', by go_num, by rw [Int.toNat_of_nonneg (by omega)], by omega, by omega, by omega, HI, HGO⟩
              case measure => simp [intOf]; omega
            · have hy : nextL ⟨code, 3, ⟨ic, it, jf, ik⟩, yes, no⟩ = [yes.toNat, no.toNat] := by rw [nextL, if_neg (by simp), if_neg (by simp)]
              have hl1 := HN.out yes.toNat (by rw [hy]; simp)
              have hl4 := HN.out no.toNat (by rw [hy]; simp)
              clear hy
              cases hask : asksV ⟨ic, it, jf, ik⟩ M' with
              | true =>
                have HH : Hid (∀ W : World, Calls Tryz.prog 40 #[.agg #[.int .u16 (ic.toNat : Int), .int .u8 (it.toNat : Int), .int .u8 (jf.toNat : Int), .int .u32 (ik.toNat : Int)], .int .u32 (M'.a : Int), .int .u32 (M'.x : Int)] W fun e w' => e = .returned (.bool true) ∧ W.grownBy w' none) := fun W => by
                  have := holds_q ic.toNat it.toNat jf.toNat ik.toNat M'.a M'.x W (by have := ik.toNat_lt; omega) HI.out.ok.1 HI.out.ok.2.1
                  rw [show holdsV (bits .andNot .u16 ic.toNat 8) M'.a (sideV ic.toNat ik.toNat M'.x) = true from hask] at this
                  exact this
                have HGO : Hid (addS (sj + 1) (goG (gOf xs) pk f yes.toNat M') = Res) := by
                  show _ = _
                  rw [← HGo.out, if_neg (by decide), if_neg (by decide), if_neg (by decide), if_pos hask, addS_addS, ← HSJ.out, Nat.add_assoc]
                clear hask
                go_wp2_with fail
                refine (HH.out _).mono ?_
                rintro e w6 ⟨rfl, K6⟩
                have HI6 : Hid (GsI w w6 V g M') := HI.out.kept K6
                have d6 := K6.cell a6 (by simp)
                have d7 := K6.cell a7 (by simp)
                clear a0 a1 a2 a3 a4 a5 a6 a7 m0 m1 HI HVB HH K6
                have hsn := HSJ.out
                have hcn := HCS.out
                have hmn := codeLen_mono (gOf xs) (show k + 1 ≤ yes.toNat by omega)
                go_wp2
                go_roundw
                case rel => exact ⟨yes.toNat, f, sj + 1, M', by go_num, by rw [Int.toNat_of_nonneg (by omega)], by omega, by omega, by omega, HI6, HGO⟩
                case measure => simp [intOf]; omega
              | false =>
                have HH : Hid (∀ W : World, Calls Tryz.prog 40 #[.agg #[.int .u16 (ic.toNat : Int), .int .u8 (it.toNat : Int), .int .u8 (jf.toNat : Int), .int .u32 (ik.toNat : Int)], .int .u32 (M'.a : Int), .int .u32 (M'.x : Int)] W fun e w' => e = .returned (.bool false) ∧ W.grownBy w' none) := fun W => by
                  have := holds_q ic.toNat it.toNat jf.toNat ik.toNat M'.a M'.x W (by have := ik.toNat_lt; omega) HI.out.ok.1 HI.out.ok.2.1
                  rw [show holdsV (bits .andNot .u16 ic.toNat 8) M'.a (sideV ic.toNat ik.toNat M'.x) = false from hask] at this
                  exact this
                have HGO : Hid (addS (sj + 1) (goG (gOf xs) pk f no.toNat M') = Res) := by
                  show _ = _
                  rw [← HGo.out, if_neg (by decide), if_neg (by decide), if_neg (by decide), if_neg (by rw [hask]; simp), addS_addS, ← HSJ.out, Nat.add_assoc]
                clear hask
                go_wp2_with fail
                refine (HH.out _).mono ?_
                rintro e w6 ⟨rfl, K6⟩
                have HI6 : Hid (GsI w w6 V g M') := HI.out.kept K6
                have d6 := K6.cell a6 (by simp)
                have d7 := K6.cell a7 (by simp)
                clear a0 a1 a2 a3 a4 a5 a6 a7 m0 m1 HI HVB HH K6
                have hsn := HSJ.out
                have hcn := HCS.out
                have hmn := codeLen_mono (gOf xs) (show k + 1 ≤ no.toNat by omega)
                go_wp2
                go_roundw
                case rel => exact ⟨no.toNat, f, sj + 1, M', by go_num, by rw [Int.toNat_of_nonneg (by omega)], by omega, by omega, by omega, HI6, HGO⟩
                case measure => simp [intOf]; omega

end Go.Proofs.YtpoleldfoahpoaaGreat

namespace Go.Proofs.YtpoleldfoahpoaaGreat
open Go.RowKit
set_option maxRecDepth 100000

/-- What lies from hi on stays. -/
def Hi (w : World) (hi : Nat) (w' : World) : Prop := w.heap.size ≤ w'.heap.size ∧ ∀ i, hi ≤ i → i < w.heap.size → w'.heap[i]? = w.heap[i]?
theorem Hi.refl (w : World) (hi : Nat) : Hi w hi w := ⟨Nat.le_refl _, fun _ _ _ => rfl⟩
theorem Hi.grow {w w1 w2 : World} {hi : Nat} (h : Hi w hi w1) (K : w1.grownBy w2 none) : Hi w hi w2 := ⟨Nat.le_trans h.1 K.size, fun i h1 h2 => (K.block i (Nat.lt_of_lt_of_le h2 h.1) (by simp)).trans (h.2 i h1 h2)⟩
theorem Hi.step {w w1 w2 : World} {hi z : Nat} (h : Hi w hi w1) (K : w1.grownBy w2 (some z)) (hz : z < hi) : Hi w hi w2 := ⟨Nat.le_trans h.1 K.size, fun i h1 h2 => (K.block i (Nat.lt_of_lt_of_le h2 h.1) (by simp; omega)).trans (h.2 i h1 h2)⟩
theorem Hi.vat {w w' : World} {hi g t : Nat} {cs : Array Value} (h : Hi w hi w') (A : VAt w g t cs) (hg : hi ≤ g) : VAt w' g t cs := by
  have := h.2 g hg A.lt
  unfold VAt at *
  rw [this, A]
theorem Hi.owns {w w' : World} {hi base e size n : Nat} {v : Value} {vs : List Value} (h : Hi w hi w') (O : w.ownsRow base e size v n vs) (hv : ∀ x, v.ownBlock = some x → hi ≤ x) : w'.ownsRow base e size v n vs := by
  refine ⟨O.1, ?_⟩
  rcases O.2 with h0 | ⟨g, cap, cur, hv', hb, hg, r⟩
  · exact .inl h0
  · right
    refine ⟨g, cap, cur, hv', hb, ?_, r⟩
    have hlt : g < w.heap.size := by
      by_cases hh : g < w.heap.size
      · exact hh
      · rw [Array.getElem?_eq_none (by omega)] at hg; cases hg
    rw [h.2 g (hv g (by rw [hv']; rfl)) hlt, hg]
def GK (w0 w : World) (hi : Nat) (w' : World) : Prop := w0.grownBy w' none ∧ Hi w hi w'
theorem GK.grow {w0 w w1 w2 : World} {hi : Nat} (h : GK w0 w hi w1) (K : w1.grownBy w2 none) : GK w0 w hi w2 := ⟨grown_trans h.1 K, h.2.grow K⟩
theorem GK.step {w0 w w1 w2 : World} {hi z : Nat} (h : GK w0 w hi w1) (K : w1.grownBy w2 (some z)) (h0 : w0.heap.size ≤ z) (hz : z < hi) : GK w0 w hi w2 := ⟨grown_trans_new h.1 K (fun x e => by cases e; exact h0), h.2.step K hz⟩
/-- Lent memory lies below hi. -/
def BHi (hi : Nat) (v : Value) (ys : List Bv) : Prop := (∀ z, v.ownBlock = some z → z < hi) ∧ ∀ y ∈ ys, ∀ z, (y.a.map (·.block)) = some z → z < hi
theorem BLent.hi {w : World} {base : Nat} {v : Value} {ys : List Bv} (h : BLent w base v ys) : BHi w.heap.size v ys := by
  obtain ⟨g, cap, rfl, -, -, -, hrow, hil, -⟩ := h
  refine ⟨fun z hz => ?_, fun y hy z hz => ?_⟩
  · simp only [Value.ownBlock, Option.some.injEq] at hz
    subst hz
    exact (hrow.lt g rfl).2
  · obtain ⟨-, -, -, -, gk, hgk, -, hlt, -⟩ := (hil y hy).cv
    rw [hgk] at hz
    obtain rfl := Option.some.inj hz
    exact hlt

/-- While the lent blocks are written over. -/
def BSq (w0 wl : World) (hi g n : Nat) (wr : World) : Prop := BlkN wr 56 g n ∧ GK w0 wl hi wr
theorem BSq.set {w0 wl wr : World} {hi g n : Nat} (h : BSq w0 wl hi g n wr) {p : Addr} (hp : w0.heap.size ≤ p.block ∧ p.block < hi) (u : Value) : BSq w0 wl hi g n (wr.setCell p u) := ⟨h.1.setCell _ _, h.2.step (grown_set1 wr p u) hp.1 hp.2⟩

set_option maxRecDepth 100000 in
set_option maxHeartbeats 4000000 in
theorem bkept2_any (w0 : World) (a : Option Addr) (ca : Nat) (v : Value) (xs ys : List Bv) (w : World) (hL : BLent w w0.heap.size v ys) (ha : GC w0 a xs) (G0 : w0.grownBy w none) (he : gOf ys = gOf xs) (hn : (xs.length + 2) * 56 ≤ 140737488355328) (hlen : ∀ x ∈ xs, x.b.code.length * 8 ≤ 140737488351232) (hi : Nat) (hH : BHi hi v ys) :
    Calls Tryz.prog 10 #[v, .slice a xs.length ca] w fun e w' => e = .returned (.bool true) ∧ GK w0 w hi w' := by
  obtain ⟨g, cap, rfl, hc, hcm, hg1, hrow, hil, hap⟩ := hL
  have hg0 : w0.heap.size ≤ g ∧ g < hi := ⟨hg1, hH.1 g rfl⟩
  have HH : Hid (∀ y ∈ ys, ∀ z, (y.a.map (·.block)) = some z → z < hi) := hH.2
  clear hg1 hH
  have hyl : ys.length = xs.length := by have := congrArg List.length he; rwa [gOf_len, gOf_len] at this
  rw [hyl] at hc hrow ⊢
  have GL : GC w (some ⟨g, 0, none⟩) ys := ⟨(bcv_front hrow).1, fun y hy => by
    obtain ⟨-, h2, h3, h4, -⟩ := (hil y hy).cv
    exact ⟨h2, h3, h4⟩⟩
  have CS := bsameb_any (some ⟨g, 0, none⟩) a cap ca ys xs w GL (ha.keptNone G0) he (by omega) (fun y hy => by
    have : y.b ∈ gOf xs := by rw [← he]; exact List.mem_map.2 ⟨y, hy, rfl⟩
    obtain ⟨x, hx, hxb⟩ := List.mem_map.1 this
    have := hlen x hx
    rw [hxb] at this
    omega)
  rw [hyl] at CS
  have HA : Hid (GC w0 a xs) := ha
  have HI : Hid (∀ y ∈ ys, ILent w w0.heap.size (.slice y.a y.b.code.length y.ca) y.b.code) := hil
  have HP : Hid (Apart ys) := hap
  have HR : Hid (w.ownsRow w0.heap.size 56 8 (.slice (some ⟨g, 0, none⟩) (xs.length + 2) cap) (xs.length + 2) (flatB (ys ++ [m77, m77]))) := hrow
  have HY : Hid (ys.length = xs.length) := hyl
  have HE : Hid (gOf ys = gOf xs) := he
  have cm := (bcv_front hrow).2
  rw [hyl] at cm
  have m1 : w.cell? ⟨g, xs.length * 8 + 1, none⟩ = some (.int .i64 77) := cm.2 _ rfl 1 (by decide)
  have m2 : w.cell? ⟨g, xs.length * 8 + 9, none⟩ = some (.int .i64 77) := cm.2 _ rfl 9 (by decide)
  have m2' : w.cell? ⟨g, (xs.length + 1) * 8 + 1, none⟩ = some (.int .i64 77) := by rw [show (xs.length + 1) * 8 + 1 = xs.length * 8 + 9 by omega]; exact m2
  clear GL hil hap hrow hyl he ha cm m2
  have hcm0 := hcm
  unfold maxLen at hcm
  have hx : (xs.length : Int) + 2 ≤ (cap : Int) := by omega
  have hx1 : (xs.length : Int) < (xs.length : Int) + 2 := by omega
  have hx2 : (xs.length : Int) + 1 < (xs.length : Int) + 2 := by omega
  have hxn : ((xs.length : Int) + 2).toNat = xs.length + 2 := by omega
  have hxm : ((xs.length : Int) + 1).toNat = xs.length + 1 := by omega
  go_enter Tryz.func10, Tryz.ntmps10
  go_wp2_with fail
  refine CS.mono ?_
  rintro e w1 ⟨rfl, n1, rfl⟩
  clear CS
  go_upto_region 3 with fail
  have G1 : GK w0 w hi (w.drewN n1) := ⟨grown_trans G0 (grown_drewN w n1 none), (Hi.refl w hi).grow (grown_drewN w n1 none)⟩
  have HR1 : Hid ((w.drewN n1).ownsRow w0.heap.size 56 8 (.slice (some ⟨g, 0, none⟩) (xs.length + 2) cap) (xs.length + 2) (flatB (ys ++ [m77, m77]))) := owns_keptNone HR.out (grown_drewN _ _ none)
  have HI1 : Hid (∀ j (hj : j < ys.length), 0 ≤ j → ILent (w.drewN n1) w0.heap.size (.slice ys[j].a ys[j].b.code.length ys[j].ca) ys[j].b.code) := fun j hj _ => (HI.out _ (List.getElem_mem hj)).keptNone (grown_drewN _ _ none)
  clear HR HI m1 m2' G0
  generalize hw2 : w.drewN n1 = w2 at *
  clear hw2
  go_wp2
  go_loopw [6, 7] (fun ok i wr => ok = .bool true ∧ ∃ k : Nat, k ≤ xs.length ∧ i = .int .i64 k ∧ GK w0 w hi wr ∧ Hid (wr.ownsRow w0.heap.size 56 8 (.slice (some ⟨g, 0, none⟩) (xs.length + 2) cap) (xs.length + 2) (flatB (ys ++ [m77, m77]))) ∧ Hid (∀ j (hj : j < ys.length), k ≤ j → ILent wr w0.heap.size (.slice ys[j].a ys[j].b.code.length ys[j].ca) ys[j].b.code)) (fun _ i _ => xs.length - (intOf i).toNat)
  case atStart => exact ⟨rfl, 0, Nat.zero_le _, rfl, G1, HR1, HI1⟩
  case round =>
    clear G1 HR1 HI1
    obtain ⟨rfl, k, hk, rfl, G, HRr, HIr⟩ := hrel
    by_cases hlt : k < xs.length
    · have hl : (k : Int) < (xs.length : Int) := by omega
      have hky : k < ys.length := by have := HY.out; omega
      obtain ⟨b2, o2, hae, d2⟩ := (HA.out.1).blocks hlt
      have hb2 : b2 < w0.heap.size := by
        have := (HA.out.1).under hae (by intro e; have := congrArg List.length e; rw [flatB_len] at this; simp at this; omega)
        exact this
      have c0 := G.1.cell (d2 k hlt 0 _ rfl) (by simp)
      obtain ⟨b3, o3, hbe, d3⟩ := (bcv_front HRr.out).1.blocks hky
      simp only [Option.some.injEq, Addr.mk.injEq, and_true] at hbe
      obtain ⟨rfl, rfl⟩ := hbe
      have e0 := d3 k hky 0 _ rfl
      have hbb : ys[k].b = xs[k].b := by
        have := congrArg (fun z => z[k]?) HE.out
        simpa [gOf, hlt, hky] using this
      have hxk := ((HA.out.keptNone G.1).2 _ (List.getElem_mem hlt)).1
      have hmm := hlen _ (List.getElem_mem hlt)
      have hIk := HIr.out k hky (Nat.le_refl _)
      have HAPk : Hid (∀ j (hj : j < ys.length), k + 1 ≤ j → ∀ z, (ys[k].a.map (·.block)) = some z → (ys[j].a.map (·.block)) ≠ some z) := fun j hj hkj z hz => (List.pairwise_iff_getElem.1 HP.out) k j hky hj (by omega) z hz
      rw [hbb] at hIk e0
      rw [Nat.add_zero] at c0 e0
      rw [Nat.zero_add] at e0
      obtain ⟨-, hcvk, -, -, gk, hgk, hgk1, hgk2, hrowk⟩ := hIk.cv
      have HGK : Hid (ys[k].a = some ⟨gk, 0, none⟩) := hgk
      have hgkh : gk < hi := HH.out ys[k] (List.getElem_mem hky) gk (by rw [hgk]; rfl)
      rw [hgk] at e0
      obtain ⟨code, hcode⟩ : ∃ code, xs[k].b.code = code := ⟨_, rfl⟩
      rw [hcode] at c0 e0 hxk hmm hrowk
      generalize xs[k].a = xa at *
      generalize xs[k].ca = xc at *
      obtain ⟨yc, hyc⟩ : ∃ yc, ys[k].ca = yc := ⟨_, rfl⟩
      rw [hyc] at e0 hrowk
      have hgg : gk ≠ g := fun e => by
        subst e
        rcases hrowk.2 with ⟨hv, -⟩ | ⟨g2, cap2, cur, hv, -, hg, -⟩
        · cases hv
        · simp only [Value.slice.injEq, Option.some.injEq, Addr.mk.injEq, and_true] at hv
          obtain ⟨rfl, -, -⟩ := hv
          rcases HRr.out.2 with ⟨hv2, -⟩ | ⟨g3, cap3, cur3, hv2, -, hg3, -⟩
          · cases hv2
          · simp only [Value.slice.injEq, Option.some.injEq, Addr.mk.injEq, and_true] at hv2
            obtain ⟨rfl, -, -⟩ := hv2
            rw [hg] at hg3
            simp only [Option.some.injEq, Obj.cells.injEq] at hg3
            exact absurd hg3.2.1 (by decide)
      have CK := fun W (G' : wr.grownBy W none) => ikept_any gk yc xa xc code W (owns_mono (owns_keptNone hrowk G') (Nat.zero_le _)) (hxk.keptNone G') hmm
      have HCK : Hid (∀ W, wr.grownBy W none → Calls Tryz.prog 29 #[.slice (some ⟨gk, 0, none⟩) code.length yc, .slice xa code.length xc] W fun e w' => e = .returned (.bool true) ∧ W.grownBy w' (some gk)) := CK
      clear CK d2 d3 hIk hcvk hxk hbb hgk hrowk hcode hyc
      subst hae
      go_upto_region 6 with fail
      refine wp_region_held_drew (S := fun V => V.cell? ⟨g, k * 8, none⟩ = some (.slice (some ⟨gk, 0, none⟩) code.length yc) ∧ V.cell? ⟨b2, o2 + k * 8, none⟩ = some (.slice xa code.length xc) ∧ GK w0 w hi V) (by kernel_rfl) (⟨(grown_drewN wr 1 none).cell e0 (by simp), (grown_drewN wr 1 none).cell c0 (by simp), G.grow (grown_drewN wr 1 none)⟩) (fun hHeld => ?_)
      refine wpAnyH_take (i := 0) (v := .slice (some ⟨g, 0, none⟩) xs.length cap) rfl (by kernel_rfl) (by kernel_rfl) (by kernel_rfl) (fun _ _ _ h => h) (Or.inl ⟨by rfl, fun W hW => ?_⟩) hHeld ?_
      · clear hW
        go_simp
      try simp only [Act.put, List.getElem_toArray, List.getElem_cons_zero, List.setIfInBounds_toArray, List.set_cons_zero, List.set_cons_succ]
      refine wpAnyH_take (i := 1) (v := .int .i64 (k : Int)) rfl (by kernel_rfl) (by kernel_rfl) (by kernel_rfl) (fun _ _ _ h => h) (Or.inl ⟨by rfl, fun W hW => ?_⟩) hHeld ?_
      · clear hW
        go_simp
      try simp only [Act.put, List.getElem_toArray, List.getElem_cons_zero, List.getElem_cons_succ, List.setIfInBounds_toArray, List.set_cons_zero, List.set_cons_succ]
      refine wpAnyH_take (i := 2) (v := .pointer (some ⟨g, k * 8, none⟩)) rfl (by kernel_rfl) (by kernel_rfl) (by kernel_rfl) (fun _ _ _ h => h) (Or.inl ⟨by rfl, fun W hW => ?_⟩) hHeld ?_
      · clear hW
        go_simp
      try simp only [Act.put, List.getElem_toArray, List.getElem_cons_zero, List.getElem_cons_succ, List.setIfInBounds_toArray, List.set_cons_zero, List.set_cons_succ]
      refine wpAnyH_take (i := 3) (v := .pointer (some ⟨g, k * 8, none⟩)) rfl (by kernel_rfl) (by kernel_rfl) (by kernel_rfl) (fun _ _ _ h => h) (Or.inl ⟨by rfl, fun W hW => ?_⟩) hHeld ?_
      · clear hW
        go_simp
      try simp only [Act.put, List.getElem_toArray, List.getElem_cons_zero, List.getElem_cons_succ, List.setIfInBounds_toArray, List.set_cons_zero, List.set_cons_succ]
      refine wpAnyH_take (i := 4) (v := .slice (some ⟨gk, 0, none⟩) code.length yc) rfl (by kernel_rfl) (by kernel_rfl) (by kernel_rfl) (fun _ _ _ h => h) (Or.inl ⟨by rfl, fun W hW => ?_⟩) hHeld ?_
      · have q0 := hW.1
        clear hW
        go_simp
      try simp only [Act.put, List.getElem_toArray, List.getElem_cons_zero, List.getElem_cons_succ, List.setIfInBounds_toArray, List.set_cons_zero, List.set_cons_succ]
      refine wpAnyH_take (i := 5) (v := .slice (some ⟨b2, o2, none⟩) xs.length ca) rfl (by kernel_rfl) (by kernel_rfl) (by kernel_rfl) (fun _ _ _ h => h) (Or.inl ⟨by rfl, fun W hW => ?_⟩) hHeld ?_
      · clear hW
        go_simp
      try simp only [Act.put, List.getElem_toArray, List.getElem_cons_zero, List.getElem_cons_succ, List.setIfInBounds_toArray, List.set_cons_zero, List.set_cons_succ]
      refine wpAnyH_take (i := 6) (v := .int .i64 (k : Int)) rfl (by kernel_rfl) (by kernel_rfl) (by kernel_rfl) (fun _ _ _ h => h) (Or.inl ⟨by rfl, fun W hW => ?_⟩) hHeld ?_
      · clear hW
        go_simp
      try simp only [Act.put, List.getElem_toArray, List.getElem_cons_zero, List.getElem_cons_succ, List.setIfInBounds_toArray, List.set_cons_zero, List.set_cons_succ]
      refine wpAnyH_take (i := 7) (v := .pointer (some ⟨b2, o2 + k * 8, none⟩)) rfl (by kernel_rfl) (by kernel_rfl) (by kernel_rfl) (fun _ _ _ h => h) (Or.inl ⟨by rfl, fun W hW => ?_⟩) hHeld ?_
      · clear hW
        go_simp
      try simp only [Act.put, List.getElem_toArray, List.getElem_cons_zero, List.getElem_cons_succ, List.setIfInBounds_toArray, List.set_cons_zero, List.set_cons_succ]
      refine wpAnyH_take (i := 8) (v := .pointer (some ⟨b2, o2 + k * 8, none⟩)) rfl (by kernel_rfl) (by kernel_rfl) (by kernel_rfl) (fun _ _ _ h => h) (Or.inl ⟨by rfl, fun W hW => ?_⟩) hHeld ?_
      · clear hW
        go_simp
      try simp only [Act.put, List.getElem_toArray, List.getElem_cons_zero, List.getElem_cons_succ, List.setIfInBounds_toArray, List.set_cons_zero, List.set_cons_succ]
      refine wpAnyH_take (i := 9) (v := .slice xa code.length xc) rfl (by kernel_rfl) (by kernel_rfl) (by kernel_rfl) (fun _ _ _ h => h) (Or.inl ⟨by rfl, fun W hW => ?_⟩) hHeld ?_
      · have q0 := hW.2.1
        clear hW
        go_simp
      try simp only [Act.put, List.getElem_toArray, List.getElem_cons_zero, List.getElem_cons_succ, List.setIfInBounds_toArray, List.set_cons_zero, List.set_cons_succ]
      refine wpAnyH_ready (rs := [10]) (by kernel_rfl) (by simp) (AllReadyH.cons rfl (fun K hK => ?_) AllReadyH.nil)
      go_simp
      refine (HCK.out _ (grown_drewN wr 1 none)).mono ?_
      rintro e w5 ⟨rfl, K5⟩
      go_wp2_with fail
      refine hK.out _ _ (⟨K5.cell hHeld.1 (by simpa using Ne.symm hgg), K5.cell hHeld.2.1 (by simp; omega), hHeld.2.2.step K5 hgk1 hgkh⟩) (fun hHeld => ?_)
      clear hK K
      try simp only [Act.put, List.getElem_toArray, List.getElem_cons_zero, List.getElem_cons_succ, List.setIfInBounds_toArray, List.set_cons_zero, List.set_cons_succ]
      refine wpAnyH_take (i := 11) (v := .bool true) rfl (by kernel_rfl) (by kernel_rfl) (by kernel_rfl) (fun _ _ _ h => h) (Or.inl ⟨by rfl, fun W hW => ?_⟩) hHeld ?_
      · clear hW
        go_simp
      try simp only [Act.put, List.getElem_toArray, List.getElem_cons_zero, List.getElem_cons_succ, List.setIfInBounds_toArray, List.set_cons_zero, List.set_cons_succ]
      refine wpAnyH_take (i := 12) (v := .bool true) rfl (by kernel_rfl) (by kernel_rfl) (by kernel_rfl) (fun _ _ _ h => h) (Or.inl ⟨by rfl, fun W hW => ?_⟩) hHeld ?_
      · clear hW
        go_simp
      try simp only [Act.put, List.getElem_toArray, List.getElem_cons_zero, List.getElem_cons_succ, List.setIfInBounds_toArray, List.set_cons_zero, List.set_cons_succ]
      refine wpAnyH_take (i := 13) (v := .bool true) rfl (by kernel_rfl) (by kernel_rfl) (by kernel_rfl) (fun _ _ _ h => h) (Or.inl ⟨by rfl, fun W hW => ?_⟩) hHeld ?_
      · clear hW
        go_simp
      try simp only [Act.put, List.getElem_toArray, List.getElem_cons_zero, List.getElem_cons_succ, List.setIfInBounds_toArray, List.set_cons_zero, List.set_cons_succ]
      refine wpAnyH_take (i := 14) (v := .bool true) rfl (by kernel_rfl) (by kernel_rfl) (by kernel_rfl) (fun _ _ _ h => h) (Or.inl ⟨by rfl, fun W hW => ?_⟩) hHeld ?_
      · clear hW
        go_simp
      try simp only [Act.put, List.getElem_toArray, List.getElem_cons_zero, List.getElem_cons_succ, List.setIfInBounds_toArray, List.set_cons_zero, List.set_cons_succ]
      refine wpAnyH_done (by kernel_rfl) ?_ _

      have G5 := hHeld.2.2
      have K6 := grown_trans (grown_drewN wr 1 (some gk)) K5
      have HR5 : Hid (w5.ownsRow w0.heap.size 56 8 (.slice (some ⟨g, 0, none⟩) (xs.length + 2) cap) (xs.length + 2) (flatB (ys ++ [m77, m77]))) := World.ownsRow.kept HRr.out K6 (.inr (by simpa [Value.ownBlock] using Ne.symm hgg))
      have HI5 : Hid (∀ j (hj : j < ys.length), k + 1 ≤ j → ILent w5 w0.heap.size (.slice ys[j].a ys[j].b.code.length ys[j].ca) ys[j].b.code) := fun j hj hkj => (HIr.out j hj (by omega)).other K6 (HAPk.out j hj hkj gk (by rw [HGK.out]; rfl))
      clear hHeld HRr HIr HAPk HGK HCK K5 K6 c0 e0 G
      go_wp2
      go_roundw
      case rel => exact ⟨rfl, k + 1, by omega, by go_num, G5, HR5, HI5⟩
      case measure => simp [intOf]; omega
    · have hl : ¬ (k : Int) < (xs.length : Int) := by omega
      have R : BSq w0 w hi g (cap * 8) wr := ⟨(BlkN.ofRow HRr.out).1, G⟩
      clear HRr HIr G
      go_wp2
      clear hk hlt hl
      go_loopw [8] (fun i wr => ∃ k : Nat, k ≤ xs.length + 2 ∧ i = .int .i64 k ∧ BSq w0 w hi g (cap * 8) wr) (fun i _ => xs.length + 2 - (intOf i).toNat)
      case atStart => exact ⟨0, Nat.zero_le _, rfl, R⟩
      case round =>
        clear R
        obtain ⟨k, hk, rfl, R⟩ := hrel
        by_cases hlt : k < xs.length + 2
        · have hl : (k : Int) < (xs.length : Int) + 2 := by omega
          obtain ⟨u0, hu0⟩ := R.1.cell (i := k * 8) (by omega)
          have hf0 := R.1.free (k * 8)
          obtain ⟨u1, hu1⟩ := R.1.cell (i := k * 8 + 1) (by omega)
          have hf1 := R.1.free (k * 8 + 1)
          obtain ⟨u2, hu2⟩ := R.1.cell (i := k * 8 + 2) (by omega)
          have hf2 := R.1.free (k * 8 + 2)
          obtain ⟨u3, hu3⟩ := R.1.cell (i := k * 8 + 3) (by omega)
          have hf3 := R.1.free (k * 8 + 3)
          obtain ⟨u4, hu4⟩ := R.1.cell (i := k * 8 + 4) (by omega)
          have hf4 := R.1.free (k * 8 + 4)
          obtain ⟨u5, hu5⟩ := R.1.cell (i := k * 8 + 5) (by omega)
          have hf5 := R.1.free (k * 8 + 5)
          obtain ⟨u6, hu6⟩ := R.1.cell (i := k * 8 + 6) (by omega)
          have hf6 := R.1.free (k * 8 + 6)
          obtain ⟨u7, hu7⟩ := R.1.cell (i := k * 8 + 7) (by omega)
          have hf7 := R.1.free (k * 8 + 7)
          have R' := ((((((((R.set (p := ⟨g, k * 8, none⟩) hg0 (.slice none 0 0)).set (p := ⟨g, k * 8 + 1, none⟩) hg0 (.int .i64 (-7))).set (p := ⟨g, k * 8 + 2, none⟩) hg0 (.int .u16 0)).set (p := ⟨g, k * 8 + 3, none⟩) hg0 (.int .u8 0)).set (p := ⟨g, k * 8 + 4, none⟩) hg0 (.int .u8 0)).set (p := ⟨g, k * 8 + 5, none⟩) hg0 (.int .u32 0)).set (p := ⟨g, k * 8 + 6, none⟩) hg0 (.int .i64 7)).set (p := ⟨g, k * 8 + 7, none⟩) hg0 (.int .i64 0))
          clear R
          go_wp2
          go_roundw
          case rel => exact ⟨k + 1, by omega, by go_num, R'⟩
          case measure => simp [intOf]; omega
        · have hl : ¬ (k : Int) < (xs.length : Int) + 2 := by omega
          go_wp2
          go_ret
          exact ⟨rfl, R.2⟩

end Go.Proofs.YtpoleldfoahpoaaGreat
