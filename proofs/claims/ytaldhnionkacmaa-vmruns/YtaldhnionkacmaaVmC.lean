/-
  The document's own Step.
-/
import Derived.Test.YtaldhnionkacmaaVmQ
import Derived.Deep.RegionHeld3
import Derived.Deep.DeepCutAuto
namespace Go.Proofs.Ytaldhnionkacmaa
open Go.RowKit
set_option maxRecDepth 100000

/-- What Step leaves. -/
def StepPost (w : World) (t base g : Nat) (M : Mc) (f : Int) (e : Ending) (w' : World) : Prop := e = .returned (.int .i64 f) ∧ MAt w' t base g M ∧ w.grownBy w' (some g)

set_option maxHeartbeats 1000000 in
theorem step_0 (b : Option Addr) (cb : Nat) (pk : List UInt8) (g base : Nat) (M : Mc) (t f k : Nat) (w : World) (hm : MAt w 59 base g M) (hk : k ≤ 4294967295) :
    Calls Try.prog 27 #[.pointer (some ⟨g, 0, none⟩), .agg #[.int .u16 0, .int .u8 t, .int .u8 f, .int .u32 k], .slice b pk.length cb] w fun e w' => StepPost w 59 base g ⟨k, M.x, M.m⟩ 0 e w' := by
  have HG : Hid (w.grownBy (w.alloc (.cells #[.int .u16 0, .int .u8 t, .int .u8 f, .int .u32 k] 47)) none) := World.grownBy_alloc _ _ _
  have HM : Hid (MAt (w.alloc (.cells #[.int .u16 0, .int .u8 t, .int .u8 f, .int .u32 k] 47)) 59 base g M) := hm.kept (row := none) (World.grownBy_alloc _ _ _) (by simp)
  have HX : Hid (Bx (w.alloc (.cells #[.int .u16 0, .int .u8 t, .int .u8 f, .int .u32 k] 47)) w.heap.size 0 t f k) := bx_alloc w 47 0 t f k
  have hlt := hm.lt.2
  have _hk : k ≤ 4294967295 := hk
  clear hm
  go_enter Try.func27, Try.ntmps27
  go_upto_region 2 with fail
  generalize w.alloc (.cells #[.int .u16 0, .int .u8 t, .int .u8 f, .int .u32 k] 47) = w1 at *
  have hne : ((w.heap.size : Nat) == g) = false := by rw [beq_eq_false_iff_ne]; omega
  have hne2 : w.heap.size ≠ g := by omega
  generalize w.heap.size = B at *
  have G0 : w.grownBy w1 (some g) := grown_mono HG.out
  have M0 := HM.out
  obtain ⟨x0, x1, x2, x3⟩ := HX.out
  clear HG HM HX
  have c0 := M0.a
  have c1 := M0.x
  have f0 := M0.free (0)
  have M1 := M0.setA k
  have G1 := grown_setCell G0 ⟨g, 0, none⟩ (.int .u32 ((k : Nat) : Int)) (.inl rfl)
  clear M0 G0
  go_wp2
  go_ret
  exact ⟨rfl, M1, G1⟩

set_option maxHeartbeats 1000000 in
theorem step_1 (b : Option Addr) (cb : Nat) (pk : List UInt8) (g base : Nat) (M : Mc) (t f k : Nat) (w : World) (hm : MAt w 59 base g M) (hk : k ≤ 4294967295) :
    Calls Try.prog 27 #[.pointer (some ⟨g, 0, none⟩), .agg #[.int .u16 1, .int .u8 t, .int .u8 f, .int .u32 k], .slice b pk.length cb] w fun e w' => StepPost w 59 base g ⟨M.a, k, M.m⟩ 0 e w' := by
  have HG : Hid (w.grownBy (w.alloc (.cells #[.int .u16 1, .int .u8 t, .int .u8 f, .int .u32 k] 47)) none) := World.grownBy_alloc _ _ _
  have HM : Hid (MAt (w.alloc (.cells #[.int .u16 1, .int .u8 t, .int .u8 f, .int .u32 k] 47)) 59 base g M) := hm.kept (row := none) (World.grownBy_alloc _ _ _) (by simp)
  have HX : Hid (Bx (w.alloc (.cells #[.int .u16 1, .int .u8 t, .int .u8 f, .int .u32 k] 47)) w.heap.size 1 t f k) := bx_alloc w 47 1 t f k
  have hlt := hm.lt.2
  have _hk : k ≤ 4294967295 := hk
  clear hm
  go_enter Try.func27, Try.ntmps27
  go_upto_region 2 with fail
  generalize w.alloc (.cells #[.int .u16 1, .int .u8 t, .int .u8 f, .int .u32 k] 47) = w1 at *
  have hne : ((w.heap.size : Nat) == g) = false := by rw [beq_eq_false_iff_ne]; omega
  have hne2 : w.heap.size ≠ g := by omega
  generalize w.heap.size = B at *
  have G0 : w.grownBy w1 (some g) := grown_mono HG.out
  have M0 := HM.out
  obtain ⟨x0, x1, x2, x3⟩ := HX.out
  clear HG HM HX
  have c0 := M0.a
  have c1 := M0.x
  have f0 := M0.free (1)
  have M1 := M0.setX k
  have G1 := grown_setCell G0 ⟨g, 1, none⟩ (.int .u32 ((k : Nat) : Int)) (.inl rfl)
  clear M0 G0
  go_wp2
  go_ret
  exact ⟨rfl, M1, G1⟩

set_option maxHeartbeats 1000000 in
theorem step_7 (b : Option Addr) (cb : Nat) (pk : List UInt8) (g base : Nat) (M : Mc) (t f k : Nat) (w : World) (hm : MAt w 59 base g M) (hk : k ≤ 4294967295) :
    Calls Try.prog 27 #[.pointer (some ⟨g, 0, none⟩), .agg #[.int .u16 7, .int .u8 t, .int .u8 f, .int .u32 k], .slice b pk.length cb] w fun e w' => StepPost w 59 base g ⟨M.a, M.a, M.m⟩ 0 e w' := by
  have HG : Hid (w.grownBy (w.alloc (.cells #[.int .u16 7, .int .u8 t, .int .u8 f, .int .u32 k] 47)) none) := World.grownBy_alloc _ _ _
  have HM : Hid (MAt (w.alloc (.cells #[.int .u16 7, .int .u8 t, .int .u8 f, .int .u32 k] 47)) 59 base g M) := hm.kept (row := none) (World.grownBy_alloc _ _ _) (by simp)
  have HX : Hid (Bx (w.alloc (.cells #[.int .u16 7, .int .u8 t, .int .u8 f, .int .u32 k] 47)) w.heap.size 7 t f k) := bx_alloc w 47 7 t f k
  have hlt := hm.lt.2
  have _hk : k ≤ 4294967295 := hk
  clear hm
  go_enter Try.func27, Try.ntmps27
  go_upto_region 2 with fail
  generalize w.alloc (.cells #[.int .u16 7, .int .u8 t, .int .u8 f, .int .u32 k] 47) = w1 at *
  have hne : ((w.heap.size : Nat) == g) = false := by rw [beq_eq_false_iff_ne]; omega
  have hne2 : w.heap.size ≠ g := by omega
  generalize w.heap.size = B at *
  have G0 : w.grownBy w1 (some g) := grown_mono HG.out
  have M0 := HM.out
  obtain ⟨x0, x1, x2, x3⟩ := HX.out
  clear HG HM HX
  have c0 := M0.a
  have c1 := M0.x
  have f0 := M0.free (1)
  have M1 := M0.setX M.a
  have G1 := grown_setCell G0 ⟨g, 1, none⟩ (.int .u32 ((M.a : Nat) : Int)) (.inl rfl)
  clear M0 G0
  go_wp2
  go_ret
  exact ⟨rfl, M1, G1⟩

set_option maxHeartbeats 1000000 in
theorem step_135 (b : Option Addr) (cb : Nat) (pk : List UInt8) (g base : Nat) (M : Mc) (t f k : Nat) (w : World) (hm : MAt w 59 base g M) (hk : k ≤ 4294967295) :
    Calls Try.prog 27 #[.pointer (some ⟨g, 0, none⟩), .agg #[.int .u16 135, .int .u8 t, .int .u8 f, .int .u32 k], .slice b pk.length cb] w fun e w' => StepPost w 59 base g ⟨M.x, M.x, M.m⟩ 0 e w' := by
  have HG : Hid (w.grownBy (w.alloc (.cells #[.int .u16 135, .int .u8 t, .int .u8 f, .int .u32 k] 47)) none) := World.grownBy_alloc _ _ _
  have HM : Hid (MAt (w.alloc (.cells #[.int .u16 135, .int .u8 t, .int .u8 f, .int .u32 k] 47)) 59 base g M) := hm.kept (row := none) (World.grownBy_alloc _ _ _) (by simp)
  have HX : Hid (Bx (w.alloc (.cells #[.int .u16 135, .int .u8 t, .int .u8 f, .int .u32 k] 47)) w.heap.size 135 t f k) := bx_alloc w 47 135 t f k
  have hlt := hm.lt.2
  have _hk : k ≤ 4294967295 := hk
  clear hm
  go_enter Try.func27, Try.ntmps27
  go_upto_region 2 with fail
  generalize w.alloc (.cells #[.int .u16 135, .int .u8 t, .int .u8 f, .int .u32 k] 47) = w1 at *
  have hne : ((w.heap.size : Nat) == g) = false := by rw [beq_eq_false_iff_ne]; omega
  have hne2 : w.heap.size ≠ g := by omega
  generalize w.heap.size = B at *
  have G0 : w.grownBy w1 (some g) := grown_mono HG.out
  have M0 := HM.out
  obtain ⟨x0, x1, x2, x3⟩ := HX.out
  clear HG HM HX
  have c0 := M0.a
  have c1 := M0.x
  have f0 := M0.free (0)
  have M1 := M0.setA M.x
  have G1 := grown_setCell G0 ⟨g, 0, none⟩ (.int .u32 ((M.x : Nat) : Int)) (.inl rfl)
  clear M0 G0
  go_wp2
  go_ret
  exact ⟨rfl, M1, G1⟩

set_option maxHeartbeats 1000000 in
theorem step_128 (b : Option Addr) (cb : Nat) (pk : List UInt8) (g base : Nat) (M : Mc) (t f k : Nat) (w : World) (hm : MAt w 59 base g M) (hk : k ≤ 4294967295) (hp : pk.length ≤ 4294967295) :
    Calls Try.prog 27 #[.pointer (some ⟨g, 0, none⟩), .agg #[.int .u16 128, .int .u8 t, .int .u8 f, .int .u32 k], .slice b pk.length cb] w fun e w' => StepPost w 59 base g ⟨pk.length, M.x, M.m⟩ 0 e w' := by
  have HG : Hid (w.grownBy (w.alloc (.cells #[.int .u16 128, .int .u8 t, .int .u8 f, .int .u32 k] 47)) none) := World.grownBy_alloc _ _ _
  have HM : Hid (MAt (w.alloc (.cells #[.int .u16 128, .int .u8 t, .int .u8 f, .int .u32 k] 47)) 59 base g M) := hm.kept (row := none) (World.grownBy_alloc _ _ _) (by simp)
  have HX : Hid (Bx (w.alloc (.cells #[.int .u16 128, .int .u8 t, .int .u8 f, .int .u32 k] 47)) w.heap.size 128 t f k) := bx_alloc w 47 128 t f k
  have hlt := hm.lt.2
  have _hk : k ≤ 4294967295 := hk
  clear hm
  go_enter Try.func27, Try.ntmps27
  go_upto_region 2 with fail
  generalize w.alloc (.cells #[.int .u16 128, .int .u8 t, .int .u8 f, .int .u32 k] 47) = w1 at *
  have hne : ((w.heap.size : Nat) == g) = false := by rw [beq_eq_false_iff_ne]; omega
  have hne2 : w.heap.size ≠ g := by omega
  generalize w.heap.size = B at *
  have G0 : w.grownBy w1 (some g) := grown_mono HG.out
  have M0 := HM.out
  obtain ⟨x0, x1, x2, x3⟩ := HX.out
  clear HG HM HX
  have c0 := M0.a
  have c1 := M0.x
  have f0 := M0.free (0)
  have M1 := M0.setA pk.length
  have G1 := grown_setCell G0 ⟨g, 0, none⟩ (.int .u32 ((pk.length : Nat) : Int)) (.inl rfl)
  clear M0 G0
  go_wp2
  go_ret
  exact ⟨rfl, M1, G1⟩

set_option maxHeartbeats 1000000 in
theorem step_129 (b : Option Addr) (cb : Nat) (pk : List UInt8) (g base : Nat) (M : Mc) (t f k : Nat) (w : World) (hm : MAt w 59 base g M) (hk : k ≤ 4294967295) (hp : pk.length ≤ 4294967295) :
    Calls Try.prog 27 #[.pointer (some ⟨g, 0, none⟩), .agg #[.int .u16 129, .int .u8 t, .int .u8 f, .int .u32 k], .slice b pk.length cb] w fun e w' => StepPost w 59 base g ⟨M.a, pk.length, M.m⟩ 0 e w' := by
  have HG : Hid (w.grownBy (w.alloc (.cells #[.int .u16 129, .int .u8 t, .int .u8 f, .int .u32 k] 47)) none) := World.grownBy_alloc _ _ _
  have HM : Hid (MAt (w.alloc (.cells #[.int .u16 129, .int .u8 t, .int .u8 f, .int .u32 k] 47)) 59 base g M) := hm.kept (row := none) (World.grownBy_alloc _ _ _) (by simp)
  have HX : Hid (Bx (w.alloc (.cells #[.int .u16 129, .int .u8 t, .int .u8 f, .int .u32 k] 47)) w.heap.size 129 t f k) := bx_alloc w 47 129 t f k
  have hlt := hm.lt.2
  have _hk : k ≤ 4294967295 := hk
  clear hm
  go_enter Try.func27, Try.ntmps27
  go_upto_region 2 with fail
  generalize w.alloc (.cells #[.int .u16 129, .int .u8 t, .int .u8 f, .int .u32 k] 47) = w1 at *
  have hne : ((w.heap.size : Nat) == g) = false := by rw [beq_eq_false_iff_ne]; omega
  have hne2 : w.heap.size ≠ g := by omega
  generalize w.heap.size = B at *
  have G0 : w.grownBy w1 (some g) := grown_mono HG.out
  have M0 := HM.out
  obtain ⟨x0, x1, x2, x3⟩ := HX.out
  clear HG HM HX
  have c0 := M0.a
  have c1 := M0.x
  have f0 := M0.free (1)
  have M1 := M0.setX pk.length
  have G1 := grown_setCell G0 ⟨g, 1, none⟩ (.int .u32 ((pk.length : Nat) : Int)) (.inl rfl)
  clear M0 G0
  go_wp2
  go_ret
  exact ⟨rfl, M1, G1⟩

set_option maxHeartbeats 1000000 in
theorem step_132 (b : Option Addr) (cb : Nat) (pk : List UInt8) (g base : Nat) (M : Mc) (t f k : Nat) (w : World) (hm : MAt w 59 base g M) (hk : k ≤ 4294967295) (hM : M.ok) :
    Calls Try.prog 27 #[.pointer (some ⟨g, 0, none⟩), .agg #[.int .u16 132, .int .u8 t, .int .u8 f, .int .u32 k], .slice b pk.length cb] w fun e w' => StepPost w 59 base g ⟨(4294967296 - M.a) % 4294967296, M.x, M.m⟩ 0 e w' := by
  have HG : Hid (w.grownBy (w.alloc (.cells #[.int .u16 132, .int .u8 t, .int .u8 f, .int .u32 k] 47)) none) := World.grownBy_alloc _ _ _
  have HM : Hid (MAt (w.alloc (.cells #[.int .u16 132, .int .u8 t, .int .u8 f, .int .u32 k] 47)) 59 base g M) := hm.kept (row := none) (World.grownBy_alloc _ _ _) (by simp)
  have HX : Hid (Bx (w.alloc (.cells #[.int .u16 132, .int .u8 t, .int .u8 f, .int .u32 k] 47)) w.heap.size 132 t f k) := bx_alloc w 47 132 t f k
  have hlt := hm.lt.2
  have _hk : k ≤ 4294967295 := hk
  clear hm
  have ev : -(M.a : Int) % 4294967296 = (((4294967296 - M.a) % 4294967296 : Nat) : Int) := by have := hM.1; omega
  generalize (4294967296 - M.a) % 4294967296 = v at *
  go_enter Try.func27, Try.ntmps27
  go_upto_region 2 with fail
  generalize w.alloc (.cells #[.int .u16 132, .int .u8 t, .int .u8 f, .int .u32 k] 47) = w1 at *
  have hne : ((w.heap.size : Nat) == g) = false := by rw [beq_eq_false_iff_ne]; omega
  have hne2 : w.heap.size ≠ g := by omega
  generalize w.heap.size = B at *
  have G0 : w.grownBy w1 (some g) := grown_mono HG.out
  have M0 := HM.out
  obtain ⟨x0, x1, x2, x3⟩ := HX.out
  clear HG HM HX
  have c0 := M0.a
  have c1 := M0.x
  have f0 := M0.free (0)
  have M1 := M0.setA v
  have G1 := grown_setCell G0 ⟨g, 0, none⟩ (.int .u32 ((v : Nat) : Int)) (.inl rfl)
  clear M0 G0
  go_wp2
  go_ret
  exact ⟨rfl, M1, G1⟩

set_option maxHeartbeats 1000000 in
theorem step_96 (b : Option Addr) (cb : Nat) (pk : List UInt8) (g base : Nat) (M : Mc) (t f k : Nat) (w : World) (hm : MAt w 59 base g M) (hk : k ≤ 4294967295) (hM : M.ok) :
    Calls Try.prog 27 #[.pointer (some ⟨g, 0, none⟩), .agg #[.int .u16 96, .int .u8 t, .int .u8 f, .int .u32 k], .slice b pk.length cb] w fun e w' => StepPost w 59 base g ⟨M.m.getD (k % 16) 0, M.x, M.m⟩ 0 e w' := by
  have HG : Hid (w.grownBy (w.alloc (.cells #[.int .u16 96, .int .u8 t, .int .u8 f, .int .u32 k] 47)) none) := World.grownBy_alloc _ _ _
  have HM : Hid (MAt (w.alloc (.cells #[.int .u16 96, .int .u8 t, .int .u8 f, .int .u32 k] 47)) 59 base g M) := hm.kept (row := none) (World.grownBy_alloc _ _ _) (by simp)
  have HX : Hid (Bx (w.alloc (.cells #[.int .u16 96, .int .u8 t, .int .u8 f, .int .u32 k] 47)) w.heap.size 96 t f k) := bx_alloc w 47 96 t f k
  have hlt := hm.lt.2
  have _hk : k ≤ 4294967295 := hk
  clear hm
  have hb0 : k % 16 < 16 := by omega
  have ha := vand15 k hk
  generalize k % 16 = q at *
  have hb1 : (0 : Int) ≤ (q : Int) := by omega
  have hb2 : (q : Int) < 16 := by omega
  have cmH : Hid (∀ W : World, MAt W 59 base g M → W.cell? ⟨g, 2 + q, none⟩ = some (.int .u32 (M.m.getD q 0 : Int))) := fun W h => h.m hM.2.2.1 q hb0
  generalize M.m.getD q 0 = v at *
  go_enter Try.func27, Try.ntmps27
  go_upto_region 2 with fail
  generalize w.alloc (.cells #[.int .u16 96, .int .u8 t, .int .u8 f, .int .u32 k] 47) = w1 at *
  have hne : ((w.heap.size : Nat) == g) = false := by rw [beq_eq_false_iff_ne]; omega
  have hne2 : w.heap.size ≠ g := by omega
  generalize w.heap.size = B at *
  have G0 : w.grownBy w1 (some g) := grown_mono HG.out
  have M0 := HM.out
  obtain ⟨x0, x1, x2, x3⟩ := HX.out
  clear HG HM HX
  have c0 := M0.a
  have c1 := M0.x
  have cm := cmH.out _ M0
  have f0 := M0.free (0)
  have M1 := M0.setA v
  have G1 := grown_setCell G0 ⟨g, 0, none⟩ (.int .u32 (v : Int)) (.inl rfl)
  clear M0 G0 cmH
  go_wp2
  go_region
  go_wp2
  go_ret
  exact ⟨rfl, M1.kept (row := none) (grown_drewN _ 1 none) (by simp), grown_trans G1 (grown_drewN _ 1 _)⟩

set_option maxHeartbeats 1000000 in
theorem step_97 (b : Option Addr) (cb : Nat) (pk : List UInt8) (g base : Nat) (M : Mc) (t f k : Nat) (w : World) (hm : MAt w 59 base g M) (hk : k ≤ 4294967295) (hM : M.ok) :
    Calls Try.prog 27 #[.pointer (some ⟨g, 0, none⟩), .agg #[.int .u16 97, .int .u8 t, .int .u8 f, .int .u32 k], .slice b pk.length cb] w fun e w' => StepPost w 59 base g ⟨M.a, M.m.getD (k % 16) 0, M.m⟩ 0 e w' := by
  have HG : Hid (w.grownBy (w.alloc (.cells #[.int .u16 97, .int .u8 t, .int .u8 f, .int .u32 k] 47)) none) := World.grownBy_alloc _ _ _
  have HM : Hid (MAt (w.alloc (.cells #[.int .u16 97, .int .u8 t, .int .u8 f, .int .u32 k] 47)) 59 base g M) := hm.kept (row := none) (World.grownBy_alloc _ _ _) (by simp)
  have HX : Hid (Bx (w.alloc (.cells #[.int .u16 97, .int .u8 t, .int .u8 f, .int .u32 k] 47)) w.heap.size 97 t f k) := bx_alloc w 47 97 t f k
  have hlt := hm.lt.2
  have _hk : k ≤ 4294967295 := hk
  clear hm
  have hb0 : k % 16 < 16 := by omega
  have ha := vand15 k hk
  generalize k % 16 = q at *
  have hb1 : (0 : Int) ≤ (q : Int) := by omega
  have hb2 : (q : Int) < 16 := by omega
  have cmH : Hid (∀ W : World, MAt W 59 base g M → W.cell? ⟨g, 2 + q, none⟩ = some (.int .u32 (M.m.getD q 0 : Int))) := fun W h => h.m hM.2.2.1 q hb0
  generalize M.m.getD q 0 = v at *
  go_enter Try.func27, Try.ntmps27
  go_upto_region 2 with fail
  generalize w.alloc (.cells #[.int .u16 97, .int .u8 t, .int .u8 f, .int .u32 k] 47) = w1 at *
  have hne : ((w.heap.size : Nat) == g) = false := by rw [beq_eq_false_iff_ne]; omega
  have hne2 : w.heap.size ≠ g := by omega
  generalize w.heap.size = B at *
  have G0 : w.grownBy w1 (some g) := grown_mono HG.out
  have M0 := HM.out
  obtain ⟨x0, x1, x2, x3⟩ := HX.out
  clear HG HM HX
  have c0 := M0.a
  have c1 := M0.x
  have cm := cmH.out _ M0
  have f0 := M0.free (1)
  have M1 := M0.setX v
  have G1 := grown_setCell G0 ⟨g, 1, none⟩ (.int .u32 (v : Int)) (.inl rfl)
  clear M0 G0 cmH
  go_wp2
  go_region
  go_wp2
  go_ret
  exact ⟨rfl, M1.kept (row := none) (grown_drewN _ 1 none) (by simp), grown_trans G1 (grown_drewN _ 1 _)⟩

set_option maxHeartbeats 1000000 in
theorem step_2 (b : Option Addr) (cb : Nat) (pk : List UInt8) (g base : Nat) (M : Mc) (t f k : Nat) (w : World) (hm : MAt w 59 base g M) (hk : k ≤ 4294967295) (hM : M.ok) :
    Calls Try.prog 27 #[.pointer (some ⟨g, 0, none⟩), .agg #[.int .u16 2, .int .u8 t, .int .u8 f, .int .u32 k], .slice b pk.length cb] w fun e w' => StepPost w 59 base g ⟨M.a, M.x, M.m.set (k % 16) M.a⟩ 0 e w' := by
  have HG : Hid (w.grownBy (w.alloc (.cells #[.int .u16 2, .int .u8 t, .int .u8 f, .int .u32 k] 47)) none) := World.grownBy_alloc _ _ _
  have HM : Hid (MAt (w.alloc (.cells #[.int .u16 2, .int .u8 t, .int .u8 f, .int .u32 k] 47)) 59 base g M) := hm.kept (row := none) (World.grownBy_alloc _ _ _) (by simp)
  have HX : Hid (Bx (w.alloc (.cells #[.int .u16 2, .int .u8 t, .int .u8 f, .int .u32 k] 47)) w.heap.size 2 t f k) := bx_alloc w 47 2 t f k
  have hlt := hm.lt.2
  have _hk : k ≤ 4294967295 := hk
  clear hm
  have hb0 : k % 16 < 16 := by omega
  have ha := vand15 k hk
  generalize k % 16 = q at *
  have hb1 : (0 : Int) ≤ (q : Int) := by omega
  have hb2 : (q : Int) < 16 := by omega
  have cmH : Hid (∀ W : World, MAt W 59 base g M → W.cell? ⟨g, 2 + q, none⟩ = some (.int .u32 (M.m.getD q 0 : Int))) := fun W h => h.m hM.2.2.1 q hb0
  generalize M.m.getD q 0 = v at *
  go_enter Try.func27, Try.ntmps27
  go_upto_region 2 with fail
  generalize w.alloc (.cells #[.int .u16 2, .int .u8 t, .int .u8 f, .int .u32 k] 47) = w1 at *
  have hne : ((w.heap.size : Nat) == g) = false := by rw [beq_eq_false_iff_ne]; omega
  have hne2 : w.heap.size ≠ g := by omega
  generalize w.heap.size = B at *
  have G0 : w.grownBy w1 (some g) := grown_mono HG.out
  have M0 := HM.out
  obtain ⟨x0, x1, x2, x3⟩ := HX.out
  clear HG HM HX
  have c0 := M0.a
  have c1 := M0.x
  have cm := cmH.out _ M0
  have f0 := M0.free (2 + q)
  have M1 := M0.setM q M.a
  have G1 := grown_setCell G0 ⟨g, 2 + q, none⟩ (.int .u32 (M.a : Int)) (.inl rfl)
  clear M0 G0 cmH
  go_wp2
  go_region
  go_wp2
  go_ret
  exact ⟨rfl, M1.kept (row := none) (grown_drewN _ 1 none) (by simp), grown_trans G1 (grown_drewN _ 1 _)⟩

set_option maxHeartbeats 1000000 in
theorem step_3 (b : Option Addr) (cb : Nat) (pk : List UInt8) (g base : Nat) (M : Mc) (t f k : Nat) (w : World) (hm : MAt w 59 base g M) (hk : k ≤ 4294967295) (hM : M.ok) :
    Calls Try.prog 27 #[.pointer (some ⟨g, 0, none⟩), .agg #[.int .u16 3, .int .u8 t, .int .u8 f, .int .u32 k], .slice b pk.length cb] w fun e w' => StepPost w 59 base g ⟨M.a, M.x, M.m.set (k % 16) M.x⟩ 0 e w' := by
  have HG : Hid (w.grownBy (w.alloc (.cells #[.int .u16 3, .int .u8 t, .int .u8 f, .int .u32 k] 47)) none) := World.grownBy_alloc _ _ _
  have HM : Hid (MAt (w.alloc (.cells #[.int .u16 3, .int .u8 t, .int .u8 f, .int .u32 k] 47)) 59 base g M) := hm.kept (row := none) (World.grownBy_alloc _ _ _) (by simp)
  have HX : Hid (Bx (w.alloc (.cells #[.int .u16 3, .int .u8 t, .int .u8 f, .int .u32 k] 47)) w.heap.size 3 t f k) := bx_alloc w 47 3 t f k
  have hlt := hm.lt.2
  have _hk : k ≤ 4294967295 := hk
  clear hm
  have hb0 : k % 16 < 16 := by omega
  have ha := vand15 k hk
  generalize k % 16 = q at *
  have hb1 : (0 : Int) ≤ (q : Int) := by omega
  have hb2 : (q : Int) < 16 := by omega
  have cmH : Hid (∀ W : World, MAt W 59 base g M → W.cell? ⟨g, 2 + q, none⟩ = some (.int .u32 (M.m.getD q 0 : Int))) := fun W h => h.m hM.2.2.1 q hb0
  generalize M.m.getD q 0 = v at *
  go_enter Try.func27, Try.ntmps27
  go_upto_region 2 with fail
  generalize w.alloc (.cells #[.int .u16 3, .int .u8 t, .int .u8 f, .int .u32 k] 47) = w1 at *
  have hne : ((w.heap.size : Nat) == g) = false := by rw [beq_eq_false_iff_ne]; omega
  have hne2 : w.heap.size ≠ g := by omega
  generalize w.heap.size = B at *
  have G0 : w.grownBy w1 (some g) := grown_mono HG.out
  have M0 := HM.out
  obtain ⟨x0, x1, x2, x3⟩ := HX.out
  clear HG HM HX
  have c0 := M0.a
  have c1 := M0.x
  have cm := cmH.out _ M0
  have f0 := M0.free (2 + q)
  have M1 := M0.setM q M.x
  have G1 := grown_setCell G0 ⟨g, 2 + q, none⟩ (.int .u32 (M.x : Int)) (.inl rfl)
  clear M0 G0 cmH
  go_wp2
  go_region
  go_wp2
  go_ret
  exact ⟨rfl, M1.kept (row := none) (grown_drewN _ 1 none) (by simp), grown_trans G1 (grown_drewN _ 1 _)⟩

end Go.Proofs.Ytaldhnionkacmaa
