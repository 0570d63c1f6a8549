/-
  The document's own Step: loads.
-/
import Derived.Test.YtencoknpocipbaaGreatLotP25
import Derived.Deep.RegionWith
namespace Go.Proofs.YtencoknpocipbaaGreat
open Go.RowKit
set_option maxRecDepth 100000

set_option maxHeartbeats 1000000 in
theorem step_32 (b : Option Addr) (cb : Nat) (pk : List UInt8) (g base : Nat) (M : Mc) (t f k : Nat) (w : World) (hm : MAt w 90 base g M) (hk : k ≤ 4294967295) (hC : Cells w b pk) (hp : pk.length ≤ 65536) :
    Calls Tryz.prog 34 #[.pointer (some ⟨g, 0, none⟩), .agg #[.int .u16 32, .int .u8 t, .int .u8 f, .int .u32 k], .slice b pk.length cb] w fun e w' => StepPost w 90 base g ⟨(readAtV pk k (sizeV 32)).1, M.x, M.m⟩ (readAtV pk k (sizeV 32)).2 e w' := by
  have HG : Hid (w.grownBy (w.alloc (.cells #[.int .u16 32, .int .u8 t, .int .u8 f, .int .u32 k] 54)) none) := World.grownBy_alloc _ _ _
  have HM : Hid (MAt (w.alloc (.cells #[.int .u16 32, .int .u8 t, .int .u8 f, .int .u32 k] 54)) 90 base g M) := hm.kept (row := none) (World.grownBy_alloc _ _ _) (by simp)
  have HX : Hid (Bx (w.alloc (.cells #[.int .u16 32, .int .u8 t, .int .u8 f, .int .u32 k] 54)) w.heap.size 32 t f k) := bx_alloc w 54 32 t f k
  have hlt := hm.lt.2
  have _hk : k ≤ 4294967295 := hk
  clear hm
  obtain ⟨v, fl, hr⟩ : ∃ v fl, readAtV pk (k) (sizeV 32) = (v, fl) := ⟨_, _, rfl⟩
  have HR : Hid (∀ (W : World), Cells W b pk → Calls Tryz.prog 50 #[.slice b pk.length cb, .int .u64 ((k : Nat) : Int), .int .i64 ((sizeV 32 : Nat) : Int)] W fun e w' => e = .returned (.tuple #[.int .u32 (v : Int), .int .i64 fl]) ∧ W = w') := fun W h => by
    have := read_at b cb pk (k) (sizeV 32) W h (by omega) (by omega)
    rw [hr] at this
    exact this
  have hw : IntKind.u64.wrap (k : Int) = (k : Int) := by rw [IntKind.wrap_u64]; omega
  have HC : Hid (Cells (w.alloc (.cells #[.int .u16 32, .int .u8 t, .int .u8 f, .int .u32 k] 54)) b pk) := hC.keptNone (World.grownBy_alloc _ _ _)
  rw [hr]
  clear hr hC
  go_enter Tryz.func34, Tryz.ntmps34
  go_upto_region 2 with fail
  generalize w.alloc (.cells #[.int .u16 32, .int .u8 t, .int .u8 f, .int .u32 k] 54) = w1 at *
  have hne : ((w.heap.size : Nat) == g) = false := by rw [beq_eq_false_iff_ne]; omega
  have hne2 : w.heap.size ≠ g := by omega
  generalize w.heap.size = B at *
  have G0 : w.grownBy w1 (some g) := grown_mono HG.out
  have M0 := HM.out
  obtain ⟨x0, x1, x2, x3⟩ := HX.out
  clear HG HM HX
  have c0 := M0.a
  have c1 := M0.x
  have f0 := M0.free 0
  have M1 := M0.setA v
  have G1 := grown_setCell G0 ⟨g, 0, none⟩ (.int .u32 (v : Int)) (.inl rfl)
  have GS : w1.grownBy (w1.setCell ⟨g, 0, none⟩ (.int .u32 (v : Int))) (some g) := grown_setCell (World.grownBy.refl _ _) _ _ (.inl rfl)
  have k0 : (w1.setCell ⟨g, 0, none⟩ (.int .u32 (v : Int))).cell? ⟨B, 0, none⟩ = some (.int .u16 32) := GS.cell x0 (by simp only [ne_eq, Option.some.injEq]; exact hne2)
  have k3 : (w1.setCell ⟨g, 0, none⟩ (.int .u32 (v : Int))).cell? ⟨B, 3, none⟩ = some (.int .u32 (k : Int)) := GS.cell x3 (by simp only [ne_eq, Option.some.injEq]; exact hne2)
  have k1 := M1.x
  have HK : Hid ((w1.setCell ⟨g, 0, none⟩ (.int .u32 (v : Int))).cell? ⟨B, 0, none⟩ = some (.int .u16 32) ∧ (w1.setCell ⟨g, 0, none⟩ (.int .u32 (v : Int))).cell? ⟨B, 3, none⟩ = some (.int .u32 (k : Int)) ∧ (w1.setCell ⟨g, 0, none⟩ (.int .u32 (v : Int))).cell? ⟨g, 1, none⟩ = some (.int .u32 (M.x : Int))) := ⟨k0, k3, k1⟩
  clear M0 G0 GS k0 k3 k1
  go_wp2
  go_region_held3 (fun W => W.cell? ⟨B, 0, none⟩ = some (.int .u16 32) ∧ W.cell? ⟨B, 3, none⟩ = some (.int .u32 (k : Int)) ∧ W.cell? ⟨g, 1, none⟩ = some (.int .u32 (M.x : Int))) (first | exact HK.out | go_keep) (first | (go_at_call 51; refine (size_any _ _).mono ?_; rintro e w' ⟨rfl, rfl⟩) | (go_at_call 50; refine (HR.out _ (by exact HC.out)).mono ?_; rintro e w' ⟨rfl, rfl⟩))
  all_goals
    go_wp2
    go_ret
    exact ⟨rfl, M1, grown_trans G1 (grown_drewN _ 1 _)⟩

set_option maxHeartbeats 1000000 in
theorem step_40 (b : Option Addr) (cb : Nat) (pk : List UInt8) (g base : Nat) (M : Mc) (t f k : Nat) (w : World) (hm : MAt w 90 base g M) (hk : k ≤ 4294967295) (hC : Cells w b pk) (hp : pk.length ≤ 65536) :
    Calls Tryz.prog 34 #[.pointer (some ⟨g, 0, none⟩), .agg #[.int .u16 40, .int .u8 t, .int .u8 f, .int .u32 k], .slice b pk.length cb] w fun e w' => StepPost w 90 base g ⟨(readAtV pk k (sizeV 40)).1, M.x, M.m⟩ (readAtV pk k (sizeV 40)).2 e w' := by
  have HG : Hid (w.grownBy (w.alloc (.cells #[.int .u16 40, .int .u8 t, .int .u8 f, .int .u32 k] 54)) none) := World.grownBy_alloc _ _ _
  have HM : Hid (MAt (w.alloc (.cells #[.int .u16 40, .int .u8 t, .int .u8 f, .int .u32 k] 54)) 90 base g M) := hm.kept (row := none) (World.grownBy_alloc _ _ _) (by simp)
  have HX : Hid (Bx (w.alloc (.cells #[.int .u16 40, .int .u8 t, .int .u8 f, .int .u32 k] 54)) w.heap.size 40 t f k) := bx_alloc w 54 40 t f k
  have hlt := hm.lt.2
  have _hk : k ≤ 4294967295 := hk
  clear hm
  obtain ⟨v, fl, hr⟩ : ∃ v fl, readAtV pk (k) (sizeV 40) = (v, fl) := ⟨_, _, rfl⟩
  have HR : Hid (∀ (W : World), Cells W b pk → Calls Tryz.prog 50 #[.slice b pk.length cb, .int .u64 ((k : Nat) : Int), .int .i64 ((sizeV 40 : Nat) : Int)] W fun e w' => e = .returned (.tuple #[.int .u32 (v : Int), .int .i64 fl]) ∧ W = w') := fun W h => by
    have := read_at b cb pk (k) (sizeV 40) W h (by omega) (by omega)
    rw [hr] at this
    exact this
  have hw : IntKind.u64.wrap (k : Int) = (k : Int) := by rw [IntKind.wrap_u64]; omega
  have HC : Hid (Cells (w.alloc (.cells #[.int .u16 40, .int .u8 t, .int .u8 f, .int .u32 k] 54)) b pk) := hC.keptNone (World.grownBy_alloc _ _ _)
  rw [hr]
  clear hr hC
  go_enter Tryz.func34, Tryz.ntmps34
  go_upto_region 2 with fail
  generalize w.alloc (.cells #[.int .u16 40, .int .u8 t, .int .u8 f, .int .u32 k] 54) = w1 at *
  have hne : ((w.heap.size : Nat) == g) = false := by rw [beq_eq_false_iff_ne]; omega
  have hne2 : w.heap.size ≠ g := by omega
  generalize w.heap.size = B at *
  have G0 : w.grownBy w1 (some g) := grown_mono HG.out
  have M0 := HM.out
  obtain ⟨x0, x1, x2, x3⟩ := HX.out
  clear HG HM HX
  have c0 := M0.a
  have c1 := M0.x
  have f0 := M0.free 0
  have M1 := M0.setA v
  have G1 := grown_setCell G0 ⟨g, 0, none⟩ (.int .u32 (v : Int)) (.inl rfl)
  have GS : w1.grownBy (w1.setCell ⟨g, 0, none⟩ (.int .u32 (v : Int))) (some g) := grown_setCell (World.grownBy.refl _ _) _ _ (.inl rfl)
  have k0 : (w1.setCell ⟨g, 0, none⟩ (.int .u32 (v : Int))).cell? ⟨B, 0, none⟩ = some (.int .u16 40) := GS.cell x0 (by simp only [ne_eq, Option.some.injEq]; exact hne2)
  have k3 : (w1.setCell ⟨g, 0, none⟩ (.int .u32 (v : Int))).cell? ⟨B, 3, none⟩ = some (.int .u32 (k : Int)) := GS.cell x3 (by simp only [ne_eq, Option.some.injEq]; exact hne2)
  have k1 := M1.x
  have HK : Hid ((w1.setCell ⟨g, 0, none⟩ (.int .u32 (v : Int))).cell? ⟨B, 0, none⟩ = some (.int .u16 40) ∧ (w1.setCell ⟨g, 0, none⟩ (.int .u32 (v : Int))).cell? ⟨B, 3, none⟩ = some (.int .u32 (k : Int)) ∧ (w1.setCell ⟨g, 0, none⟩ (.int .u32 (v : Int))).cell? ⟨g, 1, none⟩ = some (.int .u32 (M.x : Int))) := ⟨k0, k3, k1⟩
  clear M0 G0 GS k0 k3 k1
  go_wp2
  go_region_held3 (fun W => W.cell? ⟨B, 0, none⟩ = some (.int .u16 40) ∧ W.cell? ⟨B, 3, none⟩ = some (.int .u32 (k : Int)) ∧ W.cell? ⟨g, 1, none⟩ = some (.int .u32 (M.x : Int))) (first | exact HK.out | go_keep) (first | (go_at_call 51; refine (size_any _ _).mono ?_; rintro e w' ⟨rfl, rfl⟩) | (go_at_call 50; refine (HR.out _ (by exact HC.out)).mono ?_; rintro e w' ⟨rfl, rfl⟩))
  all_goals
    go_wp2
    go_ret
    exact ⟨rfl, M1, grown_trans G1 (grown_drewN _ 1 _)⟩

set_option maxHeartbeats 1000000 in
theorem step_48 (b : Option Addr) (cb : Nat) (pk : List UInt8) (g base : Nat) (M : Mc) (t f k : Nat) (w : World) (hm : MAt w 90 base g M) (hk : k ≤ 4294967295) (hC : Cells w b pk) (hp : pk.length ≤ 65536) :
    Calls Tryz.prog 34 #[.pointer (some ⟨g, 0, none⟩), .agg #[.int .u16 48, .int .u8 t, .int .u8 f, .int .u32 k], .slice b pk.length cb] w fun e w' => StepPost w 90 base g ⟨(readAtV pk k (sizeV 48)).1, M.x, M.m⟩ (readAtV pk k (sizeV 48)).2 e w' := by
  have HG : Hid (w.grownBy (w.alloc (.cells #[.int .u16 48, .int .u8 t, .int .u8 f, .int .u32 k] 54)) none) := World.grownBy_alloc _ _ _
  have HM : Hid (MAt (w.alloc (.cells #[.int .u16 48, .int .u8 t, .int .u8 f, .int .u32 k] 54)) 90 base g M) := hm.kept (row := none) (World.grownBy_alloc _ _ _) (by simp)
  have HX : Hid (Bx (w.alloc (.cells #[.int .u16 48, .int .u8 t, .int .u8 f, .int .u32 k] 54)) w.heap.size 48 t f k) := bx_alloc w 54 48 t f k
  have hlt := hm.lt.2
  have _hk : k ≤ 4294967295 := hk
  clear hm
  obtain ⟨v, fl, hr⟩ : ∃ v fl, readAtV pk (k) (sizeV 48) = (v, fl) := ⟨_, _, rfl⟩
  have HR : Hid (∀ (W : World), Cells W b pk → Calls Tryz.prog 50 #[.slice b pk.length cb, .int .u64 ((k : Nat) : Int), .int .i64 ((sizeV 48 : Nat) : Int)] W fun e w' => e = .returned (.tuple #[.int .u32 (v : Int), .int .i64 fl]) ∧ W = w') := fun W h => by
    have := read_at b cb pk (k) (sizeV 48) W h (by omega) (by omega)
    rw [hr] at this
    exact this
  have hw : IntKind.u64.wrap (k : Int) = (k : Int) := by rw [IntKind.wrap_u64]; omega
  have HC : Hid (Cells (w.alloc (.cells #[.int .u16 48, .int .u8 t, .int .u8 f, .int .u32 k] 54)) b pk) := hC.keptNone (World.grownBy_alloc _ _ _)
  rw [hr]
  clear hr hC
  go_enter Tryz.func34, Tryz.ntmps34
  go_upto_region 2 with fail
  generalize w.alloc (.cells #[.int .u16 48, .int .u8 t, .int .u8 f, .int .u32 k] 54) = w1 at *
  have hne : ((w.heap.size : Nat) == g) = false := by rw [beq_eq_false_iff_ne]; omega
  have hne2 : w.heap.size ≠ g := by omega
  generalize w.heap.size = B at *
  have G0 : w.grownBy w1 (some g) := grown_mono HG.out
  have M0 := HM.out
  obtain ⟨x0, x1, x2, x3⟩ := HX.out
  clear HG HM HX
  have c0 := M0.a
  have c1 := M0.x
  have f0 := M0.free 0
  have M1 := M0.setA v
  have G1 := grown_setCell G0 ⟨g, 0, none⟩ (.int .u32 (v : Int)) (.inl rfl)
  have GS : w1.grownBy (w1.setCell ⟨g, 0, none⟩ (.int .u32 (v : Int))) (some g) := grown_setCell (World.grownBy.refl _ _) _ _ (.inl rfl)
  have k0 : (w1.setCell ⟨g, 0, none⟩ (.int .u32 (v : Int))).cell? ⟨B, 0, none⟩ = some (.int .u16 48) := GS.cell x0 (by simp only [ne_eq, Option.some.injEq]; exact hne2)
  have k3 : (w1.setCell ⟨g, 0, none⟩ (.int .u32 (v : Int))).cell? ⟨B, 3, none⟩ = some (.int .u32 (k : Int)) := GS.cell x3 (by simp only [ne_eq, Option.some.injEq]; exact hne2)
  have k1 := M1.x
  have HK : Hid ((w1.setCell ⟨g, 0, none⟩ (.int .u32 (v : Int))).cell? ⟨B, 0, none⟩ = some (.int .u16 48) ∧ (w1.setCell ⟨g, 0, none⟩ (.int .u32 (v : Int))).cell? ⟨B, 3, none⟩ = some (.int .u32 (k : Int)) ∧ (w1.setCell ⟨g, 0, none⟩ (.int .u32 (v : Int))).cell? ⟨g, 1, none⟩ = some (.int .u32 (M.x : Int))) := ⟨k0, k3, k1⟩
  clear M0 G0 GS k0 k3 k1
  go_wp2
  go_region_held3 (fun W => W.cell? ⟨B, 0, none⟩ = some (.int .u16 48) ∧ W.cell? ⟨B, 3, none⟩ = some (.int .u32 (k : Int)) ∧ W.cell? ⟨g, 1, none⟩ = some (.int .u32 (M.x : Int))) (first | exact HK.out | go_keep) (first | (go_at_call 51; refine (size_any _ _).mono ?_; rintro e w' ⟨rfl, rfl⟩) | (go_at_call 50; refine (HR.out _ (by exact HC.out)).mono ?_; rintro e w' ⟨rfl, rfl⟩))
  all_goals
    go_wp2
    go_ret
    exact ⟨rfl, M1, grown_trans G1 (grown_drewN _ 1 _)⟩

set_option maxHeartbeats 1000000 in
theorem step_64 (b : Option Addr) (cb : Nat) (pk : List UInt8) (g base : Nat) (M : Mc) (t f k : Nat) (w : World) (hm : MAt w 90 base g M) (hk : k ≤ 4294967295) (hC : Cells w b pk) (hp : pk.length ≤ 65536) (hM : M.ok) :
    Calls Tryz.prog 34 #[.pointer (some ⟨g, 0, none⟩), .agg #[.int .u16 64, .int .u8 t, .int .u8 f, .int .u32 k], .slice b pk.length cb] w fun e w' => StepPost w 90 base g ⟨(readAtV pk (k + M.x) (sizeV 64)).1, M.x, M.m⟩ (readAtV pk (k + M.x) (sizeV 64)).2 e w' := by
  have HG : Hid (w.grownBy (w.alloc (.cells #[.int .u16 64, .int .u8 t, .int .u8 f, .int .u32 k] 54)) none) := World.grownBy_alloc _ _ _
  have HM : Hid (MAt (w.alloc (.cells #[.int .u16 64, .int .u8 t, .int .u8 f, .int .u32 k] 54)) 90 base g M) := hm.kept (row := none) (World.grownBy_alloc _ _ _) (by simp)
  have HX : Hid (Bx (w.alloc (.cells #[.int .u16 64, .int .u8 t, .int .u8 f, .int .u32 k] 54)) w.heap.size 64 t f k) := bx_alloc w 54 64 t f k
  have hlt := hm.lt.2
  have _hk : k ≤ 4294967295 := hk
  clear hm
  have hx := hM.2.1
  obtain ⟨v, fl, hr⟩ : ∃ v fl, readAtV pk (k + M.x) (sizeV 64) = (v, fl) := ⟨_, _, rfl⟩
  have HR : Hid (∀ (W : World), Cells W b pk → Calls Tryz.prog 50 #[.slice b pk.length cb, .int .u64 ((k : Int) + (M.x : Int)), .int .i64 ((sizeV 64 : Nat) : Int)] W fun e w' => e = .returned (.tuple #[.int .u32 (v : Int), .int .i64 fl]) ∧ W = w') := fun W h => by
    have := read_at b cb pk (k + M.x) (sizeV 64) W h (by omega) (by omega)
    rw [hr, Int.natCast_add] at this
    exact this
  have hw : IntKind.u64.wrap (k : Int) = (k : Int) := by rw [IntKind.wrap_u64]; omega
  have hw2 : IntKind.u64.wrap (M.x : Int) = (M.x : Int) := by rw [IntKind.wrap_u64]; omega
  have hw3 : IntKind.u64.wrap ((k : Int) + (M.x : Int)) = (k : Int) + (M.x : Int) := by rw [IntKind.wrap_u64]; omega
  have HC : Hid (Cells (w.alloc (.cells #[.int .u16 64, .int .u8 t, .int .u8 f, .int .u32 k] 54)) b pk) := hC.keptNone (World.grownBy_alloc _ _ _)
  rw [hr]
  clear hr hC
  go_enter Tryz.func34, Tryz.ntmps34
  go_upto_region 2 with fail
  generalize w.alloc (.cells #[.int .u16 64, .int .u8 t, .int .u8 f, .int .u32 k] 54) = w1 at *
  have hne : ((w.heap.size : Nat) == g) = false := by rw [beq_eq_false_iff_ne]; omega
  have hne2 : w.heap.size ≠ g := by omega
  generalize w.heap.size = B at *
  have G0 : w.grownBy w1 (some g) := grown_mono HG.out
  have M0 := HM.out
  obtain ⟨x0, x1, x2, x3⟩ := HX.out
  clear HG HM HX
  have c0 := M0.a
  have c1 := M0.x
  have f0 := M0.free 0
  have M1 := M0.setA v
  have G1 := grown_setCell G0 ⟨g, 0, none⟩ (.int .u32 (v : Int)) (.inl rfl)
  have GS : w1.grownBy (w1.setCell ⟨g, 0, none⟩ (.int .u32 (v : Int))) (some g) := grown_setCell (World.grownBy.refl _ _) _ _ (.inl rfl)
  have k0 : (w1.setCell ⟨g, 0, none⟩ (.int .u32 (v : Int))).cell? ⟨B, 0, none⟩ = some (.int .u16 64) := GS.cell x0 (by simp only [ne_eq, Option.some.injEq]; exact hne2)
  have k3 : (w1.setCell ⟨g, 0, none⟩ (.int .u32 (v : Int))).cell? ⟨B, 3, none⟩ = some (.int .u32 (k : Int)) := GS.cell x3 (by simp only [ne_eq, Option.some.injEq]; exact hne2)
  have k1 := M1.x
  have HK : Hid ((w1.setCell ⟨g, 0, none⟩ (.int .u32 (v : Int))).cell? ⟨B, 0, none⟩ = some (.int .u16 64) ∧ (w1.setCell ⟨g, 0, none⟩ (.int .u32 (v : Int))).cell? ⟨B, 3, none⟩ = some (.int .u32 (k : Int)) ∧ (w1.setCell ⟨g, 0, none⟩ (.int .u32 (v : Int))).cell? ⟨g, 1, none⟩ = some (.int .u32 (M.x : Int))) := ⟨k0, k3, k1⟩
  clear M0 G0 GS k0 k3 k1
  go_wp2
  go_region_held3 (fun W => W.cell? ⟨B, 0, none⟩ = some (.int .u16 64) ∧ W.cell? ⟨B, 3, none⟩ = some (.int .u32 (k : Int)) ∧ W.cell? ⟨g, 1, none⟩ = some (.int .u32 (M.x : Int))) (first | exact HK.out | go_keep) (first | (go_at_call 51; refine (size_any _ _).mono ?_; rintro e w' ⟨rfl, rfl⟩) | (go_at_call 50; refine (HR.out _ (by exact HC.out)).mono ?_; rintro e w' ⟨rfl, rfl⟩))
  all_goals
    go_wp2
    go_ret
    exact ⟨rfl, M1, grown_trans G1 (grown_drewN _ 1 _)⟩

set_option maxHeartbeats 1000000 in
theorem step_72 (b : Option Addr) (cb : Nat) (pk : List UInt8) (g base : Nat) (M : Mc) (t f k : Nat) (w : World) (hm : MAt w 90 base g M) (hk : k ≤ 4294967295) (hC : Cells w b pk) (hp : pk.length ≤ 65536) (hM : M.ok) :
    Calls Tryz.prog 34 #[.pointer (some ⟨g, 0, none⟩), .agg #[.int .u16 72, .int .u8 t, .int .u8 f, .int .u32 k], .slice b pk.length cb] w fun e w' => StepPost w 90 base g ⟨(readAtV pk (k + M.x) (sizeV 72)).1, M.x, M.m⟩ (readAtV pk (k + M.x) (sizeV 72)).2 e w' := by
  have HG : Hid (w.grownBy (w.alloc (.cells #[.int .u16 72, .int .u8 t, .int .u8 f, .int .u32 k] 54)) none) := World.grownBy_alloc _ _ _
  have HM : Hid (MAt (w.alloc (.cells #[.int .u16 72, .int .u8 t, .int .u8 f, .int .u32 k] 54)) 90 base g M) := hm.kept (row := none) (World.grownBy_alloc _ _ _) (by simp)
  have HX : Hid (Bx (w.alloc (.cells #[.int .u16 72, .int .u8 t, .int .u8 f, .int .u32 k] 54)) w.heap.size 72 t f k) := bx_alloc w 54 72 t f k
  have hlt := hm.lt.2
  have _hk : k ≤ 4294967295 := hk
  clear hm
  have hx := hM.2.1
  obtain ⟨v, fl, hr⟩ : ∃ v fl, readAtV pk (k + M.x) (sizeV 72) = (v, fl) := ⟨_, _, rfl⟩
  have HR : Hid (∀ (W : World), Cells W b pk → Calls Tryz.prog 50 #[.slice b pk.length cb, .int .u64 ((k : Int) + (M.x : Int)), .int .i64 ((sizeV 72 : Nat) : Int)] W fun e w' => e = .returned (.tuple #[.int .u32 (v : Int), .int .i64 fl]) ∧ W = w') := fun W h => by
    have := read_at b cb pk (k + M.x) (sizeV 72) W h (by omega) (by omega)
    rw [hr, Int.natCast_add] at this
    exact this
  have hw : IntKind.u64.wrap (k : Int) = (k : Int) := by rw [IntKind.wrap_u64]; omega
  have hw2 : IntKind.u64.wrap (M.x : Int) = (M.x : Int) := by rw [IntKind.wrap_u64]; omega
  have hw3 : IntKind.u64.wrap ((k : Int) + (M.x : Int)) = (k : Int) + (M.x : Int) := by rw [IntKind.wrap_u64]; omega
  have HC : Hid (Cells (w.alloc (.cells #[.int .u16 72, .int .u8 t, .int .u8 f, .int .u32 k] 54)) b pk) := hC.keptNone (World.grownBy_alloc _ _ _)
  rw [hr]
  clear hr hC
  go_enter Tryz.func34, Tryz.ntmps34
  go_upto_region 2 with fail
  generalize w.alloc (.cells #[.int .u16 72, .int .u8 t, .int .u8 f, .int .u32 k] 54) = w1 at *
  have hne : ((w.heap.size : Nat) == g) = false := by rw [beq_eq_false_iff_ne]; omega
  have hne2 : w.heap.size ≠ g := by omega
  generalize w.heap.size = B at *
  have G0 : w.grownBy w1 (some g) := grown_mono HG.out
  have M0 := HM.out
  obtain ⟨x0, x1, x2, x3⟩ := HX.out
  clear HG HM HX
  have c0 := M0.a
  have c1 := M0.x
  have f0 := M0.free 0
  have M1 := M0.setA v
  have G1 := grown_setCell G0 ⟨g, 0, none⟩ (.int .u32 (v : Int)) (.inl rfl)
  have GS : w1.grownBy (w1.setCell ⟨g, 0, none⟩ (.int .u32 (v : Int))) (some g) := grown_setCell (World.grownBy.refl _ _) _ _ (.inl rfl)
  have k0 : (w1.setCell ⟨g, 0, none⟩ (.int .u32 (v : Int))).cell? ⟨B, 0, none⟩ = some (.int .u16 72) := GS.cell x0 (by simp only [ne_eq, Option.some.injEq]; exact hne2)
  have k3 : (w1.setCell ⟨g, 0, none⟩ (.int .u32 (v : Int))).cell? ⟨B, 3, none⟩ = some (.int .u32 (k : Int)) := GS.cell x3 (by simp only [ne_eq, Option.some.injEq]; exact hne2)
  have k1 := M1.x
  have HK : Hid ((w1.setCell ⟨g, 0, none⟩ (.int .u32 (v : Int))).cell? ⟨B, 0, none⟩ = some (.int .u16 72) ∧ (w1.setCell ⟨g, 0, none⟩ (.int .u32 (v : Int))).cell? ⟨B, 3, none⟩ = some (.int .u32 (k : Int)) ∧ (w1.setCell ⟨g, 0, none⟩ (.int .u32 (v : Int))).cell? ⟨g, 1, none⟩ = some (.int .u32 (M.x : Int))) := ⟨k0, k3, k1⟩
  clear M0 G0 GS k0 k3 k1
  go_wp2
  go_region_held3 (fun W => W.cell? ⟨B, 0, none⟩ = some (.int .u16 72) ∧ W.cell? ⟨B, 3, none⟩ = some (.int .u32 (k : Int)) ∧ W.cell? ⟨g, 1, none⟩ = some (.int .u32 (M.x : Int))) (first | exact HK.out | go_keep) (first | (go_at_call 51; refine (size_any _ _).mono ?_; rintro e w' ⟨rfl, rfl⟩) | (go_at_call 50; refine (HR.out _ (by exact HC.out)).mono ?_; rintro e w' ⟨rfl, rfl⟩))
  all_goals
    go_wp2
    go_ret
    exact ⟨rfl, M1, grown_trans G1 (grown_drewN _ 1 _)⟩

set_option maxHeartbeats 1000000 in
theorem step_80 (b : Option Addr) (cb : Nat) (pk : List UInt8) (g base : Nat) (M : Mc) (t f k : Nat) (w : World) (hm : MAt w 90 base g M) (hk : k ≤ 4294967295) (hC : Cells w b pk) (hp : pk.length ≤ 65536) (hM : M.ok) :
    Calls Tryz.prog 34 #[.pointer (some ⟨g, 0, none⟩), .agg #[.int .u16 80, .int .u8 t, .int .u8 f, .int .u32 k], .slice b pk.length cb] w fun e w' => StepPost w 90 base g ⟨(readAtV pk (k + M.x) (sizeV 80)).1, M.x, M.m⟩ (readAtV pk (k + M.x) (sizeV 80)).2 e w' := by
  have HG : Hid (w.grownBy (w.alloc (.cells #[.int .u16 80, .int .u8 t, .int .u8 f, .int .u32 k] 54)) none) := World.grownBy_alloc _ _ _
  have HM : Hid (MAt (w.alloc (.cells #[.int .u16 80, .int .u8 t, .int .u8 f, .int .u32 k] 54)) 90 base g M) := hm.kept (row := none) (World.grownBy_alloc _ _ _) (by simp)
  have HX : Hid (Bx (w.alloc (.cells #[.int .u16 80, .int .u8 t, .int .u8 f, .int .u32 k] 54)) w.heap.size 80 t f k) := bx_alloc w 54 80 t f k
  have hlt := hm.lt.2
  have _hk : k ≤ 4294967295 := hk
  clear hm
  have hx := hM.2.1
  obtain ⟨v, fl, hr⟩ : ∃ v fl, readAtV pk (k + M.x) (sizeV 80) = (v, fl) := ⟨_, _, rfl⟩
  have HR : Hid (∀ (W : World), Cells W b pk → Calls Tryz.prog 50 #[.slice b pk.length cb, .int .u64 ((k : Int) + (M.x : Int)), .int .i64 ((sizeV 80 : Nat) : Int)] W fun e w' => e = .returned (.tuple #[.int .u32 (v : Int), .int .i64 fl]) ∧ W = w') := fun W h => by
    have := read_at b cb pk (k + M.x) (sizeV 80) W h (by omega) (by omega)
    rw [hr, Int.natCast_add] at this
    exact this
  have hw : IntKind.u64.wrap (k : Int) = (k : Int) := by rw [IntKind.wrap_u64]; omega
  have hw2 : IntKind.u64.wrap (M.x : Int) = (M.x : Int) := by rw [IntKind.wrap_u64]; omega
  have hw3 : IntKind.u64.wrap ((k : Int) + (M.x : Int)) = (k : Int) + (M.x : Int) := by rw [IntKind.wrap_u64]; omega
  have HC : Hid (Cells (w.alloc (.cells #[.int .u16 80, .int .u8 t, .int .u8 f, .int .u32 k] 54)) b pk) := hC.keptNone (World.grownBy_alloc _ _ _)
  rw [hr]
  clear hr hC
  go_enter Tryz.func34, Tryz.ntmps34
  go_upto_region 2 with fail
  generalize w.alloc (.cells #[.int .u16 80, .int .u8 t, .int .u8 f, .int .u32 k] 54) = w1 at *
  have hne : ((w.heap.size : Nat) == g) = false := by rw [beq_eq_false_iff_ne]; omega
  have hne2 : w.heap.size ≠ g := by omega
  generalize w.heap.size = B at *
  have G0 : w.grownBy w1 (some g) := grown_mono HG.out
  have M0 := HM.out
  obtain ⟨x0, x1, x2, x3⟩ := HX.out
  clear HG HM HX
  have c0 := M0.a
  have c1 := M0.x
  have f0 := M0.free 0
  have M1 := M0.setA v
  have G1 := grown_setCell G0 ⟨g, 0, none⟩ (.int .u32 (v : Int)) (.inl rfl)
  have GS : w1.grownBy (w1.setCell ⟨g, 0, none⟩ (.int .u32 (v : Int))) (some g) := grown_setCell (World.grownBy.refl _ _) _ _ (.inl rfl)
  have k0 : (w1.setCell ⟨g, 0, none⟩ (.int .u32 (v : Int))).cell? ⟨B, 0, none⟩ = some (.int .u16 80) := GS.cell x0 (by simp only [ne_eq, Option.some.injEq]; exact hne2)
  have k3 : (w1.setCell ⟨g, 0, none⟩ (.int .u32 (v : Int))).cell? ⟨B, 3, none⟩ = some (.int .u32 (k : Int)) := GS.cell x3 (by simp only [ne_eq, Option.some.injEq]; exact hne2)
  have k1 := M1.x
  have HK : Hid ((w1.setCell ⟨g, 0, none⟩ (.int .u32 (v : Int))).cell? ⟨B, 0, none⟩ = some (.int .u16 80) ∧ (w1.setCell ⟨g, 0, none⟩ (.int .u32 (v : Int))).cell? ⟨B, 3, none⟩ = some (.int .u32 (k : Int)) ∧ (w1.setCell ⟨g, 0, none⟩ (.int .u32 (v : Int))).cell? ⟨g, 1, none⟩ = some (.int .u32 (M.x : Int))) := ⟨k0, k3, k1⟩
  clear M0 G0 GS k0 k3 k1
  go_wp2
  go_region_held3 (fun W => W.cell? ⟨B, 0, none⟩ = some (.int .u16 80) ∧ W.cell? ⟨B, 3, none⟩ = some (.int .u32 (k : Int)) ∧ W.cell? ⟨g, 1, none⟩ = some (.int .u32 (M.x : Int))) (first | exact HK.out | go_keep) (first | (go_at_call 51; refine (size_any _ _).mono ?_; rintro e w' ⟨rfl, rfl⟩) | (go_at_call 50; refine (HR.out _ (by exact HC.out)).mono ?_; rintro e w' ⟨rfl, rfl⟩))
  all_goals
    go_wp2
    go_ret
    exact ⟨rfl, M1, grown_trans G1 (grown_drewN _ 1 _)⟩

set_option maxHeartbeats 1000000 in
theorem step_177 (b : Option Addr) (cb : Nat) (pk : List UInt8) (g base : Nat) (M : Mc) (t f k : Nat) (w : World) (hm : MAt w 90 base g M) (hk : k ≤ 4294967295) (hC : Cells w b pk) (hp : pk.length ≤ 65536) :
    Calls Tryz.prog 34 #[.pointer (some ⟨g, 0, none⟩), .agg #[.int .u16 177, .int .u8 t, .int .u8 f, .int .u32 k], .slice b pk.length cb] w fun e w' => StepPost w 90 base g ⟨M.a, 4 * ((readAtV pk k 1).1 % 16), M.m⟩ (readAtV pk k 1).2 e w' := by
  have HG : Hid (w.grownBy (w.alloc (.cells #[.int .u16 177, .int .u8 t, .int .u8 f, .int .u32 k] 54)) none) := World.grownBy_alloc _ _ _
  have HM : Hid (MAt (w.alloc (.cells #[.int .u16 177, .int .u8 t, .int .u8 f, .int .u32 k] 54)) 90 base g M) := hm.kept (row := none) (World.grownBy_alloc _ _ _) (by simp)
  have HX : Hid (Bx (w.alloc (.cells #[.int .u16 177, .int .u8 t, .int .u8 f, .int .u32 k] 54)) w.heap.size 177 t f k) := bx_alloc w 54 177 t f k
  have hlt := hm.lt.2
  have _hk : k ≤ 4294967295 := hk
  clear hm
  obtain ⟨v, fl, hr⟩ : ∃ v fl, readAtV pk (k) (1) = (v, fl) := ⟨_, _, rfl⟩
  have HR : Hid (∀ (W : World), Cells W b pk → Calls Tryz.prog 50 #[.slice b pk.length cb, .int .u64 ((k : Nat) : Int), .int .i64 ((1 : Nat) : Int)] W fun e w' => e = .returned (.tuple #[.int .u32 (v : Int), .int .i64 fl]) ∧ W = w') := fun W h => by
    have := read_at b cb pk (k) (1) W h (by omega) (by omega)
    rw [hr] at this
    exact this
  have hw : IntKind.u64.wrap (k : Int) = (k : Int) := by rw [IntKind.wrap_u64]; omega
  have HC : Hid (Cells (w.alloc (.cells #[.int .u16 177, .int .u8 t, .int .u8 f, .int .u32 k] 54)) b pk) := hC.keptNone (World.grownBy_alloc _ _ _)
  rw [hr]
  have hv : v ≤ 4294967295 := by have := readAtV_le pk k 1 (by omega); rw [hr] at this; exact this
  clear hr hC
  have hu0 : 4 * (v % 16) < 4294967296 := by omega
  have hu1 : 4 * bits .and .u32 (v : Int) 15 % 4294967296 = ((4 * (v % 16) : Nat) : Int) := by rw [vand15 v hv]; omega
  have hu2 : (4 : Int) * ((v % 16 : Nat) : Int) = ((4 * (v % 16) : Nat) : Int) := by omega
  generalize 4 * (v % 16) = u at *
  go_enter Tryz.func34, Tryz.ntmps34
  go_upto_region 2 with fail
  generalize w.alloc (.cells #[.int .u16 177, .int .u8 t, .int .u8 f, .int .u32 k] 54) = w1 at *
  have hne : ((w.heap.size : Nat) == g) = false := by rw [beq_eq_false_iff_ne]; omega
  have hne2 : w.heap.size ≠ g := by omega
  generalize w.heap.size = B at *
  have G0 : w.grownBy w1 (some g) := grown_mono HG.out
  have M0 := HM.out
  obtain ⟨x0, x1, x2, x3⟩ := HX.out
  clear HG HM HX
  have c1 := M0.x
  have f1 := M0.free 1
  have HM1 : Hid (MAt (w1.setCell ⟨g, 1, none⟩ (.int .u32 (v : Int))) 90 base g ⟨M.a, v, M.m⟩) := M0.setX v
  have HG1 : Hid (w.grownBy (w1.setCell ⟨g, 1, none⟩ (.int .u32 (v : Int))) (some g)) := grown_setCell G0 ⟨g, 1, none⟩ (.int .u32 (v : Int)) (.inl rfl)
  clear M0 G0
  go_upto_region 29 with (go_at_call 50; refine (HR.out _ (by exact HC.out)).mono ?_; rintro e w' ⟨rfl, rfl⟩)
  clear c1 f1 x0 x1 x2 x3 HC
  generalize w1.setCell ⟨g, 1, none⟩ (.int .u32 (v : Int)) = w2 at *
  have c1 := HM1.out.x
  have f1 := HM1.out.free 1
  have M2 := HM1.out.setX u
  have G2 := grown_setCell HG1.out ⟨g, 1, none⟩ (.int .u32 (u : Int)) (.inl rfl)
  clear HM1 HG1
  go_wp2
  go_ret
  exact ⟨rfl, M2, G2⟩

set_option maxHeartbeats 1000000 in
theorem step_op_true (b : Option Addr) (cb : Nat) (pk : List UInt8) (g base : Nat) (M : Mc) (c : Int) (t f k : Nat) (w : World) (hm : MAt w 90 base g M) (hk : k ≤ 4294967295) (hM : M.ok) (hb : byxB c = true) (q0 : (c == 0) = false) (q32 : (c == 32) = false) (q40 : (c == 40) = false) (q48 : (c == 48) = false) (q64 : (c == 64) = false) (q72 : (c == 72) = false) (q80 : (c == 80) = false) (q96 : (c == 96) = false) (q128 : (c == 128) = false) (q1 : (c == 1) = false) (q97 : (c == 97) = false) (q129 : (c == 129) = false) (q177 : (c == 177) = false) (q2 : (c == 2) = false) (q3 : (c == 3) = false) (q132 : (c == 132) = false) (q7 : (c == 7) = false) (q135 : (c == 135) = false) :
    Calls Tryz.prog 34 #[.pointer (some ⟨g, 0, none⟩), .agg #[.int .u16 c, .int .u8 t, .int .u8 f, .int .u32 k], .slice b pk.length cb] w fun e w' => StepPost w 90 base g ⟨(operV (bits .andNot .u16 c 8) M.a (sideV c k M.x)).1, M.x, M.m⟩ (operV (bits .andNot .u16 c 8) M.a (sideV c k M.x)).2 e w' := by
  have HG : Hid (w.grownBy (w.alloc (.cells #[.int .u16 c, .int .u8 t, .int .u8 f, .int .u32 k] 54)) none) := World.grownBy_alloc _ _ _
  have HM : Hid (MAt (w.alloc (.cells #[.int .u16 c, .int .u8 t, .int .u8 f, .int .u32 k] 54)) 90 base g M) := hm.kept (row := none) (World.grownBy_alloc _ _ _) (by simp)
  have HX : Hid (Bx (w.alloc (.cells #[.int .u16 c, .int .u8 t, .int .u8 f, .int .u32 k] 54)) w.heap.size c t f k) := bx_alloc w 54 c t f k
  have hlt := hm.lt.2
  have _hk : k ≤ 4294967295 := hk
  clear hm
  obtain ⟨v, fl, hr⟩ : ∃ v fl, operV (bits .andNot .u16 c 8) M.a (sideV c k M.x) = (v, fl) := ⟨_, _, rfl⟩
  have HO : Hid (∀ (W : World), Calls Tryz.prog 52 #[.int .u16 c, .int .u32 (M.a : Int), .int .u32 (M.x : Int)] W fun e w' => e = .returned (.tuple #[.int .u32 (v : Int), .int .i64 fl]) ∧ W = w') := fun W => by
    have := operate_any c M.a M.x W hM.1 hM.2.1
    have e : sideV c k M.x = M.x := by simp [sideV, hb]
    rw [e] at hr
    rw [hr] at this
    exact this
  rw [hr]
  clear hr
  go_enter Tryz.func34, Tryz.ntmps34
  go_upto_region 2 with fail
  generalize w.alloc (.cells #[.int .u16 c, .int .u8 t, .int .u8 f, .int .u32 k] 54) = w1 at *
  have hne : ((w.heap.size : Nat) == g) = false := by rw [beq_eq_false_iff_ne]; omega
  have hne2 : w.heap.size ≠ g := by omega
  generalize w.heap.size = B at *
  have G0 : w.grownBy w1 (some g) := grown_mono HG.out
  have M0 := HM.out
  obtain ⟨x0, x1, x2, x3⟩ := HX.out
  clear HG HM HX
  have c0 := M0.a
  have c1 := M0.x
  have f0 := M0.free 0
  have M1 := M0.setA v
  have G1 := grown_setCell G0 ⟨g, 0, none⟩ (.int .u32 (v : Int)) (.inl rfl)
  clear M0 G0
  go_wp2_with (go_at_call 49; refine (byx_any _ _).mono ?_; rintro e w' ⟨rfl, rfl⟩)
  go_region_with (go_at_call 52; refine (HO.out _).mono ?_; rintro e w' ⟨rfl, rfl⟩)
  all_goals
    go_wp2
    go_ret
    exact ⟨rfl, M1, grown_trans G1 (grown_drewN _ 1 _)⟩

set_option maxHeartbeats 1000000 in
theorem step_op_false (b : Option Addr) (cb : Nat) (pk : List UInt8) (g base : Nat) (M : Mc) (c : Int) (t f k : Nat) (w : World) (hm : MAt w 90 base g M) (hk : k ≤ 4294967295) (hM : M.ok) (hb : byxB c = false) (q0 : (c == 0) = false) (q32 : (c == 32) = false) (q40 : (c == 40) = false) (q48 : (c == 48) = false) (q64 : (c == 64) = false) (q72 : (c == 72) = false) (q80 : (c == 80) = false) (q96 : (c == 96) = false) (q128 : (c == 128) = false) (q1 : (c == 1) = false) (q97 : (c == 97) = false) (q129 : (c == 129) = false) (q177 : (c == 177) = false) (q2 : (c == 2) = false) (q3 : (c == 3) = false) (q132 : (c == 132) = false) (q7 : (c == 7) = false) (q135 : (c == 135) = false) :
    Calls Tryz.prog 34 #[.pointer (some ⟨g, 0, none⟩), .agg #[.int .u16 c, .int .u8 t, .int .u8 f, .int .u32 k], .slice b pk.length cb] w fun e w' => StepPost w 90 base g ⟨(operV (bits .andNot .u16 c 8) M.a (sideV c k M.x)).1, M.x, M.m⟩ (operV (bits .andNot .u16 c 8) M.a (sideV c k M.x)).2 e w' := by
  have HG : Hid (w.grownBy (w.alloc (.cells #[.int .u16 c, .int .u8 t, .int .u8 f, .int .u32 k] 54)) none) := World.grownBy_alloc _ _ _
  have HM : Hid (MAt (w.alloc (.cells #[.int .u16 c, .int .u8 t, .int .u8 f, .int .u32 k] 54)) 90 base g M) := hm.kept (row := none) (World.grownBy_alloc _ _ _) (by simp)
  have HX : Hid (Bx (w.alloc (.cells #[.int .u16 c, .int .u8 t, .int .u8 f, .int .u32 k] 54)) w.heap.size c t f k) := bx_alloc w 54 c t f k
  have hlt := hm.lt.2
  have _hk : k ≤ 4294967295 := hk
  clear hm
  obtain ⟨v, fl, hr⟩ : ∃ v fl, operV (bits .andNot .u16 c 8) M.a (sideV c k M.x) = (v, fl) := ⟨_, _, rfl⟩
  have HO : Hid (∀ (W : World), Calls Tryz.prog 52 #[.int .u16 c, .int .u32 (M.a : Int), .int .u32 (k : Int)] W fun e w' => e = .returned (.tuple #[.int .u32 (v : Int), .int .i64 fl]) ∧ W = w') := fun W => by
    have := operate_any c M.a k W hM.1 hk
    have e : sideV c k M.x = k := by simp [sideV, hb]
    rw [e] at hr
    rw [hr] at this
    exact this
  rw [hr]
  clear hr
  go_enter Tryz.func34, Tryz.ntmps34
  go_upto_region 2 with fail
  generalize w.alloc (.cells #[.int .u16 c, .int .u8 t, .int .u8 f, .int .u32 k] 54) = w1 at *
  have hne : ((w.heap.size : Nat) == g) = false := by rw [beq_eq_false_iff_ne]; omega
  have hne2 : w.heap.size ≠ g := by omega
  generalize w.heap.size = B at *
  have G0 : w.grownBy w1 (some g) := grown_mono HG.out
  have M0 := HM.out
  obtain ⟨x0, x1, x2, x3⟩ := HX.out
  clear HG HM HX
  have c0 := M0.a
  have c1 := M0.x
  have f0 := M0.free 0
  have M1 := M0.setA v
  have G1 := grown_setCell G0 ⟨g, 0, none⟩ (.int .u32 (v : Int)) (.inl rfl)
  clear M0 G0
  go_wp2_with (go_at_call 49; refine (byx_any _ _).mono ?_; rintro e w' ⟨rfl, rfl⟩)
  go_region_with (go_at_call 52; refine (HO.out _).mono ?_; rintro e w' ⟨rfl, rfl⟩)
  all_goals
    go_wp2
    go_ret
    exact ⟨rfl, M1, grown_trans G1 (grown_drewN _ 1 _)⟩

end Go.Proofs.YtencoknpocipbaaGreat
