/-
  The landed machine: K or X; Do and Ask, whatever stands in their tables. The landed machine: a jump's question.
-/
import Derived.Test.YtencoknpocipbaaVmH2
import Derived.Test.YtencoknpocipbaaLotP6
import Derived.Deep.RegionHeld3
import Derived.Deep.DeepCutAuto
import Derived.Deep.RegionWith
import Derived.Shelf.Abstract
namespace Go.Proofs.Ytencoknpocipbaa
open Go.RowKit
set_option maxRecDepth 100000

set_option maxHeartbeats 400000 in
theorem looks_any (c t f k : Nat) (w : World) :
    Calls Try.prog 60 #[.agg #[.int .u16 (c : Int), .int .u8 (t : Int), .int .u8 (f : Int), .int .u32 (k : Int)]] w fun e w' => e = .returned (.bool (usesK c)) ∧ w.grownBy w' none := by
  have G0 : w.grownBy (w.alloc (.cells #[.int .u16 (c : Int), .int .u8 (t : Int), .int .u8 (f : Int), .int .u32 (k : Int)] 46)) none := World.grownBy_alloc _ _ _
  go_enter Try.func60, Try.ntmps60
  go_wp2_with fail
  refine (uses_any c _).mono ?_
  rintro e w1 ⟨rfl, K⟩
  go_wp2
  go_ret
  exact ⟨rfl, grown_trans G0 K⟩

def byV (c k x : Nat) : Nat := if usesK c = true then k else x

set_option maxHeartbeats 400000 in
theorem operand_any (g c t f k : Nat) (R : Rn) (w : World) (hr : RAt w g R) :
    Calls Try.prog 62 #[.pointer (some ⟨g, 0, none⟩), .agg #[.int .u16 (c : Int), .int .u8 (t : Int), .int .u8 (f : Int), .int .u32 (k : Int)]] w fun e w' => e = .returned (.int .u32 (byV c k R.M.x : Int)) ∧ w.grownBy w' none := by
  have G0 : w.grownBy (w.alloc (.cells #[.int .u16 (c : Int), .int .u8 (t : Int), .int .u8 (f : Int), .int .u32 (k : Int)] 46)) none := World.grownBy_alloc _ _ _
  have C0 := cv_lit w 46 [.int .u16 (c : Int), .int .u8 (t : Int), .int .u8 (f : Int), .int .u32 (k : Int)]
  have HC : Hid (CV (w.alloc (.cells #[.int .u16 (c : Int), .int .u8 (t : Int), .int .u8 (f : Int), .int .u32 (k : Int)] 46)) (some ⟨w.heap.size, 0, none⟩) [.int .u16 (c : Int), .int .u8 (t : Int), .int .u8 (f : Int), .int .u32 (k : Int)]) := C0
  have HR : Hid (RAt w g R) := hr
  have HG : Hid (w.grownBy (w.alloc (.cells #[.int .u16 (c : Int), .int .u8 (t : Int), .int .u8 (f : Int), .int .u32 (k : Int)] 46)) none) := G0
  clear C0 hr G0
  go_enter Try.func62, Try.ntmps62
  go_wp2_with fail
  refine (looks_any c t f k _).mono ?_
  rintro e w1 ⟨rfl, K⟩
  have y3 : w1.cell? ⟨w.heap.size, 3, none⟩ = some (.int .u32 (k : Int)) := K.cell (HC.out.2 _ rfl 3 (by simp)) (by simp)
  have G1 := grown_trans HG.out K
  have c1 := (HR.out.kept G1).x
  clear HC HG K HR
  cases hu : usesK c with
  | true =>
    go_wp2
    go_ret
    exact ⟨ret_int (by simp [byV, hu]), G1⟩
  | false =>
    go_wp2
    go_ret
    exact ⟨ret_int (by simp [byV, hu]), G1⟩

set_option maxHeartbeats 400000 in
theorem mgive_any (g c t f k : Nat) (R : Rn) (w : World) (hr : RAt w g R) :
    Calls Try.prog 36 #[.pointer (some ⟨g, 0, none⟩), .agg #[.int .u16 (c : Int), .int .u8 (t : Int), .int .u8 (f : Int), .int .u32 (k : Int)]] w fun e w' => e = .returned (.int .u32 (byV c k R.M.a : Int)) ∧ w.grownBy w' none := by
  have G0 : w.grownBy (w.alloc (.cells #[.int .u16 (c : Int), .int .u8 (t : Int), .int .u8 (f : Int), .int .u32 (k : Int)] 46)) none := World.grownBy_alloc _ _ _
  have C0 := cv_lit w 46 [.int .u16 (c : Int), .int .u8 (t : Int), .int .u8 (f : Int), .int .u32 (k : Int)]
  have HC : Hid (CV (w.alloc (.cells #[.int .u16 (c : Int), .int .u8 (t : Int), .int .u8 (f : Int), .int .u32 (k : Int)] 46)) (some ⟨w.heap.size, 0, none⟩) [.int .u16 (c : Int), .int .u8 (t : Int), .int .u8 (f : Int), .int .u32 (k : Int)]) := C0
  have HR : Hid (RAt w g R) := hr
  have HG : Hid (w.grownBy (w.alloc (.cells #[.int .u16 (c : Int), .int .u8 (t : Int), .int .u8 (f : Int), .int .u32 (k : Int)] 46)) none) := G0
  clear C0 hr G0
  go_enter Try.func36, Try.ntmps36
  go_wp2_with fail
  refine (looks_any c t f k _).mono ?_
  rintro e w1 ⟨rfl, K⟩
  have y3 : w1.cell? ⟨w.heap.size, 3, none⟩ = some (.int .u32 (k : Int)) := K.cell (HC.out.2 _ rfl 3 (by simp)) (by simp)
  have G1 := grown_trans HG.out K
  have c1 := (HR.out.kept G1).a
  clear HC HG K HR
  cases hu : usesK c with
  | true =>
    go_wp2
    go_ret
    exact ⟨ret_int (by simp [byV, hu]), G1⟩
  | false =>
    go_wp2
    go_ret
    exact ⟨ret_int (by simp [byV, hu]), G1⟩

/-- What Do leaves. -/
def DoPost (w : World) (g : Nat) (R : Rn) (good : Mc → Prop) (fl : Int) (e : Ending) (w' : World) : Prop := e = .returned (.int .i64 fl) ∧ ∃ M, good M ∧ RAt w' g { R with M := M, f := fl } ∧ w.grownBy w' (some g)

/-- What is read on the way of Do: the instruction, the table, its entry. -/
abbrev DoS (w0 : World) (B g d c : Nat) (t f k : Int) (v : Value) (W : World) : Prop := W.cell? ⟨B, 0, none⟩ = some (.int .u16 (c : Int)) ∧ W.cell? ⟨B, 1, none⟩ = some (.int .u8 t) ∧ W.cell? ⟨B, 2, none⟩ = some (.int .u8 f) ∧ W.cell? ⟨B, 3, none⟩ = some (.int .u32 k) ∧ W.cell? ⟨g, 20, none⟩ = some (.slice (some ⟨d, 0, none⟩) 178 178) ∧ W.cell? ⟨d, c, none⟩ = some v ∧ w0.grownBy W (some g)

theorem doS_call {w0 W W' : World} {B g d c : Nat} {t f k : Int} {v : Value} (K : W.grownBy W' none) (h : DoS w0 B g d c t f k v W) : DoS w0 B g d c t f k v W' :=
  ⟨K.cell h.1 (by simp), K.cell h.2.1 (by simp), K.cell h.2.2.1 (by simp), K.cell h.2.2.2.1 (by simp), K.cell h.2.2.2.2.1 (by simp), K.cell h.2.2.2.2.2.1 (by simp), grown_trans h.2.2.2.2.2.2 (grown_mono K)⟩

theorem doS_deed {w0 W W' : World} {B g d c : Nat} {t f k : Int} {v : Value} {R : Rn} (K : W.grownBy W' (some g)) (r : RAt W' g R) (hd : R.d = .slice (some ⟨d, 0, none⟩) 178 178) (hB : B ≠ g) (hdg : d ≠ g) (h : DoS w0 B g d c t f k v W) : DoS w0 B g d c t f k v W' :=
  ⟨K.cell h.1 (by simpa using hB), K.cell h.2.1 (by simpa using hB), K.cell h.2.2.1 (by simpa using hB), K.cell h.2.2.2.1 (by simpa using hB), by rw [← hd]; exact r.tl 2, K.cell h.2.2.2.2.2.1 (by simpa using hdg), grown_trans h.2.2.2.2.2.2 K⟩

theorem doS_drewn {w0 W : World} {B g d c n : Nat} {t f k : Int} {v : Value} (h : DoS w0 B g d c t f k v W) : DoS w0 B g d c t f k v (W.drewN n) := doS_call (grown_drewN _ _ none) h

set_option maxHeartbeats 1000000 in
theorem do_fn (g d c t f k fn by' : Nat) (R : Rn) (good : Mc → Prop) (fl : Int) (w : World) (hr : RAt w g R) (hd : R.d = .slice (some ⟨d, 0, none⟩) 178 178) (hc : c < 178) (hdg : d ≠ g)
    (hv : w.cell? ⟨d, c, none⟩ = some (.func (.func fn) #[] #[])) (he : ∀ args W, (callFunc fn args).run Try.prog W = .ok (.enter fn args) W) (hby : byV c k R.M.x = by')
    (hD : ∀ W : World, w.grownBy W none → RAt W g R → Calls Try.prog fn #[.pointer (some ⟨g, 0, none⟩), .int .u32 (by' : Int)] W fun e w' => e = .returned (.tuple #[]) ∧ ∃ M, good M ∧ RAt w' g { R with M := M, f := fl } ∧ W.grownBy w' (some g)) :
    Calls Try.prog 38 #[.pointer (some ⟨g, 0, none⟩), .agg #[.int .u16 (c : Int), .int .u8 (t : Int), .int .u8 (f : Int), .int .u32 (k : Int)]] w fun e w' => DoPost w g R good fl e w' := by
  have G0 : w.grownBy (w.alloc (.cells #[.int .u16 (c : Int), .int .u8 (t : Int), .int .u8 (f : Int), .int .u32 (k : Int)] 46)) none := World.grownBy_alloc _ _ _
  have C0 := cv_lit w 46 [.int .u16 (c : Int), .int .u8 (t : Int), .int .u8 (f : Int), .int .u32 (k : Int)]
  have HC : Hid (CV (w.alloc (.cells #[.int .u16 (c : Int), .int .u8 (t : Int), .int .u8 (f : Int), .int .u32 (k : Int)] 46)) (some ⟨w.heap.size, 0, none⟩) [.int .u16 (c : Int), .int .u8 (t : Int), .int .u8 (f : Int), .int .u32 (k : Int)]) := C0
  have HR : Hid (RAt w g R) := hr
  have HG : Hid (w.grownBy (w.alloc (.cells #[.int .u16 (c : Int), .int .u8 (t : Int), .int .u8 (f : Int), .int .u32 (k : Int)] 46)) none) := G0
  have HD : Hid (∀ W : World, w.grownBy W none → RAt W g R → Calls Try.prog fn #[.pointer (some ⟨g, 0, none⟩), .int .u32 (by' : Int)] W fun e w' => e = .returned (.tuple #[]) ∧ ∃ M, good M ∧ RAt w' g { R with M := M, f := fl } ∧ W.grownBy w' (some g)) := hD
  have hv1 := G0.cell hv (by simp)
  have hcd : (w.alloc (.cells #[.int .u16 (c : Int), .int .u8 (t : Int), .int .u8 (f : Int), .int .u32 (k : Int)] 46)).cell? ⟨g, 20, none⟩ = some (.slice (some ⟨d, 0, none⟩) 178 178) := by rw [← hd]; exact (hr.kept G0).tl 2
  have HO : Hid (∀ W : World, RAt W g R → Calls Try.prog 62 #[.pointer (some ⟨g, 0, none⟩), .agg #[.int .u16 (c : Int), .int .u8 (t : Int), .int .u8 (f : Int), .int .u32 (k : Int)]] W fun e w' => e = .returned (.int .u32 (by' : Int)) ∧ W.grownBy w' none) := fun W h => by
    rw [← hby]
    exact operand_any g c t f k R W h
  have hc1 : (c : Int) < 178 := by omega
  have HB : Hid (w.heap.size ≠ g ∧ d ≠ g ∧ R.d = .slice (some ⟨d, 0, none⟩) 178 178) := ⟨by have := hr.1.lt; omega, hdg, hd⟩
  clear C0 hr G0 hD hv hby hd hdg
  go_enter Try.func38, Try.ntmps38
  go_upto_region 1 with fail
  generalize w.alloc (.cells #[.int .u16 (c : Int), .int .u8 (t : Int), .int .u8 (f : Int), .int .u32 (k : Int)] 46) = w1 at *
  generalize w.heap.size = B at *
  have x0 : w1.cell? ⟨B, 0, none⟩ = some (.int .u16 (c : Int)) := HC.out.2 _ rfl 0 (by simp)
  have x1 : w1.cell? ⟨B, 1, none⟩ = some (.int .u8 (t : Int)) := HC.out.2 _ rfl 1 (by simp)
  have x2 : w1.cell? ⟨B, 2, none⟩ = some (.int .u8 (f : Int)) := HC.out.2 _ rfl 2 (by simp)
  have x3 : w1.cell? ⟨B, 3, none⟩ = some (.int .u32 (k : Int)) := HC.out.2 _ rfl 3 (by simp)
  clear HC
  have R1 : Hid (RAt w1 g R) := HR.out.kept HG.out
  have B0 : DoS w B g d c t f k (.func (.func fn) #[] #[]) w1 := ⟨x0, x1, x2, x3, hcd, hv1, grown_mono HG.out⟩
  clear x0 x1 x2 x3 hcd hv1
  go_region_held3 (fun W => W.cell? ⟨B, 0, none⟩ = some (.int .u16 (c : Int)) ∧ W.cell? ⟨B, 1, none⟩ = some (.int .u8 (t : Int)) ∧ W.cell? ⟨B, 2, none⟩ = some (.int .u8 (f : Int)) ∧ W.cell? ⟨B, 3, none⟩ = some (.int .u32 (k : Int)) ∧ W.cell? ⟨g, 20, none⟩ = some (.slice (some ⟨d, 0, none⟩) 178 178) ∧ W.cell? ⟨d, c, none⟩ = some (.func (.func fn) #[] #[]) ∧ w.grownBy W (some g)) (first | exact doS_deed K3 r3 HB.out.2.2 HB.out.1 HB.out.2.1 (by assumption) | exact doS_call K2 (by assumption) | exact doS_drewn B0) (first
    | (go_at_call 62; refine (HO.out _ ?_).mono ?_; (first | exact R1.out | exact R1.out.kept (grown_drewN _ 1 none)); rintro e w2 ⟨rfl, K2⟩; have G2 : Hid (w.grownBy w2 none) := (by first | exact grown_trans HG.out K2 | exact grown_trans HG.out (grown_trans (grown_drewN w1 1 none) K2)))
    | (go_at_fn fn; refine (HD.out _ G2.out (HR.out.kept G2.out)).mono ?_; rintro e w3 ⟨rfl, M3, hg3, r3, K3⟩))
  have G3 := grown_trans (grown_mono (row := some g) G2.out) K3
  have cf : w3.cell? ⟨g, 19, none⟩ = some (.int .i64 fl) := r3.tl 1
  have HE : Hid (∃ M, good M ∧ RAt w3 g { R with M := M, f := fl } ∧ w.grownBy w3 (some g)) := ⟨M3, hg3, r3, G3⟩
  clear B0 R1 HG HD HO HR K2 K3 G2 G3 hg3 r3
  go_wp2
  go_ret
  exact ⟨rfl, HE.out⟩

end Go.Proofs.Ytencoknpocipbaa

namespace Go.Proofs.Ytencoknpocipbaa
open Go.RowKit
set_option maxRecDepth 100000

set_option maxHeartbeats 400000 in
theorem ask_equal (g k : Nat) (R : Rn) (w : World) (hr : RAt w g R) (hk : k ≤ 4294967295) (hM : R.M.ok) :
    Calls Try.prog 91 #[.pointer (some ⟨g, 0, none⟩), .int .u32 (k : Int)] w fun e w' => e = .returned (.bool (R.M.a == k)) ∧ w = w' := by
  have c0 := hr.a
  have e2 := u32_and_nat R.M.a k (by have := hM.1; omega) (by omega)
  clear hr
  go_enter Try.func91, Try.ntmps91
  go_wp2
  go_ret
  exact ⟨ret_bool (by simp [cast_beq]), rfl⟩

set_option maxHeartbeats 400000 in
theorem ask_above (g k : Nat) (R : Rn) (w : World) (hr : RAt w g R) (hk : k ≤ 4294967295) (hM : R.M.ok) :
    Calls Try.prog 92 #[.pointer (some ⟨g, 0, none⟩), .int .u32 (k : Int)] w fun e w' => e = .returned (.bool (decide (k < R.M.a))) ∧ w = w' := by
  have c0 := hr.a
  have e2 := u32_and_nat R.M.a k (by have := hM.1; omega) (by omega)
  clear hr
  go_enter Try.func92, Try.ntmps92
  go_wp2
  go_ret
  exact ⟨ret_bool (by simp), rfl⟩

set_option maxHeartbeats 400000 in
theorem ask_atLeast (g k : Nat) (R : Rn) (w : World) (hr : RAt w g R) (hk : k ≤ 4294967295) (hM : R.M.ok) :
    Calls Try.prog 93 #[.pointer (some ⟨g, 0, none⟩), .int .u32 (k : Int)] w fun e w' => e = .returned (.bool (decide (k ≤ R.M.a))) ∧ w = w' := by
  have c0 := hr.a
  have e2 := u32_and_nat R.M.a k (by have := hM.1; omega) (by omega)
  clear hr
  go_enter Try.func93, Try.ntmps93
  go_wp2
  go_ret
  exact ⟨ret_bool (by simp), rfl⟩

set_option maxHeartbeats 400000 in
theorem ask_common (g k : Nat) (R : Rn) (w : World) (hr : RAt w g R) (hk : k ≤ 4294967295) (hM : R.M.ok) :
    Calls Try.prog 94 #[.pointer (some ⟨g, 0, none⟩), .int .u32 (k : Int)] w fun e w' => e = .returned (.bool ((R.M.a &&& k) != 0)) ∧ w = w' := by
  have c0 := hr.a
  have e2 := u32_and_nat R.M.a k (by have := hM.1; omega) (by omega)
  clear hr
  go_enter Try.func94, Try.ntmps94
  go_wp2
  go_ret
  exact ⟨ret_bool (by simp [cast_bne]), rfl⟩

/-- What is read on the way of Ask. -/
abbrev AskS (w0 : World) (B g d c : Nat) (t f k : Int) (v : Value) (W : World) : Prop := W.cell? ⟨B, 0, none⟩ = some (.int .u16 (c : Int)) ∧ W.cell? ⟨B, 1, none⟩ = some (.int .u8 t) ∧ W.cell? ⟨B, 2, none⟩ = some (.int .u8 f) ∧ W.cell? ⟨B, 3, none⟩ = some (.int .u32 k) ∧ W.cell? ⟨g, 21, none⟩ = some (.slice (some ⟨d, 0, none⟩) 78 78) ∧ W.cell? ⟨d, c, none⟩ = some v ∧ w0.grownBy W none

theorem askS_call {w0 W W' : World} {B g d c : Nat} {t f k : Int} {v : Value} (K : W.grownBy W' none) (h : AskS w0 B g d c t f k v W) : AskS w0 B g d c t f k v W' :=
  ⟨K.cell h.1 (by simp), K.cell h.2.1 (by simp), K.cell h.2.2.1 (by simp), K.cell h.2.2.2.1 (by simp), K.cell h.2.2.2.2.1 (by simp), K.cell h.2.2.2.2.2.1 (by simp), grown_trans h.2.2.2.2.2.2 K⟩

theorem askS_drewn {w0 W : World} {B g d c n : Nat} {t f k : Int} {v : Value} (h : AskS w0 B g d c t f k v W) : AskS w0 B g d c t f k v (W.drewN n) := askS_call (grown_drewN _ _ none) h

set_option maxHeartbeats 1000000 in
theorem ask_fn (g d c t f k fn by' : Nat) (R : Rn) (yes : Bool) (w : World) (hr : RAt w g R) (hd : R.q = .slice (some ⟨d, 0, none⟩) 78 78) (hc : c < 78)
    (hv : w.cell? ⟨d, c, none⟩ = some (.func (.func fn) #[] #[])) (he : ∀ args W, (callFunc fn args).run Try.prog W = .ok (.enter fn args) W) (hby : byV c k R.M.x = by')
    (hD : ∀ W : World, w.grownBy W none → RAt W g R → Calls Try.prog fn #[.pointer (some ⟨g, 0, none⟩), .int .u32 (by' : Int)] W fun e w' => e = .returned (.bool yes) ∧ W = w') :
    Calls Try.prog 61 #[.pointer (some ⟨g, 0, none⟩), .agg #[.int .u16 (c : Int), .int .u8 (t : Int), .int .u8 (f : Int), .int .u32 (k : Int)]] w fun e w' => e = .returned (.bool yes) ∧ w.grownBy w' none := by
  have G0 : w.grownBy (w.alloc (.cells #[.int .u16 (c : Int), .int .u8 (t : Int), .int .u8 (f : Int), .int .u32 (k : Int)] 46)) none := World.grownBy_alloc _ _ _
  have C0 := cv_lit w 46 [.int .u16 (c : Int), .int .u8 (t : Int), .int .u8 (f : Int), .int .u32 (k : Int)]
  have HC : Hid (CV (w.alloc (.cells #[.int .u16 (c : Int), .int .u8 (t : Int), .int .u8 (f : Int), .int .u32 (k : Int)] 46)) (some ⟨w.heap.size, 0, none⟩) [.int .u16 (c : Int), .int .u8 (t : Int), .int .u8 (f : Int), .int .u32 (k : Int)]) := C0
  have HR : Hid (RAt w g R) := hr
  have HG : Hid (w.grownBy (w.alloc (.cells #[.int .u16 (c : Int), .int .u8 (t : Int), .int .u8 (f : Int), .int .u32 (k : Int)] 46)) none) := G0
  have HD : Hid (∀ W : World, w.grownBy W none → RAt W g R → Calls Try.prog fn #[.pointer (some ⟨g, 0, none⟩), .int .u32 (by' : Int)] W fun e w' => e = .returned (.bool yes) ∧ W = w') := hD
  have hv1 := G0.cell hv (by simp)
  have hcd : (w.alloc (.cells #[.int .u16 (c : Int), .int .u8 (t : Int), .int .u8 (f : Int), .int .u32 (k : Int)] 46)).cell? ⟨g, 21, none⟩ = some (.slice (some ⟨d, 0, none⟩) 78 78) := by rw [← hd]; exact (hr.kept G0).tl 3
  have HO : Hid (∀ W : World, RAt W g R → Calls Try.prog 62 #[.pointer (some ⟨g, 0, none⟩), .agg #[.int .u16 (c : Int), .int .u8 (t : Int), .int .u8 (f : Int), .int .u32 (k : Int)]] W fun e w' => e = .returned (.int .u32 (by' : Int)) ∧ W.grownBy w' none) := fun W h => by
    rw [← hby]
    exact operand_any g c t f k R W h
  have hc1 : (c : Int) < 78 := by omega
  clear C0 hr G0 hD hv hby hd
  go_enter Try.func61, Try.ntmps61
  go_upto_region 1 with fail
  generalize w.alloc (.cells #[.int .u16 (c : Int), .int .u8 (t : Int), .int .u8 (f : Int), .int .u32 (k : Int)] 46) = w1 at *
  generalize w.heap.size = B at *
  have x0 : w1.cell? ⟨B, 0, none⟩ = some (.int .u16 (c : Int)) := HC.out.2 _ rfl 0 (by simp)
  have x1 : w1.cell? ⟨B, 1, none⟩ = some (.int .u8 (t : Int)) := HC.out.2 _ rfl 1 (by simp)
  have x2 : w1.cell? ⟨B, 2, none⟩ = some (.int .u8 (f : Int)) := HC.out.2 _ rfl 2 (by simp)
  have x3 : w1.cell? ⟨B, 3, none⟩ = some (.int .u32 (k : Int)) := HC.out.2 _ rfl 3 (by simp)
  clear HC
  have R1 : Hid (RAt w1 g R) := HR.out.kept HG.out
  have B0 : AskS w B g d c t f k (.func (.func fn) #[] #[]) w1 := ⟨x0, x1, x2, x3, hcd, hv1, HG.out⟩
  clear x0 x1 x2 x3 hcd hv1
  go_region_held3 (fun W => W.cell? ⟨B, 0, none⟩ = some (.int .u16 (c : Int)) ∧ W.cell? ⟨B, 1, none⟩ = some (.int .u8 (t : Int)) ∧ W.cell? ⟨B, 2, none⟩ = some (.int .u8 (f : Int)) ∧ W.cell? ⟨B, 3, none⟩ = some (.int .u32 (k : Int)) ∧ W.cell? ⟨g, 21, none⟩ = some (.slice (some ⟨d, 0, none⟩) 78 78) ∧ W.cell? ⟨d, c, none⟩ = some (.func (.func fn) #[] #[]) ∧ w.grownBy W none) (first | exact askS_call K2 (by assumption) | (with_reducible assumption) | exact askS_drewn B0) (first
    | (go_at_call 62; refine (HO.out _ ?_).mono ?_; (first | exact R1.out | exact R1.out.kept (grown_drewN _ 1 none)); rintro e w2 ⟨rfl, K2⟩; have G2 : Hid (w.grownBy w2 none) := (by first | exact grown_trans HG.out K2 | exact grown_trans HG.out (grown_trans (grown_drewN w1 1 none) K2)))
    | (go_at_fn fn; refine (HD.out _ G2.out (HR.out.kept G2.out)).mono ?_; rintro e w3 ⟨rfl, rfl⟩))
  have HE : Hid (w.grownBy w2 none) := G2
  clear B0 R1 HG HD HO HR K2 G2
  go_wp2
  go_ret
  exact ⟨rfl, HE.out⟩

end Go.Proofs.Ytencoknpocipbaa
