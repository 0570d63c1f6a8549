/-
  The landed machine: Do, where a promoted method stands in the table.
-/
import Derived.Test.YtencoknpocipbaaLotP23
namespace Go.Proofs.Ytencoknpocipbaa
open Go.RowKit
set_option maxRecDepth 100000

set_option maxHeartbeats 1000000 in
theorem do_meth (g d c t f k fn by' : Nat) (nm : String) (R : Rn) (good : Mc → Prop) (fl : Int) (w : World) (hr : RAt w g R) (hd : R.d = .slice (some ⟨d, 0, none⟩) 178 178) (hc : c < 178) (hdg : d ≠ g)
    (hv : w.cell? ⟨d, c, none⟩ = some (.func (.methodOf 106 nm) #[] #[])) (hm : ∀ W, (method 243 106 (.pointer (some ⟨g, 0, none⟩)) nm).run Try.prog W = .ok (fn, .pointer (some ⟨g, 0, none⟩)) W) (he : ∀ args W, (callFunc fn args).run Try.prog W = .ok (.enter fn args) W) (hby : byV c k R.M.x = by')
    (hD : ∀ W : World, w.grownBy W none → RAt W g R → Calls Try.prog fn #[.pointer (some ⟨g, 0, none⟩), .int .u32 (by' : Int)] W fun e w' => e = .returned (.tuple #[]) ∧ ∃ M, good M ∧ RAt w' g { R with M := M, f := fl } ∧ W.grownBy w' (some g)) :
    Calls Try.prog 38 #[.pointer (some ⟨g, 0, none⟩), .agg #[.int .u16 (c : Int), .int .u8 (t : Int), .int .u8 (f : Int), .int .u32 (k : Int)]] w fun e w' => DoPost w g R good fl e w' := by
  have G0 : w.grownBy (w.alloc (.cells #[.int .u16 (c : Int), .int .u8 (t : Int), .int .u8 (f : Int), .int .u32 (k : Int)] 46)) none := World.grownBy_alloc _ _ _
  have C0 := cv_lit w 46 [.int .u16 (c : Int), .int .u8 (t : Int), .int .u8 (f : Int), .int .u32 (k : Int)]
  have HC : Hid (CV (w.alloc (.cells #[.int .u16 (c : Int), .int .u8 (t : Int), .int .u8 (f : Int), .int .u32 (k : Int)] 46)) (some ⟨w.heap.size, 0, none⟩) [.int .u16 (c : Int), .int .u8 (t : Int), .int .u8 (f : Int), .int .u32 (k : Int)]) := C0
  have HR : Hid (RAt w g R) := hr
  have HG : Hid (w.grownBy (w.alloc (.cells #[.int .u16 (c : Int), .int .u8 (t : Int), .int .u8 (f : Int), .int .u32 (k : Int)] 46)) none) := G0
  have HD : Hid (∀ W : World, w.grownBy W none → RAt W g R → Calls Try.prog fn #[.pointer (some ⟨g, 0, none⟩), .int .u32 (by' : Int)] W fun e w' => e = .returned (.tuple #[]) ∧ ∃ M, good M ∧ RAt w' g { R with M := M, f := fl } ∧ W.grownBy w' (some g)) := hD
  have hv1 := G0.cell hv (by simp)
  have hcd : (w.alloc (.cells #[.int .u16 (c : Int), .int .u8 (t : Int), .int .u8 (f : Int), .int .u32 (k : Int)] 46)).cell? ⟨g, 20, none⟩ = some (.slice (some ⟨d, 0, none⟩) 178 178) := by rw [← hd]; exact (hr.kept G0).tl 2
  have HO : Hid (∀ W : World, RAt W g R → Calls Try.prog 62 #[.pointer (some ⟨g, 0, none⟩), .agg #[.int .u16 (c : Int), .int .u8 (t : Int), .int .u8 (f : Int), .int .u32 (k : Int)]] W fun e w' => e = .returned (.int .u32 (by' : Int)) ∧ W.grownBy w' none) := fun W h => by
    rw [← hby]
    exact operand_any g c t f k R W h
  have hc1 : (c : Int) < 178 := by omega
  have HB : Hid (w.heap.size ≠ g ∧ d ≠ g ∧ R.d = .slice (some ⟨d, 0, none⟩) 178 178) := ⟨by have := hr.1.lt; omega, hdg, hd⟩
  clear C0 hr G0 hD hv hby hd hdg
  go_enter Try.func38, Try.ntmps38
  go_upto_region 1 with fail
  generalize w.alloc (.cells #[.int .u16 (c : Int), .int .u8 (t : Int), .int .u8 (f : Int), .int .u32 (k : Int)] 46) = w1 at *
  generalize w.heap.size = B at *
  have x0 : w1.cell? ⟨B, 0, none⟩ = some (.int .u16 (c : Int)) := HC.out.2 _ rfl 0 (by simp)
  have x1 : w1.cell? ⟨B, 1, none⟩ = some (.int .u8 (t : Int)) := HC.out.2 _ rfl 1 (by simp)
  have x2 : w1.cell? ⟨B, 2, none⟩ = some (.int .u8 (f : Int)) := HC.out.2 _ rfl 2 (by simp)
  have x3 : w1.cell? ⟨B, 3, none⟩ = some (.int .u32 (k : Int)) := HC.out.2 _ rfl 3 (by simp)
  clear HC
  have R1 : Hid (RAt w1 g R) := HR.out.kept HG.out
  have B0 : DoS w B g d c t f k (.func (.methodOf 106 nm) #[] #[]) w1 := ⟨x0, x1, x2, x3, hcd, hv1, grown_mono HG.out⟩
  clear x0 x1 x2 x3 hcd hv1
  go_region_held3 (fun W => W.cell? ⟨B, 0, none⟩ = some (.int .u16 (c : Int)) ∧ W.cell? ⟨B, 1, none⟩ = some (.int .u8 (t : Int)) ∧ W.cell? ⟨B, 2, none⟩ = some (.int .u8 (f : Int)) ∧ W.cell? ⟨B, 3, none⟩ = some (.int .u32 (k : Int)) ∧ W.cell? ⟨g, 20, none⟩ = some (.slice (some ⟨d, 0, none⟩) 178 178) ∧ W.cell? ⟨d, c, none⟩ = some (.func (.methodOf 106 nm) #[] #[]) ∧ w.grownBy W (some g)) (first | exact doS_deed K3 r3 HB.out.2.2 HB.out.1 HB.out.2.1 (by assumption) | exact doS_call K2 (by assumption) | exact doS_drewn B0) (first
    | (go_at_call 62; refine (HO.out _ ?_).mono ?_; (first | exact R1.out | exact R1.out.kept (grown_drewN _ 1 none)); rintro e w2 ⟨rfl, K2⟩; have G2 : Hid (w.grownBy w2 none) := (by first | exact grown_trans HG.out K2 | exact grown_trans HG.out (grown_trans (grown_drewN w1 1 none) K2)))
    | (go_at_fn fn; refine (HD.out _ G2.out (HR.out.kept G2.out)).mono ?_; rintro e w3 ⟨rfl, M3, hg3, r3, K3⟩))
  have G3 := grown_trans (grown_mono (row := some g) G2.out) K3
  have cf : w3.cell? ⟨g, 19, none⟩ = some (.int .i64 fl) := r3.tl 1
  have HE : Hid (∃ M, good M ∧ RAt w3 g { R with M := M, f := fl } ∧ w.grownBy w3 (some g)) := ⟨M3, hg3, r3, G3⟩
  clear B0 R1 HG HD HO HR K2 K3 G2 G3 hg3 r3
  go_wp2
  go_ret
  exact ⟨rfl, HE.out⟩

end Go.Proofs.Ytencoknpocipbaa
