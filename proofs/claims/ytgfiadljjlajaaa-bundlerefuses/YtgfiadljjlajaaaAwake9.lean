/-
  What every program answers that is one: awake of stage 9.
-/
import Derived.Test.YtgfiadljjlajaaaBundleC
import Derived.Test.YtgfiadljjlajaaaSame
import Derived.Test.YtgfiadljjlajaaaCopy
import Derived.Deep.DeepCutAuto
namespace Go.Proofs.Ytgfiadljjlajaaa
open Go.RowKit
set_option maxRecDepth 100000

theorem LLv.gb {w w' : World} {base : Nat} {v : Value} {vs : List Value} {xss : List (List UInt8)} {S : Nat → Prop} (h : LLv w base v vs xss) (G : GB w w' S) (hS : ∀ x, x < w.heap.size → S x → False) : LLv w' base v vs xss :=
  h.keptNone (G.grown hS)

def k9 : Lk := ⟨false, false, 1⟩
theorem split9 : splitX k9 [1, 2, 3] 2 4095 = .ok [[255, 3, 0, 61, 143, 255, 1, 2], [255, 3, 0, 61, 64, 0, 3]] := by kernel_rfl
theorem new9 : newX k9 4095 = .ok ⟨4095, false, []⟩ := by kernel_rfl
theorem feed9a : feedX k9 ⟨4095, false, []⟩ [255, 3, 0, 61, 143, 255, 1, 2] = .ok (⟨0, true, [1, 2]⟩, [], false) := by kernel_rfl
theorem feed9b : feedX k9 ⟨0, true, [1, 2]⟩ [255, 3, 0, 61, 64, 0, 3] = .ok (⟨1, false, []⟩, [1, 2, 3], true) := by kernel_rfl

set_option maxHeartbeats 2000000 in
theorem awake9_any (w : World) : Calls Try.prog 17 #[] w fun e w' => e = .returned (.bool true) ∧ w.grownBy w' none := by
  have GA := World.grownBy_alloc w (.cells #[.bool false, .bool false, .int .i64 1] 23) none
  go_enter Try.func17, Try.ntmps17
  go_wp2_with fail
  have CL : Cells ((w.alloc (.cells #[.bool false, .bool false, .int .i64 1] 23)).alloc (.cells #[.int .u8 1, .int .u8 2, .int .u8 3] 5)) (some ⟨w.heap.size + 1, 0, none⟩) [1, 2, 3] := by
    have := cells_lit (w.alloc (.cells #[.bool false, .bool false, .int .i64 1] 23)) [1, 2, 3]
    rw [show (w.alloc (.cells #[.bool false, .bool false, .int .i64 1] 23)).heap.size = w.heap.size + 1 by simp] at this
    exact this
  have GB1 := grown_trans GA (World.grownBy_alloc (w.alloc (.cells #[.bool false, .bool false, .int .i64 1] 23)) (.cells #[.int .u8 1, .int .u8 2, .int .u8 3] 5) none)
  have LK : VAt ((w.alloc (.cells #[.bool false, .bool false, .int .i64 1] 23)).alloc (.cells #[.int .u8 1, .int .u8 2, .int .u8 3] 5)) w.heap.size 23 #[.bool false, .bool false, .int .i64 1] := (VAt.alloc w _ _).kept (World.grownBy_alloc _ _ _)
  have CS := split_any k9 (some ⟨w.heap.size + 1, 0, none⟩) 3 [1, 2, 3] 2 4095 _ CL (by simp) (by simp) (by simp)
  rw [split9] at CS
  simp only [exV, exE] at CS
  refine CS.mono ?_
  rintro e w1 ⟨v, rfl, ⟨vs, LV⟩, K1⟩
  have G1 := grown_trans GB1 K1
  have LK1 := LK.kept K1
  clear CS CL GA GB1 LK K1
  generalize w.heap.size = L at *
  obtain ⟨g, cap, ao0, ca0, rfl, i0, -, C0, O0⟩ := LV.item (i := 0) (by simp)
  obtain ⟨g', cap', ao1, ca1, hv, i1, -, C1, O1⟩ := LV.item (i := 1) (by simp)
  simp only [List.length_cons, List.length_nil, Value.slice.injEq, Option.some.injEq, Addr.mk.injEq] at hv
  obtain ⟨⟨rfl, -⟩, -, rfl⟩ := hv
  simp only [List.getD_cons_zero, List.getD_cons_succ, List.length_cons, List.length_nil] at i0 i1 C0 C1 O0 O1
  have i0' : w1.cell? ⟨g, 0, none⟩ = some (.slice ao0 8 ca0) := i0
  have i1' : w1.cell? ⟨g, 1, none⟩ = some (.slice ao1 7 ca1) := i1
  have HC : Hid (Cells w1 ao0 [255, 3, 0, 61, 143, 255, 1, 2] ∧ Cells w1 ao1 [255, 3, 0, 61, 64, 0, 3]) := ⟨C0, C1⟩
  have H0 : Hid ((ao0 = none → ca0 = 0) ∧ (ao1 = none → ca1 = 0) ∧ 8 ≤ ca0 ∧ 7 ≤ ca1 ) := by
    obtain ⟨p1, q1, r1, -, s1, -, u1, -⟩ := cv_of_row O0
    obtain ⟨p2, q2, r2, -, s2, -, u2, -⟩ := cv_of_row O1
    simp only [Value.slice.injEq] at r1 r2
    obtain ⟨rfl, -, rfl⟩ := r1
    obtain ⟨rfl, -, rfl⟩ := r2
    simp only [List.length_cons, List.length_nil] at s1 s2
    exact ⟨u1, u2, by omega, by omega⟩
  clear i0 i1 C0 C1
  have HI1 : Hid (w1.cell? ⟨g, 1, none⟩ = some (.slice ao1 7 ca1)) := i1'
  have HW1 : Hid (w.heap.size ≤ w1.heap.size) := G1.size
  have HLV : Hid (LLv w1 _ _ vs [[255, 3, 0, 61, 143, 255, 1, 2], [255, 3, 0, 61, 64, 0, 3]]) := LV
  clear LV
  have y0 : w1.cell? ⟨L, 0, none⟩ = some (.bool false) := LK1.cell 0
  have y1 : w1.cell? ⟨L, 1, none⟩ = some (.bool false) := LK1.cell 1
  have y2 : w1.cell? ⟨L, 2, none⟩ = some (.int .i64 1) := LK1.cell 2
  have CN := new_ok k9 4095 _ w1 new9
  go_wp2_with fail
  refine CN.mono ?_
  rintro e w2 ⟨p, S, rfl, B2, K2⟩
  obtain ⟨hS, ad, rfl⟩ := B2.lt
  have j1 := K2.cell i1' (by simp)
  have j0 := K2.cell i0' (by simp)
  have G2 := grown_trans G1 K2
  have HK2 : Hid (w1.grownBy w2 none) := K2
  clear CN y0 y1 y2 i0' i1' LK1 O0 O1 G1 K2
  go_wp2_with fail
  have KL := World.grownBy_alloc w2 (.cells #[.int .u8 255, .int .u8 3, .int .u8 0, .int .u8 61, .int .u8 64, .int .u8 0, .int .u8 3] 5) none
  refine (same_any ao1 (some ⟨w2.heap.size, 0, none⟩) ca1 7 [255, 3, 0, 61, 64, 0, 3] _ ((HC.out.2.keptNone HK2.out).keptNone KL) (cells_lit w2 [255, 3, 0, 61, 64, 0, 3]) (by simp)).mono ?_
  rintro e w3 ⟨rfl, n3, rfl⟩
  have K3 := grown_trans KL (grown_drewN (w2.alloc (.cells #[.int .u8 255, .int .u8 3, .int .u8 0, .int .u8 61, .int .u8 64, .int .u8 0, .int .u8 3] 5)) n3 none)
  generalize (w2.alloc (.cells #[.int .u8 255, .int .u8 3, .int .u8 0, .int .u8 61, .int .u8 64, .int .u8 0, .int .u8 3] 5)).drewN n3 = w3 at *
  have G3 := grown_trans G2 K3
  have B3 : BAt w3 w1.heap.size (.pointer (some ad)) k9 ⟨4095, false, []⟩ S := B2.kept (S' := fun _ => False) (GB.non K3) (fun _ _ h => h)
  have HK3 : Hid (w1.grownBy w3 none) := grown_trans HK2.out K3
  have k0 := K3.cell j0 (by simp)
  have k1 := K3.cell j1 (by simp)
  have HLT : Hid (g < w1.heap.size) := by
    show g < w1.heap.size
    have := (HLV.out.1.lt g rfl).2
    exact this
  clear KL K3 B2 j0 j1 G2 HK2
  go_wp2_with fail
  refine (copy_any ao0 ca0 [255, 3, 0, 61, 143, 255, 1, 2] _ (HC.out.1.keptNone HK3.out) H0.out.1 (by simp)).mono ?_
  rintro e w4 ⟨y4, rfl, O4, K4⟩
  have G4 := grown_trans G3 K4
  have B4 : BAt w4 w1.heap.size (.pointer (some ad)) k9 ⟨4095, false, []⟩ S := B3.kept (S' := fun _ => False) (GB.non K4) (fun _ _ h => h)
  have l1 := K4.cell k1 (by simp)
  have HK4 : Hid (w1.grownBy w4 none) := grown_trans HK3.out K4
  obtain ⟨ao4, ca4, rfl, C4, h4a, -, h4b, -⟩ := O4.shape
  have h40 : ao4 = none → ca4 = 0 := by
    obtain ⟨ao', cap', e', -, -, -, h0, -⟩ := cv_of_row O4
    simp only [Value.slice.injEq] at e'
    obtain ⟨rfl, -, rfl⟩ := e'
    exact h0
  have CF := feed_any w1.heap.size (.pointer (some ad)) k9 ⟨4095, false, []⟩ S ao4 ca4 [255, 3, 0, 61, 143, 255, 1, 2] w4 B4 C4 h40 h4a (by simp) (fun x hx _ hs => by have := (h4b x hx).1; have := (B3.lt.1 _ hs).2; omega)
  rw [feed9a] at CF
  simp only [exV, exE] at CF
  clear k0 k1 B3 B4 K4 O4 C4
  go_wp2_with fail
  refine CF.mono ?_
  rintro e w5 ⟨x5, S5, rfl, O5, B5, hS5, -, F5⟩
  have HK5 : Hid (w1.grownBy w5 none) := ((GB.non (S := S) HK4.out).trans F5 (fun _ _ h => h)).grown (fun x hx h => by have := (hS x h).1; omega)
  have G5 : w.grownBy w5 none := ((GB.non (S := S) G4).trans F5 (fun _ _ h => h)).grown (fun x hx h => by have := (hS x h).1; have := HW1.out; omega)
  have m1 := HK5.out.cell (HI1.out) (by simp)
  have hS5' : ∀ x, S5 x → w1.heap.size ≤ x := fun x h => by
    rcases hS5 x h with q | q
    · exact (hS x q).1
    · have := HK4.out.size
      omega
  clear CF O5 F5 l1 hS5
  go_wp2_with fail
  refine (copy_any ao1 ca1 [255, 3, 0, 61, 64, 0, 3] _ (HC.out.2.keptNone HK5.out) H0.out.2.1 (by simp)).mono ?_
  rintro e w6 ⟨y6, rfl, O6, K6⟩
  have G6 := grown_trans G5 K6
  have B6 : BAt w6 w1.heap.size (.pointer (some ad)) k9 ⟨0, true, [1, 2]⟩ S5 := B5.kept (S' := fun _ => False) (GB.non K6) (fun _ _ h => h)
  obtain ⟨ao6, ca6, rfl, C6, h6a, -, h6b, -⟩ := O6.shape
  have h60 : ao6 = none → ca6 = 0 := by
    obtain ⟨ao', cap', e', -, -, -, h0, -⟩ := cv_of_row O6
    simp only [Value.slice.injEq] at e'
    obtain ⟨rfl, -, rfl⟩ := e'
    exact h0
  have CF := feed_any w1.heap.size (.pointer (some ad)) k9 ⟨0, true, [1, 2]⟩ S5 ao6 ca6 [255, 3, 0, 61, 64, 0, 3] w6 B6 C6 h60 h6a (by simp) (fun x hx _ hs => by have := (h6b x hx).1; have := (B5.lt.1 _ hs).2; omega)
  rw [feed9b] at CF
  simp only [exV, exE] at CF
  clear m1 B5 B6 K6 O6 C6
  go_wp2_with fail
  refine CF.mono ?_
  rintro e w7 ⟨x7, S7, rfl, O7, B7, -, -, F7⟩
  have G7 : w.grownBy w7 none := ((GB.non (S := S5) G6).trans F7 (fun _ _ h => h)).grown (fun x hx h => by have := hS5' x h; have := HW1.out; omega)
  have CW := waits_any w1.heap.size (.pointer (some ad)) k9 ⟨1, false, []⟩ S7 w7 B7
  simp only [List.length_nil] at CW
  obtain ⟨ao7, ca7, rfl, C7, -, -, -, -⟩ := O7.shape
  have HC7 : Hid (Cells w7 ao7 [1, 2, 3]) := C7
  clear CF O7 F7 C7 B7
  go_wp2_with fail
  refine CW.mono ?_
  rintro e w8 ⟨rfl, n8, rfl⟩
  clear CW
  go_wp2_with fail
  have KL := World.grownBy_alloc (w7.drewN n8) (.cells #[.int .u8 1, .int .u8 2, .int .u8 3] 5) none
  have K78 := grown_trans (grown_drewN w7 n8 none) KL
  refine (same_any ao7 (some ⟨w7.heap.size, 0, none⟩) ca7 3 [1, 2, 3] _ (HC7.out.keptNone K78) (cells_lit (w7.drewN n8) [1, 2, 3]) (by simp)).mono ?_
  rintro e w9 ⟨rfl, n9, rfl⟩
  have G9 := grown_trans G7 (grown_trans K78 (grown_drewN _ n9 none))
  clear KL K78
  go_wp2
  go_ret
  exact ⟨rfl, G9⟩

end Go.Proofs.Ytgfiadljjlajaaa
