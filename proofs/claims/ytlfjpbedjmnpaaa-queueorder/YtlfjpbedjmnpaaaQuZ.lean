/-
  riddlelaw21.awake: what every queue answers.
-/
import Derived.Test.YtlfjpbedjmnpaaaQuI
import Derived.Test.YtlfjpbedjmnpaaaQuW
import Derived.Test.YtlfjpbedjmnpaaaQuY2
namespace Go.Proofs.Ytlfjpbedjmnpaaa
open Go.RowKit
set_option maxRecDepth 100000

/-- New memory alone has been written: a queue that was made behind w. -/
structure AwQ (w wr : World) (g : Nat) (q : Lq) (cs : List Qc) : Prop where
  at' : LqAt wr w.heap.size q
  g : q.g = g
  abs : q.abs = cs
  gr : w.grownBy wr none

theorem AwQ.step {w wr w2 : World} {g : Nat} {q q' : Lq} {cs ds : List Qc} (h : AwQ w wr g q cs) (L : LqAt w2 w.heap.size q') (hg : q'.g = q.g) (ha : q'.abs = ds) (G : GW wr w2 q.foot) : AwQ w w2 g q' ds :=
  ⟨L, hg.trans h.g, ha, ((GW.non (S := q.foot) h.gr).trans G (fun x _ hx => hx)).grown (fun x hl hx => by have := (h.at'.lt x hx).1; omega)⟩
theorem AwQ.kept {w wr w2 : World} {g : Nat} {q : Lq} {cs : List Qc} (h : AwQ w wr g q cs) (K : wr.grownBy w2 none) : AwQ w w2 g q cs := ⟨h.at'.keptNone K, h.g, h.abs, grown_trans h.gr K⟩

theorem aw_put {w wr : World} {g : Nat} {q : Lq} {cs : List Qc} (h : AwQ w wr g q cs) (cl : Int) (b : List UInt8) :
    Calls Try.prog 15 #[.pointer (some ⟨g, 0, none⟩), .int .i64 cl, .slice (some ⟨wr.heap.size, 0, none⟩) b.length b.length] (wr.alloc (.cells (b.map bv).toArray 5)) fun e w' => e = .returned (.tuple #[.bool (putB cs cl b), .int .i64 (putE cs cl b)]) ∧ ∃ q', AwQ w w' g q' (putP cs cl b) := by
  have K := World.grownBy_alloc wr (.cells (b.map bv).toArray 5) none
  have h1 := h.kept K
  have C := cells_lit wr b
  have CP := lqput_any w.heap.size q cl (some ⟨wr.heap.size, 0, none⟩) b.length b _ h1.at' C (fun e => by cases e)
  rw [h1.g] at CP
  refine CP.mono ?_
  rintro e w' ⟨rfl, q', L, hg, ha, G, F⟩
  rw [h1.abs] at ha ⊢
  exact ⟨rfl, q', h1.step L hg ha G⟩

set_option maxHeartbeats 4000000 in
theorem awake21_any (w : World) : Calls Try.prog 11 #[] w fun e w' => e = .returned (.bool true) ∧ w.grownBy w' none := by
  have K0 := World.grownBy_alloc w (.cells #[.int .i64 1, .int .i64 2] 3) none
  have C0 : CV (w.alloc (.cells #[.int .i64 1, .int .i64 2] 3)) (some ⟨w.heap.size, 0, none⟩) ([1, 2].map iv) := cv_lit w 3 ([1, 2].map iv)
  have CN := lnew_any (some ⟨w.heap.size, 0, none⟩) 2 [1, 2] _ C0 (by decide)
  have HK : Hid (w.grownBy (w.alloc (.cells #[.int .i64 1, .int .i64 2] 3)) none) := K0
  clear K0 C0
  go_enter Try.func11, Try.ntmps11
  go_wp2_with fail
  refine CN.mono ?_
  rintro e w1 ⟨K1, ⟨hn, -⟩ | ⟨-, q, rfl, L, ha⟩⟩
  · exact absurd hn (by decide)
  obtain ⟨g, hg⟩ : ∃ g, q.g = g := ⟨_, rfl⟩
  have HA : Hid (AwQ w w1 g q [⟨1, 0, []⟩, ⟨2, 0, []⟩]) := ⟨L.mono HK.out.size, hg, ha, grown_trans HK.out K1⟩
  rw [hg]
  clear CN K1 L ha hg HK
  have C0 : Calls Try.prog 15 #[.pointer (some ⟨g, 0, none⟩), .int .i64 1, .slice (some ⟨w1.heap.size, 0, none⟩) 1 1] (w1.alloc (.cells #[.int .u8 1] 5)) fun e w' => e = .returned (.tuple #[.bool true, .int .i64 0]) ∧ ∃ q', AwQ w w' g q' [⟨1, 0, []⟩, ⟨2, 0, [[1]]⟩] := aw_put HA.out 1 [1]
  clear HA
  go_wp2_with fail
  refine C0.mono ?_
  rintro e w2 ⟨rfl, q1, A1⟩
  have HA1 : Hid (AwQ w w2 g q1 [⟨1, 0, []⟩, ⟨2, 0, [[1]]⟩]) := A1
  clear C0 A1
  have C1 : Calls Try.prog 15 #[.pointer (some ⟨g, 0, none⟩), .int .i64 0, .slice (some ⟨w2.heap.size, 0, none⟩) 1 1] (w2.alloc (.cells #[.int .u8 2] 5)) fun e w' => e = .returned (.tuple #[.bool true, .int .i64 0]) ∧ ∃ q', AwQ w w' g q' [⟨1, 0, [[2]]⟩, ⟨2, 0, [[1]]⟩] := aw_put HA1.out 0 [2]
  clear HA1
  go_wp2_with fail
  refine C1.mono ?_
  rintro e w3 ⟨rfl, q2, A2⟩
  have HA2 : Hid (AwQ w w3 g q2 [⟨1, 0, [[2]]⟩, ⟨2, 0, [[1]]⟩]) := A2
  clear C1 A2
  have C2 : Calls Try.prog 15 #[.pointer (some ⟨g, 0, none⟩), .int .i64 0, .slice (some ⟨w3.heap.size, 0, none⟩) 1 1] (w3.alloc (.cells #[.int .u8 3] 5)) fun e w' => e = .returned (.tuple #[.bool false, .int .i64 0]) ∧ ∃ q', AwQ w w' g q' [⟨1, 1, [[2]]⟩, ⟨2, 0, [[1]]⟩] := aw_put HA2.out 0 [3]
  clear HA2
  go_wp2_with fail
  refine C2.mono ?_
  rintro e w4 ⟨rfl, q3, A3⟩
  have HA3 : Hid (AwQ w w4 g q3 [⟨1, 1, [[2]]⟩, ⟨2, 0, [[1]]⟩]) := A3
  clear C2 A3
  have C3 : Calls Try.prog 15 #[.pointer (some ⟨g, 0, none⟩), .int .i64 1, .slice (some ⟨w4.heap.size, 0, none⟩) 1 1] (w4.alloc (.cells #[.int .u8 4] 5)) fun e w' => e = .returned (.tuple #[.bool true, .int .i64 0]) ∧ ∃ q', AwQ w w' g q' [⟨1, 1, [[2]]⟩, ⟨2, 0, [[1], [4]]⟩] := aw_put HA3.out 1 [4]
  clear HA3
  go_wp2_with fail
  refine C3.mono ?_
  rintro e w5 ⟨rfl, q4, A4⟩
  have HA4 : Hid (AwQ w w5 g q4 [⟨1, 1, [[2]]⟩, ⟨2, 0, [[1], [4]]⟩]) := A4
  clear C3 A4
  have CL := lqlens_any w.heap.size q4 w5 HA4.out.at'
  rw [HA4.out.g, HA4.out.abs] at CL
  go_wp2_with fail
  refine CL.mono ?_
  rintro e w6 ⟨n, rfl, N, K6⟩
  clear CL
  have A6 := HA4.out.kept K6
  have CT := lqtake_any w.heap.size q4 w6 A6.at'
  rw [A6.g] at CT
  have HN : Hid (ZOwns w6 w5.heap.size n [1, 2] ∧ AwQ w w6 g q4 [⟨1, 1, [[2]]⟩, ⟨2, 0, [[1], [4]]⟩] ∧ ∀ x, q4.foot x → x < w5.heap.size) := ⟨N, A6, fun x hx => (HA4.out.at'.lt x hx).2⟩
  clear HA4 N K6 A6
  go_wp2_with fail
  refine CT.mono ?_
  rintro e w7 T
  clear CT
  rcases T with ⟨t0, -⟩ | ⟨m, v, b, q5, t0, rfl, L, hg, G, F, O, hp⟩
  · rw [HN.out.2.1.abs] at t0
    cases t0
  · rw [HN.out.2.1.abs] at t0
    have t1 : takeP [⟨1, 1, [[2]]⟩, ⟨2, 0, [[1], [4]]⟩] = some (0, [2], [⟨1, 1, []⟩, ⟨2, 0, [[1], [4]]⟩]) := rfl
    rw [t1] at t0
    simp only [Option.some.injEq, Prod.mk.injEq] at t0
    obtain ⟨rfl, rfl, habs⟩ := t0
    have A7 : AwQ w w7 g q5 [⟨1, 1, []⟩, ⟨2, 0, [[1], [4]]⟩] := HN.out.2.1.step L hg habs.symm G
    have N7 : ZOwns w7 w5.heap.size n [1, 2] := G.row HN.out.1 (fun x hx hq => by
      have h1 := (HN.out.1.lt x hx).1
      have := HN.out.2.2 x hq
      omega)
    obtain ⟨an, cn, hn, -⟩ := CV.ofRow N7
    obtain ⟨av, cv, hv, -⟩ := O.shape
    have HN7 : Hid (ZOwns w7 w5.heap.size n [1, 2] ∧ Owns w7 w.heap.size v [2] ∧ AwQ w w7 g q5 [⟨1, 1, []⟩, ⟨2, 0, [[1], [4]]⟩]) := ⟨N7, O, A7⟩
    clear t1 habs L hg G F O hp A7 N7 HN
    subst hn hv
    have B8 := World.grownBy_alloc w7 (.cells #[.int .i64 1, .int .i64 2] 3) none
    have C8 : CV (w7.alloc (.cells #[.int .i64 1, .int .i64 2] 3)) (some ⟨w7.heap.size, 0, none⟩) ([1, 2].map iv) := cv_lit w7 3 ([1, 2].map iv)
    have N8 : CV (w7.alloc (.cells #[.int .i64 1, .int .i64 2] 3)) an ([1, 2].map iv) := by
      obtain ⟨a9, c9, h9, C9, -⟩ := CV.ofRow (owns_keptNone HN7.out.1 B8)
      simp only [Value.slice.injEq] at h9
      obtain ⟨rfl, -, -⟩ := h9
      exact C9
    have CS : Calls Try.prog 20 #[.slice an 2 cn, .slice (some ⟨w7.heap.size, 0, none⟩) 2 2] (w7.alloc (.cells #[.int .i64 1, .int .i64 2] 3)) fun e w' => e = .returned (.bool true) ∧ ∃ n, w' = (w7.alloc (.cells #[.int .i64 1, .int .i64 2] 3)).drewN n := zsame_any an (some ⟨w7.heap.size, 0, none⟩) cn 2 [1, 2] _ N8 C8 (by decide)
    have HK8 : Hid (w7.grownBy (w7.alloc (.cells #[.int .i64 1, .int .i64 2] 3)) none) := B8
    clear B8 C8 N8
    go_wp2_with fail
    refine CS.mono ?_
    rintro e w8 ⟨rfl, n8, rfl⟩
    clear CS
    have K8 : w7.grownBy ((w7.alloc (.cells #[.int .i64 1, .int .i64 2] 3)).drewN n8) none := grown_trans HK8.out (grown_drewN _ _ _)
    generalize (w7.alloc (.cells #[.int .i64 1, .int .i64 2] 3)).drewN n8 = w8 at *
    have K9 := World.grownBy_alloc w8 (.cells #[.int .u8 2] 5) none
    have C9 : Cells (w8.alloc (.cells #[.int .u8 2] 5)) (some ⟨w8.heap.size, 0, none⟩) [2] := cells_lit w8 [2]
    have N9 : Cells (w8.alloc (.cells #[.int .u8 2] 5)) av [2] := by
      have O9 : Owns (w8.alloc (.cells #[.int .u8 2] 5)) w.heap.size (.slice av [(2 : UInt8)].length cv) [2] := owns_keptNone (owns_keptNone HN7.out.2.1 K8) K9
      obtain ⟨a9, c9, h9, C9, -⟩ := O9.shape
      simp only [Value.slice.injEq] at h9
      obtain ⟨rfl, -, -⟩ := h9
      exact C9
    have CB : Calls Try.prog 19 #[.slice av 1 cv, .slice (some ⟨w8.heap.size, 0, none⟩) 1 1] (w8.alloc (.cells #[.int .u8 2] 5)) fun e w' => e = .returned (.bool true) ∧ ∃ n, w' = (w8.alloc (.cells #[.int .u8 2] 5)).drewN n := same_any av (some ⟨w8.heap.size, 0, none⟩) cv 1 [2] _ N9 C9 (by decide)
    have HK9 : Hid (w7.grownBy (w8.alloc (.cells #[.int .u8 2] 5)) none) := grown_trans K8 K9
    clear K8 K9 C9 N9 HK8
    go_wp2_with fail
    refine CB.mono ?_
    rintro e w9 ⟨rfl, n9, rfl⟩
    clear CB
    have A10 := HN7.out.2.2.kept (grown_trans HK9.out (grown_drewN _ n9 none))
    clear HK9
    generalize (w8.alloc (.cells #[.int .u8 2] 5)).drewN n9 = w10 at *
    have CD := lqdropped_any w.heap.size q5 w10 A10.at'
    rw [A10.g, A10.abs] at CD
    have HA10 : Hid (AwQ w w10 g q5 [⟨1, 1, []⟩, ⟨2, 0, [[1], [4]]⟩]) := A10
    clear A10 HN7
    go_wp2_with fail
    refine CD.mono ?_
    rintro e w11 ⟨dv, rfl, D, K11⟩
    clear CD
    obtain ⟨ad, cd, hd, -⟩ := CV.ofRow D
    subst hd
    have K12 := World.grownBy_alloc w11 (.cells #[.int .u32 1, .int .u32 0] 60) none
    have C12 : CV (w11.alloc (.cells #[.int .u32 1, .int .u32 0] 60)) (some ⟨w11.heap.size, 0, none⟩) ([1, 0].map wv) := cv_lit w11 60 ([1, 0].map wv)
    have D12 : CV (w11.alloc (.cells #[.int .u32 1, .int .u32 0] 60)) ad ([1, 0].map wv) := by
      obtain ⟨a9, c9, h9, C9, -⟩ := CV.ofRow (owns_keptNone D K12)
      simp only [Value.slice.injEq] at h9
      obtain ⟨rfl, -, -⟩ := h9
      exact C9
    have CW : Calls Try.prog 23 #[.slice ad 2 cd, .slice (some ⟨w11.heap.size, 0, none⟩) 2 2] (w11.alloc (.cells #[.int .u32 1, .int .u32 0] 60)) fun e w' => e = .returned (.bool true) ∧ ∃ n, w' = (w11.alloc (.cells #[.int .u32 1, .int .u32 0] 60)).drewN n := Wd.same_any ad (some ⟨w11.heap.size, 0, none⟩) cd 2 [1, 0] _ (wcells D12) (wcells C12) (by decide)
    have HK12 : Hid (w10.grownBy (w11.alloc (.cells #[.int .u32 1, .int .u32 0] 60)) none) := grown_trans K11 K12
    clear K11 K12 D C12 D12
    go_wp2_with fail
    refine CW.mono ?_
    rintro e w13 ⟨rfl, n13, rfl⟩
    clear CW
    have A13 := HA10.out.kept (grown_trans HK12.out (grown_drewN _ n13 none))
    clear HK12 HA10
    generalize (w11.alloc (.cells #[.int .u32 1, .int .u32 0] 60)).drewN n13 = w13 at *
    have CX := lqdrain_any w.heap.size q5 w13 A13.at'
    rw [A13.g] at CX
    have HA13 : Hid (AwQ w w13 g q5 [⟨1, 1, []⟩, ⟨2, 0, [[1], [4]]⟩]) := A13
    clear A13
    go_wp2_with fail
    refine CX.mono ?_
    rintro e w14 ⟨x, fs, q6, rfl, hfs, hg6, hcl6, L6, G6, F6, DD⟩
    clear CX
    have hfl : fs.length = 2 := by
      have := congrArg List.length hfs
      rw [HA13.out.abs, List.length_map] at this
      exact this
    have A14 := HA13.out.step L6 hg6 rfl G6
    have HG : Hid (w.grownBy w14 none) := A14.gr
    obtain ⟨ax, cx, hx, -⟩ := CV.ofRow DD.1
    rw [hfl] at hx
    subst hx
    clear hfs hg6 hcl6 L6 G6 F6 DD A14 HA13 hfl
    go_wp2
    go_ret
    exact ⟨rfl, HG.out⟩

end Go.Proofs.Ytlfjpbedjmnpaaa
