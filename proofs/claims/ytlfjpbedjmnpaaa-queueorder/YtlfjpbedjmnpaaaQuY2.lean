/-
  riddlelaw21.told: Lens, Dropped.
-/
import Derived.Test.YtlfjpbedjmnpaaaQuY
namespace Go.Proofs.Ytlfjpbedjmnpaaa
open Go.RowKit
set_option maxRecDepth 100000

theorem lens_len (q : Lq) : (lensP q.abs).length = q.cs.length := by simp [lensP, Lq.abs]
theorem lost_len (q : Lq) : (lostP q.abs).length = q.cs.length := by simp [lostP, Lq.abs]

theorem zsl {w : World} {base : Nat} {v : Value} {xs : List Int} (h : ZOwns w base v xs) : ∃ a c, v = .slice a xs.length c ∧ CV w a (xs.map iv) := by
  obtain ⟨a, c, hv, C, -⟩ := CV.ofRow h
  exact ⟨a, c, hv, C⟩

set_option maxHeartbeats 4000000 in
theorem told2_any (base : Nat) (q : Lq) (r : Rq) (cl : Int) (a : Option Addr) (n ca : Nat) (w : World) (h : Two w base q r) :
    Calls Try.prog 13 #[.pointer (some ⟨q.g, 0, none⟩), .pointer (some ⟨r.g, 0, none⟩), .agg #[.int .i64 2, .int .i64 cl, .slice a n ca]] w (ToldP w base q r) := by
  have K0 := World.grownBy_alloc w (.cells #[.int .i64 2, .int .i64 cl, .slice a n ca] 37) none
  have B0 := QBk.alloc w 37 #[.int .i64 2, .int .i64 cl, .slice a n ca]
  have x0 := B0.cell 0
  have HT : Hid (Two (w.alloc (.cells #[.int .i64 2, .int .i64 cl, .slice a n ca] 37)) base q r) := h.keptNone K0
  have HB : Hid (∀ e w', ToldP (w.alloc (.cells #[.int .i64 2, .int .i64 cl, .slice a n ca] 37)) base q r e w' → ToldP w base q r e w') := fun e w' => ToldP.back K0
  clear h K0 B0
  go_enter Try.func13, Try.ntmps13
  go_upto_region 1 with fail
  generalize w.alloc (.cells #[.int .i64 2, .int .i64 cl, .slice a n ca] 37) = w0 at *
  have hll : (lensP q.abs).length ≤ 17 := by rw [lens_len]; exact HT.out.la.few
  have har : lensP r.abs = lensP q.abs := by rw [HT.out.abs]
  have C1 := lqlens_any base q w0 HT.out.la
  go_wp2_with fail
  refine C1.mono ?_
  rintro e w1 ⟨x, rfl, X, K1⟩
  clear C1 x0
  have C2 := lqlens_any base q w1 (HT.out.la.keptNone K1)
  go_wp2_with fail
  refine C2.mono ?_
  rintro e w2 ⟨y, rfl, Y, K2⟩
  clear C2
  have K12 := grown_trans K1 K2
  have C3 := rqlens_any base r w2 (HT.out.ra.keptNone K12)
  rw [har] at C3
  go_wp2_with fail
  refine C3.mono ?_
  rintro e w3 ⟨z, rfl, Z, K3⟩
  clear C3
  have K13 := grown_trans K12 K3
  have X3 : ZOwns w3 w0.heap.size x (lensP q.abs) := owns_keptNone X (grown_trans K2 K3)
  have Y3 : ZOwns w3 w1.heap.size y (lensP q.abs) := owns_keptNone Y K3
  obtain ⟨ax, cx, hx, CX⟩ := zsl X3
  obtain ⟨ay, cy, hy, -⟩ := zsl Y3
  obtain ⟨az, cz, hz, CZ⟩ := zsl Z
  have C4 := zsame_any ax az cx cz (lensP q.abs) w3 CX CZ (by omega)
  have HX : Hid (ZOwns w3 w0.heap.size x (lensP q.abs) ∧ ZOwns w3 w1.heap.size y (lensP q.abs) ∧ w0.grownBy w3 none ∧ x.ownBlock ≠ none → True) := fun _ => trivial
  have hxl : ∀ k, x.ownBlock = some k → w0.heap.size ≤ k ∧ k < w1.heap.size := fun k hk => X.lt k hk
  have hyl : ∀ k, y.ownBlock = some k → w1.heap.size ≤ k := fun k hk => (Y.lt k hk).1
  have HXY : Hid (ZOwns w3 w0.heap.size x (lensP q.abs) ∧ ZOwns w3 w1.heap.size y (lensP q.abs) ∧ w0.grownBy w3 none ∧ (∀ k, x.ownBlock = some k → w0.heap.size ≤ k ∧ k < w1.heap.size) ∧ (∀ k, y.ownBlock = some k → w1.heap.size ≤ k)) := ⟨X3, Y3, K13, hxl, hyl⟩
  clear X Y X3 Y3 K1 K2 K3 K12 K13 CX CZ Z HX hxl hyl
  subst hx hy hz
  go_wp2_with fail
  refine C4.mono ?_
  rintro e w4 ⟨rfl, n4, rfl⟩
  clear C4
  have C5 := zspoil_own (w3.drewN n4) (owns_keptNone HXY.out.1 (grown_drewN _ _ none)) (by omega)
  go_wp2_with fail
  refine C5.mono ?_
  rintro e w5 ⟨rfl, K5⟩
  clear C5
  have GS : GW w0 w5 (fun k => w0.heap.size ≤ k) := (GW.non (S := fun k => w0.heap.size ≤ k) (grown_trans HXY.out.2.2.1 (grown_drewN w3 n4 none))).trans (GW.of (S := fun k => w0.heap.size ≤ k) K5 (fun k hk => (HXY.out.2.2.2.1 k hk).1)) (fun k _ h => h)
  have T5 : Two w5 base q r := HT.out.gw GS (fun k hk h => by have := (HT.out.la.lt k hk).2; omega) (fun k hk h => by have := (HT.out.ra.lt k hk).2; omega)
  have G5 : w0.grownBy w5 none := GS.grown (fun k hk h => by omega)
  have Y5 : ZOwns w5 w1.heap.size (.slice ay (lensP q.abs).length cy) (lensP q.abs) := by
    refine World.ownsRow.kept (owns_keptNone HXY.out.2.1 (grown_drewN _ n4 none)) K5 ?_
    cases hk : (Value.slice ay (lensP q.abs).length cy).ownBlock with
    | none => exact .inl rfl
    | some k =>
      right
      intro e
      have h1 := HXY.out.2.2.2.2 k hk
      have h2 := (HXY.out.2.2.2.1 k e.symm).2
      omega
  have HT5 : Hid (Two w5 base q r ∧ w0.grownBy w5 none ∧ ZOwns w5 w1.heap.size (.slice ay (lensP q.abs).length cy) (lensP q.abs)) := ⟨T5, G5, Y5⟩
  clear GS T5 G5 Y5 K5 HXY
  have C6 := rqlens_any base r w5 HT5.out.1.ra
  rw [har] at C6
  go_wp2_with fail
  refine C6.mono ?_
  rintro e w6 ⟨z6, rfl, Z6, K6⟩
  clear C6
  obtain ⟨az6, cz6, hz6, CZ6⟩ := zsl Z6
  obtain ⟨ay6, cy6, hy6, CY6⟩ := zsl (show ZOwns w6 w1.heap.size (.slice ay (lensP q.abs).length cy) (lensP q.abs) from owns_keptNone HT5.out.2.2 K6)
  simp only [Value.slice.injEq, true_and] at hy6
  obtain ⟨rfl, rfl⟩ := hy6
  have C7 := zsame_any ay az6 cy cz6 (lensP q.abs) w6 CY6 CZ6 (by omega)
  subst hz6
  have HK6 : Hid (w5.grownBy w6 none) := K6
  clear Z6 K6 CZ6 CY6
  go_wp2_with fail
  refine C7.mono ?_
  rintro e w7 ⟨rfl, n7, rfl⟩
  clear C7
  have KK : w0.grownBy (w6.drewN n7) none := grown_trans HT5.out.2.1 (grown_trans HK6.out (grown_drewN _ _ _))
  have HF : Hid (ToldP w base q r (.returned (.bool true)) (w6.drewN n7)) := HB.out _ _ ⟨rfl, q, r, HT5.out.1.keptNone (grown_trans HK6.out (grown_drewN _ _ _)), rfl, rfl, GW.non KK, Foots.refl _ _, Foots.refl _ _⟩
  clear KK HK6 HT5
  go_wp2
  go_ret
  exact HF.out

theorem wcells {w : World} {a : Option Addr} {xs : List UInt32} (h : CV w a (xs.map wv)) : Wd.Cells w a xs := by
  refine ⟨fun e => by simpa using h.1 e, fun ad had i hi => ?_⟩
  rw [h.2 ad had i (by simpa using hi)]
  simp [wv, Wd.bv]
theorem rlost_cv {w : World} {base : Nat} {r : Rq} (h : RqAt w base r) : CV w (some ⟨r.gl, 0, none⟩) ((lostP r.abs).map wv) := by
  have e : lcells r.cs = (lostP r.abs).map wv := by
    unfold lcells lostP Rq.abs
    simp only [List.map_map]
    refine List.map_congr_left fun c hc => ?_
    have := (h.dep c hc).2.2
    have e0 : (UInt32.ofNat c.lost).toNat = c.lost := by simp; omega
    simp [wv, Cq.abs, e0]
  rw [← e]
  refine ⟨fun h => (by cases h), fun ad had i hi => ?_⟩
  obtain rfl := Option.some.inj had
  rw [Addr.add_lit, Nat.zero_add, h.lst.cell]
  simp [hi]

theorem wsl {w : World} {base : Nat} {v : Value} {xs : List UInt32} (h : w.ownsRow base 60 1 v xs.length (xs.map wv)) : ∃ a c, v = .slice a xs.length c ∧ Wd.Cells w a xs := by
  obtain ⟨a, c, hv, C, -⟩ := CV.ofRow h
  exact ⟨a, c, hv, wcells C⟩

set_option maxHeartbeats 4000000 in
theorem told3_any (base : Nat) (q : Lq) (r : Rq) (cl : Int) (a : Option Addr) (n ca : Nat) (w : World) (h : Two w base q r) :
    Calls Try.prog 13 #[.pointer (some ⟨q.g, 0, none⟩), .pointer (some ⟨r.g, 0, none⟩), .agg #[.int .i64 3, .int .i64 cl, .slice a n ca]] w (ToldP w base q r) := by
  have K0 := World.grownBy_alloc w (.cells #[.int .i64 3, .int .i64 cl, .slice a n ca] 37) none
  have B0 := QBk.alloc w 37 #[.int .i64 3, .int .i64 cl, .slice a n ca]
  have x0 := B0.cell 0
  have HT : Hid (Two (w.alloc (.cells #[.int .i64 3, .int .i64 cl, .slice a n ca] 37)) base q r) := h.keptNone K0
  have HB : Hid (∀ e w', ToldP (w.alloc (.cells #[.int .i64 3, .int .i64 cl, .slice a n ca] 37)) base q r e w' → ToldP w base q r e w') := fun e w' => ToldP.back K0
  clear h K0 B0
  go_enter Try.func13, Try.ntmps13
  go_upto_region 1 with fail
  generalize w.alloc (.cells #[.int .i64 3, .int .i64 cl, .slice a n ca] 37) = w0 at *
  have hll : (lostP q.abs).length ≤ 17 := by rw [lost_len]; exact HT.out.la.few
  have har : lostP r.abs = lostP q.abs := by rw [HT.out.abs]
  have hlr : r.cs.length = (lostP q.abs).length := by rw [← har]; simp [lostP, Rq.abs]
  have C1 := lqdropped_any base q w0 HT.out.la
  go_wp2_with fail
  refine C1.mono ?_
  rintro e w1 ⟨x, rfl, X, K1⟩
  clear C1 x0
  have C2 := lqdropped_any base q w1 (HT.out.la.keptNone K1)
  go_wp2_with fail
  refine C2.mono ?_
  rintro e w2 ⟨y, rfl, Y, K2⟩
  clear C2
  have K12 := grown_trans K1 K2
  have RA := HT.out.ra.keptNone K12
  have c2 : w2.cell? ⟨r.g, 2, none⟩ = some r.lv := RA.cells3.2.2
  unfold Rq.lv at c2
  rw [hlr] at c2
  have CZ := rlost_cv RA
  rw [har] at CZ
  have X3 : w2.ownsRow w0.heap.size 60 1 x (lostP q.abs).length ((lostP q.abs).map wv) := owns_keptNone X K2
  obtain ⟨ax, cx, hx, CX⟩ := wsl X3
  obtain ⟨ay, cy, hy, -⟩ := wsl Y
  have C4 := Wd.same_any ax (some ⟨r.gl, 0, none⟩) cx (lostP q.abs).length (lostP q.abs) w2 CX (wcells CZ) (by omega)
  have HXY : Hid (w2.ownsRow w0.heap.size 60 1 x (lostP q.abs).length ((lostP q.abs).map wv) ∧ w2.ownsRow w1.heap.size 60 1 y (lostP q.abs).length ((lostP q.abs).map wv) ∧ w0.grownBy w2 none ∧ (∀ k, x.ownBlock = some k → w0.heap.size ≤ k ∧ k < w1.heap.size) ∧ (∀ k, y.ownBlock = some k → w1.heap.size ≤ k)) := ⟨X3, Y, K12, fun k hk => X.lt k hk, fun k hk => (Y.lt k hk).1⟩
  clear X Y X3 K1 K2 K12 CX CZ RA
  subst hx hy
  go_wp2_with fail
  refine C4.mono ?_
  rintro e w4 ⟨rfl, n4, rfl⟩
  clear C4
  have C5 := wspoil_own (w2.drewN n4) (owns_keptNone HXY.out.1 (grown_drewN _ _ none)) (by omega)
  clear c2
  go_wp2_with fail
  refine C5.mono ?_
  rintro e w5 ⟨rfl, K5⟩
  clear C5
  have GS : GW w0 w5 (fun k => w0.heap.size ≤ k) := (GW.non (S := fun k => w0.heap.size ≤ k) (grown_trans HXY.out.2.2.1 (grown_drewN w2 n4 none))).trans (GW.of (S := fun k => w0.heap.size ≤ k) K5 (fun k hk => (HXY.out.2.2.2.1 k hk).1)) (fun k _ h => h)
  have T5 : Two w5 base q r := HT.out.gw GS (fun k hk h => by have := (HT.out.la.lt k hk).2; omega) (fun k hk h => by have := (HT.out.ra.lt k hk).2; omega)
  have G5 : w0.grownBy w5 none := GS.grown (fun k hk h => by omega)
  have Y5 : w5.ownsRow w1.heap.size 60 1 (.slice ay (lostP q.abs).length cy) (lostP q.abs).length ((lostP q.abs).map wv) := by
    refine World.ownsRow.kept (owns_keptNone HXY.out.2.1 (grown_drewN _ n4 none)) K5 ?_
    cases hk : (Value.slice ay (lostP q.abs).length cy).ownBlock with
    | none => exact .inl rfl
    | some k =>
      right
      intro e
      have h1 := HXY.out.2.2.2.2 k hk
      have h2 := (HXY.out.2.2.2.1 k e.symm).2
      omega
  have HT5 : Hid (Two w5 base q r ∧ w0.grownBy w5 none) := ⟨T5, G5⟩
  have c25 : w5.cell? ⟨r.g, 2, none⟩ = some r.lv := T5.ra.cells3.2.2
  unfold Rq.lv at c25
  rw [hlr] at c25
  have CZ5 := rlost_cv T5.ra
  rw [har] at CZ5
  obtain ⟨ay6, cy6, hy6, CY6⟩ := wsl Y5
  simp only [Value.slice.injEq, true_and] at hy6
  obtain ⟨rfl, rfl⟩ := hy6
  have C7 := Wd.same_any ay (some ⟨r.gl, 0, none⟩) cy (lostP q.abs).length (lostP q.abs) w5 CY6 (wcells CZ5) (by omega)
  clear GS T5 G5 Y5 K5 HXY CZ5 CY6
  go_wp2_with fail
  refine C7.mono ?_
  rintro e w7 ⟨rfl, n7, rfl⟩
  clear C7
  have KK : w0.grownBy (w5.drewN n7) none := grown_trans HT5.out.2 (grown_drewN _ _ _)
  have HF : Hid (ToldP w base q r (.returned (.bool true)) (w5.drewN n7)) := HB.out _ _ ⟨rfl, q, r, HT5.out.1.keptNone (grown_drewN _ _ _), rfl, rfl, GW.non KK, Foots.refl _ _, Foots.refl _ _⟩
  clear KK HT5 c25
  go_wp2
  go_ret
  exact HF.out

end Go.Proofs.Ytlfjpbedjmnpaaa
