/-
  riddlelaw21.told: Put of both.
-/
import Derived.Test.YtlfjpbedjmnpaaaQuY
namespace Go.Proofs.Ytlfjpbedjmnpaaa
open Go.RowKit
set_option maxRecDepth 100000

theorem set_ok : ∀ (cs : List Qc) (k : Nat) (d : Qc), (∀ x ∈ allP cs, x.length ≤ 65535) → (∀ x ∈ d.fr, x.length ≤ 65535) → ∀ x ∈ allP (cs.set k d), x.length ≤ 65535
  | [], k, d, _, _, x, hx => by simp [allP] at hx
  | c :: t, 0, d, h, hd, x, hx => by
    simp only [allP, List.set_cons_zero, List.flatMap_cons, List.mem_append] at hx h
    rcases hx with hx | hx
    · exact hd x hx
    · exact h x (.inr hx)
  | c :: t, k + 1, d, h, hd, x, hx => by
    have ih := set_ok t k d (fun y hy => h y (by simp only [allP, List.flatMap_cons, List.mem_append]; exact .inr hy)) hd
    simp only [allP, List.set_cons_succ, List.flatMap_cons, List.mem_append] at hx h
    rcases hx with hx | hx
    · exact h x (.inl hx)
    · exact ih x hx
theorem getD_ok (cs : List Qc) (k : Nat) (h : ∀ x ∈ allP cs, x.length ≤ 65535) : ∀ x ∈ (cs.getD k qc0).fr, x.length ≤ 65535 := by
  intro x hx
  rw [List.getD_eq_getElem?_getD] at hx
  cases hc : cs[k]? with
  | none => rw [hc] at hx; cases hx
  | some c =>
    rw [hc] at hx
    exact h x (List.mem_flatMap.2 ⟨c, List.mem_of_getElem? hc, hx⟩)
theorem put_ok (cs : List Qc) (c : Int) (b : List UInt8) (h : ∀ x ∈ allP cs, x.length ≤ 65535) : ∀ x ∈ allP (putP cs c b), x.length ≤ 65535 := by
  unfold putP
  split
  · rename_i he
    have hb : b.length ≤ 65535 := by
      unfold putE at he
      split at he
      · exact absurd he (by decide)
      · split at he
        · exact absurd he (by decide)
        · omega
    refine set_ok cs _ _ h (fun x hx => ?_)
    unfold Qc.put at hx
    split at hx
    · rcases List.mem_append.1 hx with hx | hx
      · exact getD_ok cs _ h x hx
      · obtain rfl : x = b := by simpa using hx
        exact hb
    · exact getD_ok cs _ h x hx
  · exact h

set_option maxHeartbeats 4000000 in
theorem told4_any (base : Nat) (q : Lq) (r : Rq) (kd cl : Int) (a : Option Addr) (ca : Nat) (b : List UInt8) (w : World) (h : Two w base q r) (hk : kd ≠ 0 ∧ kd ≠ 1 ∧ kd ≠ 2 ∧ kd ≠ 3) (ha : Cells w a b) (ha0 : a = none → ca = 0) (hu : ∀ ad, a = some ad → b ≠ [] → ad.block < base) (hn : b.length ≤ 140737488351232) :
    Calls Try.prog 13 #[.pointer (some ⟨q.g, 0, none⟩), .pointer (some ⟨r.g, 0, none⟩), .agg #[.int .i64 kd, .int .i64 cl, .slice a b.length ca]] w (ToldP w base q r) := by
  have K0 := World.grownBy_alloc w (.cells #[.int .i64 kd, .int .i64 cl, .slice a b.length ca] 37) none
  have B0 := QBk.alloc w 37 #[.int .i64 kd, .int .i64 cl, .slice a b.length ca]
  have HA : Hid (Cells (w.alloc (.cells #[.int .i64 kd, .int .i64 cl, .slice a b.length ca] 37)) a b ∧ (a = none → ca = 0) ∧ (∀ ad, a = some ad → b ≠ [] → ad.block < base) ∧ b.length ≤ 140737488351232) := ⟨ha.keptNone K0, ha0, hu, hn⟩
  have HT : Hid (Two (w.alloc (.cells #[.int .i64 kd, .int .i64 cl, .slice a b.length ca] 37)) base q r) := h.keptNone K0
  have HB : Hid (∀ e w', ToldP (w.alloc (.cells #[.int .i64 kd, .int .i64 cl, .slice a b.length ca] 37)) base q r e w' → ToldP w base q r e w') := fun e w' => ToldP.back K0
  have HV : Hid (∃ V, w.heap.size = V ∧ QBk (w.alloc (.cells #[.int .i64 kd, .int .i64 cl, .slice a b.length ca] 37)) V 37 #[.int .i64 kd, .int .i64 cl, .slice a b.length ca]) := ⟨_, rfl, B0⟩
  have HVq : Hid (∀ x, q.foot x ∨ r.foot x → x ≠ w.heap.size) := fun x hx e => by
    subst e
    rcases hx with hx | hx
    · have := (h.la.lt _ hx).2; omega
    · have := (h.ra.lt _ hx).2; omega
  clear h K0 B0 ha ha0 hu hn
  go_enter Try.func13, Try.ntmps13
  go_upto_region 1 with fail
  generalize w.alloc (.cells #[.int .i64 kd, .int .i64 cl, .slice a b.length ca] 37) = w0 at *
  obtain ⟨V, hV, VB⟩ := HV.out
  rw [hV] at HVq ⊢
  clear HV hV
  have HVB : Hid (QBk w0 V 37 #[.int .i64 kd, .int .i64 cl, .slice a b.length ca]) := VB
  have x0 := VB.cell 0
  have x1 := VB.cell 1
  have x2 := VB.cell 2
  simp at x0 x1 x2
  have e0 : (kd == 0) = false := by simpa using hk.1
  have e1 : (kd == 1) = false := by simpa using hk.2.1
  have e2 : (kd == 2) = false := by simpa using hk.2.2.1
  have e3 : (kd == 3) = false := by simpa using hk.2.2.2
  have CL := lend_any a ca b w0 HA.out.1 HA.out.2.1 HA.out.2.2.2
  clear VB hk
  go_wp2_with fail
  refine CL.mono ?_
  rintro e w1 ⟨vl, rfl, LE, K1⟩
  clear CL x0 e0 e1 e2 e3
  obtain ⟨gl, cl', hvl, hc1, hc2, hgl1, hgl2, OL⟩ := LE
  subst hvl
  have VB1 := HVB.out.keptNone K1
  have x1 := VB1.cell 1
  simp at x1
  have CL1 : Cells w1 (some ⟨gl, 0, none⟩) b := (cells_front (show w1.ownsRow w0.heap.size 5 1 (.slice (some ⟨gl, 0, none⟩) (b.length + 3) cl') (b.length + 3) ((b ++ [201, 201, 201]).map bv) from OL)).1
  have CP := lqput_any base q cl (some ⟨gl, 0, none⟩) cl' b w1 (HT.out.la.keptNone K1) CL1 (fun h => by cases h)
  have HL1 : Hid (w1.ownsRow w0.heap.size 5 1 (.slice (some ⟨gl, 0, none⟩) (b.length + 3) cl') (b.length + 3) ((b ++ [201, 201, 201]).map bv) ∧ w0.heap.size ≤ gl ∧ gl < w1.heap.size ∧ w0.grownBy w1 none ∧ QBk w1 V 37 #[.int .i64 kd, .int .i64 cl, .slice a b.length ca]) := ⟨OL, hgl1, hgl2, K1, VB1⟩
  clear OL hgl1 hgl2 K1 VB1 CL1 hc1 hc2
  go_wp2_with fail
  refine CP.mono ?_
  rintro e w2 ⟨rfl, q', L, hg, hab, G, F⟩
  clear CP x1
  have T1 := HT.out.keptNone HL1.out.2.2.2.1
  have VB2 := G.qbk HL1.out.2.2.2.2 (fun hq => HVq.out V (.inl hq) rfl)
  have y1 := VB2.cell 1
  have y2 := VB2.cell 2
  simp at y1 y2
  have nb : ∀ ad, a = some ad → b ≠ [] → ¬ q.foot ad.block ∧ ¬ r.foot ad.block := fun ad had hb => by
    have h1 := HA.out.2.2.1 ad had hb
    exact ⟨fun hq => by have := (HT.out.la.lt _ hq).1; omega, fun hq => by have := (HT.out.ra.lt _ hq).1; omega⟩
  have CA2 : CV w2 a (b.map bv) := G.cv (HA.out.1.keptNone HL1.out.2.2.2.1).cv (fun ad had hb => (nb ad had (by intro e; subst e; exact hb rfl)).1)
  have CR := rqput_any base r cl a ca b w2 (T1.left G) CA2.cells HA.out.2.1
  have HL2 : Hid (LqAt w2 base q' ∧ q'.g = q.g ∧ q'.abs = putP q.abs cl b ∧ GW w1 w2 q.foot ∧ Foots w1 q.foot q'.foot ∧ CV w2 a (b.map bv) ∧ QBk w2 V 37 #[.int .i64 kd, .int .i64 cl, .slice a b.length ca] ∧ (∀ ad, a = some ad → b ≠ [] → ¬ q.foot ad.block ∧ ¬ r.foot ad.block) ∧ Two w1 base q r) := ⟨L, hg, hab, G, F, CA2, VB2, nb, T1⟩
  clear L hg hab G F CA2 VB2 nb T1 x2
  have HPB : Hid (putB r.abs cl b = putB q.abs cl b ∧ putE r.abs cl b = putE q.abs cl b ∧ putP r.abs cl b = putP q.abs cl b) := by
    rw [HT.out.abs]
    exact ⟨rfl, rfl, rfl⟩
  have CR2 : Calls Try.prog 33 #[.pointer (some ⟨r.g, 0, none⟩), .int .i64 cl, .slice a b.length ca] w2 fun e w' => e = .returned (.tuple #[.bool (putB q.abs cl b), .int .i64 (putE q.abs cl b)]) ∧ ∃ r' : Rq, RqAt w' base r' ∧ r'.g = r.g ∧ r'.abs = putP q.abs cl b ∧ GW w2 w' r.foot ∧ Foots w2 r.foot r'.foot := CR.mono fun e w' ⟨h1, r', h2, h3, h4, h5, h6⟩ => ⟨by rw [h1, HPB.out.1, HPB.out.2.1], r', h2, h3, by rw [h4, HPB.out.2.2], h5, h6⟩
  have HOK : Hid (∀ x ∈ allP (putP q.abs cl b), x.length ≤ 65535) := put_ok q.abs cl b HT.out.ok
  clear CR HPB
  generalize putB q.abs cl b = pb at *
  generalize putE q.abs cl b = pe at *
  go_wp2_with fail
  refine CR2.mono ?_
  rintro e w3 ⟨rfl, r', R, hgr, habr, G, F⟩
  clear CR2 y1 y2
  obtain ⟨hq1, hq2, hq3, hq4, hq5, hq6, hq7, hq8, hq9⟩ := HL2.out
  obtain ⟨T3, GG, FF, dd⟩ := hq9.both hq1 hq4 hq5 R G F (by rw [hq3, habr]) (by rw [hq3]; exact HOK.out)
  have nq : ∀ x, q.foot x → x < w0.heap.size := fun x hx => (HT.out.la.lt x hx).2
  have nr : ∀ x, r.foot x → x < w0.heap.size := fun x hx => (HT.out.ra.lt x hx).2
  have hgl := HL1.out.2.1
  have hgl2 := HL1.out.2.2.1
  have K1 := HL1.out.2.2.2.1
  have OL3 : w3.ownsRow 0 5 1 (.slice (some ⟨gl, 0, none⟩) (b.length + 3) cl') (b.length + 3) ((b ++ [201, 201, 201]).map bv) := by
    refine owns_mono (G.row (hq4.row HL1.out.1 (fun x hx hq => ?_)) (fun x hx hq => ?_)) (Nat.zero_le _)
    · cases hx; exact absurd (nq gl hq) (by omega)
    · cases hx; exact absurd (nr gl hq) (by omega)
  have CA3 : CV w3 a (b.map bv) := G.cv hq6 (fun ad had hb => (hq8 ad had (by intro e; subst e; exact hb rfl)).2)
  have VB3 := G.qbk hq7 (fun hq => HVq.out V (.inr hq) rfl)
  have y2 := VB3.cell 2
  simp at y2
  have CK := kept_any gl cl' a ca b w3 OL3 CA3.cells HA.out.2.2.2
  have HE : Hid (∀ w4, w3.grownBy w4 (some gl) → ToldP w base q r (.returned (.bool true)) w4) := fun w4 K4 => by
    refine HB.out _ _ (told_end (S := fun x => x = gl) T3 hq2 hgr ((GW.non (S := fun x => q.foot x ∨ r.foot x) K1).trans GG (fun x _ hx => hx)) (fun x hx => (hq5 x hx).elim .inl (fun h => .inr (Nat.le_trans K1.size h))) (fun x hx => (FF x hx).elim .inl (fun h => .inr (Nat.le_trans K1.size h))) (GW.of K4 (fun x hx => (Option.some.inj hx).symm)) (fun x hx => ?_))
    subst hx
    refine ⟨fun hlt => by omega, fun hq => ?_, fun hr => ?_⟩
    · rcases hq5 x hq with h1 | h1
      · have := nq _ h1; omega
      · omega
    · rcases FF x hr with h1 | h1
      · have := nr _ h1; omega
      · omega
  clear R hgr habr G F T3 GG FF dd nq nr hgl hgl2 K1 OL3 CA3 VB3 hq1 hq2 hq3 hq4 hq5 hq6 hq7 hq8 hq9
  go_wp2_with fail
  refine CK.mono ?_
  rintro e w4 ⟨rfl, K4⟩
  have HF : Hid (ToldP w base q r (.returned (.bool true)) w4) := HE.out w4 K4
  clear CK K4 HE y2
  go_wp2
  go_ret
  simp
  exact HF.out

end Go.Proofs.Ytlfjpbedjmnpaaa
