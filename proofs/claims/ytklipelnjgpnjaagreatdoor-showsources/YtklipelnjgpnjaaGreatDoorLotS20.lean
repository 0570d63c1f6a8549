import Derived.Test.YtklipelnjgpnjaaGreatDoorSAb
import Derived.Test.YtklipelnjgpnjaaGreatDoorLotS16
import Derived.Test.YtklipelnjgpnjaaGreatDoorLotS5
import Derived.Test.YtklipelnjgpnjaaGreatDoorLotS19
import Derived.Test.YtklipelnjgpnjaaGreatDoorLotS8
set_option maxHeartbeats 64000000
set_option maxRecDepth 100000
namespace Go.Proofs.YtklipelnjgpnjaaGreatDoor
open Go.RowKit
def Tr.Typed : Tr → Prop
 | .leaf _ => True
 | .one x p => p.Typed ∧ J5 p.root.kind = M5 x.kind
 | .two x p q => p.Typed ∧ q.Typed ∧ J5 p.root.kind = M5 x.kind ∧ J5 q.root.kind = M5 x.kind
theorem a6q (x : Ng) (ps : List Pt) : (M0 x ps).truth = J5 x.kind := by
 unfold M0
 split
 ·split <;> rfl
 ·rfl
theorem a7b {x : Ng} {st ps s : List Pt} (ha : arG x.kind = some ps.length) (h : M4 x (st ++ ps) = .ok s) : s = st ++ [M0 x ps] ∧ ∀ p ∈ ps, p.truth = M5 x.kind := by
 unfold M4 at h
 rw [ha] at h
 simp only at h
 have hl : (st ++ ps).length - ps.length = st.length := by rw [List.length_append]; omega
 rw [hl, List.drop_left, List.take_left] at h
 split at h
 ·cases h
 ·split at h
  ·cases h
  ·rename_i hf
   cases h
   refine ⟨rfl, fun p hp => ?_⟩
   have hf0 : E7 x ps = 0 := Decidable.not_not.1 hf
   unfold E7 at hf0
   split at hf0
   ·cases hf0
   ·split at hf0
    ·rename_i hkE; exact absurd hf0 hkE
    ·rename_i hkE
     have hk0 : a0k x.kind ps = 0 := Decidable.not_not.1 hkE
     unfold a0k at hk0
     split at hk0
     ·rename_i hall
      simpa using List.all_eq_true.1 hall p hp
     ·split at hk0
      ·cases hk0
      ·cases hk0
theorem a7m {x : Ng} {st s : List Pt} {k : Nat} (h : t7 st k [x] = .ok s) : M4 x st = .ok s := by
 simp only [t7] at h
 cases hx : M4 x st with
 | error e => rw [hx] at h; cases h
 | ok s1 => rw [hx] at h; cases h; rfl
theorem a7n {l m : List Ng} {st s : List Pt} {k : Nat} (h : t7 st k (l ++ m) = .ok s) : ∃ s1, t7 st k l = .ok s1 ∧ t7 s1 (k + l.length) m = .ok s := by
 rw [af2] at h
 cases hl : t7 st k l with
 | error e => rw [hl] at h; cases h
 | ok s1 => rw [hl] at h; exact ⟨s1, rfl, h⟩
theorem a5B : ∀ (T : Tr), T.Wf → ∀ (st s : List Pt) (k : Nat), t7 st k T.flat = .ok s → ∃ pt, s = st ++ [pt] ∧ pt.truth = J5 T.root.kind ∧ T.Typed
 | .leaf x, hw, st, s, k, h => by
  have hw : arG x.kind = some 0 := hw
  obtain ⟨h1, -⟩ := a7b (st := st) (ps := []) hw (by rw [List.append_nil]; exact a7m h)
  exact ⟨_, h1, a6q _ _, trivial⟩
 | .one x p, hw, st, s, k, h => by
  obtain ⟨ha, hp⟩ : arG x.kind = some 1 ∧ p.Wf := hw
  obtain ⟨s1, h1, h2⟩ := a7n (l := p.flat) (m := [x]) h
  obtain ⟨a, rfl, ta, ya⟩ := a5B p hp _ _ _ h1
  obtain ⟨h3, h4⟩ := a7b (st := st) (ps := [a]) ha (a7m h2)
  exact ⟨_, h3, a6q _ _, ya, by rw [← ta]; exact h4 a (by simp)⟩
 | .two x p q, hw, st, s, k, h => by
  obtain ⟨ha, hp, hq⟩ : arG x.kind = some 2 ∧ p.Wf ∧ q.Wf := hw
  obtain ⟨s2, h2, h3⟩ := a7n (l := p.flat ++ q.flat) (m := [x]) h
  obtain ⟨s1, h1, h4⟩ := a7n (l := p.flat) (m := q.flat) h2
  obtain ⟨a, rfl, ta, ya⟩ := a5B p hp _ _ _ h1
  obtain ⟨b, rfl, tb, yb⟩ := a5B q hq _ _ _ h4
  rw [List.append_assoc] at h3
  obtain ⟨h5, h6⟩ := a7b (st := st) (ps := [a, b]) ha (a7m h3)
  exact ⟨_, h5, a6q _ _, ya, yb, by rw [← ta]; exact h6 a (by simp), by rw [← tb]; exact h6 b (by simp)⟩
theorem a8t {t : List Ng} (h : (M8 t).2 = 0) {T : Tr} (hT : T.Wf) (hf : T.flat = t) : T.Typed ∧ J5 T.root.kind = true := by
 obtain ⟨q, hq, ht, -⟩ := a6a.1 h
 rw [← hf] at hq
 obtain ⟨pt, h1, h2, h3⟩ := a5B T hT [] _ 0 hq
 have : q = pt := by simpa using h1
 exact ⟨h3, by rw [← h2, ← this]; exact ht⟩
def a7o (full : Bool) (row least : Int) : Bool := decide (row < if full = true then 12 else least)
theorem a4h (full : Bool) {row least : Int} (h : least ≤ 12) : a7o full row least = m8 full row least := by
 unfold a7o m8
 cases full with
 | false => simp
 | true =>
  simp only [if_true, Bool.true_and]
  by_cases h1 : row < 12
  ·simp [h1]
  ·rw [decide_eq_false h1, decide_eq_false (by omega)]
   rfl
theorem aS6 {x : Ng} (h : J5 x.kind = false) : 5 ≤ d4 x := by
 unfold J5 at h
 have h6 : ¬ 6 ≤ x.kind := of_decide_eq_false h
 unfold d4
 rw [if_neg (by omega), if_neg (by omega), if_neg (by omega), if_neg (by omega)]
 split
 ·omega
 ·split
  ·omega
  ·split
   ·omega
   ·split
    ·omega
    ·split
     ·omega
     ·split
      ·omega
      ·split
       ·omega
       ·omega
theorem b0Q (full : Bool) {x : Ng} (h : J5 x.kind = false) : a7o full (d4 x) 4 = m8 full (d4 x) 5 := by
 have h5 := aS6 h
 rw [a4h full (by decide)]
 unfold m8
 rw [decide_eq_false (show ¬ d4 x < 4 by omega), decide_eq_false (show ¬ d4 x < 5 by omega)]
theorem WP.from {w : World} {M B7 p2 p3 p5 p6 p7 p8 : Nat} {sl : Value} {bf : Nat} {W W1 : World} {v : Value} {ts : List (List UInt8)} {ne dp : Int} {left : Nat} {r : List UInt8} {d n k : Nat} {e : Ending} {W' : World} (G : W.grownBy W1 none) (hM : M ≤ W.heap.size) (h : WP w M B7 p2 p3 p5 p6 p7 p8 sl bf W1 v ts ne dp left r d n k e W') : WP w M B7 p2 p3 p5 p6 p7 p8 sl bf W v ts ne dp left r d n k e W' := by
 obtain ⟨he, v', R, E, g, K, hr, hk⟩ := h
 exact ⟨he, v', R, E, g.mono G.size, (Kp.none G hM).trans K, hr, hk⟩
theorem WP.took {w : World} {M B7 p2 p3 p5 p6 p7 p8 : Nat} {sl : Value} {bf : Nat} {W W1 : World} {v : Value} {ts : List (List UInt8)} {ne dp : Int} {left : Nat} {r : List UInt8} {d n k : Nat} {e : Ending} {W' : World} (K : Kp M (WS p5 p6 v) W W1) (h : WP w M B7 p2 p3 p5 p6 p7 p8 sl bf W1 v ts ne dp left r d n k e W') : WP w M B7 p2 p3 p5 p6 p7 p8 sl bf W v ts ne dp (left + 1) r d (n + 1) k e W' := by
 obtain ⟨he, v', R, E, g, K', hr, hk⟩ := h
 exact ⟨he, v', R, by rw [Nat.add_sub_add_right]; exact E, g.mono K.1.size, K.trans K', hr, hk⟩
theorem j5.took {w : World} {M B7 p2 p3 p5 p6 p7 p8 : Nat} {sl : Value} {bf : Nat} {W : World} {v : Value} {ts : List (List UInt8)} {ne dp : Int} {left : Nat} (P : a0p M B7 p2 p3 p5 p6 p7 p8) (E : j5 w M B7 p2 p3 p5 p6 p7 p8 sl bf W v ts ne dp left) (l : Nat) :
  j5 w M B7 p2 p3 p5 p6 p7 p8 sl bf (W.setCell ⟨p6, 0, none⟩ (.int .i64 (l : Int))) v ts ne dp l ∧ Kp M (WS p5 p6 v) W (W.setCell ⟨p6, 0, none⟩ (.int .i64 (l : Int))) := by
 have K : Kp M (WS p5 p6 v) W (W.setCell ⟨p6, 0, none⟩ (.int .i64 (l : Int))) := ⟨(Below.refl _ _).setCell (p := ⟨p6, 0, none⟩) P.m6 _, fun k o hk ho _ => (Below.heap_setCell _ _ _ _ hk.2.1).trans ho⟩
 exact ⟨E.next P K (VAt.set E.lf 0 _) ⟨VAt.setOther E.out.1 _ P.l5.2, World.ownsRow.kept E.out.2 (row := some p6) ⟨rfl, rfl, rfl, by simp [World.setCell], fun k _ hk => Below.heap_setCell _ _ _ _ (fun e => hk (by rw [e]))⟩ (.inr (E.own P.l6))⟩ E.nd, K⟩
theorem b0L {w : World} {M B7 p2 p3 p5 p6 p7 p8 nb no m cap bf : Nat} (P : a0p M B7 p2 p3 p5 p6 p7 p8) (hM : M ≤ B7) {W : World} {v : Value} {ts : List (List UInt8)} {ne dp : Int} {l : Nat} (E : j5 w M B7 p2 p3 p5 p6 p7 p8 (.slice (some ⟨nb, no, none⟩) m cap) bf W v ts ne dp (l + 1)) (x : Ng) (hx : W.rangeAt nb (no + l * 24) x.cells) (hlt : l < m) (hm : m ≤ 1000000) (least : Int) (hr : d4 x < least) (r : List UInt8) (d n k : Nat) (hne : ne ≤ 900000) (hts : ts.length + k ≤ 900000) (H : ∀ W1 v1, j5 w M B7 p2 p3 p5 p6 p7 p8 (.slice (some ⟨nb, no, none⟩) m cap) bf W1 v1 (ts ++ [[41]]) (ne + 1) (max dp (ne + 1)) (l + 1) → Calls Tryz.prog 97 #[.int .i64 1, .pointer (some ⟨p2, 0, none⟩), .pointer (some ⟨p6, 0, none⟩), .pointer (some ⟨p8, 0, none⟩), .pointer (some ⟨p3, 0, none⟩), .pointer (some ⟨p7, 0, none⟩), .pointer (some ⟨p5, 0, none⟩)] W1 (WP w M B7 p2 p3 p5 p6 p7 p8 (.slice (some ⟨nb, no, none⟩) m cap) bf W1 v1 (ts ++ [[41]]) (ne + 1) (max dp (ne + 1)) (l + 1) r d n k)) :
  Calls Tryz.prog 97 #[.int .i64 least, .pointer (some ⟨p2, 0, none⟩), .pointer (some ⟨p6, 0, none⟩), .pointer (some ⟨p8, 0, none⟩), .pointer (some ⟨p3, 0, none⟩), .pointer (some ⟨p7, 0, none⟩), .pointer (some ⟨p5, 0, none⟩)] W
   (WP w M B7 p2 p3 p5 p6 p7 p8 (.slice (some ⟨nb, no, none⟩) m cap) bf W v ts ne dp (l + 1) ([40] ++ r ++ [41]) (d + 1) n (k + 2)) := by
 have hW := E.sz
 have X0 := VAt.alloc W 43 ngZ.cells.toArray
 have GA := World.grownBy_alloc W (.cells x.cells.toArray 43) none
 have EA := E.kept P hM GA
 have NA := NB.alloc W x
 have c2 := E.c2
 have c6 : W.cell? ⟨p6, 0, none⟩ = some (.int .i64 ((l : Int) + 1)) := VAt.cell E.lf 0
 have hw1 : IntKind.i64.wrap ((l : Int) + 1 - 1) = (l : Int) := by rw [IntKind.wrap_i64]; omega
 have hl0 : (0 : Int) ≤ (l : Int) := by omega
 have hl1 : (l : Int) < (m : Int) := by omega
 have HE : Hid (j5 w M B7 p2 p3 p5 p6 p7 p8 (.slice (some ⟨nb, no, none⟩) m cap) bf W v ts ne dp (l + 1)) := E
 have HEA : Hid (j5 w M B7 p2 p3 p5 p6 p7 p8 (.slice (some ⟨nb, no, none⟩) m cap) bf (W.alloc (.cells x.cells.toArray 43)) v ts ne dp (l + 1)) := EA
 have HX : Hid (W.rangeAt nb (no + l * 24) x.cells) := hx
 clear E EA hx
 go_enter Tryz.func97, Tryz.ntmps97
 go_upto_region 1 with (first | refine a2T (by rfl) 43 (.tmp 13) rfl nb (no + l * 24) rfl x.cells _ HX.out Tryz.underlying43 rfl (a27 x) ?_ | refine wpList_store_row rfl 43 (.tmp 8) (.tmp 14) rfl W.heap.size x.cells.toArray rfl rfl 43 _ X0 (I9 x) rfl (a02 x) ?_)
 rw [World.setRow_alloc_new]
 clear X0
 generalize W.alloc (.cells x.cells.toArray 43) = W0 at *
 generalize hBe : W.heap.size = B at *
 have HBE : Hid (W.heap.size = B) := hBe
 clear hBe
 have CR := a3v x W0
 obtain ⟨X, hX⟩ : ∃ X, x.cells.toArray = X := ⟨_, rfl⟩
 have HV : VAt W0 B 43 X := hX ▸ NA
 have HZ : Hid ((Tryz.prog.info? 43).map (·.size) = some X.size) := hX ▸ I9 x
 rw [hX] at CR ⊢
 have HXX : Hid (x.cells.toArray = X) := hX
 clear hX c2 c6 hw1
 obtain ⟨rr, hrr⟩ : ∃ rr, d4 x = rr := ⟨_, rfl⟩
 have HRR : Hid (d4 x = rr) := hrr
 rw [hrr] at *
 clear hrr
 go_upto_region 2 with (refine wpList_load_row rfl 43 (.tmp 8) rfl B rfl 43 X (0, 0) _ HV Tryz.underlying43 rfl HZ.out ?_)
 refine CR.mono ?_
 rintro e w1 ⟨rfl, G1⟩
 have HE1 : Hid (j5 w M B7 p2 p3 p5 p6 p7 p8 (.slice (some ⟨nb, no, none⟩) m cap) bf w1 v ts ne dp (l + 1)) := HEA.out.kept P hM G1
 have N1 : NB w1 B x := NB.kept NA G1
 have HG1 : Hid (W.grownBy w1 none) := d3 GA G1
 have c8 := HE1.out.c8
 clear CR G1 NA GA HEA HV HZ
 go_wp2_with (refine (a4X P HE1.out [40] [41] 1 r d n k hne hts H).mono ?_; rintro e w2 hw2; have hf := hw2.1; subst hf)
 go_end0
 exact WP.from HG1.out (by have := HE.out.sz; omega) hw2
theorem b0N {w : World} {M B7 p2 p3 p5 p6 p7 p8 nb no m cap bf : Nat} (P : a0p M B7 p2 p3 p5 p6 p7 p8) (hM : M ≤ B7) {W : World} {v : Value} {ts : List (List UInt8)} {ne dp : Int} {l : Nat} (E : j5 w M B7 p2 p3 p5 p6 p7 p8 (.slice (some ⟨nb, no, none⟩) m cap) bf W v ts ne dp (l + 1)) (x : Ng) (hx : W.rangeAt nb (no + l * 24) x.cells) (hlt : l < m) (hm : m ≤ 1000000) (least : Int) (hr : ¬ d4 x < least) (hk : x.kind = 3) (hz : 1 ≤ x.size ∧ x.size ≤ 4) (hT : ∀ W, Below M w W → j4 W) (r : List UInt8) (d n k : Nat) (hne : ne ≤ 900000) (hts : ts.length + k ≤ 900000) (H : ∀ W1 v1, j5 w M B7 p2 p3 p5 p6 p7 p8 (.slice (some ⟨nb, no, none⟩) m cap) bf W1 v1 (ts ++ [Z1 x.size ++ [93]]) (ne + 1) (max dp (ne + 1)) l → Calls Tryz.prog 97 #[.int .i64 1, .pointer (some ⟨p2, 0, none⟩), .pointer (some ⟨p6, 0, none⟩), .pointer (some ⟨p8, 0, none⟩), .pointer (some ⟨p3, 0, none⟩), .pointer (some ⟨p7, 0, none⟩), .pointer (some ⟨p5, 0, none⟩)] W1 (WP w M B7 p2 p3 p5 p6 p7 p8 (.slice (some ⟨nb, no, none⟩) m cap) bf W1 v1 (ts ++ [Z1 x.size ++ [93]]) (ne + 1) (max dp (ne + 1)) l r d n k)) :
  Calls Tryz.prog 97 #[.int .i64 least, .pointer (some ⟨p2, 0, none⟩), .pointer (some ⟨p6, 0, none⟩), .pointer (some ⟨p8, 0, none⟩), .pointer (some ⟨p3, 0, none⟩), .pointer (some ⟨p7, 0, none⟩), .pointer (some ⟨p5, 0, none⟩)] W
   (WP w M B7 p2 p3 p5 p6 p7 p8 (.slice (some ⟨nb, no, none⟩) m cap) bf W v ts ne dp (l + 1) ((j6 x.of ++ [91]) ++ r ++ (Z1 x.size ++ [93])) (d + 1) (n + 1) (k + 2)) := by
 have hW := E.sz
 have X0 := VAt.alloc W 43 ngZ.cells.toArray
 have GA := World.grownBy_alloc W (.cells x.cells.toArray 43) none
 have EA := E.kept P hM GA
 have NA := NB.alloc W x
 have c2 := E.c2
 have c6 : W.cell? ⟨p6, 0, none⟩ = some (.int .i64 ((l : Int) + 1)) := VAt.cell E.lf 0
 have hw1 : IntKind.i64.wrap ((l : Int) + 1 - 1) = (l : Int) := by rw [IntKind.wrap_i64]; omega
 have hl0 : (0 : Int) ≤ (l : Int) := by omega
 have hl1 : (l : Int) < (m : Int) := by omega
 have HE : Hid (j5 w M B7 p2 p3 p5 p6 p7 p8 (.slice (some ⟨nb, no, none⟩) m cap) bf W v ts ne dp (l + 1)) := E
 have HEA : Hid (j5 w M B7 p2 p3 p5 p6 p7 p8 (.slice (some ⟨nb, no, none⟩) m cap) bf (W.alloc (.cells x.cells.toArray 43)) v ts ne dp (l + 1)) := EA
 have HX : Hid (W.rangeAt nb (no + l * 24) x.cells) := hx
 clear E EA hx
 go_enter Tryz.func97, Tryz.ntmps97
 go_upto_region 1 with (first | refine a2T (by rfl) 43 (.tmp 13) rfl nb (no + l * 24) rfl x.cells _ HX.out Tryz.underlying43 rfl (a27 x) ?_ | refine wpList_store_row rfl 43 (.tmp 8) (.tmp 14) rfl W.heap.size x.cells.toArray rfl rfl 43 _ X0 (I9 x) rfl (a02 x) ?_)
 rw [World.setRow_alloc_new]
 clear X0
 generalize W.alloc (.cells x.cells.toArray 43) = W0 at *
 generalize hBe : W.heap.size = B at *
 have HBE : Hid (W.heap.size = B) := hBe
 clear hBe
 have CR := a3v x W0
 obtain ⟨X, hX⟩ : ∃ X, x.cells.toArray = X := ⟨_, rfl⟩
 have HV : VAt W0 B 43 X := hX ▸ NA
 have HZ : Hid ((Tryz.prog.info? 43).map (·.size) = some X.size) := hX ▸ I9 x
 rw [hX] at CR ⊢
 have HXX : Hid (x.cells.toArray = X) := hX
 clear hX c2 c6 hw1
 obtain ⟨rr, hrr⟩ : ∃ rr, d4 x = rr := ⟨_, rfl⟩
 have HRR : Hid (d4 x = rr) := hrr
 rw [hrr] at *
 clear hrr
 go_upto_region 2 with (refine wpList_load_row rfl 43 (.tmp 8) rfl B rfl 43 X (0, 0) _ HV Tryz.underlying43 rfl HZ.out ?_)
 refine CR.mono ?_
 rintro e w1 ⟨rfl, G1⟩
 have HE1 : Hid (j5 w M B7 p2 p3 p5 p6 p7 p8 (.slice (some ⟨nb, no, none⟩) m cap) bf w1 v ts ne dp (l + 1)) := HEA.out.kept P hM G1
 have N1 : NB w1 B x := NB.kept NA G1
 have HG1 : Hid (W.grownBy w1 none) := d3 GA G1
 have c8 := HE1.out.c8
 clear CR G1 NA GA HEA HV HZ
 have f6 := VAt.free HE1.out.lf 0
 have c6 : w1.cell? ⟨p6, 0, none⟩ = some (.int .i64 ((l : Int) + 1)) := VAt.cell HE1.out.lf 0
 have hw1 : IntKind.i64.wrap ((l : Int) + 1 - 1) = (l : Int) := by rw [IntKind.wrap_i64]; omega
 have hBs := HE.out.sz
 have hB1 : B < w1.heap.size := VAt.lt N1
 clear c8
 go_upto_region 5 with fail
 obtain ⟨E2, K2⟩ := HE1.out.took P l
 have N2 : NB (w1.setCell ⟨p6, 0, none⟩ (.int .i64 (l : Int))) B x := VAt.setOther N1 _ (by have := P.l6; omega)
 have KW : Kp M (WS p5 p6 v) W (w1.setCell ⟨p6, 0, none⟩ (.int .i64 (l : Int))) := (Kp.none HG1.out (by omega)).trans K2
 generalize w1.setCell ⟨p6, 0, none⟩ (.int .i64 (l : Int)) = w2 at *
 have HE2 : Hid (j5 w M B7 p2 p3 p5 p6 p7 p8 (.slice (some ⟨nb, no, none⟩) m cap) bf w2 v ts ne dp l) := E2
 have HN2 : Hid (NB w2 B x) := N2
 have c8 := E2.c8
 have c3 := E2.c3
 have k0 := N2.kind
 rw [hk] at k0
 clear E2 K2 f6 c6 hw1 N1 N2
 have hvB : v.ownBlock ≠ some B := fun e => by have := (HE.out.out.2.lt B e).2; have := HBE.out; omega
 have HTT : Hid (∀ W, Below M w W → j4 W) := hT
 clear hT
 have k5 := HN2.out.of
 have k4 := HN2.out.size
 have HSZ := fun W0 hW0 => aW9 x.size ⟨by omega, by omega⟩ W0 hW0
 have hnl := a3g x.of
 have q1 : (j6 x.of).length ≤ 9223372036854775806 := by omega
 have q2 : (Z1 x.size).length ≤ 9223372036854775806 := by
  rcases (by omega : x.size = 1 ∨ x.size = 2 ∨ x.size = 3 ∨ x.size = 4) with e | e | e | e <;> rw [e] <;> decide
 go_upto_region 8 with fail
 have KD : Kp M (WS p5 p6 v) w2 w2.drew := a96 w2
 refine wp_region_held_drew (S := fun W => W.cell? ⟨p8, 0, none⟩ = some (.func (.func 94) #[] #[.pointer (some ⟨p5, 0, none⟩), .pointer (some ⟨p7, 0, none⟩)]) ∧ W.cell? ⟨B, 5, none⟩ = some (.int .i64 x.of) ∧ W.cell? ⟨B, 4, none⟩ = some (.int .i64 x.size)) (by kernel_rfl) ⟨c8, k5, k4⟩ (fun hHeld => ?_)
 refine wpT (i := 0) (v := .func (.func 94) #[] #[.pointer (some ⟨p5, 0, none⟩), .pointer (some ⟨p7, 0, none⟩)]) rfl (Or.inl ⟨by rfl, fun W hW => ?_⟩) hHeld ?_
 ·obtain ⟨y1, y2, y3⟩ := hW
  go_simp
 try simp only [Act.put, a0, a1, a3, a4, a5]
 refine wpT (i := 1) (v := .pointer (some ⟨B, 5, none⟩)) rfl (Or.inl ⟨by rfl, fun W hW => ?_⟩) hHeld ?_
 ·clear hW
  go_simp
 try simp only [Act.put, a0, a1, a2, a3, a4, a5]
 refine wpT (i := 2) (v := .int .i64 x.of) rfl (Or.inl ⟨by rfl, fun W hW => ?_⟩) hHeld ?_
 ·obtain ⟨y1, y2, y3⟩ := hW
  go_simp
 try simp only [Act.put, a0, a1, a2, a3, a4, a5]
 refine wpT (i := 5) (v := .pointer (some ⟨B, 4, none⟩)) rfl (Or.inl ⟨by rfl, fun W hW => ?_⟩) hHeld ?_
 ·clear hW
  go_simp
 try simp only [Act.put, a0, a1, a2, a3, a4, a5]
 refine wpT (i := 6) (v := .int .i64 x.size) rfl (Or.inl ⟨by rfl, fun W hW => ?_⟩) hHeld ?_
 ·obtain ⟨y1, y2, y3⟩ := hW
  go_simp
 try simp only [Act.put, a0, a1, a2, a3, a4, a5]
 refine wpR (rs := [3]) (AllReadyH.cons rfl (fun K hK => ?_) AllReadyH.nil)
 go_simp
 refine (a47 x.of w2.drew).mono ?_
 rintro e w4 ⟨rfl, rfl⟩
 go_wp2_with fail
 refine hK.out _ _ hHeld (fun hHeld => ?_)
 clear hK K
 try simp only [Act.put, a0, a1, a2, a3, a4, a5]
 refine wpT (i := 4) (v := .string (⟨(j6 x.of).toArray⟩ ++ ⟨#[91]⟩)) rfl (Or.inl ⟨by rfl, fun W hW => ?_⟩) hHeld ?_
 ·clear hW
  go_simp
 try simp only [Act.put, a0, a1, a2, a3, a4, a5]
 refine wpR (rs := [7]) (AllReadyH.cons rfl (fun K hK => ?_) AllReadyH.nil)
 go_simp
 refine (HSZ w2.drew (HTT.out w2.drew (HE2.out.up.drew))).mono ?_
 rintro e w5 ⟨rfl, G5⟩
 go_wp2_with fail
 refine hK.out _ _ ⟨G5.cell hHeld.1 (by simp), G5.cell hHeld.2.1 (by simp), G5.cell hHeld.2.2 (by simp)⟩ (fun hHeld => ?_)
 clear hK K
 try simp only [Act.put, a0, a1, a2, a3, a4, a5]
 refine wpT (i := 8) (v := .string (⟨(Z1 x.size).toArray⟩ ++ ⟨#[93]⟩)) rfl (Or.inl ⟨by rfl, fun W hW => ?_⟩) hHeld ?_
 ·clear hW
  go_simp
 try simp only [Act.put, a0, a1, a2, a3, a4, a5]
 refine wpR (rs := [9]) (AllReadyH.cons rfl (fun K hK => ?_) AllReadyH.nil)
 go_simp
 have G25 : w2.grownBy w5 none := ⟨G5.os, G5.tape, G5.output, G5.size, G5.block⟩
 have E5 := HE2.out.kept P hM G25
 have KW5 := KW.trans (Kp.none (n := M) (S := WS p5 p6 v) G25 (by have := HE2.out.sz; omega))
 rw [show (⟨(j6 x.of).toArray⟩ ++ ⟨#[91]⟩ : ByteArray) = ⟨(j6 x.of ++ [91]).toArray⟩ from cat _ [91], show (⟨(Z1 x.size).toArray⟩ ++ ⟨#[93]⟩ : ByteArray) = ⟨(Z1 x.size ++ [93]).toArray⟩ from cat _ [93]]
 refine (a4X P E5 (j6 x.of ++ [91]) (Z1 x.size ++ [93]) 1 r d n k hne hts H).mono ?_
 rintro e w9 hw9
 obtain ⟨rfl, v9, R9, E9, g9, K9, h9⟩ := id hw9
 have HW9 : Hid (WP w M B7 p2 p3 p5 p6 p7 p8 (.slice (some ⟨nb, no, none⟩) m cap) bf _ _ _ _ _ _ _ _ _ _ _ _) := hw9
 have y8 := E9.c8
 have hB5 : B ≠ p5 ∧ B ≠ p6 := by have := P.l5; have := P.l6; omega
 have yB : w9.cell? ⟨B, 5, none⟩ = some (.int .i64 x.of) ∧ w9.cell? ⟨B, 4, none⟩ = some (.int .i64 x.size) := ⟨K9.cell (.inr ⟨hB5.1, hB5.2, hvB⟩) hHeld.2.1, K9.cell (.inr ⟨hB5.1, hB5.2, hvB⟩) hHeld.2.2⟩
 clear hw9 E9 g9 K9 h9
 go_wp2_with fail
 refine hK.out _ _ ⟨y8, yB⟩ (fun hHeld => ?_)
 clear hK K
 try simp only [Act.put, a0, a1, a2, a3, a4, a5]
 refine wpAnyH_done (by kernel_rfl) ?_ _
 go_wp2
 go_end0
 exact WP.took KW5 HW9.out
theorem b0M {w : World} {M B7 p2 p3 p5 p6 p7 p8 nb no m cap bf : Nat} (P : a0p M B7 p2 p3 p5 p6 p7 p8) (hM : M ≤ B7) {W : World} {v : Value} {ts : List (List UInt8)} {ne dp : Int} {l : Nat} (E : j5 w M B7 p2 p3 p5 p6 p7 p8 (.slice (some ⟨nb, no, none⟩) m cap) bf W v ts ne dp (l + 1)) (x : Ng) (hx : W.rangeAt nb (no + l * 24) x.cells) (hlt : l < m) (hm : m ≤ 1000000) (least : Int) (hr : ¬ d4 x < least) (kk : Int) (hk : x.kind = kk) (hkn : kk ≠ 3 ∧ kk ≠ 4 ∧ kk ≠ 5 ∧ kk ≠ 6 ∧ kk ≠ 7 ∧ kk ≠ 8 ∧ kk ≠ 9) (ha : arG x.kind = some 0) (hf : O0 x = true) (hrg : o7 x = 0) (hn : x.n ≤ 4294967295) (hm4 : x.m ≤ 4294967295) (hT : ∀ W, Below M w W → j4 W) (hts : ts.length ≤ 900000) :
  Calls Tryz.prog 97 #[.int .i64 least, .pointer (some ⟨p2, 0, none⟩), .pointer (some ⟨p6, 0, none⟩), .pointer (some ⟨p8, 0, none⟩), .pointer (some ⟨p3, 0, none⟩), .pointer (some ⟨p7, 0, none⟩), .pointer (some ⟨p5, 0, none⟩)] W
   (WP w M B7 p2 p3 p5 p6 p7 p8 (.slice (some ⟨nb, no, none⟩) m cap) bf W v ts ne dp (l + 1) (l9 x) 0 1 1) := by
 have hW := E.sz
 have X0 := VAt.alloc W 43 ngZ.cells.toArray
 have GA := World.grownBy_alloc W (.cells x.cells.toArray 43) none
 have EA := E.kept P hM GA
 have NA := NB.alloc W x
 have c2 := E.c2
 have c6 : W.cell? ⟨p6, 0, none⟩ = some (.int .i64 ((l : Int) + 1)) := VAt.cell E.lf 0
 have hw1 : IntKind.i64.wrap ((l : Int) + 1 - 1) = (l : Int) := by rw [IntKind.wrap_i64]; omega
 have hl0 : (0 : Int) ≤ (l : Int) := by omega
 have hl1 : (l : Int) < (m : Int) := by omega
 have HE : Hid (j5 w M B7 p2 p3 p5 p6 p7 p8 (.slice (some ⟨nb, no, none⟩) m cap) bf W v ts ne dp (l + 1)) := E
 have HEA : Hid (j5 w M B7 p2 p3 p5 p6 p7 p8 (.slice (some ⟨nb, no, none⟩) m cap) bf (W.alloc (.cells x.cells.toArray 43)) v ts ne dp (l + 1)) := EA
 have HX : Hid (W.rangeAt nb (no + l * 24) x.cells) := hx
 clear E EA hx
 go_enter Tryz.func97, Tryz.ntmps97
 go_upto_region 1 with (first | refine a2T (by rfl) 43 (.tmp 13) rfl nb (no + l * 24) rfl x.cells _ HX.out Tryz.underlying43 rfl (a27 x) ?_ | refine wpList_store_row rfl 43 (.tmp 8) (.tmp 14) rfl W.heap.size x.cells.toArray rfl rfl 43 _ X0 (I9 x) rfl (a02 x) ?_)
 rw [World.setRow_alloc_new]
 clear X0
 generalize W.alloc (.cells x.cells.toArray 43) = W0 at *
 generalize hBe : W.heap.size = B at *
 have HBE : Hid (W.heap.size = B) := hBe
 clear hBe
 have CR := a3v x W0
 obtain ⟨X, hX⟩ : ∃ X, x.cells.toArray = X := ⟨_, rfl⟩
 have HV : VAt W0 B 43 X := hX ▸ NA
 have HZ : Hid ((Tryz.prog.info? 43).map (·.size) = some X.size) := hX ▸ I9 x
 rw [hX] at CR ⊢
 have HXX : Hid (x.cells.toArray = X) := hX
 clear hX c2 c6 hw1
 obtain ⟨rr, hrr⟩ : ∃ rr, d4 x = rr := ⟨_, rfl⟩
 have HRR : Hid (d4 x = rr) := hrr
 rw [hrr] at *
 clear hrr
 go_upto_region 2 with (refine wpList_load_row rfl 43 (.tmp 8) rfl B rfl 43 X (0, 0) _ HV Tryz.underlying43 rfl HZ.out ?_)
 refine CR.mono ?_
 rintro e w1 ⟨rfl, G1⟩
 have HE1 : Hid (j5 w M B7 p2 p3 p5 p6 p7 p8 (.slice (some ⟨nb, no, none⟩) m cap) bf w1 v ts ne dp (l + 1)) := HEA.out.kept P hM G1
 have N1 : NB w1 B x := NB.kept NA G1
 have HG1 : Hid (W.grownBy w1 none) := d3 GA G1
 have c8 := HE1.out.c8
 clear CR G1 NA GA HEA HV HZ
 have f6 := VAt.free HE1.out.lf 0
 have c6 : w1.cell? ⟨p6, 0, none⟩ = some (.int .i64 ((l : Int) + 1)) := VAt.cell HE1.out.lf 0
 have hw1 : IntKind.i64.wrap ((l : Int) + 1 - 1) = (l : Int) := by rw [IntKind.wrap_i64]; omega
 have hBs := HE.out.sz
 have hB1 : B < w1.heap.size := VAt.lt N1
 clear c8
 go_upto_region 5 with fail
 obtain ⟨E2, K2⟩ := HE1.out.took P l
 have N2 : NB (w1.setCell ⟨p6, 0, none⟩ (.int .i64 (l : Int))) B x := VAt.setOther N1 _ (by have := P.l6; omega)
 have KW : Kp M (WS p5 p6 v) W (w1.setCell ⟨p6, 0, none⟩ (.int .i64 (l : Int))) := (Kp.none HG1.out (by omega)).trans K2
 generalize w1.setCell ⟨p6, 0, none⟩ (.int .i64 (l : Int)) = w2 at *
 have HE2 : Hid (j5 w M B7 p2 p3 p5 p6 p7 p8 (.slice (some ⟨nb, no, none⟩) m cap) bf w2 v ts ne dp l) := E2
 have HN2 : Hid (NB w2 B x) := N2
 have c8 := E2.c8
 have c3 := E2.c3
 have k0 := N2.kind
 rw [hk] at k0
 clear E2 K2 f6 c6 hw1 N1 N2
 have hvB : v.ownBlock ≠ some B := fun e => by have := (HE.out.out.2.lt B e).2; have := HBE.out; omega
 have HTT : Hid (∀ W, Below M w W → j4 W) := hT
 clear hT
 have u3 : (kk == 3) = false := by rw [beq_eq_false_iff_ne]; omega
 have u4 : (kk == 4) = false := by rw [beq_eq_false_iff_ne]; omega
 have u5 : (kk == 5) = false := by rw [beq_eq_false_iff_ne]; omega
 have u6 : (kk == 6) = false := by rw [beq_eq_false_iff_ne]; omega
 have u7 : (kk == 7) = false := by rw [beq_eq_false_iff_ne]; omega
 have u8 : (kk == 8) = false := by rw [beq_eq_false_iff_ne]; omega
 have u9 : (kk == 9) = false := by rw [beq_eq_false_iff_ne]; omega
 have CL := fun W0 h0 => aU4 x W0 h0 ha hf hrg hn hm4
 rw [HXX.out] at CL
 clear ha hf hrg hn hm4 c8 c3
 have HVN : VAt w2 B 43 X := HXX.out ▸ HN2.out
 have HZN : Hid ((Tryz.prog.info? 43).map (·.size) = some X.size) := HXX.out ▸ I9 x
 go_upto_region 6 with fail
 go_wp2_with (refine wpList_load_row rfl 43 (.tmp 8) rfl B rfl 43 X (0, 0) _ HVN Tryz.underlying43 rfl HZN.out ?_)
 refine (CL _ (HTT.out _ HE2.out.up)).mono ?_
 rintro e w5 ⟨rfl, G5⟩
 have HE5 : Hid (j5 w M B7 p2 p3 p5 p6 p7 p8 (.slice (some ⟨nb, no, none⟩) m cap) bf w5 v ts ne dp l) := HE2.out.kept P hM G5
 have hP := a5c M B7 p5 w5.heap.size 1 [l9 x] ts v ne dp (w5.alloc (.cells #[str (l9 x)] 9)) P.m5 P.l5.1 (by have := HE5.out.sz; simp; omega) HE5.out.sz (by simp) (HE5.out.out.kept (World.grownBy_alloc _ _ _)) (fun e => by have := (HE5.out.out.2.lt _ e).2; omega) (a5W w5 _ _) (by simp) (by omega)
 clear HVN HZN CL
 go_wp2_with (refine hP.mono ?_; rintro e w6 ⟨rfl, ⟨v6, hO6, g6⟩, K6⟩)
 go_end0
 have GA6 := World.grownBy_alloc w5 (.cells #[str (l9 x)] 9) none
 have E6 := (HE5.out.kept P hM GA6).wrote P K6 hO6 HE5.out.nd
 have hs5 := HE5.out.sz
 have KX := (KW.trans (Kp.none (n := M) (S := WS p5 p6 v) G5 (by have := HE2.out.sz; omega))).trans ((Kp.none (n := M) (S := WS p5 p6 v) GA6 (by omega)).trans (a4N K6))
 exact ⟨rfl, v6, [l9 x], by rw [show max dp (ne + ((0 : Nat) : Int)) = dp by have := HE5.out.nd; omega]; exact E6, g6.mono (by have := KW.1.size; have := G5.size; have := GA6.size; omega), KX, by simp, by simp⟩
theorem aj4 (l : Int) (w : World) : Calls Tryz.prog 25 #[.int .i64 l] w fun e w' => e = .returned (.int .i64 (l)) ∧ w' = w := by
 go_enter Tryz.func25, Tryz.ntmps25
 go_wp2
 go_ret
 exact ⟨rfl, rfl⟩
theorem aj3 (l : Int) (w : World) : Calls Tryz.prog 27 #[.int .i64 l] w fun e w' => e = .returned (.int .i64 (12)) ∧ w' = w := by
 go_enter Tryz.func27, Tryz.ntmps27
 go_wp2
 go_ret
 exact ⟨rfl, rfl⟩
theorem an7 (xs : Array Value) (w : World) : (callFunc 25 xs).run Tryz.prog w = .ok (.enter 25 xs) w := by rfl
theorem an6 (xs : Array Value) (w : World) : (callFunc 27 xs).run Tryz.prog w = .ok (.enter 27 xs) w := by rfl
def gfB (full : Bool) (l : Int) : Int := if full = true then 12 else l
theorem a4F {full : Bool} {l : Int} (h : l ≤ 12) : gfB full l ≤ 12 := by
 unfold gfB
 split <;> omega
theorem b0P {bf : Nat} {gf : Int → Int} (HB : ∀ (l : Int) (w : World), Calls Tryz.prog bf #[.int .i64 l] w fun e w' => e = .returned (.int .i64 (gf l)) ∧ w' = w) (HF : ∀ (xs : Array Value) (w : World), (callFunc bf xs).run Tryz.prog w = .ok (.enter bf xs) w) {w : World} {M B7 p2 p3 p5 p6 p7 p8 nb no m cap : Nat} (P : a0p M B7 p2 p3 p5 p6 p7 p8) (hM : M ≤ B7) {W : World} {v : Value} {ts : List (List UInt8)} {ne dp : Int} {l : Nat} (E : j5 w M B7 p2 p3 p5 p6 p7 p8 (.slice (some ⟨nb, no, none⟩) m cap) bf W v ts ne dp (l + 1)) (x : Ng) (hx : W.rangeAt nb (no + l * 24) x.cells) (hlt : l < m) (hm : m ≤ 1000000) (least : Int) (hr : ¬ d4 x < least) (hk : x.kind = 9) (r : List UInt8) (d n k : Nat) (hne : ne ≤ 900000) (hts : ts.length + k ≤ 900000) (H : ∀ W1 v1, j5 w M B7 p2 p3 p5 p6 p7 p8 (.slice (some ⟨nb, no, none⟩) m cap) bf W1 v1 (ts ++ [[]]) (ne + 1) (max dp (ne + 1)) l → Calls Tryz.prog 97 #[.int .i64 (gf 3), .pointer (some ⟨p2, 0, none⟩), .pointer (some ⟨p6, 0, none⟩), .pointer (some ⟨p8, 0, none⟩), .pointer (some ⟨p3, 0, none⟩), .pointer (some ⟨p7, 0, none⟩), .pointer (some ⟨p5, 0, none⟩)] W1 (WP w M B7 p2 p3 p5 p6 p7 p8 (.slice (some ⟨nb, no, none⟩) m cap) bf W1 v1 (ts ++ [[]]) (ne + 1) (max dp (ne + 1)) l r d n k)) :
  Calls Tryz.prog 97 #[.int .i64 least, .pointer (some ⟨p2, 0, none⟩), .pointer (some ⟨p6, 0, none⟩), .pointer (some ⟨p8, 0, none⟩), .pointer (some ⟨p3, 0, none⟩), .pointer (some ⟨p7, 0, none⟩), .pointer (some ⟨p5, 0, none⟩)] W
   (WP w M B7 p2 p3 p5 p6 p7 p8 (.slice (some ⟨nb, no, none⟩) m cap) bf W v ts ne dp (l + 1) ([110, 111, 116, 32] ++ r ++ []) (d + 1) (n + 1) (k + 2)) := by
 have HFA : Hid (∀ (xs : Array Value) (w : World), (callFunc bf xs).run Tryz.prog w = .ok (.enter bf xs) w) := HF
 clear HF
 have HBA : Hid (∀ (l : Int) (w : World), Calls Tryz.prog bf #[.int .i64 l] w fun e w' => e = .returned (.int .i64 (gf l)) ∧ w' = w) := HB
 clear HB
 have hW := E.sz
 have X0 := VAt.alloc W 43 ngZ.cells.toArray
 have GA := World.grownBy_alloc W (.cells x.cells.toArray 43) none
 have EA := E.kept P hM GA
 have NA := NB.alloc W x
 have c2 := E.c2
 have c6 : W.cell? ⟨p6, 0, none⟩ = some (.int .i64 ((l : Int) + 1)) := VAt.cell E.lf 0
 have hw1 : IntKind.i64.wrap ((l : Int) + 1 - 1) = (l : Int) := by rw [IntKind.wrap_i64]; omega
 have hl0 : (0 : Int) ≤ (l : Int) := by omega
 have hl1 : (l : Int) < (m : Int) := by omega
 have HE : Hid (j5 w M B7 p2 p3 p5 p6 p7 p8 (.slice (some ⟨nb, no, none⟩) m cap) bf W v ts ne dp (l + 1)) := E
 have HEA : Hid (j5 w M B7 p2 p3 p5 p6 p7 p8 (.slice (some ⟨nb, no, none⟩) m cap) bf (W.alloc (.cells x.cells.toArray 43)) v ts ne dp (l + 1)) := EA
 have HX : Hid (W.rangeAt nb (no + l * 24) x.cells) := hx
 clear E EA hx
 go_enter Tryz.func97, Tryz.ntmps97
 go_upto_region 1 with (first | refine a2T (by rfl) 43 (.tmp 13) rfl nb (no + l * 24) rfl x.cells _ HX.out Tryz.underlying43 rfl (a27 x) ?_ | refine wpList_store_row rfl 43 (.tmp 8) (.tmp 14) rfl W.heap.size x.cells.toArray rfl rfl 43 _ X0 (I9 x) rfl (a02 x) ?_)
 rw [World.setRow_alloc_new]
 clear X0
 generalize W.alloc (.cells x.cells.toArray 43) = W0 at *
 generalize hBe : W.heap.size = B at *
 have HBE : Hid (W.heap.size = B) := hBe
 clear hBe
 have CR := a3v x W0
 obtain ⟨X, hX⟩ : ∃ X, x.cells.toArray = X := ⟨_, rfl⟩
 have HV : VAt W0 B 43 X := hX ▸ NA
 have HZ : Hid ((Tryz.prog.info? 43).map (·.size) = some X.size) := hX ▸ I9 x
 rw [hX] at CR ⊢
 have HXX : Hid (x.cells.toArray = X) := hX
 clear hX c2 c6 hw1
 obtain ⟨rr, hrr⟩ : ∃ rr, d4 x = rr := ⟨_, rfl⟩
 have HRR : Hid (d4 x = rr) := hrr
 rw [hrr] at *
 clear hrr
 go_upto_region 2 with (refine wpList_load_row rfl 43 (.tmp 8) rfl B rfl 43 X (0, 0) _ HV Tryz.underlying43 rfl HZ.out ?_)
 refine CR.mono ?_
 rintro e w1 ⟨rfl, G1⟩
 have HE1 : Hid (j5 w M B7 p2 p3 p5 p6 p7 p8 (.slice (some ⟨nb, no, none⟩) m cap) bf w1 v ts ne dp (l + 1)) := HEA.out.kept P hM G1
 have N1 : NB w1 B x := NB.kept NA G1
 have HG1 : Hid (W.grownBy w1 none) := d3 GA G1
 have c8 := HE1.out.c8
 clear CR G1 NA GA HEA HV HZ
 have f6 := VAt.free HE1.out.lf 0
 have c6 : w1.cell? ⟨p6, 0, none⟩ = some (.int .i64 ((l : Int) + 1)) := VAt.cell HE1.out.lf 0
 have hw1 : IntKind.i64.wrap ((l : Int) + 1 - 1) = (l : Int) := by rw [IntKind.wrap_i64]; omega
 have hBs := HE.out.sz
 have hB1 : B < w1.heap.size := VAt.lt N1
 clear c8
 go_upto_region 5 with fail
 obtain ⟨E2, K2⟩ := HE1.out.took P l
 have N2 : NB (w1.setCell ⟨p6, 0, none⟩ (.int .i64 (l : Int))) B x := VAt.setOther N1 _ (by have := P.l6; omega)
 have KW : Kp M (WS p5 p6 v) W (w1.setCell ⟨p6, 0, none⟩ (.int .i64 (l : Int))) := (Kp.none HG1.out (by omega)).trans K2
 generalize w1.setCell ⟨p6, 0, none⟩ (.int .i64 (l : Int)) = w2 at *
 have HE2 : Hid (j5 w M B7 p2 p3 p5 p6 p7 p8 (.slice (some ⟨nb, no, none⟩) m cap) bf w2 v ts ne dp l) := E2
 have HN2 : Hid (NB w2 B x) := N2
 have c8 := E2.c8
 have c3 := E2.c3
 have k0 := N2.kind
 rw [hk] at k0
 clear E2 K2 f6 c6 hw1 N1 N2
 have hvB : v.ownBlock ≠ some B := fun e => by have := (HE.out.out.2.lt B e).2; have := HBE.out; omega
 go_upto_region 12 with fail
 refine wp_region_held_drew (S := fun W => W.cell? ⟨p8, 0, none⟩ = some (.func (.func 94) #[] #[.pointer (some ⟨p5, 0, none⟩), .pointer (some ⟨p7, 0, none⟩)]) ∧ W.cell? ⟨p3, 0, none⟩ = some (.func (.func bf) #[] #[])) (by kernel_rfl) ⟨c8, c3⟩ (fun hHeld => ?_)
 refine wpT (i := 0) (v := .func (.func 94) #[] #[.pointer (some ⟨p5, 0, none⟩), .pointer (some ⟨p7, 0, none⟩)]) rfl (Or.inl ⟨by rfl, fun W hW => ?_⟩) hHeld ?_
 ·obtain ⟨y1, y2⟩ := hW
  go_simp
 try simp only [Act.put, a0, a1, a3, a4, a5]
 refine wpT (i := 1) (v := .func (.func bf) #[] #[]) rfl (Or.inl ⟨by rfl, fun W hW => ?_⟩) hHeld ?_
 ·obtain ⟨y1, y2⟩ := hW
  go_simp
 try simp only [Act.put, a0, a1, a2, a3, a4, a5]
 refine wpR (rs := [2]) (AllReadyH.cons rfl (fun K hK => ?_) AllReadyH.nil)
 go_simp
 (try rw [HFA.out, Oper.upon_enter]); refine (HBA.out _ w2.drew).mono ?_
 rintro e w4 ⟨rfl, rfl⟩
 go_wp2_with fail
 refine hK.out _ _ hHeld (fun hHeld => ?_)
 clear hK K
 try simp only [Act.put, a0, a1, a2, a3, a4, a5]
 refine wpR (rs := [3]) (AllReadyH.cons rfl (fun K hK => ?_) AllReadyH.nil)
 go_simp
 have G25 : w2.grownBy w2.drew none := ⟨rfl, rfl, rfl, Nat.le_refl _, fun _ _ _ => rfl⟩
 have E5 := HE2.out.kept P hM G25
 have KW5 := KW.trans (Kp.none (n := M) (S := WS p5 p6 v) G25 (by have := HE2.out.sz; omega))
 refine (a4X P E5 [110, 111, 116, 32] [] (gf 3) r d n k hne hts H).mono ?_
 rintro e w9 hw9
 obtain ⟨rfl, v9, R9, E9, g9, K9, h9⟩ := id hw9
 have HW9 : Hid (WP w M B7 p2 p3 p5 p6 p7 p8 (.slice (some ⟨nb, no, none⟩) m cap) bf _ _ _ _ _ _ _ _ _ _ _ _) := hw9
 have y8 := E9.c8
 have y3 := E9.c3
 clear hw9 E9 g9 K9 h9
 go_wp2_with fail
 refine hK.out _ _ ⟨y8, y3⟩ (fun hHeld => ?_)
 clear hK K
 try simp only [Act.put, a0, a1, a2, a3, a4, a5]
 refine wpAnyH_done (by kernel_rfl) ?_ _
 go_wp2
 go_end0
 exact WP.took KW5 HW9.out
theorem b0O {bf : Nat} {gf : Int → Int} (HB : ∀ (l : Int) (w : World), Calls Tryz.prog bf #[.int .i64 l] w fun e w' => e = .returned (.int .i64 (gf l)) ∧ w' = w) (HF : ∀ (xs : Array Value) (w : World), (callFunc bf xs).run Tryz.prog w = .ok (.enter bf xs) w) {w : World} {M B7 p2 p3 p5 p6 p7 p8 nb no m cap : Nat} (P : a0p M B7 p2 p3 p5 p6 p7 p8) (hM : M ≤ B7) {W : World} {v : Value} {ts : List (List UInt8)} {ne dp : Int} {l : Nat} (E : j5 w M B7 p2 p3 p5 p6 p7 p8 (.slice (some ⟨nb, no, none⟩) m cap) bf W v ts ne dp (l + 1)) (x : Ng) (hx : W.rangeAt nb (no + l * 24) x.cells) (hlt : l < m) (hm : m ≤ 1000000) (least : Int) (hr : ¬ d4 x < least) (hk : x.kind = 5) (r : List UInt8) (d n k : Nat) (hne : ne ≤ 900000) (hts : ts.length + k ≤ 900000) (H : ∀ W1 v1, j5 w M B7 p2 p3 p5 p6 p7 p8 (.slice (some ⟨nb, no, none⟩) m cap) bf W1 v1 (ts ++ [[]]) (ne + 1) (max dp (ne + 1)) l → Calls Tryz.prog 97 #[.int .i64 (gf 11), .pointer (some ⟨p2, 0, none⟩), .pointer (some ⟨p6, 0, none⟩), .pointer (some ⟨p8, 0, none⟩), .pointer (some ⟨p3, 0, none⟩), .pointer (some ⟨p7, 0, none⟩), .pointer (some ⟨p5, 0, none⟩)] W1 (WP w M B7 p2 p3 p5 p6 p7 p8 (.slice (some ⟨nb, no, none⟩) m cap) bf W1 v1 (ts ++ [[]]) (ne + 1) (max dp (ne + 1)) l r d n k)) :
  Calls Tryz.prog 97 #[.int .i64 least, .pointer (some ⟨p2, 0, none⟩), .pointer (some ⟨p6, 0, none⟩), .pointer (some ⟨p8, 0, none⟩), .pointer (some ⟨p3, 0, none⟩), .pointer (some ⟨p7, 0, none⟩), .pointer (some ⟨p5, 0, none⟩)] W
   (WP w M B7 p2 p3 p5 p6 p7 p8 (.slice (some ⟨nb, no, none⟩) m cap) bf W v ts ne dp (l + 1) ([45] ++ r ++ []) (d + 1) (n + 1) (k + 2)) := by
 have HFA : Hid (∀ (xs : Array Value) (w : World), (callFunc bf xs).run Tryz.prog w = .ok (.enter bf xs) w) := HF
 clear HF
 have HBA : Hid (∀ (l : Int) (w : World), Calls Tryz.prog bf #[.int .i64 l] w fun e w' => e = .returned (.int .i64 (gf l)) ∧ w' = w) := HB
 clear HB
 have hW := E.sz
 have X0 := VAt.alloc W 43 ngZ.cells.toArray
 have GA := World.grownBy_alloc W (.cells x.cells.toArray 43) none
 have EA := E.kept P hM GA
 have NA := NB.alloc W x
 have c2 := E.c2
 have c6 : W.cell? ⟨p6, 0, none⟩ = some (.int .i64 ((l : Int) + 1)) := VAt.cell E.lf 0
 have hw1 : IntKind.i64.wrap ((l : Int) + 1 - 1) = (l : Int) := by rw [IntKind.wrap_i64]; omega
 have hl0 : (0 : Int) ≤ (l : Int) := by omega
 have hl1 : (l : Int) < (m : Int) := by omega
 have HE : Hid (j5 w M B7 p2 p3 p5 p6 p7 p8 (.slice (some ⟨nb, no, none⟩) m cap) bf W v ts ne dp (l + 1)) := E
 have HEA : Hid (j5 w M B7 p2 p3 p5 p6 p7 p8 (.slice (some ⟨nb, no, none⟩) m cap) bf (W.alloc (.cells x.cells.toArray 43)) v ts ne dp (l + 1)) := EA
 have HX : Hid (W.rangeAt nb (no + l * 24) x.cells) := hx
 clear E EA hx
 go_enter Tryz.func97, Tryz.ntmps97
 go_upto_region 1 with (first | refine a2T (by rfl) 43 (.tmp 13) rfl nb (no + l * 24) rfl x.cells _ HX.out Tryz.underlying43 rfl (a27 x) ?_ | refine wpList_store_row rfl 43 (.tmp 8) (.tmp 14) rfl W.heap.size x.cells.toArray rfl rfl 43 _ X0 (I9 x) rfl (a02 x) ?_)
 rw [World.setRow_alloc_new]
 clear X0
 generalize W.alloc (.cells x.cells.toArray 43) = W0 at *
 generalize hBe : W.heap.size = B at *
 have HBE : Hid (W.heap.size = B) := hBe
 clear hBe
 have CR := a3v x W0
 obtain ⟨X, hX⟩ : ∃ X, x.cells.toArray = X := ⟨_, rfl⟩
 have HV : VAt W0 B 43 X := hX ▸ NA
 have HZ : Hid ((Tryz.prog.info? 43).map (·.size) = some X.size) := hX ▸ I9 x
 rw [hX] at CR ⊢
 have HXX : Hid (x.cells.toArray = X) := hX
 clear hX c2 c6 hw1
 obtain ⟨rr, hrr⟩ : ∃ rr, d4 x = rr := ⟨_, rfl⟩
 have HRR : Hid (d4 x = rr) := hrr
 rw [hrr] at *
 clear hrr
 go_upto_region 2 with (refine wpList_load_row rfl 43 (.tmp 8) rfl B rfl 43 X (0, 0) _ HV Tryz.underlying43 rfl HZ.out ?_)
 refine CR.mono ?_
 rintro e w1 ⟨rfl, G1⟩
 have HE1 : Hid (j5 w M B7 p2 p3 p5 p6 p7 p8 (.slice (some ⟨nb, no, none⟩) m cap) bf w1 v ts ne dp (l + 1)) := HEA.out.kept P hM G1
 have N1 : NB w1 B x := NB.kept NA G1
 have HG1 : Hid (W.grownBy w1 none) := d3 GA G1
 have c8 := HE1.out.c8
 clear CR G1 NA GA HEA HV HZ
 have f6 := VAt.free HE1.out.lf 0
 have c6 : w1.cell? ⟨p6, 0, none⟩ = some (.int .i64 ((l : Int) + 1)) := VAt.cell HE1.out.lf 0
 have hw1 : IntKind.i64.wrap ((l : Int) + 1 - 1) = (l : Int) := by rw [IntKind.wrap_i64]; omega
 have hBs := HE.out.sz
 have hB1 : B < w1.heap.size := VAt.lt N1
 clear c8
 go_upto_region 5 with fail
 obtain ⟨E2, K2⟩ := HE1.out.took P l
 have N2 : NB (w1.setCell ⟨p6, 0, none⟩ (.int .i64 (l : Int))) B x := VAt.setOther N1 _ (by have := P.l6; omega)
 have KW : Kp M (WS p5 p6 v) W (w1.setCell ⟨p6, 0, none⟩ (.int .i64 (l : Int))) := (Kp.none HG1.out (by omega)).trans K2
 generalize w1.setCell ⟨p6, 0, none⟩ (.int .i64 (l : Int)) = w2 at *
 have HE2 : Hid (j5 w M B7 p2 p3 p5 p6 p7 p8 (.slice (some ⟨nb, no, none⟩) m cap) bf w2 v ts ne dp l) := E2
 have HN2 : Hid (NB w2 B x) := N2
 have c8 := E2.c8
 have c3 := E2.c3
 have k0 := N2.kind
 rw [hk] at k0
 clear E2 K2 f6 c6 hw1 N1 N2
 have hvB : v.ownBlock ≠ some B := fun e => by have := (HE.out.out.2.lt B e).2; have := HBE.out; omega
 go_upto_region 10 with fail
 refine wp_region_held_drew (S := fun W => W.cell? ⟨p8, 0, none⟩ = some (.func (.func 94) #[] #[.pointer (some ⟨p5, 0, none⟩), .pointer (some ⟨p7, 0, none⟩)]) ∧ W.cell? ⟨p3, 0, none⟩ = some (.func (.func bf) #[] #[])) (by kernel_rfl) ⟨c8, c3⟩ (fun hHeld => ?_)
 refine wpT (i := 0) (v := .func (.func 94) #[] #[.pointer (some ⟨p5, 0, none⟩), .pointer (some ⟨p7, 0, none⟩)]) rfl (Or.inl ⟨by rfl, fun W hW => ?_⟩) hHeld ?_
 ·obtain ⟨y1, y2⟩ := hW
  go_simp
 try simp only [Act.put, a0, a1, a3, a4, a5]
 refine wpT (i := 1) (v := .func (.func bf) #[] #[]) rfl (Or.inl ⟨by rfl, fun W hW => ?_⟩) hHeld ?_
 ·obtain ⟨y1, y2⟩ := hW
  go_simp
 try simp only [Act.put, a0, a1, a2, a3, a4, a5]
 refine wpR (rs := [2]) (AllReadyH.cons rfl (fun K hK => ?_) AllReadyH.nil)
 go_simp
 (try rw [HFA.out, Oper.upon_enter]); refine (HBA.out _ w2.drew).mono ?_
 rintro e w4 ⟨rfl, rfl⟩
 go_wp2_with fail
 refine hK.out _ _ hHeld (fun hHeld => ?_)
 clear hK K
 try simp only [Act.put, a0, a1, a2, a3, a4, a5]
 refine wpR (rs := [3]) (AllReadyH.cons rfl (fun K hK => ?_) AllReadyH.nil)
 go_simp
 have G25 : w2.grownBy w2.drew none := ⟨rfl, rfl, rfl, Nat.le_refl _, fun _ _ _ => rfl⟩
 have E5 := HE2.out.kept P hM G25
 have KW5 := KW.trans (Kp.none (n := M) (S := WS p5 p6 v) G25 (by have := HE2.out.sz; omega))
 refine (a4X P E5 [45] [] (gf 11) r d n k hne hts H).mono ?_
 rintro e w9 hw9
 obtain ⟨rfl, v9, R9, E9, g9, K9, h9⟩ := id hw9
 have HW9 : Hid (WP w M B7 p2 p3 p5 p6 p7 p8 (.slice (some ⟨nb, no, none⟩) m cap) bf _ _ _ _ _ _ _ _ _ _ _ _) := hw9
 have y8 := E9.c8
 have y3 := E9.c3
 clear hw9 E9 g9 K9 h9
 go_wp2_with fail
 refine hK.out _ _ ⟨y8, y3⟩ (fun hHeld => ?_)
 clear hK K
 try simp only [Act.put, a0, a1, a2, a3, a4, a5]
 refine wpAnyH_done (by kernel_rfl) ?_ _
 go_wp2
 go_end0
 exact WP.took KW5 HW9.out
theorem ap1 (w : World) (a b c : List UInt8) (t : Nat) : CV (w.alloc (.cells #[str a, str b, str c] t)) (some ⟨w.heap.size, 0, none⟩) ([a, b, c].map str) := ⟨fun h => (by cases h), fun ad had j hj => by
 obtain rfl := Option.some.inj had
 have e : ((⟨w.heap.size, 0, none⟩ : Addr).add j) = ⟨w.heap.size, j, none⟩ := by unfold Addr.add; split <;> simp_all
 rw [e, VAt.cell (VAt.alloc w t #[str a, str b, str c]) j]
 simp at hj
 rcases (by omega : j = 0 ∨ j = 1 ∨ j = 2) with rfl | rfl | rfl <;> rfl⟩
theorem a5A {bf : Nat} {gf : Int → Int} (HB : ∀ (l : Int) (w : World), Calls Tryz.prog bf #[.int .i64 l] w fun e w' => e = .returned (.int .i64 (gf l)) ∧ w' = w) (HF : ∀ (xs : Array Value) (w : World), (callFunc bf xs).run Tryz.prog w = .ok (.enter bf xs) w) {w : World} {M B7 p2 p3 p5 p6 p7 p8 nb no m cap : Nat} (P : a0p M B7 p2 p3 p5 p6 p7 p8) (hM : M ≤ B7) {W : World} {v : Value} {ts : List (List UInt8)} {ne dp : Int} {l : Nat} (E : j5 w M B7 p2 p3 p5 p6 p7 p8 (.slice (some ⟨nb, no, none⟩) m cap) bf W v ts ne dp (l + 1)) (x : Ng) (hx : W.rangeAt nb (no + l * 24) x.cells) (hlt : l < m) (hm : m ≤ 1000000) (least : Int) (hr : ¬ d4 x < least) (hk : x.kind = 4 ∨ x.kind = 6 ∨ x.kind = 7 ∨ x.kind = 8) (hrow : 0 ≤ d4 x ∧ d4 x ≤ 12) (hsg : x.kind = 7 ∨ x.kind = 8 ∨ (x.kind = 6 ∧ 1 ≤ x.op ∧ x.op ≤ 6) ∨ (x.kind = 4 ∧ 1 ≤ x.op ∧ x.op ≤ 10)) (rp rq : List UInt8) (dp0 dq np nq kp kq : Nat) (hts : ts.length + kp + kq ≤ 900000) (H1 : ∀ W1, j5 w M B7 p2 p3 p5 p6 p7 p8 (.slice (some ⟨nb, no, none⟩) m cap) bf W1 v ts ne dp l → Calls Tryz.prog 97 #[.int .i64 (gf (d4 x + 1)), .pointer (some ⟨p2, 0, none⟩), .pointer (some ⟨p6, 0, none⟩), .pointer (some ⟨p8, 0, none⟩), .pointer (some ⟨p3, 0, none⟩), .pointer (some ⟨p7, 0, none⟩), .pointer (some ⟨p5, 0, none⟩)] W1 (WP w M B7 p2 p3 p5 p6 p7 p8 (.slice (some ⟨nb, no, none⟩) m cap) bf W1 v ts ne dp l rq dq nq kq)) (H2 : ∀ W1 v1 R1 dp1, j5 w M B7 p2 p3 p5 p6 p7 p8 (.slice (some ⟨nb, no, none⟩) m cap) bf W1 v1 (ts ++ R1) ne dp1 (l - nq) → R1.length ≤ kq + 3 → Calls Tryz.prog 97 #[.int .i64 (gf (d4 x)), .pointer (some ⟨p2, 0, none⟩), .pointer (some ⟨p6, 0, none⟩), .pointer (some ⟨p8, 0, none⟩), .pointer (some ⟨p3, 0, none⟩), .pointer (some ⟨p7, 0, none⟩), .pointer (some ⟨p5, 0, none⟩)] W1 (WP w M B7 p2 p3 p5 p6 p7 p8 (.slice (some ⟨nb, no, none⟩) m cap) bf W1 v1 (ts ++ R1) ne dp1 (l - nq) rp dp0 np kp)) :
  Calls Tryz.prog 97 #[.int .i64 least, .pointer (some ⟨p2, 0, none⟩), .pointer (some ⟨p6, 0, none⟩), .pointer (some ⟨p8, 0, none⟩), .pointer (some ⟨p3, 0, none⟩), .pointer (some ⟨p7, 0, none⟩), .pointer (some ⟨p5, 0, none⟩)] W
   (WP w M B7 p2 p3 p5 p6 p7 p8 (.slice (some ⟨nb, no, none⟩) m cap) bf W v ts ne dp (l + 1) (rp ++ [32] ++ N0 x ++ [32] ++ rq) (max dp0 dq) (np + nq + 1) (kq + 3 + kp)) := by
 have HFA : Hid (∀ (xs : Array Value) (w : World), (callFunc bf xs).run Tryz.prog w = .ok (.enter bf xs) w) := HF
 clear HF
 have HBA : Hid (∀ (l : Int) (w : World), Calls Tryz.prog bf #[.int .i64 l] w fun e w' => e = .returned (.int .i64 (gf l)) ∧ w' = w) := HB
 clear HB
 rcases hk with hk | hk | hk | hk
 all_goals
  have hW := E.sz
  have X0 := VAt.alloc W 43 ngZ.cells.toArray
  have GA := World.grownBy_alloc W (.cells x.cells.toArray 43) none
  have EA := E.kept P hM GA
  have NA := NB.alloc W x
  have c2 := E.c2
  have c6 : W.cell? ⟨p6, 0, none⟩ = some (.int .i64 ((l : Int) + 1)) := VAt.cell E.lf 0
  have hw1 : IntKind.i64.wrap ((l : Int) + 1 - 1) = (l : Int) := by rw [IntKind.wrap_i64]; omega
  have hl0 : (0 : Int) ≤ (l : Int) := by omega
  have hl1 : (l : Int) < (m : Int) := by omega
  have HE : Hid (j5 w M B7 p2 p3 p5 p6 p7 p8 (.slice (some ⟨nb, no, none⟩) m cap) bf W v ts ne dp (l + 1)) := E
  have HEA : Hid (j5 w M B7 p2 p3 p5 p6 p7 p8 (.slice (some ⟨nb, no, none⟩) m cap) bf (W.alloc (.cells x.cells.toArray 43)) v ts ne dp (l + 1)) := EA
  have HX : Hid (W.rangeAt nb (no + l * 24) x.cells) := hx
  clear E EA hx
  go_enter Tryz.func97, Tryz.ntmps97
  go_upto_region 1 with (first | refine a2T (by rfl) 43 (.tmp 13) rfl nb (no + l * 24) rfl x.cells _ HX.out Tryz.underlying43 rfl (a27 x) ?_ | refine wpList_store_row rfl 43 (.tmp 8) (.tmp 14) rfl W.heap.size x.cells.toArray rfl rfl 43 _ X0 (I9 x) rfl (a02 x) ?_)
  rw [World.setRow_alloc_new]
  clear X0
  generalize W.alloc (.cells x.cells.toArray 43) = W0 at *
  generalize hBe : W.heap.size = B at *
  have HBE : Hid (W.heap.size = B) := hBe
  clear hBe
  have CR := a3v x W0
  obtain ⟨X, hX⟩ : ∃ X, x.cells.toArray = X := ⟨_, rfl⟩
  have HV : VAt W0 B 43 X := hX ▸ NA
  have HZ : Hid ((Tryz.prog.info? 43).map (·.size) = some X.size) := hX ▸ I9 x
  rw [hX] at CR ⊢
  have HXX : Hid (x.cells.toArray = X) := hX
  clear hX c2 c6 hw1
  obtain ⟨rr, hrr⟩ : ∃ rr, d4 x = rr := ⟨_, rfl⟩
  have HRR : Hid (d4 x = rr) := hrr
  rw [hrr] at *
  clear hrr
  go_upto_region 2 with (refine wpList_load_row rfl 43 (.tmp 8) rfl B rfl 43 X (0, 0) _ HV Tryz.underlying43 rfl HZ.out ?_)
  refine CR.mono ?_
  rintro e w1 ⟨rfl, G1⟩
  have HE1 : Hid (j5 w M B7 p2 p3 p5 p6 p7 p8 (.slice (some ⟨nb, no, none⟩) m cap) bf w1 v ts ne dp (l + 1)) := HEA.out.kept P hM G1
  have N1 : NB w1 B x := NB.kept NA G1
  have HG1 : Hid (W.grownBy w1 none) := d3 GA G1
  have c8 := HE1.out.c8
  clear CR G1 NA GA HEA HV HZ
  have f6 := VAt.free HE1.out.lf 0
  have c6 : w1.cell? ⟨p6, 0, none⟩ = some (.int .i64 ((l : Int) + 1)) := VAt.cell HE1.out.lf 0
  have hw1 : IntKind.i64.wrap ((l : Int) + 1 - 1) = (l : Int) := by rw [IntKind.wrap_i64]; omega
  have hBs := HE.out.sz
  have hB1 : B < w1.heap.size := VAt.lt N1
  clear c8
  go_upto_region 5 with fail
  obtain ⟨E2, K2⟩ := HE1.out.took P l
  have N2 : NB (w1.setCell ⟨p6, 0, none⟩ (.int .i64 (l : Int))) B x := VAt.setOther N1 _ (by have := P.l6; omega)
  have KW : Kp M (WS p5 p6 v) W (w1.setCell ⟨p6, 0, none⟩ (.int .i64 (l : Int))) := (Kp.none HG1.out (by omega)).trans K2
  generalize w1.setCell ⟨p6, 0, none⟩ (.int .i64 (l : Int)) = w2 at *
  have HE2 : Hid (j5 w M B7 p2 p3 p5 p6 p7 p8 (.slice (some ⟨nb, no, none⟩) m cap) bf w2 v ts ne dp l) := E2
  have HN2 : Hid (NB w2 B x) := N2
  have c8 := E2.c8
  have c3 := E2.c3
  have k0 := N2.kind
  rw [hk] at k0
  clear E2 K2 f6 c6 hw1 N1 N2
  have hvB : v.ownBlock ≠ some B := fun e => by have := (HE.out.out.2.lt B e).2; have := HBE.out; omega
  have c7 := HE2.out.c7
  have hwr : IntKind.i64.wrap (d4 x + 1) = d4 x + 1 := by rw [IntKind.wrap_i64]; omega
  have CS := fun W0 => aV2 x W0 hsg
  rw [HXX.out] at CS
  clear hsg
  go_upto_region 17 with fail
  refine wp_region_held_drew (S := fun W => W.cell? ⟨p7, 0, none⟩ = some (.func (.func 97) #[] #[.pointer (some ⟨p2, 0, none⟩), .pointer (some ⟨p6, 0, none⟩), .pointer (some ⟨p8, 0, none⟩), .pointer (some ⟨p3, 0, none⟩), .pointer (some ⟨p7, 0, none⟩), .pointer (some ⟨p5, 0, none⟩)]) ∧ W.cell? ⟨p3, 0, none⟩ = some (.func (.func bf) #[] #[])) (by kernel_rfl) ⟨c7, c3⟩ (fun hHeld => ?_)
  refine wpT (i := 0) (v := .func (.func 97) #[] #[.pointer (some ⟨p2, 0, none⟩), .pointer (some ⟨p6, 0, none⟩), .pointer (some ⟨p8, 0, none⟩), .pointer (some ⟨p3, 0, none⟩), .pointer (some ⟨p7, 0, none⟩), .pointer (some ⟨p5, 0, none⟩)]) rfl (Or.inl ⟨by rfl, fun W hW => ?_⟩) hHeld ?_
  ·obtain ⟨y1, y2⟩ := hW
   go_simp
  try simp only [Act.put, a0, a1, a3, a4, a5]
  refine wpT (i := 1) (v := .func (.func bf) #[] #[]) rfl (Or.inl ⟨by rfl, fun W hW => ?_⟩) hHeld ?_
  ·obtain ⟨y1, y2⟩ := hW
   go_simp
  try simp only [Act.put, a0, a1, a2, a3, a4, a5]
  refine wpT (i := 2) (v := .int .i64 (d4 x)) rfl (Or.inl ⟨by rfl, fun W hW => ?_⟩) hHeld ?_
  ·clear hW
   go_simp
  try simp only [Act.put, a0, a1, a2, a3, a4, a5]
  refine wpT (i := 3) (v := .int .i64 (d4 x + 1)) rfl (Or.inl ⟨by rfl, fun W hW => ?_⟩) hHeld ?_
  ·clear hW
   go_simp
  try simp only [Act.put, a0, a1, a2, a3, a4, a5]
  refine wpR (rs := [4]) (AllReadyH.cons rfl (fun K hK => ?_) AllReadyH.nil)
  go_simp
  (try rw [HFA.out, Oper.upon_enter]); refine (HBA.out _ w2.drew).mono ?_
  rintro e w4 ⟨rfl, rfl⟩
  go_wp2_with fail
  refine hK.out _ _ hHeld (fun hHeld => ?_)
  clear hK K
  try simp only [Act.put, a0, a1, a2, a3, a4, a5]
  refine wpR (rs := [5]) (AllReadyH.cons rfl (fun K hK => ?_) AllReadyH.nil)
  go_simp
  have G25 : w2.grownBy w2.drew none := ⟨rfl, rfl, rfl, Nat.le_refl _, fun _ _ _ => rfl⟩
  have E5 := HE2.out.kept P hM G25
  have hs2 := HE2.out.sz
  have KW5 := KW.trans (Kp.none (n := M) (S := WS p5 p6 v) G25 (by omega))
  have N5 : NB w2.drew B x := NB.kept HN2.out G25
  refine (H1 w2.drew E5).mono ?_
  rintro e w9 ⟨rfl, v9, R9, E9, g9, K9, h9, k9⟩
  have y7 := E9.c7
  have y3 := E9.c3
  have hB5 : B ≠ p5 ∧ B ≠ p6 := by have := P.l5; have := P.l6; omega
  have N9 : NB w9 B x := K9.2 B _ ⟨hB5.1, hB5.2, hvB⟩ N5 rfl
  have HE9 : Hid (j5 w M B7 p2 p3 p5 p6 p7 p8 (.slice (some ⟨nb, no, none⟩) m cap) bf w9 v9 (ts ++ R9) ne (max dp (ne + (dq : Int))) (l - nq)) := E9
  have KA : Kp M (WS p5 p6 v) W w9 := KW5.trans K9
  have gA : S0 W.heap.size v.ownBlock v9 := g9.mono KW5.1.size
  clear E9 K9 g9 N5 E5 KW5 KW H1
  go_wp2_with fail
  refine hK.out _ _ ⟨y7, y3⟩ (fun hHeld => ?_)
  clear hK K
  try simp only [Act.put, a0, a1, a2, a3, a4, a5]
  refine wpAnyH_done (by kernel_rfl) ?_ _
  have HV9 : VAt w9 B 43 X := HXX.out ▸ N9
  have HZN : Hid ((Tryz.prog.info? 43).map (·.size) = some X.size) := HXX.out ▸ I9 x
  clear y7 y3 c7 c3 c8 k0
  go_wp2_with (refine wpList_load_row rfl 43 (.tmp 8) rfl B rfl 43 X (0, 0) _ HV9 Tryz.underlying43 rfl HZN.out ?_)
  refine (CS w9).mono ?_
  rintro e w10 ⟨rfl, G10⟩
  have HE10 : Hid (j5 w M B7 p2 p3 p5 p6 p7 p8 (.slice (some ⟨nb, no, none⟩) m cap) bf w10 v9 (ts ++ R9) ne (max dp (ne + (dq : Int))) (l - nq)) := HE9.out.kept P hM G10
  have hP := a5c M B7 p5 w10.heap.size 3 [[32], N0 x, [32]] (ts ++ R9) v9 ne (max dp (ne + (dq : Int))) (w10.alloc (.cells #[str [32], str (N0 x), str [32]] 9)) P.m5 P.l5.1 (by have := HE10.out.sz; simp; omega) HE10.out.sz (by simp) (HE10.out.out.kept (World.grownBy_alloc _ _ _)) (fun e => by have := (HE10.out.out.2.lt _ e).2; omega) (ap1 w10 _ _ _ _) (by simp) (by simp; omega)
  clear CS HV9 HZN hHeld
  go_upto_region 19 with (refine hP.mono ?_; rintro e w11 ⟨rfl, ⟨v11, hO11, g11⟩, K11⟩)
  have GA6 := World.grownBy_alloc w10 (.cells #[str [32], str (N0 x), str [32]] 9) none
  have hs9 := HE9.out.sz
  have hs10 := HE10.out.sz
  have E11 := (HE10.out.kept P hM GA6).wrote P K11 hO11 HE10.out.nd
  have KB : Kp M (WS p5 p6 v9) w9 w11 := (Kp.none (n := M) (S := WS p5 p6 v9) G10 (by omega)).trans ((Kp.none (n := M) (S := WS p5 p6 v9) GA6 (by omega)).trans (a4N K11))
  have gB : S0 w9.heap.size v9.ownBlock v11 := g11.mono (by have := G10.size; have := GA6.size; omega)
  have KAB := a4M KA gA KB
  have gAB := gA.trans gB KA.1.size
  rw [List.append_assoc] at E11
  have HE11 : Hid (j5 w M B7 p2 p3 p5 p6 p7 p8 (.slice (some ⟨nb, no, none⟩) m cap) bf w11 v11 (ts ++ (R9 ++ [[32], N0 x, [32]].reverse)) ne (max dp (ne + (dq : Int))) (l - nq)) := E11
  have c7 := E11.c7
  have c3 := E11.c3
  clear hP E11 GA6 G10 K11 hO11 g11 KA gA KB gB N9
  refine wp_region_held_drew (S := fun W => W.cell? ⟨p7, 0, none⟩ = some (.func (.func 97) #[] #[.pointer (some ⟨p2, 0, none⟩), .pointer (some ⟨p6, 0, none⟩), .pointer (some ⟨p8, 0, none⟩), .pointer (some ⟨p3, 0, none⟩), .pointer (some ⟨p7, 0, none⟩), .pointer (some ⟨p5, 0, none⟩)]) ∧ W.cell? ⟨p3, 0, none⟩ = some (.func (.func bf) #[] #[])) (by kernel_rfl) ⟨c7, c3⟩ (fun hHeld => ?_)
  refine wpT (i := 0) (v := .func (.func 97) #[] #[.pointer (some ⟨p2, 0, none⟩), .pointer (some ⟨p6, 0, none⟩), .pointer (some ⟨p8, 0, none⟩), .pointer (some ⟨p3, 0, none⟩), .pointer (some ⟨p7, 0, none⟩), .pointer (some ⟨p5, 0, none⟩)]) rfl (Or.inl ⟨by rfl, fun W hW => ?_⟩) hHeld ?_
  ·obtain ⟨y1, y2⟩ := hW
   go_simp
  try simp only [Act.put, a0, a1, a3, a4, a5]
  refine wpT (i := 1) (v := .func (.func bf) #[] #[]) rfl (Or.inl ⟨by rfl, fun W hW => ?_⟩) hHeld ?_
  ·obtain ⟨y1, y2⟩ := hW
   go_simp
  try simp only [Act.put, a0, a1, a2, a3, a4, a5]
  refine wpT (i := 2) (v := .int .i64 (d4 x)) rfl (Or.inl ⟨by rfl, fun W hW => ?_⟩) hHeld ?_
  ·clear hW
   go_simp
  try simp only [Act.put, a0, a1, a2, a3, a4, a5]
  refine wpR (rs := [3]) (AllReadyH.cons rfl (fun K hK => ?_) AllReadyH.nil)
  go_simp
  (try rw [HFA.out, Oper.upon_enter]); refine (HBA.out _ w11.drew).mono ?_
  rintro e w4 ⟨rfl, rfl⟩
  go_wp2_with fail
  refine hK.out _ _ hHeld (fun hHeld => ?_)
  clear hK K
  try simp only [Act.put, a0, a1, a2, a3, a4, a5]
  refine wpR (rs := [4]) (AllReadyH.cons rfl (fun K hK => ?_) AllReadyH.nil)
  go_simp
  have G35 : w11.grownBy w11.drew none := ⟨rfl, rfl, rfl, Nat.le_refl _, fun _ _ _ => rfl⟩
  have E15 := HE11.out.kept P hM G35
  have KAD := KAB.trans (Kp.none (n := M) (S := WS p5 p6 v) G35 (by have := HE11.out.sz; omega))
  refine (H2 w11.drew v11 _ _ E15 (by simp; omega)).mono ?_
  rintro e w12 ⟨rfl, v12, R12, E12, g12, K12, h12, k12⟩
  have z7 := E12.c7
  have z3 := E12.c3
  have HE12 : Hid (j5 w M B7 p2 p3 p5 p6 p7 p8 (.slice (some ⟨nb, no, none⟩) m cap) bf w12 v12 (ts ++ (R9 ++ [[32], N0 x, [32]].reverse) ++ R12) ne (max (max dp (ne + (dq : Int))) (ne + (dp0 : Int))) (l - nq - np)) := E12
  have KF := a4M KAD gAB K12
  have gF := gAB.trans g12 KAD.1.size
  clear E12 K12 g12 KAD E15 H2
  go_wp2_with fail
  refine hK.out _ _ ⟨z7, z3⟩ (fun hHeld => ?_)
  clear hK K
  try simp only [Act.put, a0, a1, a2, a3, a4, a5]
  refine wpAnyH_done (by kernel_rfl) ?_ _
  go_wp2
  go_end0
  have e1 : max (max dp (ne + (dq : Int))) (ne + (dp0 : Int)) = max dp (ne + ((max dp0 dq : Nat) : Int)) := by omega
  have e2 : l - nq - np = l + 1 - (np + nq + 1) := by omega
  have E := HE12.out
  rw [e1, e2, List.append_assoc] at E
  exact ⟨rfl, v12, _, E, gF, KF, by simp [h9, h12], by simp; omega⟩

end Go.Proofs.YtklipelnjgpnjaaGreatDoor
