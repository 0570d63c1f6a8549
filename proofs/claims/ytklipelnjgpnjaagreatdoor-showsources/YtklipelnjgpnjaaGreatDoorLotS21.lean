import Derived.Test.YtklipelnjgpnjaaGreatDoorLotS20
import Derived.Test.YtklipelnjgpnjaaGreatDoorLotS14
set_option maxHeartbeats 64000000
set_option maxRecDepth 100000
namespace Go.Proofs.YtklipelnjgpnjaaGreatDoor
open Go.RowKit
theorem WP.weak {w : World} {M B7 p2 p3 p5 p6 p7 p8 : Nat} {sl : Value} {bf : Nat} {W : World} {v : Value} {ts : List (List UInt8)} {ne dp : Int} {left : Nat} {r r' : List UInt8} {d d' n n' k k' : Nat} {e : Ending} {W' : World} (hk : k ≤ k') (hr : r = r') (hd : d = d') (hn : n = n') (h : WP w M B7 p2 p3 p5 p6 p7 p8 sl bf W v ts ne dp left r d n k e W') : WP w M B7 p2 p3 p5 p6 p7 p8 sl bf W v ts ne dp left r' d' n' k' e W' := by
 subst hr hd hn
 obtain ⟨he, v', R, E, g, K, hr, h⟩ := h
 exact ⟨he, v', R, E, g, K, hr, Nat.le_trans h hk⟩
theorem a5h (x : Ng) : 1 ≤ d4 x ∧ d4 x ≤ 12 := by
 unfold d4
 repeat' split
 all_goals omega
theorem aT6 {x : Ng} (h : arG x.kind = some 2) : d4 x ≤ 10 := by
 rcases Z8 h with ⟨h1, -⟩ | ⟨-, h1⟩ | ⟨h1, -⟩
 ·cases h1
 ·unfold d4
  repeat' split
  all_goals omega
 ·cases h1
def NOK (x : Ng) : Prop := O0 x = true ∧ o7 x = 0 ∧ x.n ≤ 4294967295 ∧ x.m ≤ 4294967295
theorem a66 {t : List Ng} {l : Nat} {x : Ng} {r : List Ng} (h : t.drop l = x :: r) : l < t.length ∧ t[l]? = some x := by
 have h1 := congrArg (·[0]?) h
 simp only [List.getElem?_drop, Nat.add_zero, List.getElem?_cons_zero] at h1
 exact ⟨(List.getElem?_eq_some_iff.1 h1).1, h1⟩
theorem a7l {bf : Nat} {w : World} {M B7 p2 p3 p5 p6 p7 p8 nb no cap : Nat} (P : a0p M B7 p2 p3 p5 p6 p7 p8) (hM : M ≤ B7) (t : List Ng) (hm : t.length ≤ 100000) (HROW : ∀ W, Below M w W → ∀ i x, t[i]? = some x → W.rangeAt nb (no + i * 24) x.cells) (x : Ng) (l n : Nat) (hx : t[l]? = some x) (hn : 1 ≤ n) (r : List UInt8) (d : Nat)
  (core : ∀ (least : Int) W v ts ne dp, j5 w M B7 p2 p3 p5 p6 p7 p8 (.slice (some ⟨nb, no, none⟩) t.length cap) bf W v ts ne dp (l + 1) → ¬ d4 x < least → ne + 2 * (n : Int) ≤ 800001 → ts.length + 8 * n ≤ 800001 → Calls Tryz.prog 97 #[.int .i64 least, .pointer (some ⟨p2, 0, none⟩), .pointer (some ⟨p6, 0, none⟩), .pointer (some ⟨p8, 0, none⟩), .pointer (some ⟨p3, 0, none⟩), .pointer (some ⟨p7, 0, none⟩), .pointer (some ⟨p5, 0, none⟩)] W (WP w M B7 p2 p3 p5 p6 p7 p8 (.slice (some ⟨nb, no, none⟩) t.length cap) bf W v ts ne dp (l + 1) r d n (8 * n - 2)))
  (least : Int) W v ts ne dp (E : j5 w M B7 p2 p3 p5 p6 p7 p8 (.slice (some ⟨nb, no, none⟩) t.length cap) bf W v ts ne dp (l + 1)) (hne : ne + 2 * (n : Int) ≤ 800000) (hts : ts.length + 8 * n ≤ 800000) :
  Calls Tryz.prog 97 #[.int .i64 least, .pointer (some ⟨p2, 0, none⟩), .pointer (some ⟨p6, 0, none⟩), .pointer (some ⟨p8, 0, none⟩), .pointer (some ⟨p3, 0, none⟩), .pointer (some ⟨p7, 0, none⟩), .pointer (some ⟨p5, 0, none⟩)] W (WP w M B7 p2 p3 p5 p6 p7 p8 (.slice (some ⟨nb, no, none⟩) t.length cap) bf W v ts ne dp (l + 1) (y6 (decide (d4 x < least)) (r, d)).1 (y6 (decide (d4 x < least)) (r, d)).2 n (8 * n)) := by
 have hlt : l < t.length := (List.getElem?_eq_some_iff.1 hx).1
 by_cases hr : d4 x < least
 ·rw [decide_eq_true hr]
  refine (b0L P hM E x (HROW W E.up l x hx) hlt (by omega) least hr r d n (8 * n - 2) (by omega) (by omega) (fun W1 v1 E1 => core 1 W1 v1 _ _ _ E1 (by have := (a5h x).1; omega) (by omega) (by simp; omega))).mono (fun e w' h => WP.weak (by omega) rfl rfl rfl h)
 ·rw [decide_eq_false hr]
  exact (core least W v ts ne dp E hr (by omega) (by omega)).mono (fun e w' h => WP.weak (by omega) rfl rfl rfl h)
theorem a5z {bf : Nat} {full : Bool} (HB : ∀ (l : Int) (w : World), Calls Tryz.prog bf #[.int .i64 l] w fun e w' => e = .returned (.int .i64 (gfB full l)) ∧ w' = w) (HF : ∀ (xs : Array Value) (w : World), (callFunc bf xs).run Tryz.prog w = .ok (.enter bf xs) w) {w : World} {M B7 p2 p3 p5 p6 p7 p8 nb no cap : Nat} (P : a0p M B7 p2 p3 p5 p6 p7 p8) (hM : M ≤ B7) (t : List Ng) (hm : t.length ≤ 100000) (hT : ∀ W, Below M w W → j4 W) (HROW : ∀ W, Below M w W → ∀ i x, t[i]? = some x → W.rangeAt nb (no + i * 24) x.cells) :
  ∀ (T : Tr), T.Wf → T.Typed → (∀ x ∈ T.flat, NOK x) → ∀ (pre : Nat) (rest : List Ng), t.drop pre = T.flat ++ rest → ∀ (least : Int), least ≤ 12 → ∀ W v ts ne dp, j5 w M B7 p2 p3 p5 p6 p7 p8 (.slice (some ⟨nb, no, none⟩) t.length cap) bf W v ts ne dp (pre + T.flat.length) → ne + 2 * (T.flat.length : Int) ≤ 800000 → ts.length + 8 * T.flat.length ≤ 800000 → Calls Tryz.prog 97 #[.int .i64 least, .pointer (some ⟨p2, 0, none⟩), .pointer (some ⟨p6, 0, none⟩), .pointer (some ⟨p8, 0, none⟩), .pointer (some ⟨p3, 0, none⟩), .pointer (some ⟨p7, 0, none⟩), .pointer (some ⟨p5, 0, none⟩)] W (WP w M B7 p2 p3 p5 p6 p7 p8 (.slice (some ⟨nb, no, none⟩) t.length cap) bf W v ts ne dp (pre + T.flat.length) (y6 (decide (d4 T.root < least)) (T.txt full)).1 (y6 (decide (d4 T.root < least)) (T.txt full)).2 T.flat.length (8 * T.flat.length))
 | .leaf x, hw, hty, hok, pre, rest, hd, least, hle, W, v, ts, ne, dp, E, hne, hts => by
  have ha : arG x.kind = some 0 := hw
  obtain ⟨hxf, hxr, hxn, hxm⟩ := hok x (by show x ∈ [x]; simp)
  obtain ⟨hlx, htx⟩ := a66 (show t.drop pre = x :: rest from hd)
  refine a7l P hM t hm HROW x pre 1 htx (by omega) _ _ (fun least W v ts ne dp E hr hne hts => ?_) least W v ts ne dp E hne hts
  refine (b0M P hM E x (HROW W E.up _ x htx) hlx (by omega) least hr x.kind rfl ?_ ha hxf hxr hxn hxm hT (by omega)).mono (fun e w' h => WP.weak (by omega) rfl rfl rfl h)
  rcases Z8 ha with ⟨h1, -⟩ | ⟨h1, -⟩ | ⟨-, hk⟩
  ·cases h1
  ·cases h1
  ·omega
 | .one x p, hw, hty, hok, pre, rest, hd, least, hle, W, v, ts, ne, dp, E, hne, hts => by
  have hfl : (Tr.one x p).flat = p.flat ++ [x] := rfl
  have hln : (Tr.one x p).flat.length = p.flat.length + 1 := by rw [hfl]; simp
  rw [hln] at E hne hts ⊢
  obtain ⟨ha, hpw⟩ : arG x.kind = some 1 ∧ p.Wf := hw
  obtain ⟨hpt, -⟩ := id hty
  have hpok : ∀ y ∈ p.flat, NOK y := fun y hy => hok y (by rw [hfl]; exact List.mem_append_left _ hy)
  obtain ⟨hxf, hxr, hxn, hxm⟩ := hok x (by rw [hfl]; simp)
  obtain ⟨-, -, -, -, -, -, -, g8, -, -⟩ := a2q hxf hxr
  have hdp : t.drop pre = p.flat ++ ([x] ++ rest) := by rw [hd, hfl, List.append_assoc]
  have hdx : t.drop (pre + p.flat.length) = x :: rest := by rw [← List.drop_drop, hdp, List.drop_left]; rfl
  obtain ⟨hlx, htx⟩ := a66 hdx
  have IH := a5z (cap := cap) HB HF P hM t hm hT HROW p hpw hpt hpok pre ([x] ++ rest) hdp
  have hroot : (Tr.one x p).root = x := rfl
  rw [hroot]
  refine a7l P hM t hm HROW x (pre + p.flat.length) (p.flat.length + 1) htx (by omega) _ _ (fun least W v ts ne dp E hr hne hts => ?_) least W v ts ne dp E hne hts
  rcases Z8 ha with ⟨-, hk⟩ | ⟨h1, -⟩ | ⟨h1, -⟩
  ·rcases hk with hk | hk | hk
   ·refine (b0N P hM E x (HROW W E.up _ x htx) hlx (by omega) least hr hk (g8 hk) hT (p.txt full).1 (p.txt full).2 p.flat.length (8 * p.flat.length) (by omega) (by omega) (fun W1 v1 E1 => ?_)).mono (fun e w' h => WP.weak (by omega) ?_ ?_ rfl h)
    ·have h := IH 1 (by decide) W1 v1 _ _ _ E1 (by omega) (by simp; omega)
     rw [decide_eq_false (show ¬ d4 p.root < 1 by have := (a5h p.root).1; omega)] at h
     exact h
    ·show _ = (if x.kind = 3 then (_ : List UInt8 × Nat) else _).1
     rw [if_pos hk]
     simp
    ·show _ = (if x.kind = 3 then (_ : List UInt8 × Nat) else _).2
     rw [if_pos hk]
   ·have hrow : d4 x = 11 := by unfold d4; rw [hk]; rfl
    have hwt : decide (d4 p.root < gfB full 11) = m8 full (d4 p.root) (d4 x) := by rw [hrow]; exact (a4h full (row := d4 p.root) (least := 11) (by decide))
    refine (b0O HB HF P hM E x (HROW W E.up _ x htx) hlx (by omega) least hr hk (y6 (m8 full (d4 p.root) (d4 x)) (p.txt full)).1 (y6 (m8 full (d4 p.root) (d4 x)) (p.txt full)).2 p.flat.length (8 * p.flat.length) (by omega) (by omega) (fun W1 v1 E1 => ?_)).mono (fun e w' h => WP.weak (by omega) ?_ ?_ rfl h)
    ·have h := IH (gfB full 11) (a4F (by decide)) W1 v1 _ _ _ E1 (by omega) (by simp; omega)
     rw [hwt] at h
     exact h
    ·show _ = (if x.kind = 3 then (_ : List UInt8 × Nat) else _).1
     rw [if_neg (by omega), hk]
     simp
    ·show _ = (if x.kind = 3 then (_ : List UInt8 × Nat) else _).2
     rw [if_neg (by omega)]
   ·have hrow : d4 x = 3 := by unfold d4; rw [hk]; rfl
    have hwt : decide (d4 p.root < gfB full 3) = m8 full (d4 p.root) (d4 x) := by rw [hrow]; exact (a4h full (row := d4 p.root) (least := 3) (by decide))
    refine (b0P HB HF P hM E x (HROW W E.up _ x htx) hlx (by omega) least hr hk (y6 (m8 full (d4 p.root) (d4 x)) (p.txt full)).1 (y6 (m8 full (d4 p.root) (d4 x)) (p.txt full)).2 p.flat.length (8 * p.flat.length) (by omega) (by omega) (fun W1 v1 E1 => ?_)).mono (fun e w' h => WP.weak (by omega) ?_ ?_ rfl h)
    ·have h := IH (gfB full 3) (a4F (by decide)) W1 v1 _ _ _ E1 (by omega) (by simp; omega)
     rw [hwt] at h
     exact h
    ·show _ = (if x.kind = 3 then (_ : List UInt8 × Nat) else _).1
     rw [if_neg (by omega), hk]
     simp
    ·show _ = (if x.kind = 3 then (_ : List UInt8 × Nat) else _).2
     rw [if_neg (by omega)]
  ·cases h1
  ·cases h1
 | .two x p q, hw, hty, hok, pre, rest, hd, least, hle, W, v, ts, ne, dp, E, hne, hts => by
  have hfl : (Tr.two x p q).flat = p.flat ++ q.flat ++ [x] := rfl
  have hln : (Tr.two x p q).flat.length = p.flat.length + q.flat.length + 1 := by rw [hfl]; simp only [List.length_append, List.length_cons, List.length_nil]
  rw [hln] at E hne hts ⊢
  obtain ⟨ha, hpw, hqw⟩ : arG x.kind = some 2 ∧ p.Wf ∧ q.Wf := hw
  obtain ⟨hpt, hqt, hpr, -⟩ := id hty
  have hpok : ∀ y ∈ p.flat, NOK y := fun y hy => hok y (by rw [hfl]; simp [hy])
  have hqok : ∀ y ∈ q.flat, NOK y := fun y hy => hok y (by rw [hfl]; simp [hy])
  obtain ⟨hxf, hxr, hxn, hxm⟩ := hok x (by rw [hfl]; simp)
  obtain ⟨-, -, -, -, -, -, -, -, g6, g4⟩ := a2q hxf hxr
  have hdp : t.drop pre = p.flat ++ (q.flat ++ ([x] ++ rest)) := by rw [hd, hfl]; simp
  have hdq : t.drop (pre + p.flat.length) = q.flat ++ ([x] ++ rest) := by rw [← List.drop_drop, hdp, List.drop_left]
  have hdx : t.drop (pre + p.flat.length + q.flat.length) = x :: rest := by rw [← List.drop_drop, hdq, List.drop_left]; rfl
  obtain ⟨hlx, htx⟩ := a66 hdx
  have IHp := a5z (cap := cap) HB HF P hM t hm hT HROW p hpw hpt hpok pre _ hdp
  have IHq := a5z (cap := cap) HB HF P hM t hm hT HROW q hqw hqt hqok (pre + p.flat.length) _ hdq
  have hroot : (Tr.two x p q).root = x := rfl
  rw [hroot]
  have hr12 := a5h x
  have hr10 := aT6 ha
  have hwp : decide (d4 p.root < gfB full (d4 x)) = m8 full (d4 p.root) (if d4 x = 4 then 5 else d4 x) := by
   by_cases h4 : d4 x = 4
   ·rw [if_pos h4]
    have h6 : x.kind = 6 := by
     have h := h4
     unfold d4 at h
     repeat' split at h
     all_goals omega
    have := b0Q full (x := p.root) (by rw [hpr, h6]; rfl)
    rw [← this]
    rw [h4]; rfl
   ·rw [if_neg h4]
    exact a4h full (row := d4 p.root) (least := d4 x) (by omega)
  have hwq : decide (d4 q.root < gfB full (d4 x + 1)) = m8 full (d4 q.root) (d4 x + 1) := a4h full (row := d4 q.root) (least := d4 x + 1) (by omega)
  have e1 : pre + (p.flat.length + q.flat.length + 1) = pre + p.flat.length + q.flat.length + 1 := by omega
  rw [e1] at E ⊢
  refine a7l P hM t hm HROW x (pre + p.flat.length + q.flat.length) (p.flat.length + q.flat.length + 1) htx (by omega) _ _ (fun least W v ts ne dp E hr hne hts => ?_) least W v ts ne dp E hne hts
  have K1 : ∀ W1, j5 w M B7 p2 p3 p5 p6 p7 p8 (.slice (some ⟨nb, no, none⟩) t.length cap) bf W1 v ts ne dp (pre + p.flat.length + q.flat.length) → Calls Tryz.prog 97 #[.int .i64 (gfB full (d4 x + 1)), .pointer (some ⟨p2, 0, none⟩), .pointer (some ⟨p6, 0, none⟩), .pointer (some ⟨p8, 0, none⟩), .pointer (some ⟨p3, 0, none⟩), .pointer (some ⟨p7, 0, none⟩), .pointer (some ⟨p5, 0, none⟩)] W1 (WP w M B7 p2 p3 p5 p6 p7 p8 (.slice (some ⟨nb, no, none⟩) t.length cap) bf W1 v ts ne dp (pre + p.flat.length + q.flat.length) (y6 (m8 full (d4 q.root) (d4 x + 1)) (q.txt full)).1 (y6 (m8 full (d4 q.root) (d4 x + 1)) (q.txt full)).2 q.flat.length (8 * q.flat.length)) := fun W1 E1 => by
   have h := IHq (gfB full (d4 x + 1)) (a4F (by omega)) W1 v _ _ _ E1 (by omega) (by omega)
   rw [hwq] at h
   exact h
  have K2 : ∀ W1 v1 R1 dp1, j5 w M B7 p2 p3 p5 p6 p7 p8 (.slice (some ⟨nb, no, none⟩) t.length cap) bf W1 v1 (ts ++ R1) ne dp1 (pre + p.flat.length + q.flat.length - q.flat.length) → R1.length ≤ 8 * q.flat.length + 3 → Calls Tryz.prog 97 #[.int .i64 (gfB full (d4 x)), .pointer (some ⟨p2, 0, none⟩), .pointer (some ⟨p6, 0, none⟩), .pointer (some ⟨p8, 0, none⟩), .pointer (some ⟨p3, 0, none⟩), .pointer (some ⟨p7, 0, none⟩), .pointer (some ⟨p5, 0, none⟩)] W1 (WP w M B7 p2 p3 p5 p6 p7 p8 (.slice (some ⟨nb, no, none⟩) t.length cap) bf W1 v1 (ts ++ R1) ne dp1 (pre + p.flat.length + q.flat.length - q.flat.length) (y6 (m8 full (d4 p.root) (if d4 x = 4 then 5 else d4 x)) (p.txt full)).1 (y6 (m8 full (d4 p.root) (if d4 x = 4 then 5 else d4 x)) (p.txt full)).2 p.flat.length (8 * p.flat.length)) := fun W1 v1 R1 dp1 E1 h1 => by
   rw [Nat.add_sub_cancel] at E1 ⊢
   have h := IHp (gfB full (d4 x)) (a4F (by omega)) W1 v1 _ _ _ E1 (by omega) (by simp; omega)
   rw [hwp] at h
   exact h
  rcases Z8 ha with ⟨h1, -⟩ | ⟨-, hk⟩ | ⟨h1, -⟩
  ·cases h1
  ·rcases hk with hk | hk | hk | hk
   ·exact (a5A HB HF P hM E x (HROW W E.up _ x htx) hlx (by omega) least hr (.inl hk) ⟨by omega, by omega⟩ (.inr (.inr (.inr ⟨hk, g4 hk⟩))) _ _ _ _ _ _ _ _ (by omega) K1 K2).mono (fun e w' h => WP.weak (by omega) rfl rfl rfl h)
   ·exact (a5A HB HF P hM E x (HROW W E.up _ x htx) hlx (by omega) least hr (.inr (.inl hk)) ⟨by omega, by omega⟩ (.inr (.inr (.inl ⟨hk, g6 hk⟩))) _ _ _ _ _ _ _ _ (by omega) K1 K2).mono (fun e w' h => WP.weak (by omega) rfl rfl rfl h)
   ·exact (a5A HB HF P hM E x (HROW W E.up _ x htx) hlx (by omega) least hr (.inr (.inr (.inl hk))) ⟨by omega, by omega⟩ (.inl hk) _ _ _ _ _ _ _ _ (by omega) K1 K2).mono (fun e w' h => WP.weak (by omega) rfl rfl rfl h)
   ·exact (a5A HB HF P hM E x (HROW W E.up _ x htx) hlx (by omega) least hr (.inr (.inr (.inr hk))) ⟨by omega, by omega⟩ (.inr (.inl hk)) _ _ _ _ _ _ _ _ (by omega) K1 K2).mono (fun e w' h => WP.weak (by omega) rfl rfl rfl h)
  ·cases h1
theorem aT7 (w : World) (c0 c1 c2 c3 c4 c5 c6 : Array Value) (t0 t1 t2 t3 t4 t5 t6 : Nat) (W : World) (hW : (((((((w.alloc (.cells c0 t0)).alloc (.cells c1 t1)).alloc (.cells c2 t2)).alloc (.cells c3 t3)).alloc (.cells c4 t4)).alloc (.cells c5 t5)).alloc (.cells c6 t6)) = W) :
  VAt W w.heap.size t0 c0 ∧ VAt W (w.heap.size + 1) t1 c1 ∧ VAt W (w.heap.size + 1 + 1) t2 c2 ∧ VAt W (w.heap.size + 1 + 1 + 1) t3 c3 ∧ VAt W (w.heap.size + 1 + 1 + 1 + 1) t4 c4 ∧ VAt W (w.heap.size + 1 + 1 + 1 + 1 + 1) t5 c5 ∧ VAt W (w.heap.size + 1 + 1 + 1 + 1 + 1 + 1) t6 c6 ∧ w.grownBy W none ∧ W.heap.size = w.heap.size + 1 + 1 + 1 + 1 + 1 + 1 + 1 := by
 obtain ⟨w1, h1⟩ : ∃ w1, w.alloc (.cells c0 t0) = w1 := ⟨_, rfl⟩
 obtain ⟨w2, h2⟩ : ∃ w2, w1.alloc (.cells c1 t1) = w2 := ⟨_, rfl⟩
 obtain ⟨w3, h3⟩ : ∃ w3, w2.alloc (.cells c2 t2) = w3 := ⟨_, rfl⟩
 obtain ⟨w4, h4⟩ : ∃ w4, w3.alloc (.cells c3 t3) = w4 := ⟨_, rfl⟩
 obtain ⟨w5, h5⟩ : ∃ w5, w4.alloc (.cells c4 t4) = w5 := ⟨_, rfl⟩
 obtain ⟨w6, h6⟩ : ∃ w6, w5.alloc (.cells c5 t5) = w6 := ⟨_, rfl⟩
 rw [h1, h2, h3, h4, h5, h6] at hW
 have s1 : w1.heap.size = w.heap.size + 1 := by rw [← h1]; simp
 have s2 : w2.heap.size = w.heap.size + 1 + 1 := by rw [← h2, ← s1]; simp
 have s3 : w3.heap.size = w.heap.size + 1 + 1 + 1 := by rw [← h3, ← s2]; simp
 have s4 : w4.heap.size = w.heap.size + 1 + 1 + 1 + 1 := by rw [← h4, ← s3]; simp
 have s5 : w5.heap.size = w.heap.size + 1 + 1 + 1 + 1 + 1 := by rw [← h5, ← s4]; simp
 have s6 : w6.heap.size = w.heap.size + 1 + 1 + 1 + 1 + 1 + 1 := by rw [← h6, ← s5]; simp
 have s7 : W.heap.size = w.heap.size + 1 + 1 + 1 + 1 + 1 + 1 + 1 := by rw [← hW, ← s6]; simp
 have g1 : w.grownBy w1 none := h1 ▸ World.grownBy_alloc _ _ _
 have g2 : w1.grownBy w2 none := h2 ▸ World.grownBy_alloc _ _ _
 have g3 : w2.grownBy w3 none := h3 ▸ World.grownBy_alloc _ _ _
 have g4 : w3.grownBy w4 none := h4 ▸ World.grownBy_alloc _ _ _
 have g5 : w4.grownBy w5 none := h5 ▸ World.grownBy_alloc _ _ _
 have g6 : w5.grownBy w6 none := h6 ▸ World.grownBy_alloc _ _ _
 have g7 : w6.grownBy W none := hW ▸ World.grownBy_alloc _ _ _
 have a0 : VAt w1 w.heap.size t0 c0 := h1 ▸ VAt.alloc _ _ _
 have a1 : VAt w2 w1.heap.size t1 c1 := h2 ▸ VAt.alloc _ _ _
 have a2 : VAt w3 w2.heap.size t2 c2 := h3 ▸ VAt.alloc _ _ _
 have a3 : VAt w4 w3.heap.size t3 c3 := h4 ▸ VAt.alloc _ _ _
 have a4 : VAt w5 w4.heap.size t4 c4 := h5 ▸ VAt.alloc _ _ _
 have a5 : VAt w6 w5.heap.size t5 c5 := h6 ▸ VAt.alloc _ _ _
 have a6 : VAt W w6.heap.size t6 c6 := hW ▸ VAt.alloc _ _ _
 rw [s1] at a1
 rw [s2] at a2
 rw [s3] at a3
 rw [s4] at a4
 rw [s5] at a5
 rw [s6] at a6
 exact ⟨(((((a0.kept g2).kept g3).kept g4).kept g5).kept g6).kept g7, ((((a1.kept g3).kept g4).kept g5).kept g6).kept g7, (((a2.kept g4).kept g5).kept g6).kept g7, ((a3.kept g5).kept g6).kept g7, (a4.kept g6).kept g7, a5.kept g7, a6, d3 (d3 (d3 (d3 (d3 (d3 g1 g2) g3) g4) g5) g6) g7, s7⟩
theorem b1f {bf : Nat} {full : Bool} (HB : ∀ (l : Int) (w : World), Calls Tryz.prog bf #[.int .i64 l] w fun e w' => e = .returned (.int .i64 (gfB full l)) ∧ w' = w) (HF : ∀ (xs : Array Value) (w : World), (callFunc bf xs).run Tryz.prog w = .ok (.enter bf xs) w) (nb no cap : Nat) (t : List Ng) (T : Tr) (hw : T.Wf) (hty : T.Typed) (hf : T.flat = t) (hok : ∀ x ∈ t, NOK x) (hm : t.length ≤ 50000) (w : World) (HT : ∀ W, Below w.heap.size w W → j4 W) (C : CV w (some ⟨nb, no, none⟩) (D6 t)) :
  Calls Tryz.prog 45 #[.slice (some ⟨nb, no, none⟩) t.length cap, .func (.func bf) #[] #[]] w fun e w' => ∃ v ts, e = .returned (.agg #[v, .int .i64 0, .int .i64 ((T.txt full).2 : Int)]) ∧ w'.ownsRow w.heap.size 9 1 v ts.length (ts.map str) ∧ ts.reverse.flatten = (T.txt full).1 ∧ ts.length ≤ 800000 ∧ (ts = [] → (T.txt full).1 = []) ∧ w.grownBy w' none := by
 have HC : Hid (CV w (some ⟨nb, no, none⟩) (D6 t)) := C
 clear C
 go_enter Tryz.func45, Tryz.ntmps45
 go_upto_region 6 with fail
 obtain ⟨W, hW⟩ : ∃ W, (((((((w.alloc (.cells #[.slice (some ⟨nb, no, none⟩) t.length cap] 22)).alloc (.cells #[.func (.func bf) #[] #[]] 44)).alloc (.cells #[.slice none 0 0, .int .i64 0, .int .i64 0] 87)).alloc (.cells #[.slice none 0 0, .int .i64 0, .int .i64 0] 87)).alloc (.cells #[.int .i64 (t.length : Int)] 3)).alloc (.cells #[.func (.func 97) #[] #[.pointer (some ⟨w.heap.size, 0, none⟩), .pointer (some ⟨w.heap.size + 1 + 1 + 1 + 1, 0, none⟩), .pointer (some ⟨w.heap.size + 1 + 1 + 1 + 1 + 1 + 1, 0, none⟩), .pointer (some ⟨w.heap.size + 1, 0, none⟩), .pointer (some ⟨w.heap.size + 1 + 1 + 1 + 1 + 1, 0, none⟩), .pointer (some ⟨w.heap.size + 1 + 1 + 1, 0, none⟩)]] 117)).alloc (.cells #[.func (.func 94) #[] #[.pointer (some ⟨w.heap.size + 1 + 1 + 1, 0, none⟩), .pointer (some ⟨w.heap.size + 1 + 1 + 1 + 1 + 1, 0, none⟩)]] 119)) = W := ⟨_, rfl⟩
 rw [hW]
 obtain ⟨A0, A1, A2, A3, A4, A5, A6, GW, hs⟩ := aT7 w _ _ _ _ _ _ _ _ _ _ _ _ _ _ W hW
 clear hW
 have P : a0p w.heap.size (w.heap.size + 1 + 1 + 1 + 1 + 1 + 1 + 1) w.heap.size (w.heap.size + 1) (w.heap.size + 1 + 1 + 1) (w.heap.size + 1 + 1 + 1 + 1) (w.heap.size + 1 + 1 + 1 + 1 + 1) (w.heap.size + 1 + 1 + 1 + 1 + 1 + 1) := by constructor <;> omega
 have E : j5 w w.heap.size (w.heap.size + 1 + 1 + 1 + 1 + 1 + 1 + 1) w.heap.size (w.heap.size + 1) (w.heap.size + 1 + 1 + 1) (w.heap.size + 1 + 1 + 1 + 1) (w.heap.size + 1 + 1 + 1 + 1 + 1) (w.heap.size + 1 + 1 + 1 + 1 + 1 + 1) (.slice (some ⟨nb, no, none⟩) t.length cap) bf W (.slice none 0 0) [] 0 0 (0 + T.flat.length) :=
  ⟨a1x GW, by omega, VAt.cell A0 0, VAt.cell A1 0, VAt.cell A5 0, VAt.cell A6 0, by rw [hf, Nat.zero_add]; exact A4, ⟨A3, World.ownsRow_nil _ _ _ _⟩, ⟨by decide, by decide⟩⟩
 have HROW : ∀ W, Below w.heap.size w W → ∀ i x, t[i]? = some x → W.rangeAt nb (no + i * 24) x.cells := fun W hW i x hx => by
  obtain ⟨hi, rfl⟩ := List.getElem?_eq_some_iff.1 hx
  obtain ⟨b', o', e', hc'⟩ := (HC.out.keptNone (a0M hW)).ngs hi
  simp only [Option.some.injEq, Addr.mk.injEq] at e'
  obtain ⟨rfl, rfl, -⟩ := e'
  exact hc' i hi
 have C1 := a5z HB HF P (by omega) t (by omega) HT HROW T hw hty (by rw [hf]; exact hok) 0 [] (by simp [hf]) 1 (by decide) W _ _ _ _ E (by rw [hf]; omega) (by rw [hf]; simp; omega)
 have c7 := E.c7
 have hl1 : T.flat.length ≤ 50000 := by rw [hf]; exact hm
 rw [decide_eq_false (show ¬ d4 T.root < 1 by have := (a5h T.root).1; omega)] at C1
 have HS : Hid (W.heap.size = w.heap.size + 1 + 1 + 1 + 1 + 1 + 1 + 1) := hs
 have HC1 : Hid (Calls _ _ _ _ _) := C1
 have HP : Hid (a0p _ _ _ _ _ _ _ _) := P
 have HA2 : Hid (VAt W (w.heap.size + 1 + 1) 87 #[.slice none 0 0, .int .i64 0, .int .i64 0]) := A2
 have HL1 : Hid (T.flat.length ≤ 50000) := hl1
 have HGW : Hid (w.grownBy W none) := GW
 clear E HROW A0 A1 A3 A4 A5 A6 hs C1 hf hl1 hok hm hty hw A2 P GW HT
 go_upto_region 7 with fail
 refine HC1.out.mono ?_
 clear HC1 c7
 rintro e W2 ⟨rfl, v, R, E2, g2, K2, hr, hk⟩
 have A2' : VAt W2 (w.heap.size + 1 + 1) 87 #[.slice none 0 0, .int .i64 0, .int .i64 0] := K2.2 _ _ ⟨by omega, by omega, by simp [Value.ownBlock]⟩ HA2.out rfl
 have O2 := E2.out.2
 obtain ⟨ao, n2, c2, rfl⟩ : ∃ ao n c, v = .slice ao n c := by rcases O2.2 with ⟨rfl, -⟩ | ⟨g, cap, cur, rfl, -⟩ <;> exact ⟨_, _, _, rfl⟩
 have HA2' : Hid (VAt W2 _ _ _) := A2'
 have r0 := VAt.cell A2' 0
 have r1 := VAt.cell A2' 1
 have r2 := VAt.cell A2' 2
 have f0 := VAt.free A2' 0
 have f1 := VAt.free A2' 1
 have f2 := VAt.free A2' 2
 obtain ⟨b0, b1, b2⟩ := E2.out.cell
 have HK2 : Hid (Kp _ _ _ _) := K2
 have HO2 : Hid (World.ownsRow _ _ _ _ _ _ _) := O2
 have HRK : Hid (R.reverse.flatten = _ ∧ R.length ≤ _) := ⟨hr, hk⟩
 have HV2 : Hid (VAt W2 _ _ _) := E2.out.1
 clear E2 g2 K2 O2 hr hk A2'
 go_wp2
 have V3 := ((HA2'.out.set 0 (.slice ao n2 c2)).set 1 (.int .i64 0)).set 2 (.int .i64 ((y6 false (T.txt full)).2 : Int))
 have K3 : ∀ k, k ≠ w.heap.size + 1 + 1 → ((((W2.setCell ⟨w.heap.size + 1 + 1, 0, none⟩ (.slice ao n2 c2)).setCell ⟨w.heap.size + 1 + 1, 1, none⟩ (.int .i64 0)).setCell ⟨w.heap.size + 1 + 1, 2, none⟩ (.int .i64 ((y6 false (T.txt full)).2 : Int))).heap[k]? = W2.heap[k]?) := fun k hk => by
  rw [Below.heap_setCell _ _ _ _ hk, Below.heap_setCell _ _ _ _ hk, Below.heap_setCell _ _ _ _ hk]
 have S3 : (((W2.setCell ⟨w.heap.size + 1 + 1, 0, none⟩ (.slice ao n2 c2)).setCell ⟨w.heap.size + 1 + 1, 1, none⟩ (.int .i64 0)).setCell ⟨w.heap.size + 1 + 1, 2, none⟩ (.int .i64 ((y6 false (T.txt full)).2 : Int))).heap.size = W2.heap.size := by simp [World.setCell]
 have B3 : Below w.heap.size W2 (((W2.setCell ⟨w.heap.size + 1 + 1, 0, none⟩ (.slice ao n2 c2)).setCell ⟨w.heap.size + 1 + 1, 1, none⟩ (.int .i64 0)).setCell ⟨w.heap.size + 1 + 1, 2, none⟩ (.int .i64 ((y6 false (T.txt full)).2 : Int))) := (((Below.refl _ _).setCell (p := ⟨w.heap.size + 1 + 1, 0, none⟩) (by show w.heap.size ≤ w.heap.size + 1 + 1; omega) _).setCell (p := ⟨w.heap.size + 1 + 1, 1, none⟩) (by show w.heap.size ≤ w.heap.size + 1 + 1; omega) _).setCell (p := ⟨w.heap.size + 1 + 1, 2, none⟩) (by show w.heap.size ≤ w.heap.size + 1 + 1; omega) _
 generalize (((W2.setCell ⟨w.heap.size + 1 + 1, 0, none⟩ (.slice ao n2 c2)).setCell ⟨w.heap.size + 1 + 1, 1, none⟩ (.int .i64 0)).setCell ⟨w.heap.size + 1 + 1, 2, none⟩ (.int .i64 ((y6 false (T.txt full)).2 : Int))) = W3 at *
 have V4 : VAt W3 (w.heap.size + 1 + 1) 87 #[.slice ao n2 c2, .int .i64 0, .int .i64 ((y6 false (T.txt full)).2 : Int)] := V3
 have HZ : (Tryz.prog.info? 87).map (·.size) = some (#[Value.slice ao n2 c2, .int .i64 0, .int .i64 ((y6 false (T.txt full)).2 : Int)] : Array Value).size := by kernel_rfl
 refine bodyPost_ret (results_cell_row rfl _ _ (w.heap.size + 1 + 1) 87 _ (0, 0) _ rfl V4 Tryz.underlying87 rfl HZ) rfl ?_
 obtain ⟨hr, hk⟩ := HRK.out
 have O2 := HO2.out
 rw [List.nil_append] at O2
 have O3 : W3.ownsRow w.heap.size 9 1 (.slice ao n2 c2) R.length (R.map str) := by
  refine ⟨O2.1, ?_⟩
  rcases O2.2 with h | ⟨g, cap', cur, e, hb, hg, rest⟩
  ·exact .inl h
  ·exact .inr ⟨g, cap', cur, e, by omega, (K3 g (by omega)).trans hg, rest⟩
 refine ⟨_, R, rfl, O3, hr, by have := HL1.out; omega, fun h => ?_, a0M ((a1x HGW.out).trans (HK2.out.1.trans B3))⟩
 rw [h] at hr
 exact hr.symm

end Go.Proofs.YtklipelnjgpnjaaGreatDoor
