import Derived.Test.YtlfmddjppejmaaaGreatDoorqRfJ
set_option maxHeartbeats 64000000
set_option maxRecDepth 100000
namespace Go.Proofs.YtlfmddjppejmaaaGreatDoor
open Go.RowKit

section
variable {c : PC} {w : World} {i bud : Nat} {vt vp : Value} {s : Rt}
structure a1x (c : PC) (rec : Rt → Rt) (s : Rt) : Prop where
 row : ∀ (W : World) (i1 : Nat) (vt1 vp1 : Value) (bud : Nat), RS c W i1 vt1 vp1 s.opn bud → d4 c 12 #[.pointer (some ⟨c.g, 0, none⟩), .int .i64 1] W vt1 vp1 (rec s.opn) bud
 low : 0 ≤ (rec s.opn).nest
 deep : (rec s.opn).er = none → 1 ≤ (rec s.opn).nest
 num : (rec s.opn).next.num ≤ 4294967295
theorem a4y (s : Rt) (x : List UInt8) : (s.must x).nest = s.nest ∧ ((s.must x).er = none → s.er = none) := by
 unfold Rt.must Rt.next Rt.fail
 cases he : s.er <;> split <;> simp [he]
theorem a4M (s : Rt) : s.number.nest = s.nest ∧ (s.number.er = none → s.er = none) := by
 unfold Rt.number Rt.next Rt.fail
 cases he : s.er <;> split <;> simp [he]
theorem a4B (s : Rt) : s.next.nest = s.nest ∧ (s.next.er = none → s.er = none) := by
 unfold Rt.next
 cases he : s.er <;> simp [he]
theorem af8 (s : Rt) : s.sizeS.nest = s.nest ∧ (s.sizeS.er = none → s.er = none) := by
 unfold Rt.sizeS
 split
 ·exact ⟨(a4M _).1.trans (a4B s).1, fun h => (a4B s).2 ((a4M _).2 h)⟩
 ·exact ⟨rfl, fun h => h⟩
theorem a9o (hs : I9 c) (rec : Rt → Rt) (h : RS c w i vt vp s (bud + 1)) (of at' : Nat) (N : s.is [91] = true → a1x c rec s) :
  d4 c 44 #[.pointer (some ⟨c.g, 0, none⟩), .int .i64 (of : Int), .int .i64 (at' : Int)] w vt vp (s.name rec of at') bud := by
 unfold Rt.name
 cases b0 : s.is [91] with
 | true =>
  by_cases ho : of = 13
  ·subst ho
   rw [if_neg (by simp), if_neg (by decide), if_neg (by simp), if_neg (by simp)]
   exact a9t h at' b0
  ·rw [if_pos ⟨rfl, ho⟩]
   have M := N b0
   have z1 := a4y (rec s.opn).sizeS [93]
   have z2 := af8 (rec s.opn)
   cases b1 : (rec s.opn).is [58] with
   | true =>
    have e1 : (rec s.opn).sizeS = (rec s.opn).next.number := by unfold Rt.sizeS; rw [if_pos b1]
    have e2 : (rec s.opn).sizeN = (rec s.opn).next.num := by unfold Rt.sizeN; rw [if_pos b1]
    rw [e1] at z1 z2 ⊢
    rw [e2]
    exact a9s h of at' ho b0 (rec s.opn) b1 (fun W i1 vt1 vp1 H => M.row W i1 vt1 vp1 _ H) (by rw [z1.1, z2.1]; exact M.low) (fun e => by rw [z1.1, z2.1]; exact M.deep (z2.2 (z1.2 e))) M.num
   | false =>
    have e1 : (rec s.opn).sizeS = rec s.opn := by unfold Rt.sizeS; rw [if_neg (by rw [b1]; simp)]
    have e2 : (rec s.opn).sizeN = 1 := by unfold Rt.sizeN; rw [if_neg (by rw [b1]; simp)]
    rw [e1] at z1 z2 ⊢
    rw [e2]
    exact a9r h of at' ho b0 (rec s.opn) b1 (fun W i1 vt1 vp1 H => M.row W i1 vt1 vp1 _ H) (by rw [z1.1]; exact M.low) (fun e => by rw [z1.1]; exact M.deep (z1.2 e))
 | false =>
  rw [if_neg (by simp)]
  by_cases h1 : of = 1
  ·subst h1
   rw [if_pos rfl]
   exact a9x h at' b0
  rw [if_neg h1]
  by_cases h23 : of = 2 ∨ of = 3
  ·cases b1 : s.is q7 with
   | true =>
    rw [if_pos ⟨h23, rfl⟩]
    rcases h23 with rfl | rfl
    ·exact a9u h at' b0 b1
    ·exact a9v h at' b0 b1
   | false =>
    rw [if_neg (by simp), if_neg (by omega)]
    rcases h23 with rfl | rfl
    ·exact a9p h at' b0 b1
    ·exact a9q h at' b0 b1
  rw [if_neg (fun x => h23 x.1)]
  by_cases h45 : of = 4 ∨ of = 5
  ·cases b1 : s.is g9 with
   | true =>
    rw [if_pos ⟨h45, .inl rfl⟩]
    rcases h45 with rfl | rfl
    ·exact a9y hs h at' b0 b1
    ·exact a9C hs h at' b0 b1
   | false =>
    cases b2 : s.is j5 with
    | true =>
     rw [if_pos ⟨h45, .inr (.inl rfl)⟩]
     rcases h45 with rfl | rfl
     ·exact a9z hs h at' b0 b1 b2
     ·exact a9D hs h at' b0 b1 b2
    | false =>
     cases b3 : s.is j1 with
     | true =>
      rw [if_pos ⟨h45, .inr (.inr (.inl rfl))⟩]
      rcases h45 with rfl | rfl
      ·exact a9A hs h at' b0 b1 b2 b3
      ·exact a9E hs h at' b0 b1 b2 b3
     | false =>
      cases b4 : s.is j4 with
      | true =>
       rw [if_pos ⟨h45, .inr (.inr (.inr rfl))⟩]
       rcases h45 with rfl | rfl
       ·exact a9B hs h at' b0 b1 b2 b3 b4
       ·exact a9F hs h at' b0 b1 b2 b3 b4
      | false =>
       rw [if_neg (by simp)]
       rcases h45 with rfl | rfl
       ·exact a9G h at' b0 b1 b2 b3 b4
       ·exact a9H h at' b0 b1 b2 b3 b4
  ·rw [if_neg (fun x => h45 x.1)]
   exact a9w h of at' b0 (by omega)
theorem a9W (hs : I9 c) (rec : Rt → Rt) (h : RS c w i vt vp s bud) (N : s.is [40] = true → a1x c rec s) (N' : s.er = none → (hdT s.ts).kind ≠ 0 → s.next.is [91] = true → a1x c rec s.next) :
  d4 c 24 #[.pointer (some ⟨c.g, 0, none⟩)] w vt vp (s.part rec) bud := by
 unfold Rt.part
 by_cases k1 : s.now.kind = 1
 ·rw [if_pos k1]
  exact a9Z h k1
 rw [if_neg k1]
 cases b0 : s.is [40] with
 | true =>
  rw [if_pos rfl]
  have M := N b0
  have z1 := a4y (rec s.opn) [41]
  exact aa0 h k1 b0 (rec s.opn) (fun W i1 vt1 vp1 H => M.row W i1 vt1 vp1 _ H) (by rw [z1.1]; exact M.low) (fun e => by rw [z1.1]; exact M.deep (z1.2 e))
 | false =>
  rw [if_neg (by simp)]
  by_cases k2 : s.now.kind = 2
  ·rw [if_neg (by simpa using k2)]
   obtain ⟨he, hk⟩ := X6 (s := s) (by omega)
   by_cases hn : l9 s.now.text = 0
   ·rw [if_neg (by simpa using hn)]
    exact aa1 hs h b0 k2 hn
   ·rw [if_pos hn]
    exact a9X h b0 k2 hn _ (fun W i1 vt1 vp1 H => a9o hs rec H _ _ (fun hb => N' he hk hb))
  ·rw [if_pos k2]
   exact a9Y h k1 b0 k2
end
structure Rk (s s' : Rt) : Prop where
 len : s'.ts.length ≤ s.ts.length
 good : I0 s.ts → I0 s'.ts
 hi : s'.nest ≤ s.nest
 lo : s.nest - 1 ≤ s'.nest
 same : s'.er = none → s'.nest = s.nest
 stay : s.er ≠ none → s' = s
theorem Rk.refl (s : Rt) : Rk s s := ⟨Nat.le_refl _, fun h => h, Int.le_refl _, by omega, fun _ => rfl, fun _ => rfl⟩
theorem Rk.trans {s s1 s2 : Rt} (a : Rk s s1) (b : Rk s1 s2) : Rk s s2 := by
 refine ⟨Nat.le_trans b.len a.len, fun h => b.good (a.good h), Int.le_trans b.hi a.hi, ?_, fun e => ?_, fun e => ?_⟩
 ·cases h1 : s1.er with
  | none => have := a.same h1; have := b.lo; omega
  | some x => rw [b.stay (by rw [h1]; simp)]; exact a.lo
 ·cases h1 : s1.er with
  | none => exact (b.same e).trans (a.same h1)
  | some x =>
   rw [b.stay (by rw [h1]; simp)] at e
   rw [h1] at e
   cases e
 ·have := a.stay e
  rw [this] at b
  exact b.stay e
theorem Rk.next (s : Rt) (h : s.er = none → (hdT s.ts).kind ≠ 0) : Rk s s.next := by
 cases he : s.er with
 | none =>
  rw [x8 he]
  exact ⟨by show s.ts.tail.length ≤ _; rw [List.length_tail]; omega, fun g => g.tail (h he), Int.le_refl _, by show s.nest - 1 ≤ s.nest; omega, fun _ => rfl, fun e => absurd he e⟩
 | some x => rw [a2H he]; exact Rk.refl s
theorem Rk.fail (s : Rt) (e : Int) : Rk s (s.fail e) := by
 cases he : s.er with
 | none => rw [a3P he]; exact ⟨Nat.le_refl _, fun g => g, Int.le_refl _, by show s.nest - 1 ≤ s.nest; omega, fun _ => rfl, fun x => absurd he x⟩
 | some x => rw [a1D he]; exact Rk.refl s
theorem Rk.lay (s : Rt) (n : Nd) (p : Nat) : Rk s (s.lay n p) := by
 cases he : s.er with
 | none => rw [X3 he]; exact ⟨Nat.le_refl _, fun g => g, Int.le_refl _, by show s.nest - 1 ≤ s.nest; omega, fun _ => rfl, fun x => absurd he x⟩
 | some x => rw [P8 he]; exact Rk.refl s
theorem Rk.must (s : Rt) (x : List UInt8) : Rk s (s.must x) := by
 unfold Rt.must
 split
 ·rename_i h
  exact Rk.next s (fun _ => (k8 h).2)
 ·exact Rk.fail s _
theorem Rk.number (s : Rt) : Rk s s.number := by
 unfold Rt.number
 split
 ·rename_i h
  exact Rk.next s (fun he => a4f he h)
 ·exact Rk.fail s _
theorem Rk.is_next {s : Rt} {x : List UInt8} (h : s.is x = true) : Rk s s.next := Rk.next s (fun _ => (k8 h).2)
theorem a5O {k : Nat} {t : Tk} (h : (j6 k t).isSome = true) : t.kind ≠ 0 := by
 unfold j6 at h
 split at h
 ·omega
 ·split at h
  ·omega
  ·cases h
theorem Rk.address (s : Rt) : Rk s s.address := by
 unfold Rt.address
 split
 ·rename_i h
  exact Rk.next s (fun _ => (X6 (a5O h)).2)
 ·split
  ·exact Rk.fail s _
  ·exact Rk.fail s _
theorem Rk.sideS (s : Rt) : Rk s s.sideS := by
 unfold Rt.sideS
 split
 ·rename_i h; exact Rk.is_next h
 ·split
  ·rename_i h; exact Rk.is_next h
  ·exact Rk.refl s
theorem Rk.sidedB (s : Rt) (of at' side : Nat) : Rk s (s.sidedB of at' side) := by
 unfold Rt.sidedB
 split
 ·rename_i h
  exact ((Rk.is_next h).trans (Rk.number _)).trans (Rk.lay _ _ _)
 split
 ·rename_i h
  exact ((((Rk.is_next h).trans (Rk.number _)).trans (Rk.must _ _)).trans (Rk.number _)).trans (Rk.lay _ _ _)
 split
 ·rename_i h
  exact ((Rk.is_next h.2).trans (Rk.address _)).trans (Rk.lay _ _ _)
 split
 ·rename_i h
  exact ((((Rk.is_next h.2).trans (Rk.address _)).trans (Rk.must _ _)).trans (Rk.number _)).trans (Rk.lay _ _ _)
 ·exact Rk.fail s _
theorem Rk.sided (s : Rt) (of at' : Nat) : Rk s (s.sided of at') := (Rk.sideS s).trans (Rk.sidedB _ _ _ _)
theorem Rk.word (s : Rt) (hk : (hdT s.ts).kind ≠ 0) : Rk s s.word := by
 have hn : Rk s s.next := Rk.next s (fun _ => hk)
 unfold Rt.word
 split
 ·exact hn.trans (Rk.lay _ _ _)
 split
 ·exact hn.trans (Rk.lay _ _ _)
 split
 ·exact hn.trans (Rk.lay _ _ _)
 split
 ·exact (hn.trans (Rk.number _)).trans (Rk.lay _ _ _)
 split
 ·exact Rk.sided _ _ _
 ·exact Rk.fail s _
theorem Rk.nested {s x : Rt} (he : s.er = none) (hk : (hdT s.ts).kind ≠ 0) (a : Rk s.opn x) : Rk s x.down := by
 by_cases hn : s.nest = 200
 ·have ho : s.opn = { s with er := some (s.now.pos, 113) } := by unfold Rt.opn; rw [if_pos ⟨he, hn⟩]
  have hx := a.stay (by rw [ho]; simp)
  rw [hx, ho]
  exact ⟨Nat.le_refl _, fun g => g, by show s.nest - 1 ≤ s.nest; omega, Int.le_refl _, fun e => (by cases e), fun e => absurd he e⟩
 ·have ho := a0p he hn
  rw [ho] at a
  have h1 : x.nest ≤ s.nest + 1 := a.hi
  have h2 : s.nest + 1 - 1 ≤ x.nest := a.lo
  refine ⟨Nat.le_trans a.len (by show s.ts.tail.length ≤ _; rw [List.length_tail]; omega), fun g => a.good (g.tail hk), by show x.nest - 1 ≤ s.nest; omega, by show s.nest - 1 ≤ x.nest - 1; omega, fun e => ?_, fun e => absurd he e⟩
  have h3 : x.nest = s.nest + 1 := a.same e
  show x.nest - 1 = s.nest
  omega
theorem Rk.name {rec : Rt → Rt} (hr : ∀ s, Rk s (rec s)) (s : Rt) (of at' : Nat) : Rk s (s.name rec of at') := by
 unfold Rt.name
 split
 ·rename_i h
  refine Rk.trans (Rk.nested (k8 h.1).1 (k8 h.1).2 ?_) (Rk.lay _ _ _)
  refine Rk.trans (Rk.trans (hr _) ?_) (Rk.must _ _)
  unfold Rt.sizeS
  split
  ·rename_i h2
   exact (Rk.is_next h2).trans (Rk.number _)
  ·exact Rk.refl _
 split
 ·exact Rk.fail s _
 split
 ·rename_i h
  exact ((Rk.is_next h.2).trans (Rk.number _)).trans (Rk.lay _ _ _)
 split
 ·exact Rk.sided _ _ _
 ·exact Rk.lay _ _ _
theorem Rk.part {rec : Rt → Rt} (hr : ∀ s, Rk s (rec s)) (s : Rt) : Rk s (s.part rec) := by
 unfold Rt.part
 split
 ·rename_i h
  exact (Rk.next s (fun _ => (X6 (by omega)).2)).trans (Rk.lay _ _ _)
 split
 ·rename_i h
  exact Rk.nested (k8 h).1 (k8 h).2 ((hr _).trans (Rk.must _ _))
 split
 ·exact Rk.fail s _
 rename_i h1 h2 h3
 have hk := X6 (s := s) (by omega)
 split
 ·exact (Rk.next s (fun _ => hk.2)).trans (Rk.name hr _ _ _)
 ·exact Rk.word s hk.2
theorem Rk.loop {rec : Rt → Rt} (hr : ∀ s, Rk s (rec s)) (k : Nat) : ∀ (f : Nat) (s : Rt), Rk s (Rt.loop rec k f s)
 | 0, s => Rk.refl s
 | f + 1, s => by
  unfold Rt.loop
  split
  ·rename_i h
   have hn : Rk s s.next := Rk.next s (fun e => by have := h.2; rw [E9 e] at this; omega)
   split
   ·exact Rk.refl s
   ·rename_i n hb
    split
    ·exact (hn.trans (hr _)).trans (Rk.lay _ _ _)
    ·exact ((hn.trans (hr _)).trans (Rk.lay _ _ _)).trans (Rk.loop hr k f _)
  ·exact Rk.refl s
theorem Rk.row : ∀ (f k : Nat) (s : Rt), Rk s (Rt.row f k s)
 | 0, _, s => Rk.refl s
 | f + 1, k, s => by
  unfold Rt.row
  split
  ·exact Rk.refl s
  split
  ·rename_i h
   have hk : s.er = none ∧ (hdT s.ts).kind ≠ 0 := h.2.elim k8 k8
   exact (Rk.nested hk.1 hk.2 (Rk.row f 3 _)).trans (Rk.lay _ _ _)
  split
  ·rename_i h
   exact (Rk.nested (k8 h.2).1 (k8 h.2).2 (Rk.row f 11 _)).trans (Rk.lay _ _ _)
  split
  ·exact Rk.row f (k + 1) s
  split
  ·exact Rk.part (Rk.row f 1) s
  ·exact (Rk.row f (k + 1) s).trans (Rk.loop (Rk.row f (k + 1)) k _ _)

section
variable {c : PC} {w : World} {i bud : Nat} {vt vp : Value} {s : Rt}
theorem a5f (h : RS c w i vt vp s bud) (k : Nat) {x : Er} (he : s.er = some x) :
  d4 c 12 #[.pointer (some ⟨c.g, 0, none⟩), .int .i64 (k : Int)] w vt vp s bud := by
 have c5 : w.cell? ⟨c.g, 5, none⟩ = some (.int .i64 (erC s)) := h.mem.blk.cell 5
 have hn := h.erC_ne he
 have HQ : Hid (c8 c w vt vp s bud w) := ⟨i, vt, vp, h, GB.refl w _, fun _ _ k => k⟩
 generalize erC s = ec at *
 unfold d4
 clear h he
 go_enter Tryz.func12, Tryz.ntmps12
 go_wp2
 exact bodyPost_ret (results_none rfl _ _ _) rfl ⟨rfl, HQ.out⟩
theorem aa6 (h : RS c w i vt vp s bud) (he : s.er = none) (b0 : s.is T4 = true) (s2 : Rt)
  (HR : ∀ (W : World) (i1 : Nat) (vt1 vp1 : Value), RS c W i1 vt1 vp1 s.opn (bud + 1) → d4 c 12 #[.pointer (some ⟨c.g, 0, none⟩), .int .i64 3] W vt1 vp1 s2 (bud + 1))
  (D0 : 0 ≤ s2.nest) (D1 : s2.er = none → 1 ≤ s2.nest) :
  d4 c 12 #[.pointer (some ⟨c.g, 0, none⟩), .int .i64 3] w vt vp (s2.down.lay (ndK 9) s.now.pos) bud := by
 have c5 : w.cell? ⟨c.g, 5, none⟩ = some (.int .i64 (erC s)) := h.mem.blk.cell 5
 rw [L3 he] at c5
 have CN := E6 h
 have HG := fun k p x n W => (o8 k p x n W).2.1
 have HX0 : Hid (∀ x, ∀ z, c8 c w vt vp x bud z → c8 c w vt vp x bud z) := fun x z R2 => R2
 have HY0 : Hid (RS c w i vt vp s bud) := h
 have HI0 := d6 (c := c) T4 true b0
 have HO : Hid (∀ (W : World) (i1 : Nat) (vt1 vp1 : Value), RS c W i1 vt1 vp1 s bud → d4 c 22 #[.pointer (some ⟨c.g, 0, none⟩)] W vt1 vp1 s.opn (bud + 1)) := fun W i1 vt1 vp1 H => a0V H (k8 b0).1 (k8 b0).2
 have HRr : Hid (∀ (W : World) (i1 : Nat) (vt1 vp1 : Value), RS c W i1 vt1 vp1 s.opn (bud + 1) → d4 c 12 #[.pointer (some ⟨c.g, 0, none⟩), .int .i64 3] W vt1 vp1 s2 (bud + 1)) := fun W i1 vt1 vp1 H => HR W i1 vt1 vp1 H
 have HD : Hid (0 ≤ s2.nest ∧ (s2.er = none → 1 ≤ s2.nest)) := ⟨D0, D1⟩
 have HL : Hid (∀ (W : World) (i1 : Nat) (vt1 vp1 : Value), RS c W i1 vt1 vp1 s2.down (bud + 1) → d4 c 23 #[.pointer (some ⟨c.g, 0, none⟩), .agg (ndK 9).cells.toArray, .int .i64 (s.now.pos : Int)] W vt1 vp1 (s2.down.lay (ndK 9) s.now.pos) bud) := fun W i1 vt1 vp1 H => B9 H (ndK 9) s.now.pos
 generalize s.opn = s1 at *
 generalize s.now = t at *
 obtain ⟨tk, tp, tx, tn⟩ := t
 unfold tkC at CN
 simp only at *
 unfold d4 at *
 clear h he HR D0 D1 b0
 go_enter Tryz.func12, Tryz.ntmps12
 go_wp2_with fail
 refine CN.mono ?_
 rintro e w1 ⟨rfl, G⟩
 have HY1 : Hid (RS c w1 i vt vp s bud) := HY0.out.keep G
 have HX1 : Hid (∀ x, ∀ z, c8 c w1 vt vp x bud z → c8 c w vt vp x bud z) := fun x z R2 => HX0.out x z (c8.of (GB.non G) (fun _ _ k => k) R2)
 clear CN c5 G HY0 HX0
 have HC1 := HI0.out _ _ _ _ _ HY1.out
 go_wp2_with fail
 refine HC1.mono ?_
 rintro e w2 ⟨rfl, G⟩
 have HY2 : Hid (RS c w2 i vt vp s bud) := HY1.out.keep G
 have HX2 : Hid (∀ x, ∀ z, c8 c w2 vt vp x bud z → c8 c w vt vp x bud z) := fun x z R2 => HX1.out x z (c8.of (GB.non G) (fun _ _ k => k) R2)
 clear HC1 G HY1 HX1
 have HC2 := HO.out _ _ _ _ HY2.out
 go_wp2_with fail
 refine HC2.mono ?_
 rintro e w3 ⟨rfl, i3, vt3, vp3, R, G, hf⟩
 have HY3 : Hid (RS c w3 i3 vt3 vp3 s1 (bud + 1)) := R
 have HX3 : Hid (∀ x, ∀ z, c8 c w3 vt3 vp3 x bud z → c8 c w vt vp x bud z) := fun x z R2 => HX2.out x z (c8.of G hf R2)
 clear HC2 G R hf HY2 HX2 HO
 have HC3 := HRr.out _ _ _ _ HY3.out
 go_wp2_with fail
 refine HC3.mono ?_
 rintro e w4 ⟨rfl, i4, vt4, vp4, R, G, hf⟩
 have HY4 : Hid (RS c w4 i4 vt4 vp4 s2 (bud + 1)) := R
 have HX4 : Hid (∀ x, ∀ z, c8 c w4 vt4 vp4 x bud z → c8 c w vt vp x bud z) := fun x z R2 => HX3.out x z (c8.of G hf R2)
 clear HC3 G R hf HY3 HX3 HRr
 obtain ⟨c4, f4, h1, hw, HDN⟩ := a1e HY4.out HD.out.1 HD.out.2
 have HY5 : Hid (RS c _ i4 vt4 vp4 s2.down (bud + 1)) := HDN.out.1
 have HX5 : Hid (∀ x, ∀ z, c8 c (w4.setCell ⟨c.g, 4, none⟩ (.int .i64 (s2.nest - 1))) vt4 vp4 x bud z → c8 c w vt vp x bud z) := fun x z R2 => HX4.out x z (c8.of HDN.out.2 (fun _ _ k => k) R2)
 clear HY4 HX4 HDN
 generalize s2.nest = nn at *
 have HC := HL.out _ _ _ _ HY5.out
 go_wp2_with fail
 refine HC.mono ?_
 rintro e w6 ⟨rfl, R2⟩
 have HR := HX5.out _ _ R2
 clear HC R2 HX5 HY5 HL
 go_wp2
 exact bodyPost_ret (results_none rfl _ _ _) rfl ⟨rfl, HR⟩
theorem aa2 (h : RS c w i vt vp s bud) (he : s.er = none) (b0 : s.is T4 = false) (b1 : s.is [33] = true) (s2 : Rt)
  (HR : ∀ (W : World) (i1 : Nat) (vt1 vp1 : Value), RS c W i1 vt1 vp1 s.opn (bud + 1) → d4 c 12 #[.pointer (some ⟨c.g, 0, none⟩), .int .i64 3] W vt1 vp1 s2 (bud + 1))
  (D0 : 0 ≤ s2.nest) (D1 : s2.er = none → 1 ≤ s2.nest) :
  d4 c 12 #[.pointer (some ⟨c.g, 0, none⟩), .int .i64 3] w vt vp (s2.down.lay (ndK 9) s.now.pos) bud := by
 have c5 : w.cell? ⟨c.g, 5, none⟩ = some (.int .i64 (erC s)) := h.mem.blk.cell 5
 rw [L3 he] at c5
 have CN := E6 h
 have HG := fun k p x n W => (o8 k p x n W).2.1
 have HX0 : Hid (∀ x, ∀ z, c8 c w vt vp x bud z → c8 c w vt vp x bud z) := fun x z R2 => R2
 have HY0 : Hid (RS c w i vt vp s bud) := h
 have HI0 := d6 (c := c) T4 false b0
 have HI1 := d6 (c := c) [33] true b1
 have HO : Hid (∀ (W : World) (i1 : Nat) (vt1 vp1 : Value), RS c W i1 vt1 vp1 s bud → d4 c 22 #[.pointer (some ⟨c.g, 0, none⟩)] W vt1 vp1 s.opn (bud + 1)) := fun W i1 vt1 vp1 H => a0V H (k8 b1).1 (k8 b1).2
 have HRr : Hid (∀ (W : World) (i1 : Nat) (vt1 vp1 : Value), RS c W i1 vt1 vp1 s.opn (bud + 1) → d4 c 12 #[.pointer (some ⟨c.g, 0, none⟩), .int .i64 3] W vt1 vp1 s2 (bud + 1)) := fun W i1 vt1 vp1 H => HR W i1 vt1 vp1 H
 have HD : Hid (0 ≤ s2.nest ∧ (s2.er = none → 1 ≤ s2.nest)) := ⟨D0, D1⟩
 have HL : Hid (∀ (W : World) (i1 : Nat) (vt1 vp1 : Value), RS c W i1 vt1 vp1 s2.down (bud + 1) → d4 c 23 #[.pointer (some ⟨c.g, 0, none⟩), .agg (ndK 9).cells.toArray, .int .i64 (s.now.pos : Int)] W vt1 vp1 (s2.down.lay (ndK 9) s.now.pos) bud) := fun W i1 vt1 vp1 H => B9 H (ndK 9) s.now.pos
 generalize s.opn = s1 at *
 generalize s.now = t at *
 obtain ⟨tk, tp, tx, tn⟩ := t
 unfold tkC at CN
 simp only at *
 unfold d4 at *
 clear h he HR D0 D1 b0 b1
 go_enter Tryz.func12, Tryz.ntmps12
 go_wp2_with fail
 refine CN.mono ?_
 rintro e w1 ⟨rfl, G⟩
 have HY1 : Hid (RS c w1 i vt vp s bud) := HY0.out.keep G
 have HX1 : Hid (∀ x, ∀ z, c8 c w1 vt vp x bud z → c8 c w vt vp x bud z) := fun x z R2 => HX0.out x z (c8.of (GB.non G) (fun _ _ k => k) R2)
 clear CN c5 G HY0 HX0
 have HC1 := HI0.out _ _ _ _ _ HY1.out
 go_wp2_with fail
 refine HC1.mono ?_
 rintro e w2 ⟨rfl, G⟩
 have HY2 : Hid (RS c w2 i vt vp s bud) := HY1.out.keep G
 have HX2 : Hid (∀ x, ∀ z, c8 c w2 vt vp x bud z → c8 c w vt vp x bud z) := fun x z R2 => HX1.out x z (c8.of (GB.non G) (fun _ _ k => k) R2)
 clear HC1 G HY1 HX1
 have HC2 := HI1.out _ _ _ _ _ HY2.out
 go_wp2_with fail
 refine HC2.mono ?_
 rintro e w3 ⟨rfl, G⟩
 have HY3 : Hid (RS c w3 i vt vp s bud) := HY2.out.keep G
 have HX3 : Hid (∀ x, ∀ z, c8 c w3 vt vp x bud z → c8 c w vt vp x bud z) := fun x z R2 => HX2.out x z (c8.of (GB.non G) (fun _ _ k => k) R2)
 clear HC2 G HY2 HX2
 have HC3 := HO.out _ _ _ _ HY3.out
 go_wp2_with fail
 refine HC3.mono ?_
 rintro e w4 ⟨rfl, i4, vt4, vp4, R, G, hf⟩
 have HY4 : Hid (RS c w4 i4 vt4 vp4 s1 (bud + 1)) := R
 have HX4 : Hid (∀ x, ∀ z, c8 c w4 vt4 vp4 x bud z → c8 c w vt vp x bud z) := fun x z R2 => HX3.out x z (c8.of G hf R2)
 clear HC3 G R hf HY3 HX3 HO
 have HC4 := HRr.out _ _ _ _ HY4.out
 go_wp2_with fail
 refine HC4.mono ?_
 rintro e w5 ⟨rfl, i5, vt5, vp5, R, G, hf⟩
 have HY5 : Hid (RS c w5 i5 vt5 vp5 s2 (bud + 1)) := R
 have HX5 : Hid (∀ x, ∀ z, c8 c w5 vt5 vp5 x bud z → c8 c w vt vp x bud z) := fun x z R2 => HX4.out x z (c8.of G hf R2)
 clear HC4 G R hf HY4 HX4 HRr
 obtain ⟨c4, f4, h1, hw, HDN⟩ := a1e HY5.out HD.out.1 HD.out.2
 have HY6 : Hid (RS c _ i5 vt5 vp5 s2.down (bud + 1)) := HDN.out.1
 have HX6 : Hid (∀ x, ∀ z, c8 c (w5.setCell ⟨c.g, 4, none⟩ (.int .i64 (s2.nest - 1))) vt5 vp5 x bud z → c8 c w vt vp x bud z) := fun x z R2 => HX5.out x z (c8.of HDN.out.2 (fun _ _ k => k) R2)
 clear HY5 HX5 HDN
 generalize s2.nest = nn at *
 have HC := HL.out _ _ _ _ HY6.out
 go_wp2_with fail
 refine HC.mono ?_
 rintro e w7 ⟨rfl, R2⟩
 have HR := HX6.out _ _ R2
 clear HC R2 HX6 HY6 HL
 go_wp2
 exact bodyPost_ret (results_none rfl _ _ _) rfl ⟨rfl, HR⟩
theorem aa5 (h : RS c w i vt vp s bud) (he : s.er = none) (b0 : s.is [45] = true) (s2 : Rt)
  (HR : ∀ (W : World) (i1 : Nat) (vt1 vp1 : Value), RS c W i1 vt1 vp1 s.opn (bud + 1) → d4 c 12 #[.pointer (some ⟨c.g, 0, none⟩), .int .i64 11] W vt1 vp1 s2 (bud + 1))
  (D0 : 0 ≤ s2.nest) (D1 : s2.er = none → 1 ≤ s2.nest) :
  d4 c 12 #[.pointer (some ⟨c.g, 0, none⟩), .int .i64 11] w vt vp (s2.down.lay (ndK 5) s.now.pos) bud := by
 have c5 : w.cell? ⟨c.g, 5, none⟩ = some (.int .i64 (erC s)) := h.mem.blk.cell 5
 rw [L3 he] at c5
 have CN := E6 h
 have HG := fun k p x n W => (o8 k p x n W).2.1
 have HX0 : Hid (∀ x, ∀ z, c8 c w vt vp x bud z → c8 c w vt vp x bud z) := fun x z R2 => R2
 have HY0 : Hid (RS c w i vt vp s bud) := h
 have HI0 := d6 (c := c) [45] true b0
 have HO : Hid (∀ (W : World) (i1 : Nat) (vt1 vp1 : Value), RS c W i1 vt1 vp1 s bud → d4 c 22 #[.pointer (some ⟨c.g, 0, none⟩)] W vt1 vp1 s.opn (bud + 1)) := fun W i1 vt1 vp1 H => a0V H (k8 b0).1 (k8 b0).2
 have HRr : Hid (∀ (W : World) (i1 : Nat) (vt1 vp1 : Value), RS c W i1 vt1 vp1 s.opn (bud + 1) → d4 c 12 #[.pointer (some ⟨c.g, 0, none⟩), .int .i64 11] W vt1 vp1 s2 (bud + 1)) := fun W i1 vt1 vp1 H => HR W i1 vt1 vp1 H
 have HD : Hid (0 ≤ s2.nest ∧ (s2.er = none → 1 ≤ s2.nest)) := ⟨D0, D1⟩
 have HL : Hid (∀ (W : World) (i1 : Nat) (vt1 vp1 : Value), RS c W i1 vt1 vp1 s2.down (bud + 1) → d4 c 23 #[.pointer (some ⟨c.g, 0, none⟩), .agg (ndK 5).cells.toArray, .int .i64 (s.now.pos : Int)] W vt1 vp1 (s2.down.lay (ndK 5) s.now.pos) bud) := fun W i1 vt1 vp1 H => B9 H (ndK 5) s.now.pos
 generalize s.opn = s1 at *
 generalize s.now = t at *
 obtain ⟨tk, tp, tx, tn⟩ := t
 unfold tkC at CN
 simp only at *
 unfold d4 at *
 clear h he HR D0 D1 b0
 go_enter Tryz.func12, Tryz.ntmps12
 go_wp2_with fail
 refine CN.mono ?_
 rintro e w1 ⟨rfl, G⟩
 have HY1 : Hid (RS c w1 i vt vp s bud) := HY0.out.keep G
 have HX1 : Hid (∀ x, ∀ z, c8 c w1 vt vp x bud z → c8 c w vt vp x bud z) := fun x z R2 => HX0.out x z (c8.of (GB.non G) (fun _ _ k => k) R2)
 clear CN c5 G HY0 HX0
 have HC1 := HI0.out _ _ _ _ _ HY1.out
 go_wp2_with fail
 refine HC1.mono ?_
 rintro e w2 ⟨rfl, G⟩
 have HY2 : Hid (RS c w2 i vt vp s bud) := HY1.out.keep G
 have HX2 : Hid (∀ x, ∀ z, c8 c w2 vt vp x bud z → c8 c w vt vp x bud z) := fun x z R2 => HX1.out x z (c8.of (GB.non G) (fun _ _ k => k) R2)
 clear HC1 G HY1 HX1
 have HC2 := HO.out _ _ _ _ HY2.out
 go_wp2_with fail
 refine HC2.mono ?_
 rintro e w3 ⟨rfl, i3, vt3, vp3, R, G, hf⟩
 have HY3 : Hid (RS c w3 i3 vt3 vp3 s1 (bud + 1)) := R
 have HX3 : Hid (∀ x, ∀ z, c8 c w3 vt3 vp3 x bud z → c8 c w vt vp x bud z) := fun x z R2 => HX2.out x z (c8.of G hf R2)
 clear HC2 G R hf HY2 HX2 HO
 have HC3 := HRr.out _ _ _ _ HY3.out
 go_wp2_with fail
 refine HC3.mono ?_
 rintro e w4 ⟨rfl, i4, vt4, vp4, R, G, hf⟩
 have HY4 : Hid (RS c w4 i4 vt4 vp4 s2 (bud + 1)) := R
 have HX4 : Hid (∀ x, ∀ z, c8 c w4 vt4 vp4 x bud z → c8 c w vt vp x bud z) := fun x z R2 => HX3.out x z (c8.of G hf R2)
 clear HC3 G R hf HY3 HX3 HRr
 obtain ⟨c4, f4, h1, hw, HDN⟩ := a1e HY4.out HD.out.1 HD.out.2
 have HY5 : Hid (RS c _ i4 vt4 vp4 s2.down (bud + 1)) := HDN.out.1
 have HX5 : Hid (∀ x, ∀ z, c8 c (w4.setCell ⟨c.g, 4, none⟩ (.int .i64 (s2.nest - 1))) vt4 vp4 x bud z → c8 c w vt vp x bud z) := fun x z R2 => HX4.out x z (c8.of HDN.out.2 (fun _ _ k => k) R2)
 clear HY4 HX4 HDN
 generalize s2.nest = nn at *
 have HC := HL.out _ _ _ _ HY5.out
 go_wp2_with fail
 refine HC.mono ?_
 rintro e w6 ⟨rfl, R2⟩
 have HR := HX5.out _ _ R2
 clear HC R2 HX5 HY5 HL
 go_wp2
 exact bodyPost_ret (results_none rfl _ _ _) rfl ⟨rfl, HR⟩
theorem aa7 (h : RS c w i vt vp s bud) (he : s.er = none) (b0 : s.is T4 = false) (b1 : s.is [33] = false) (s2 : Rt)
  (HR : ∀ (W : World) (i1 : Nat) (vt1 vp1 : Value), RS c W i1 vt1 vp1 s bud → d4 c 12 #[.pointer (some ⟨c.g, 0, none⟩), .int .i64 4] W vt1 vp1 s2 bud) :
  d4 c 12 #[.pointer (some ⟨c.g, 0, none⟩), .int .i64 3] w vt vp s2 bud := by
 have c5 : w.cell? ⟨c.g, 5, none⟩ = some (.int .i64 (erC s)) := h.mem.blk.cell 5
 rw [L3 he] at c5
 have CN := E6 h
 have HG := fun k p x n W => (o8 k p x n W).2.1
 have HX0 : Hid (∀ x, ∀ z, c8 c w vt vp x bud z → c8 c w vt vp x bud z) := fun x z R2 => R2
 have HY0 : Hid (RS c w i vt vp s bud) := h
 have HI0 := d6 (c := c) T4 false b0
 have HI1 := d6 (c := c) [33] false b1
 have HL : Hid (∀ (W : World) (i1 : Nat) (vt1 vp1 : Value), RS c W i1 vt1 vp1 s bud → d4 c 12 #[.pointer (some ⟨c.g, 0, none⟩), .int .i64 4] W vt1 vp1 s2 bud) := fun W i1 vt1 vp1 H => HR W i1 vt1 vp1 H
 generalize s.now = t at *
 obtain ⟨tk, tp, tx, tn⟩ := t
 unfold tkC at CN
 simp only at *
 unfold d4 at *
 clear h he HR b0 b1
 go_enter Tryz.func12, Tryz.ntmps12
 go_wp2_with fail
 refine CN.mono ?_
 rintro e w1 ⟨rfl, G⟩
 have HY1 : Hid (RS c w1 i vt vp s bud) := HY0.out.keep G
 have HX1 : Hid (∀ x, ∀ z, c8 c w1 vt vp x bud z → c8 c w vt vp x bud z) := fun x z R2 => HX0.out x z (c8.of (GB.non G) (fun _ _ k => k) R2)
 clear CN c5 G HY0 HX0
 have HC1 := HI0.out _ _ _ _ _ HY1.out
 go_wp2_with fail
 refine HC1.mono ?_
 rintro e w2 ⟨rfl, G⟩
 have HY2 : Hid (RS c w2 i vt vp s bud) := HY1.out.keep G
 have HX2 : Hid (∀ x, ∀ z, c8 c w2 vt vp x bud z → c8 c w vt vp x bud z) := fun x z R2 => HX1.out x z (c8.of (GB.non G) (fun _ _ k => k) R2)
 clear HC1 G HY1 HX1
 have HC2 := HI1.out _ _ _ _ _ HY2.out
 go_wp2_with fail
 refine HC2.mono ?_
 rintro e w3 ⟨rfl, G⟩
 have HY3 : Hid (RS c w3 i vt vp s bud) := HY2.out.keep G
 have HX3 : Hid (∀ x, ∀ z, c8 c w3 vt vp x bud z → c8 c w vt vp x bud z) := fun x z R2 => HX2.out x z (c8.of (GB.non G) (fun _ _ k => k) R2)
 clear HC2 G HY2 HX2
 have HC := HL.out _ _ _ _ HY3.out
 go_wp2_with fail
 refine HC.mono ?_
 rintro e w4 ⟨rfl, R2⟩
 have HR := HX3.out _ _ R2
 clear HC R2 HX3 HY3 HL
 go_wp2
 exact bodyPost_ret (results_none rfl _ _ _) rfl ⟨rfl, HR⟩
theorem aa4 (h : RS c w i vt vp s bud) (he : s.er = none) (b0 : s.is [45] = false) (s2 : Rt)
  (HR : ∀ (W : World) (i1 : Nat) (vt1 vp1 : Value), RS c W i1 vt1 vp1 s bud → d4 c 12 #[.pointer (some ⟨c.g, 0, none⟩), .int .i64 12] W vt1 vp1 s2 bud) :
  d4 c 12 #[.pointer (some ⟨c.g, 0, none⟩), .int .i64 11] w vt vp s2 bud := by
 have c5 : w.cell? ⟨c.g, 5, none⟩ = some (.int .i64 (erC s)) := h.mem.blk.cell 5
 rw [L3 he] at c5
 have CN := E6 h
 have HG := fun k p x n W => (o8 k p x n W).2.1
 have HX0 : Hid (∀ x, ∀ z, c8 c w vt vp x bud z → c8 c w vt vp x bud z) := fun x z R2 => R2
 have HY0 : Hid (RS c w i vt vp s bud) := h
 have HI0 := d6 (c := c) [45] false b0
 have HL : Hid (∀ (W : World) (i1 : Nat) (vt1 vp1 : Value), RS c W i1 vt1 vp1 s bud → d4 c 12 #[.pointer (some ⟨c.g, 0, none⟩), .int .i64 12] W vt1 vp1 s2 bud) := fun W i1 vt1 vp1 H => HR W i1 vt1 vp1 H
 generalize s.now = t at *
 obtain ⟨tk, tp, tx, tn⟩ := t
 unfold tkC at CN
 simp only at *
 unfold d4 at *
 clear h he HR b0
 go_enter Tryz.func12, Tryz.ntmps12
 go_wp2_with fail
 refine CN.mono ?_
 rintro e w1 ⟨rfl, G⟩
 have HY1 : Hid (RS c w1 i vt vp s bud) := HY0.out.keep G
 have HX1 : Hid (∀ x, ∀ z, c8 c w1 vt vp x bud z → c8 c w vt vp x bud z) := fun x z R2 => HX0.out x z (c8.of (GB.non G) (fun _ _ k => k) R2)
 clear CN c5 G HY0 HX0
 have HC1 := HI0.out _ _ _ _ _ HY1.out
 go_wp2_with fail
 refine HC1.mono ?_
 rintro e w2 ⟨rfl, G⟩
 have HY2 : Hid (RS c w2 i vt vp s bud) := HY1.out.keep G
 have HX2 : Hid (∀ x, ∀ z, c8 c w2 vt vp x bud z → c8 c w vt vp x bud z) := fun x z R2 => HX1.out x z (c8.of (GB.non G) (fun _ _ k => k) R2)
 clear HC1 G HY1 HX1
 have HC := HL.out _ _ _ _ HY2.out
 go_wp2_with fail
 refine HC.mono ?_
 rintro e w3 ⟨rfl, R2⟩
 have HR := HX2.out _ _ R2
 clear HC R2 HX2 HY2 HL
 go_wp2
 exact bodyPost_ret (results_none rfl _ _ _) rfl ⟨rfl, HR⟩
theorem aa8 (h : RS c w i vt vp s bud) (he : s.er = none) (s2 : Rt)
  (HR : ∀ (W : World) (i1 : Nat) (vt1 vp1 : Value), RS c W i1 vt1 vp1 s bud → d4 c 24 #[.pointer (some ⟨c.g, 0, none⟩)] W vt1 vp1 s2 bud) :
  d4 c 12 #[.pointer (some ⟨c.g, 0, none⟩), .int .i64 12] w vt vp s2 bud := by
 have c5 : w.cell? ⟨c.g, 5, none⟩ = some (.int .i64 (erC s)) := h.mem.blk.cell 5
 rw [L3 he] at c5
 have CN := E6 h
 have HG := fun k p x n W => (o8 k p x n W).2.1
 have HX0 : Hid (∀ x, ∀ z, c8 c w vt vp x bud z → c8 c w vt vp x bud z) := fun x z R2 => R2
 have HY0 : Hid (RS c w i vt vp s bud) := h
 have HL : Hid (∀ (W : World) (i1 : Nat) (vt1 vp1 : Value), RS c W i1 vt1 vp1 s bud → d4 c 24 #[.pointer (some ⟨c.g, 0, none⟩)] W vt1 vp1 s2 bud) := fun W i1 vt1 vp1 H => HR W i1 vt1 vp1 H
 generalize s.now = t at *
 obtain ⟨tk, tp, tx, tn⟩ := t
 unfold tkC at CN
 simp only at *
 unfold d4 at *
 clear h he HR
 go_enter Tryz.func12, Tryz.ntmps12
 go_wp2_with fail
 refine CN.mono ?_
 rintro e w1 ⟨rfl, G⟩
 have HY1 : Hid (RS c w1 i vt vp s bud) := HY0.out.keep G
 have HX1 : Hid (∀ x, ∀ z, c8 c w1 vt vp x bud z → c8 c w vt vp x bud z) := fun x z R2 => HX0.out x z (c8.of (GB.non G) (fun _ _ k => k) R2)
 clear CN c5 G HY0 HX0
 have HC := HL.out _ _ _ _ HY1.out
 go_wp2_with fail
 refine HC.mono ?_
 rintro e w2 ⟨rfl, R2⟩
 have HR := HX1.out _ _ R2
 clear HC R2 HX1 HY1 HL
 go_wp2
 exact bodyPost_ret (results_none rfl _ _ _) rfl ⟨rfl, HR⟩

end

end Go.Proofs.YtlfmddjppejmaaaGreatDoor
