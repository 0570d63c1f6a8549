import Derived.Test.YtlfmddjppejmaaaGreatDoorqRfN
namespace Go.Proofs.YtlfmddjppejmaaaGreatDoor
open Go.RowKit
set_option maxRecDepth 100000
def Rt.start (ts : List Tk) : Rt := ⟨ts, 0, [], none⟩
def Rt.rows (ts : List Tk) : Rt := Rt.row (D4 1 ts) 1 (Rt.start ts)
def Rt.top (ts : List Tk) : Rt := if (Rt.rows ts).er = none ∧ (Rt.rows ts).kind 0 = false then (Rt.rows ts).fail 111 else Rt.rows ts
theorem a28 (ts : List Tk) : (∀ ns, V7 ts = .ok ns → (Rt.top ts).er = none ∧ (Rt.top ts).ns = ns) ∧ ∀ e, V7 ts = .error e → (Rt.top ts).er = some e := by
 have hx : d7 (D4 1 ts) 1 0 ts ≠ .error exP := a34 (D4 1 ts) 1 0 ts (by omega) (Nat.le_refl _)
 have hc := (a0t (D4 1 ts) 1).2 (Rt.start ts) 0 rfl rfl hx
 unfold V7 Rt.top
 change L7 (Rt.start ts) (d7 (D4 1 ts) 1 0 ts) (Rt.rows ts) at hc
 cases hr : d7 (D4 1 ts) 1 0 ts with
 | ok p =>
  obtain ⟨ns, r⟩ := p
  rw [hr] at hc
  have hs : Rt.rows ts = ⟨r, 0, ns, none⟩ := hc
  rw [hs]
  have hk : (⟨r, 0, ns, none⟩ : Rt).kind 0 = ((hdT r).kind == 0) := a0j (s := ⟨r, 0, ns, none⟩) rfl 0
  rw [hk]
  unfold d8
  by_cases h0 : (hdT r).kind = 0
  ·rw [if_neg (by simp [h0])]
   refine ⟨fun ms e => ?_, fun e he => ?_⟩
   ·simp only [if_pos h0] at e
    cases e
    exact ⟨rfl, rfl⟩
   ·simp only [if_pos h0] at he
    cases he
  ·rw [if_pos ⟨rfl, by simpa using h0⟩]
   refine ⟨fun ms e => ?_, fun e he => ?_⟩
   ·simp only [if_neg h0] at e
    unfold x6 at e
    cases e
   ·simp only [if_neg h0] at he
    unfold x6 at he
    cases he
    exact a0f (s := ⟨r, 0, ns, none⟩) rfl _
 | error x =>
  rw [hr] at hc
  have hs : (Rt.rows ts).er = some x := hc
  rw [if_neg (by rw [hs]; simp)]
  unfold d8
  refine ⟨fun ms e => (by cases e), fun e he => ?_⟩
  cases he
  exact hs
def a17 (c : PC) (f : Nat) : Prop := ∀ (k : Nat) (w : World) (i : Nat) (vt vp : Value) (s : Rt) (bud : Nat), 1 ≤ k → k ≤ 12 → RS c w i vt vp s bud → (s.er = none → D4 k s.ts ≤ f) →
 d4 c 12 #[.pointer (some ⟨c.g, 0, none⟩), .int .i64 (k : Int)] w vt vp (Rt.row f k s) bud
def a3e (c : PC) : Prop := ∀ (f : Nat), a17 c f → ∀ (k : Nat) (w : World) (i : Nat) (vt vp : Value) (s : Rt) (bud : Nat), 1 ≤ k → k ≤ 10 → k ≠ 3 → RS c w i vt vp s bud → s.er = none → D4 k s.ts ≤ f + 1 →
 d4 c 12 #[.pointer (some ⟨c.g, 0, none⟩), .int .i64 (k : Int)] w vt vp ((Rt.row f (k + 1) s).loop (Rt.row f (k + 1)) k (Rt.row f (k + 1) s).ts.length) bud

section
variable {c : PC} {s : Rt}
theorem a2M (he : s.er = none) (h : s.opn.er = none) : s.opn.ts = s.ts.tail ∧ s.opn.nest = s.nest + 1 := by
 by_cases hn : s.nest = 200
 ·rw [a1T he hn] at h
  cases h
 ·rw [a0p he hn]
  exact ⟨rfl, rfl⟩
theorem a1V (he : s.er = none) (h0 : 0 ≤ s.nest) (f k : Nat) : 0 ≤ (Rt.row f k s.opn).nest ∧ ((Rt.row f k s.opn).er = none → 1 ≤ (Rt.row f k s.opn).nest) := by
 have R := Rk.row f k s.opn
 cases ho : s.opn.er with
 | none =>
  have hq := (a2M he ho).2
  have h1 := R.lo
  exact ⟨by omega, fun e => by have := R.same e; omega⟩
 | some x =>
  have hx := R.stay (by rw [ho]; simp)
  have hn : s.nest = 200 := by
   by_cases hn : s.nest = 200
   ·exact hn
   ·rw [a0p he hn] at ho
    exact absurd (he.symm.trans ho) (by simp)
  have hq : s.opn.nest = s.nest := by
   unfold Rt.opn
   rw [if_pos ⟨he, hn⟩]
  rw [hx]
  exact ⟨by omega, fun e => by rw [ho] at e; cases e⟩
theorem a9I {x : Rt} (g : I0 x.ts) : x.next.num ≤ 4294967295 := by
 unfold Rt.num
 split
 ·rename_i hk
  cases he : x.er with
  | some y => rw [a2H he, a2z he] at hk; cases hk
  | none =>
   rw [E9 (a07 he), x8 he]
   show (hdT x.ts.tail).num ≤ _
   cases hl : x.ts.tail with
   | nil => exact Nat.zero_le _
   | cons t r => exact (g.2 t (List.mem_of_mem_tail (by rw [hl]; exact List.mem_cons_self))).2.2.2.1
 ·exact Nat.zero_le _
theorem a4A {f : Nat} (hC : a17 c f) (he : s.er = none) (hk : (hdT s.ts).kind ≠ 0) (g : I0 s.ts) (h0 : 0 ≤ s.nest) (hf : 13 * s.ts.length ≤ f + 1) : a1x c (Rt.row f 1) s := by
 have hl := a5u g.ne
 refine ⟨fun W i1 vt1 vp1 bud H => hC 1 W i1 vt1 vp1 s.opn bud (by omega) (by omega) H (fun e => by unfold D4; rw [(a2M he e).1]; omega), (a1V he h0 f 1).1, (a1V he h0 f 1).2, a9I ?_⟩
 refine (Rk.row f 1 s.opn).good ?_
 by_cases hn : s.nest = 200
 ·have ho : s.opn = { s with er := some (s.now.pos, 113) } := by unfold Rt.opn; rw [if_pos ⟨he, hn⟩]
  rw [ho]
  exact g
 ·rw [a0p he hn]
  exact g.tail hk
theorem a5e (hs : I9 c) (hB : a3e c) : ∀ f, a17 c f
 | 0 => fun k w i vt vp s bud h1 h2 h hf => by
  cases he : s.er with
  | none => have := hf he; unfold D4 at this; omega
  | some x => exact a5f h k he
 | f + 1 => fun k w i vt vp s bud h1 h2 h hf => by
  have hC := a5e hs hB f
  cases he : s.er with
  | some x => rw [a23 (f + 1) k he]; exact a5f h k he
  | none =>
   have hn := hf he
   have g := h.good
   have h0 := h.lo0 he
   have hl := a5u g.ne
   unfold D4 at hn
   rw [Rt.row, if_neg (by rw [he]; simp)]
   have below : ∀ q : Nat, 1 ≤ q → q ≤ 12 → ∀ (W : World) (i1 : Nat) (vt1 vp1 : Value) (bd : Nat), RS c W i1 vt1 vp1 s.opn bd → d4 c 12 #[.pointer (some ⟨c.g, 0, none⟩), .int .i64 (q : Int)] W vt1 vp1 (Rt.row f q s.opn) bd :=
    fun q q1 q2 W i1 vt1 vp1 bd H => hC q W i1 vt1 vp1 s.opn bd q1 q2 H (fun e => by unfold D4; rw [(a2M he e).1]; omega)
   by_cases hk3 : k = 3
   ·subst hk3
    have D := a1V he h0 f 3
    cases b0 : s.is T4 with
    | true =>
     rw [if_pos ⟨rfl, .inl rfl⟩]
     exact aa6 h he b0 (Rt.row f 3 s.opn) (fun W i1 vt1 vp1 H => below 3 (by omega) (by omega) W i1 vt1 vp1 _ H) D.1 D.2
    | false =>
     cases b1 : s.is [33] with
     | true =>
      rw [if_pos ⟨rfl, .inr rfl⟩]
      exact aa2 h he b0 b1 (Rt.row f 3 s.opn) (fun W i1 vt1 vp1 H => below 3 (by omega) (by omega) W i1 vt1 vp1 _ H) D.1 D.2
     | false =>
      rw [if_neg (by simp), if_neg (by simp), if_pos (.inl rfl)]
      exact aa7 h he b0 b1 (Rt.row f 4 s) (fun W i1 vt1 vp1 H => hC 4 W i1 vt1 vp1 s bud (by omega) (by omega) H (fun _ => by unfold D4; omega))
   rw [if_neg (fun x => hk3 x.1)]
   by_cases hk11 : k = 11
   ·subst hk11
    have D := a1V he h0 f 11
    cases b0 : s.is [45] with
    | true =>
     rw [if_pos ⟨rfl, rfl⟩]
     exact aa5 h he b0 (Rt.row f 11 s.opn) (fun W i1 vt1 vp1 H => below 11 (by omega) (by omega) W i1 vt1 vp1 _ H) D.1 D.2
    | false =>
     rw [if_neg (by simp), if_pos (.inr rfl)]
     exact aa4 h he b0 (Rt.row f 12 s) (fun W i1 vt1 vp1 H => hC 12 W i1 vt1 vp1 s bud (by omega) (by omega) H (fun _ => by unfold D4; omega))
   rw [if_neg (fun x => hk11 x.1), if_neg (fun x => x.elim hk3 hk11)]
   by_cases hk12 : k = 12
   ·subst hk12
    rw [if_pos rfl]
    refine aa8 h he (s.part (Rt.row f 1)) (fun W i1 vt1 vp1 H => a9W hs (Rt.row f 1) H (fun hb => a4A hC he (k8 hb).2 g h0 (by omega)) (fun _ hk hb => ?_))
    have hnx := x8 he
    exact a4A hC (k8 hb).1 (k8 hb).2 (by rw [hnx]; exact g.tail hk) (by rw [hnx]; exact h0) (by rw [hnx]; show 13 * s.ts.tail.length ≤ f + 1; omega)
   ·rw [if_neg hk12]
    exact hB f hC k w i vt vp s bud h1 (by omega) hk3 h he (by unfold D4; omega)
end

end Go.Proofs.YtlfmddjppejmaaaGreatDoor
