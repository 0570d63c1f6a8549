/-
  Package bundle as landed: Feed.
-/
import Derived.Test.YtkjofgnmjfngeaaBundleB
import Derived.Test.YtkjofgnmjfngeaaLotBundleLost16
namespace Go.Proofs.Ytkjofgnmjfngeaa
open Go.RowKit
set_option maxRecDepth 100000

/-- A bundle in memory. -/
def bnA (l : Lk) (u : Bs) (v : Value) : Array Value := #[.int .u32 (u.nxt : Int), .int .u32 ((spV l - 1 : Nat) : Int), .bool l.acfc, .bool l.pfc, .int .i64 l.mp, .bool u.opn, v]
def BNv (w : World) (base g : Nat) (l : Lk) (u : Bs) (v : Value) : Prop := VAt w g 56 (bnA l u v) ∧ Owns w base v u.has

/-- A bundle while it is fed. -/
def BF (w : World) (base g V : Nat) (l : Lk) (v : Value) (pa : Array Value) (nx : Nat) (o : Bool) (h : List UInt8) (vv : Value) (wx : World) : Prop :=
  VAt wx g 56 #[.int .u32 (nx : Int), .int .u32 ((spV l - 1 : Nat) : Int), .bool l.acfc, .bool l.pfc, .int .i64 l.mp, .bool o, vv] ∧ Owns wx base vv h ∧ (∀ y, vv.ownBlock = some y → w.heap.size ≤ y ∨ v.ownBlock = some y) ∧ VAt wx V 58 pa ∧ GB w wx (fun i => i = g ∨ v.ownBlock = some i)

section
variable {w wx wy : World} {base g V : Nat} {l : Lk} {v vv : Value} {pa : Array Value} {nx : Nat} {o : Bool} {h : List UInt8}
theorem BF.kept (F : BF w base g V l v pa nx o h vv wx) (K : wx.grownBy wy none) : BF w base g V l v pa nx o h vv wy :=
  ⟨F.1.kept K, owns_keptNone F.2.1 K, F.2.2.1, F.2.2.2.1.kept K, F.2.2.2.2.trans (S' := fun _ => False) (GB.non K) (fun _ _ hf => hf.elim)⟩
/-- A cell of the bundle is written. -/
theorem BF.put (F : BF w base g V l v pa nx o h vv wx) (i : Nat) (u : Value) : VAt (wx.setCell ⟨g, i, none⟩ u) g 56 ((#[.int .u32 (nx : Int), .int .u32 ((spV l - 1 : Nat) : Int), .bool l.acfc, .bool l.pfc, .int .i64 l.mp, .bool o, vv] : Array Value).setIfInBounds i u) ∧ Owns (wx.setCell ⟨g, i, none⟩ u) base vv h ∧ VAt (wx.setCell ⟨g, i, none⟩ u) V 58 pa ∧ GB w (wx.setCell ⟨g, i, none⟩ u) (fun i => i = g ∨ v.ownBlock = some i) := by
  have K : wx.grownBy (wx.setCell ⟨g, i, none⟩ u) (some g) := grown_setCell (World.grownBy.refl _ _) _ _ (.inl rfl)
  have n1 := owns_not F.2.1 F.1 (by decide)
  have n2 := vat_not F.1 F.2.2.2.1 (by decide)
  exact ⟨F.1.set i u, World.ownsRow.kept F.2.1 K (.inr n1), F.2.2.2.1.grown K (by simpa using n2), F.2.2.2.2.trans (S' := fun i => i = g) (GB.of K (fun x hx => by simpa using hx.symm)) (fun x _ hx => .inl hx)⟩
theorem BF.opn (F : BF w base g V l v pa nx o h vv wx) (o' : Bool) : BF w base g V l v pa nx o' h vv (wx.setCell ⟨g, 5, none⟩ (.bool o')) :=
  have p := F.put 5 (.bool o')
  ⟨p.1, p.2.1, F.2.2.1, p.2.2.1, p.2.2.2⟩
theorem BF.nxt (F : BF w base g V l v pa nx o h vv wx) (n : Nat) : BF w base g V l v pa n o h vv (wx.setCell ⟨g, 0, none⟩ (.int .u32 (n : Int))) :=
  have p := F.put 0 (.int .u32 (n : Int))
  ⟨p.1, p.2.1, F.2.2.1, p.2.2.1, p.2.2.2⟩
theorem BF.nil (F : BF w base g V l v pa nx o h vv wx) : BF w base g V l v pa nx o [] (.slice none 0 0) (wx.setCell ⟨g, 6, none⟩ (.slice none 0 0)) :=
  have p := F.put 6 (.slice none 0 0)
  ⟨p.1, World.ownsRow_nil _ _ _ _, (fun y hy => by cases hy), p.2.2.1, p.2.2.2⟩
/-- Another list is gathered. -/
theorem BF.has {x : Value} {ys : List UInt8} (F : BF w base g V l v pa nx o h vv wx) (O : Owns wx base x ys) (hx : ∀ y, x.ownBlock = some y → w.heap.size ≤ y ∨ v.ownBlock = some y) : BF w base g V l v pa nx o ys x (wx.setCell ⟨g, 6, none⟩ x) := by
  have p := F.put 6 x
  have K : wx.grownBy (wx.setCell ⟨g, 6, none⟩ x) (some g) := grown_setCell (World.grownBy.refl _ _) _ _ (.inl rfl)
  exact ⟨p.1, World.ownsRow.kept O K (.inr (owns_not O F.1 (by decide))), hx, p.2.2.1, p.2.2.2⟩
theorem BF.c (F : BF w base g V l v pa nx o h vv wx) (i : Nat) : wx.cell? ⟨g, i, none⟩ = (#[.int .u32 (nx : Int), .int .u32 ((spV l - 1 : Nat) : Int), .bool l.acfc, .bool l.pfc, .int .i64 l.mp, .bool o, vv] : Array Value)[i]? := F.1.cell i
theorem BF.f (F : BF w base g V l v pa nx o h vv wx) (i : Nat) : wx.frozen? ⟨g, i, none⟩ = false := F.1.free i
end

section
variable {w wx wy : World} {base g V : Nat} {l : Lk} {v vv : Value} {pa : Array Value} {nx : Nat} {o : Bool} {h : List UInt8}
/-- What is written in a block that is new, and none of these. -/
theorem BF.new {E : Nat} (F : BF w base g V l v pa nx o h vv wx) (K : wx.grownBy wy (some E)) (hE : w.heap.size ≤ E) (h1 : g ≠ E) (h2 : vv.ownBlock ≠ some E) (h3 : V ≠ E) : BF w base g V l v pa nx o h vv wy :=
  ⟨F.1.grown K (by simpa using h1.symm), World.ownsRow.kept F.2.1 K (.inr h2), F.2.2.1, F.2.2.2.1.grown K (by simpa using h3.symm), F.2.2.2.2.trans (S' := fun i => i = E) (GB.of K (fun x hx => by simpa using hx.symm)) (fun x hx e => by subst e; omega)⟩
theorem BF.lt (F : BF w base g V l v pa nx o h vv wx) : g < wx.heap.size ∧ V < wx.heap.size ∧ ∀ y, vv.ownBlock = some y → y < wx.heap.size := ⟨F.1.lt, F.2.2.2.1.lt, fun y hy => (World.ownsRow.lt F.2.1 y hy).2⟩
end

section
variable {w wx wy : World} {base g V : Nat} {l : Lk} {v vv : Value} {pa : Array Value} {nx : Nat} {o : Bool} {h : List UInt8}
/-- What is gathered grows, where it lay or elsewhere. -/
theorem BF.app {x : Value} {ys : List UInt8} (F : BF w base g V l v pa nx o h vv wx) (K : wx.grownBy wy vv.ownBlock) (O : Owns wy base x ys) (hx : ∀ y, x.ownBlock = some y → w.heap.size ≤ y ∨ v.ownBlock = some y) : BF w base g V l v pa nx o ys x (wy.setCell ⟨g, 6, none⟩ x) ∧ wy.cell? ⟨g, 6, none⟩ = some vv ∧ wy.frozen? ⟨g, 6, none⟩ = false := by
  have n1 := owns_not F.2.1 F.1 (by decide)
  have n2 := owns_not F.2.1 F.2.2.2.1 (by decide)
  have A := F.1.grown K n1
  have B := F.2.2.2.1.grown K n2
  have n3 := owns_not O A (by decide)
  have n4 := vat_not A B (by decide)
  have K2 : wy.grownBy (wy.setCell ⟨g, 6, none⟩ x) (some g) := grown_setCell (World.grownBy.refl _ _) _ _ (.inl rfl)
  have G1 : GB w wy (fun i => i = g ∨ v.ownBlock = some i) := F.2.2.2.2.trans (S' := fun i => vv.ownBlock = some i) (GB.of K (fun x hx => hx)) (fun y hy e => by
    rcases F.2.2.1 y e with q | q
    · omega
    · exact .inr q)
  exact ⟨⟨A.set 6 x, World.ownsRow.kept O K2 (.inr n3), hx, B.grown K2 (by simpa using n4), G1.trans (S' := fun i => i = g) (GB.of K2 (fun x hx => by simpa using hx.symm)) (fun y _ e => .inl e)⟩, A.cell 6, A.free 6⟩
end

/-- What is gathered is forgotten; where it lay is kept. -/
theorem BF.cut {w wx : World} {base g V : Nat} {l : Lk} {v : Value} {pa : Array Value} {nx : Nat} {o : Bool} {h : List UInt8} {gg n cap : Nat} (F : BF w base g V l v pa nx o h (.slice (some ⟨gg, 0, none⟩) n cap) wx) : Owns wx base (.slice (some ⟨gg, 0, none⟩) 0 cap) [] ∧ ∀ y, (Value.slice (some ⟨gg, 0, none⟩) 0 cap).ownBlock = some y → w.heap.size ≤ y ∨ v.ownBlock = some y := by
  refine ⟨?_, F.2.2.1⟩
  have O := F.2.1
  unfold Owns at O ⊢
  refine ⟨rfl, .inr ?_⟩
  rcases O.2 with ⟨e, -⟩ | ⟨g', cap', cur, e, h2, h3, h4, h5, h6, h7⟩
  · cases e
  · simp only [Value.slice.injEq, Option.some.injEq, Addr.mk.injEq] at e
    obtain ⟨⟨rfl, -, -⟩, -, rfl⟩ := e
    exact ⟨gg, cap, cur, rfl, h2, h3, Nat.zero_le _, h5, h6, by simp⟩

set_option maxRecDepth 100000 in
set_option maxHeartbeats 4000000 in
theorem forget_any {w wx : World} {base g V : Nat} {l : Lk} {v vv : Value} {pa : Array Value} {nx : Nat} {o : Bool} {h : List UInt8} (F : BF w base g V l v pa nx o h vv wx) :
    Calls Try.prog 19 #[.pointer (some ⟨g, 0, none⟩)] wx fun e w' => e = .returned (.tuple #[]) ∧ ∃ v', BF w base g V l v pa nx false [] v' w' ∧ wx.grownBy w' (some g) ∧ ∀ y, v'.ownBlock = some y → vv.ownBlock = some y := by
  rcases F.2.1.2 with ⟨rfl, -⟩ | ⟨gg, cap, cur, rfl, -⟩
  · have m5 : wx.cell? ⟨g, 5, none⟩ = some (.bool o) := F.c 5
    have f5 := F.f 5
    have m6 : wx.cell? ⟨g, 6, none⟩ = some (.slice none 0 0) := F.c 6
    have f6 := F.f 6
    have HF : Hid (∀ n, BF w base g V l v pa nx false [] (.slice none 0 0) (((wx.drewN n).setCell ⟨g, 5, none⟩ (.bool false)).setCell ⟨g, 6, none⟩ (.slice none 0 0)) ∧ wx.grownBy (((wx.drewN n).setCell ⟨g, 5, none⟩ (.bool false)).setCell ⟨g, 6, none⟩ (.slice none 0 0)) (some g) ∧ ∀ y, (Value.slice none 0 0).ownBlock = some y → (Value.slice none 0 0).ownBlock = some y) := fun n => by
      have F' := F.kept (grown_drewN wx n none)
      exact ⟨(F'.opn false).nil, grown_setCell (grown_setCell (grown_drewN wx n (some g)) _ _ (.inl rfl)) _ _ (.inl rfl), fun y hy => hy⟩
    clear F
    go_enter Try.func19, Try.ntmps19
    go_region
    all_goals
      go_wp2
      go_end0
      exact ⟨rfl, _, by first | exact HF.out _ | exact HF.out 0 | exact HF.out 1⟩
  · have m5 : wx.cell? ⟨g, 5, none⟩ = some (.bool o) := F.c 5
    have f5 := F.f 5
    have m6 : wx.cell? ⟨g, 6, none⟩ = some (.slice (some ⟨gg, 0, none⟩) h.length cap) := F.c 6
    have f6 := F.f 6
    have HF : Hid (∀ n, BF w base g V l v pa nx false [] (.slice (some ⟨gg, 0, none⟩) 0 cap) (((wx.drewN n).setCell ⟨g, 5, none⟩ (.bool false)).setCell ⟨g, 6, none⟩ (.slice (some ⟨gg, 0, none⟩) 0 cap)) ∧ wx.grownBy (((wx.drewN n).setCell ⟨g, 5, none⟩ (.bool false)).setCell ⟨g, 6, none⟩ (.slice (some ⟨gg, 0, none⟩) 0 cap)) (some g) ∧ ∀ y, (Value.slice (some ⟨gg, 0, none⟩) 0 cap).ownBlock = some y → (Value.slice (some ⟨gg, 0, none⟩) h.length cap).ownBlock = some y) := fun n => by
      have F' := (F.kept (grown_drewN wx n none)).opn false
      exact ⟨F'.has F'.cut.1 F'.cut.2, grown_setCell (grown_setCell (grown_drewN wx n (some g)) _ _ (.inl rfl)) _ _ (.inl rfl), fun y hy => hy⟩
    clear F
    go_enter Try.func19, Try.ntmps19
    go_region
    all_goals
      go_wp2
      go_end0
      exact ⟨rfl, _, by first | exact HF.out _ | exact HF.out 0 | exact HF.out 1⟩

end Go.Proofs.Ytkjofgnmjfngeaa
