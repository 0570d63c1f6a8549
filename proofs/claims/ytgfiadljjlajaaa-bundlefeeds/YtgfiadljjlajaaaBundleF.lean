/-
  The document's own Feed.
-/
import Derived.Test.YtgfiadljjlajaaaBundleR
import Derived.Test.YtgfiadljjlajaaaLFrame
import Derived.Test.YtgfiadljjlajaaaBundleH
import Derived.Deep.RegionWith
import Derived.Deep.DeepCutAuto
import Derived.Maps.AppendAt
namespace Go.Proofs.Ytgfiadljjlajaaa
open Go.RowKit
set_option maxRecDepth 100000

/-- A bundle of the document's in memory. -/
def rbA (l : Lk) (u : Bs) (v : Value) : Array Value := #[.bool l.acfc, .bool l.pfc, .int .i64 l.mp, .int .u32 (u.nxt : Int), .bool u.opn, v]
def RBv (w : World) (base g : Nat) (l : Lk) (u : Bs) (v : Value) : Prop := VAt w g 37 (rbA l u v) ∧ Owns w base v u.has

/-- What Feed leaves: the answer, the bundle, and what may have been written. -/
def FeedP (w : World) (base g : Nat) (l : Lk) (v : Value) (r : Bs × List UInt8 × Bool) (er : Int) (e : Ending) (w' : World) : Prop :=
  ∃ x v', e = .returned (.tuple #[x, .bool r.2.2, .int .i64 er]) ∧ Owns w' base x r.2.1 ∧ (∀ y, x.ownBlock = some y → w.heap.size ≤ y ∨ v.ownBlock = some y) ∧ RBv w' base g l r.1 v' ∧ (∀ y, v'.ownBlock = some y → w.heap.size ≤ y ∨ v.ownBlock = some y) ∧ (∀ y, x.ownBlock = some y → v'.ownBlock ≠ some y) ∧ GB w w' (fun i => i = g ∨ v.ownBlock = some i)

set_option maxRecDepth 100000 in
set_option maxHeartbeats 4000000 in
theorem reffeed_err (base g : Nat) (l : Lk) (u : Bs) (v : Value) (a : Option Addr) (ca : Nat) (b : List UInt8) (er : Int) (w : World) (hb : RBv w base g l u v) (ha : Cells w a b) (hn : b.length ≤ 140737488355328) (he : feedX l u b = .error er) :
    Calls Try.prog 20 #[.pointer (some ⟨g, 0, none⟩), .slice a b.length ca] w fun e w' => FeedP w base g l v (u, [], false) er e w' := by
  have CP := refpiece_any l a ca b w ha hn
  have x0 : w.cell? ⟨g, 0, none⟩ = some (.bool l.acfc) := hb.1.cell 0
  have x1 : w.cell? ⟨g, 1, none⟩ = some (.bool l.pfc) := hb.1.cell 1
  have x2 : w.cell? ⟨g, 2, none⟩ = some (.int .i64 l.mp) := hb.1.cell 2
  have HB : Hid (RBv w base g l u v) := hb
  unfold feedX at he
  cases hp : pieceV l b with
  | error er2 =>
    rw [hp] at he CP
    cases he
    have hz := piece_er9 hp
    simp only [exV, exE, vwA, Vw.zero] at CP
    clear hb ha hp
    go_enter Try.func20, Try.ntmps20
    go_wp2_with fail
    refine CP.mono ?_
    rintro e w1 ⟨rfl, K1⟩
    clear CP x0 x1 x2
    go_wp2
    go_ret3
    have G : w.grownBy (w1.alloc (.cells #[.int .u32 0, .bool false, .bool false, .bool false, .int .u32 0, .int .i64 0, .int .i64 0, .int .i64 0, .int .i64 0] 53)) none := grown_trans K1 (World.grownBy_alloc _ _ _)
    exact ⟨_, v, rfl, World.ownsRow_nil _ _ _ _, (fun y hy => by cases hy), ⟨HB.out.1.kept G, owns_keptNone HB.out.2 G⟩, (fun y hy => .inr hy), (fun y hy => by cases hy), GB.non G⟩
  | ok pv =>
    rw [bind_of hp] at he
    rw [hp] at CP
    split at he
    · cases he
    · rename_i hm
      cases he
      obtain ⟨pr, mu, be, fi, sq, po, ne, nx, lo⟩ := pv
      have hmu : mu = false := by simpa using hm
      subst hmu
      simp only [exV, exE, vwA] at CP
      clear hb ha hp hm
      go_enter Try.func20, Try.ntmps20
      go_wp2_with fail
      refine CP.mono ?_
      rintro e w1 ⟨rfl, K1⟩
      clear CP x0 x1 x2
      go_wp2
      go_ret3
      have G : w.grownBy (w1.alloc (.cells #[.int .u32 (pr : Int), .bool false, .bool be, .bool fi, .int .u32 (sq : Int), .int .i64 (po : Int), .int .i64 (ne : Int), .int .i64 (nx : Int), .int .i64 (lo : Int)] 53)) none := grown_trans K1 (World.grownBy_alloc _ _ _)
      exact ⟨_, v, rfl, World.ownsRow_nil _ _ _ _, (fun y hy => by cases hy), ⟨HB.out.1.kept G, owns_keptNone HB.out.2 G⟩, (fun y hy => .inr hy), (fun y hy => by cases hy), GB.non G⟩

/-- A bundle while it is fed. -/
def FS (w : World) (base g V : Nat) (l : Lk) (v : Value) (pa : Array Value) (nx : Nat) (o : Bool) (h : List UInt8) (vv : Value) (wx : World) : Prop :=
  VAt wx g 37 #[.bool l.acfc, .bool l.pfc, .int .i64 l.mp, .int .u32 (nx : Int), .bool o, vv] ∧ Owns wx base vv h ∧ (∀ y, vv.ownBlock = some y → w.heap.size ≤ y ∨ v.ownBlock = some y) ∧ VAt wx V 53 pa ∧ GB w wx (fun i => i = g ∨ v.ownBlock = some i)

section
variable {w wx wy : World} {base g V : Nat} {l : Lk} {v vv : Value} {pa : Array Value} {nx : Nat} {o : Bool} {h : List UInt8}
theorem FS.kept (F : FS w base g V l v pa nx o h vv wx) (K : wx.grownBy wy none) : FS w base g V l v pa nx o h vv wy :=
  ⟨F.1.kept K, owns_keptNone F.2.1 K, F.2.2.1, F.2.2.2.1.kept K, F.2.2.2.2.trans (S' := fun _ => False) (GB.non K) (fun _ _ hf => hf.elim)⟩
/-- A cell of the bundle is written. -/
theorem FS.put (F : FS w base g V l v pa nx o h vv wx) (i : Nat) (u : Value) : VAt (wx.setCell ⟨g, i, none⟩ u) g 37 ((#[.bool l.acfc, .bool l.pfc, .int .i64 l.mp, .int .u32 (nx : Int), .bool o, vv] : Array Value).setIfInBounds i u) ∧ Owns (wx.setCell ⟨g, i, none⟩ u) base vv h ∧ VAt (wx.setCell ⟨g, i, none⟩ u) V 53 pa ∧ GB w (wx.setCell ⟨g, i, none⟩ u) (fun i => i = g ∨ v.ownBlock = some i) := by
  have K : wx.grownBy (wx.setCell ⟨g, i, none⟩ u) (some g) := grown_setCell (World.grownBy.refl _ _) _ _ (.inl rfl)
  have n1 := owns_not F.2.1 F.1 (by decide)
  have n2 := vat_not F.1 F.2.2.2.1 (by decide)
  exact ⟨F.1.set i u, World.ownsRow.kept F.2.1 K (.inr n1), F.2.2.2.1.grown K (by simpa using n2), F.2.2.2.2.trans (S' := fun i => i = g) (GB.of K (fun x hx => by simpa using hx.symm)) (fun x _ hx => .inl hx)⟩
theorem FS.opn (F : FS w base g V l v pa nx o h vv wx) (o' : Bool) : FS w base g V l v pa nx o' h vv (wx.setCell ⟨g, 4, none⟩ (.bool o')) :=
  have p := F.put 4 (.bool o')
  ⟨p.1, p.2.1, F.2.2.1, p.2.2.1, p.2.2.2⟩
theorem FS.nxt (F : FS w base g V l v pa nx o h vv wx) (n : Nat) : FS w base g V l v pa n o h vv (wx.setCell ⟨g, 3, none⟩ (.int .u32 (n : Int))) :=
  have p := F.put 3 (.int .u32 (n : Int))
  ⟨p.1, p.2.1, F.2.2.1, p.2.2.1, p.2.2.2⟩
theorem FS.nil (F : FS w base g V l v pa nx o h vv wx) : FS w base g V l v pa nx o [] (.slice none 0 0) (wx.setCell ⟨g, 5, none⟩ (.slice none 0 0)) :=
  have p := F.put 5 (.slice none 0 0)
  ⟨p.1, World.ownsRow_nil _ _ _ _, (fun y hy => by cases hy), p.2.2.1, p.2.2.2⟩
/-- Another list is gathered. -/
theorem FS.has {x : Value} {ys : List UInt8} (F : FS w base g V l v pa nx o h vv wx) (O : Owns wx base x ys) (hx : ∀ y, x.ownBlock = some y → w.heap.size ≤ y ∨ v.ownBlock = some y) : FS w base g V l v pa nx o ys x (wx.setCell ⟨g, 5, none⟩ x) := by
  have p := F.put 5 x
  have K : wx.grownBy (wx.setCell ⟨g, 5, none⟩ x) (some g) := grown_setCell (World.grownBy.refl _ _) _ _ (.inl rfl)
  exact ⟨p.1, World.ownsRow.kept O K (.inr (owns_not O F.1 (by decide))), hx, p.2.2.1, p.2.2.2⟩
theorem FS.c (F : FS w base g V l v pa nx o h vv wx) (i : Nat) : wx.cell? ⟨g, i, none⟩ = (#[.bool l.acfc, .bool l.pfc, .int .i64 l.mp, .int .u32 (nx : Int), .bool o, vv] : Array Value)[i]? := F.1.cell i
theorem FS.f (F : FS w base g V l v pa nx o h vv wx) (i : Nat) : wx.frozen? ⟨g, i, none⟩ = false := F.1.free i
end

section
variable {w wx wy : World} {base g V : Nat} {l : Lk} {v vv : Value} {pa : Array Value} {nx : Nat} {o : Bool} {h : List UInt8}
/-- What is written in a block that is new, and none of these. -/
theorem FS.new {E : Nat} (F : FS w base g V l v pa nx o h vv wx) (K : wx.grownBy wy (some E)) (hE : w.heap.size ≤ E) (h1 : g ≠ E) (h2 : vv.ownBlock ≠ some E) (h3 : V ≠ E) : FS w base g V l v pa nx o h vv wy :=
  ⟨F.1.grown K (by simpa using h1.symm), World.ownsRow.kept F.2.1 K (.inr h2), F.2.2.1, F.2.2.2.1.grown K (by simpa using h3.symm), F.2.2.2.2.trans (S' := fun i => i = E) (GB.of K (fun x hx => by simpa using hx.symm)) (fun x hx e => by subst e; omega)⟩
theorem FS.lt (F : FS w base g V l v pa nx o h vv wx) : g < wx.heap.size ∧ V < wx.heap.size ∧ ∀ y, vv.ownBlock = some y → y < wx.heap.size := ⟨F.1.lt, F.2.2.2.1.lt, fun y hy => (World.ownsRow.lt F.2.1 y hy).2⟩
end

section
variable {w wx wy : World} {base g V : Nat} {l : Lk} {v vv : Value} {pa : Array Value} {nx : Nat} {o : Bool} {h : List UInt8}
/-- What is gathered grows, where it lay or elsewhere. -/
theorem FS.app {x : Value} {ys : List UInt8} (F : FS w base g V l v pa nx o h vv wx) (K : wx.grownBy wy vv.ownBlock) (O : Owns wy base x ys) (hx : ∀ y, x.ownBlock = some y → w.heap.size ≤ y ∨ v.ownBlock = some y) : FS w base g V l v pa nx o ys x (wy.setCell ⟨g, 5, none⟩ x) ∧ wy.cell? ⟨g, 5, none⟩ = some vv ∧ wy.frozen? ⟨g, 5, none⟩ = false := by
  have n1 := owns_not F.2.1 F.1 (by decide)
  have n2 := owns_not F.2.1 F.2.2.2.1 (by decide)
  have A := F.1.grown K n1
  have B := F.2.2.2.1.grown K n2
  have n3 := owns_not O A (by decide)
  have n4 := vat_not A B (by decide)
  have K2 : wy.grownBy (wy.setCell ⟨g, 5, none⟩ x) (some g) := grown_setCell (World.grownBy.refl _ _) _ _ (.inl rfl)
  have G1 : GB w wy (fun i => i = g ∨ v.ownBlock = some i) := F.2.2.2.2.trans (S' := fun i => vv.ownBlock = some i) (GB.of K (fun x hx => hx)) (fun y hy e => by
    rcases F.2.2.1 y e with q | q
    · omega
    · exact .inr q)
  exact ⟨⟨A.set 5 x, World.ownsRow.kept O K2 (.inr n3), hx, B.grown K2 (by simpa using n4), G1.trans (S' := fun i => i = g) (GB.of K2 (fun x hx => by simpa using hx.symm)) (fun y _ e => .inl e)⟩, A.cell 5, A.free 5⟩
end

end Go.Proofs.Ytgfiadljjlajaaa
