/-
  Four bundles side by side: two of the document's, two of the program's.
-/
import Derived.Test.YtgfiadljjlajaaaBundleG
import Derived.Test.YtgfiadljjlajaaaBundleN
import Derived.Test.YtgfiadljjlajaaaBundleC
namespace Go.Proofs.Ytgfiadljjlajaaa
open Go.RowKit
set_option maxRecDepth 100000

/-- A bundle of the document's, and the blocks that it lives in. -/
def RAt (w : World) (base g : Nat) (l : Lk) (u : Bs) (S : Nat → Prop) : Prop :=
  ∃ v, base ≤ g ∧ RBv w base g l u v ∧ u.has.length ≤ 65535 ∧ ∀ x, S x ↔ (x = g ∨ v.ownBlock = some x)
theorem RAt.kept {w w' : World} {base g : Nat} {l : Lk} {u : Bs} {S S' : Nat → Prop} (h : RAt w base g l u S) (G : GB w w' S') (hs : ∀ x, S x → ¬ S' x) : RAt w' base g l u S := by
  obtain ⟨v, hg, ⟨hb, ho⟩, hh, hS⟩ := h
  exact ⟨v, hg, ⟨G.vat hb (hs g ((hS g).2 (.inl rfl))), G.owns ho (fun x hx => hs x ((hS x).2 (.inr hx)))⟩, hh, hS⟩
theorem RAt.lt {w : World} {base g : Nat} {l : Lk} {u : Bs} {S : Nat → Prop} (h : RAt w base g l u S) : ∀ x, S x → base ≤ x ∧ x < w.heap.size := by
  obtain ⟨v, hg, ⟨hb, ho⟩, hh, hS⟩ := h
  intro x hx
  rcases (hS x).1 hx with rfl | e
  · exact ⟨hg, hb.lt⟩
  · exact World.ownsRow.lt ho x e
theorem RAt.cells {w : World} {base g : Nat} {l : Lk} {u : Bs} {S : Nat → Prop} (h : RAt w base g l u S) : w.cell? ⟨g, 3, none⟩ = some (.int .u32 (u.nxt : Int)) ∧ ∃ ao ca, w.cell? ⟨g, 5, none⟩ = some (.slice ao u.has.length ca) := by
  obtain ⟨v, -, ⟨hb, ho⟩, -, -⟩ := h
  obtain ⟨ao, ca, rfl, -, -⟩ := ho.shape
  exact ⟨hb.cell 3, ao, ca, hb.cell 5⟩

theorem feed_has (l : Lk) (u : Bs) (b : List UInt8) (h : u.has.length ≤ 65535) : (exV (u, [], false) (feedX l u b)).1.has.length ≤ 65535 := by
  unfold feedX
  rcases except_cases (pieceV l b) with ⟨er, he⟩ | ⟨pv, he⟩
  · rw [bind_err he]; exact h
  · rw [bind_of he]
    split
    · exact fed_has ..
    · exact h

theorem RAt.feed {w : World} {base g : Nat} {l : Lk} {u : Bs} {S : Nat → Prop} (h : RAt w base g l u S) (a : Option Addr) (ca : Nat) (b : List UInt8) (ha : Cells w a b) (hc0 : a = none → ca = 0) (hca : b.length ≤ ca) (hn : b.length ≤ 140737488355328) (hap : ∀ ad, a = some ad → b ≠ [] → ¬ S ad.block) :
    Calls Try.prog 20 #[.pointer (some ⟨g, 0, none⟩), .slice a b.length ca] w fun e w' => ∃ x S', e = .returned (.tuple #[x, .bool (exV (u, [], false) (feedX l u b)).2.2, .int .i64 (exE (feedX l u b))]) ∧ Owns w' base x (exV (u, [], false) (feedX l u b)).2.1 ∧ RAt w' base g l (exV (u, [], false) (feedX l u b)).1 S' ∧ (∀ y, S' y → S y ∨ w.heap.size ≤ y) ∧ (∀ y, x.ownBlock = some y → ¬ S' y ∧ (S y ∨ w.heap.size ≤ y)) ∧ GB w w' S := by
  obtain ⟨v, hg, hb, hh, hS⟩ := h
  refine (reffeed_any base g l u v a ca b w hb ha hc0 hca hn (fun ad e hne => ⟨fun q => hap ad e hne ((hS _).2 (.inl q)), fun q => hap ad e hne ((hS _).2 (.inr q))⟩) hh (Nat.le_of_lt (Nat.lt_of_le_of_lt hg hb.1.lt))).mono ?_
  rintro e w' ⟨x, v', rfl, h1, h2, h3, h4, h5, h6⟩
  refine ⟨x, fun i => i = g ∨ v'.ownBlock = some i, rfl, h1, ⟨v', hg, h3, feed_has l u b hh, fun _ => Iff.rfl⟩, fun y hy => ?_, fun y hy => ⟨fun e => ?_, ?_⟩, h6.mono (fun x hx => (hS x).2 hx)⟩
  · rcases hy with rfl | hy
    · exact .inl ((hS _).2 (.inl rfl))
    · rcases h4 y hy with q | q
      · exact .inr q
      · exact .inl ((hS _).2 (.inr q))
  · rcases e with rfl | e
    · exact owns_not h1 h3.1 (by decide) hy
    · exact h5 y hy e
  · rcases h2 y hy with q | q
    · exact .inr q
    · exact .inl ((hS _).2 (.inr q))

/-- Four bundles whose blocks lie apart. -/
structure Q4 (w0 : World) (gw go : Nat) (pu po : Value) (l : Lk) (ua ub uc ud : Bs) (A B C D : Nat → Prop) (W : World) : Prop where
  ra : RAt W w0.heap.size gw l ua A
  rb : RAt W w0.heap.size go l ub B
  bc : BAt W w0.heap.size pu l uc C
  bd : BAt W w0.heap.size po l ud D
  ab : ∀ x, A x → ¬ B x
  ac : ∀ x, A x → ¬ C x
  ad : ∀ x, A x → ¬ D x
  nb : ∀ x, B x → ¬ C x
  nd : ∀ x, B x → ¬ D x
  cd : ∀ x, C x → ¬ D x
  up : w0.grownBy W none

section
variable {w0 W W' : World} {gw go : Nat} {pu po : Value} {l : Lk} {ua ub uc ud : Bs} {A B C D : Nat → Prop}
/-- What is written is new, or none of theirs. -/
theorem Q4.keep {S : Nat → Prop} (h : Q4 w0 gw go pu po l ua ub uc ud A B C D W) (G : GB W W' S) (hs : ∀ x, S x → ¬ A x ∧ ¬ B x ∧ ¬ C x ∧ ¬ D x) (h0 : ∀ x, S x → w0.heap.size ≤ x) : Q4 w0 gw go pu po l ua ub uc ud A B C D W' :=
  ⟨h.ra.kept G (fun x h1 h2 => (hs x h2).1 h1), h.rb.kept G (fun x h1 h2 => (hs x h2).2.1 h1), h.bc.kept G (fun x h1 h2 => (hs x h2).2.2.1 h1), h.bd.kept G (fun x h1 h2 => (hs x h2).2.2.2 h1), h.ab, h.ac, h.ad, h.nb, h.nd, h.cd,
    ((GB.non (S := S) h.up).trans G (fun _ _ q => q)).grown (fun x hx hS => by have := h0 x hS; omega)⟩
theorem Q4.non (h : Q4 w0 gw go pu po l ua ub uc ud A B C D W) (K : W.grownBy W' none) : Q4 w0 gw go pu po l ua ub uc ud A B C D W' :=
  h.keep (S := fun _ => False) (GB.non K) (fun _ q => q.elim) (fun _ q => q.elim)
theorem Q4.row {row : Option Nat} (h : Q4 w0 gw go pu po l ua ub uc ud A B C D W) (K : W.grownBy W' row) (hs : ∀ x, row = some x → ¬ A x ∧ ¬ B x ∧ ¬ C x ∧ ¬ D x) (h0 : ∀ x, row = some x → w0.heap.size ≤ x) : Q4 w0 gw go pu po l ua ub uc ud A B C D W' :=
  h.keep (S := fun x => row = some x) (GB.of K (fun _ q => q)) hs h0
theorem Q4.far (h : Q4 w0 gw go pu po l ua ub uc ud A B C D W) {x : Nat} (hx : W.heap.size ≤ x) : ¬ A x ∧ ¬ B x ∧ ¬ C x ∧ ¬ D x :=
  ⟨fun q => by have := (h.ra.lt x q).2; omega, fun q => by have := (h.rb.lt x q).2; omega, fun q => by have := (h.bc.lt.1 x q).2; omega, fun q => by have := (h.bd.lt.1 x q).2; omega⟩
theorem Q4.low (h : Q4 w0 gw go pu po l ua ub uc ud A B C D W) {x : Nat} (hx : x < w0.heap.size) : ¬ A x ∧ ¬ B x ∧ ¬ C x ∧ ¬ D x :=
  ⟨fun q => by have := (h.ra.lt x q).1; omega, fun q => by have := (h.rb.lt x q).1; omega, fun q => by have := (h.bc.lt.1 x q).1; omega, fun q => by have := (h.bd.lt.1 x q).1; omega⟩

theorem Q4.feedA (h : Q4 w0 gw go pu po l ua ub uc ud A B C D W) (a : Option Addr) (ca : Nat) (b : List UInt8) (ha : Cells W a b) (hc0 : a = none → ca = 0) (hca : b.length ≤ ca) (hn : b.length ≤ 140737488355328) (hap : ∀ ad, a = some ad → b ≠ [] → ad.block < w0.heap.size) :
    Calls Try.prog 20 #[.pointer (some ⟨gw, 0, none⟩), .slice a b.length ca] W fun e w' => ∃ x A', e = .returned (.tuple #[x, .bool (exV (ua, [], false) (feedX l ua b)).2.2, .int .i64 (exE (feedX l ua b))]) ∧ Owns w' w0.heap.size x (exV (ua, [], false) (feedX l ua b)).2.1 ∧
      Q4 w0 gw go pu po l (exV (ua, [], false) (feedX l ua b)).1 ub uc ud A' B C D w' ∧ (∀ y, x.ownBlock = some y → ¬ A' y ∧ ¬ B y ∧ ¬ C y ∧ ¬ D y) := by
  refine (h.ra.feed a ca b ha hc0 hca hn (fun ad e hne => (h.low (hap ad e hne)).1)).mono ?_
  rintro e w' ⟨x, A', rfl, h1, h2, h3, h4, h5⟩
  have key : ∀ y, (A y ∨ W.heap.size ≤ y) → ¬ B y ∧ ¬ C y ∧ ¬ D y := fun y q => q.elim (fun q => ⟨h.ab y q, h.ac y q, h.ad y q⟩) (fun q => (h.far q).2)
  refine ⟨x, A', rfl, h1, ⟨h2, h.rb.kept h5 (fun x q r => h.ab x r q), h.bc.kept h5 (fun x q r => h.ac x r q), h.bd.kept h5 (fun x q r => h.ad x r q), fun y hy => (key y (h3 y hy)).1, fun y hy => (key y (h3 y hy)).2.1, fun y hy => (key y (h3 y hy)).2.2, h.nb, h.nd, h.cd, ?_⟩, fun y hy => ⟨(h4 y hy).1, key y (h4 y hy).2⟩⟩
  exact ((GB.non (S := A) h.up).trans h5 (fun _ _ q => q)).grown (fun x hx hS => by have := (h.ra.lt x hS).1; omega)

theorem Q4.feedB (h : Q4 w0 gw go pu po l ua ub uc ud A B C D W) (a : Option Addr) (ca : Nat) (b : List UInt8) (ha : Cells W a b) (hc0 : a = none → ca = 0) (hca : b.length ≤ ca) (hn : b.length ≤ 140737488355328) (hap : ∀ ad, a = some ad → b ≠ [] → ad.block < w0.heap.size) :
    Calls Try.prog 20 #[.pointer (some ⟨go, 0, none⟩), .slice a b.length ca] W fun e w' => ∃ x B', e = .returned (.tuple #[x, .bool (exV (ub, [], false) (feedX l ub b)).2.2, .int .i64 (exE (feedX l ub b))]) ∧ Owns w' w0.heap.size x (exV (ub, [], false) (feedX l ub b)).2.1 ∧
      Q4 w0 gw go pu po l ua (exV (ub, [], false) (feedX l ub b)).1 uc ud A B' C D w' ∧ (∀ y, x.ownBlock = some y → ¬ A y ∧ ¬ B' y ∧ ¬ C y ∧ ¬ D y) := by
  refine (h.rb.feed a ca b ha hc0 hca hn (fun ad e hne => (h.low (hap ad e hne)).2.1)).mono ?_
  rintro e w' ⟨x, B', rfl, h1, h2, h3, h4, h5⟩
  have key : ∀ y, (B y ∨ W.heap.size ≤ y) → ¬ A y ∧ ¬ C y ∧ ¬ D y := fun y q => q.elim (fun q => ⟨fun r => h.ab y r q, h.nb y q, h.nd y q⟩) (fun q => ⟨(h.far q).1, (h.far q).2.2⟩)
  refine ⟨x, B', rfl, h1, ⟨h.ra.kept h5 (fun x q r => h.ab x q r), h2, h.bc.kept h5 (fun x q r => h.nb x r q), h.bd.kept h5 (fun x q r => h.nd x r q), fun y hy r => (key y (h3 y r)).1 hy, h.ac, h.ad, fun y hy => (key y (h3 y hy)).2.1, fun y hy => (key y (h3 y hy)).2.2, h.cd, ?_⟩, fun y hy => ⟨(key y (h4 y hy).2).1, (h4 y hy).1, (key y (h4 y hy).2).2⟩⟩
  exact ((GB.non (S := B) h.up).trans h5 (fun _ _ q => q)).grown (fun x hx hS => by have := (h.rb.lt x hS).1; omega)

/-- The program's own bundle is fed with bytes that are none of theirs; what else is none of its blocks stays. -/
theorem Q4.feedC (h : Q4 w0 gw go pu po l ua ub uc ud A B C D W) (a : Option Addr) (ca : Nat) (b : List UInt8) (ha : Cells W a b) (hc0 : a = none → ca = 0) (hca : b.length ≤ ca) (hn : b.length ≤ 140737488355328) (hap : ∀ ad, a = some ad → b ≠ [] → ¬ C ad.block) :
    Calls Try.prog 21 #[pu, .slice a b.length ca] W fun e w' => ∃ x C', e = .returned (.tuple #[x, .bool (exV (uc, [], false) (feedX l uc b)).2.2, .int .i64 (exE (feedX l uc b))]) ∧ Owns w' W.heap.size x (exV (uc, [], false) (feedX l uc b)).2.1 ∧
      Q4 w0 gw go pu po l ua ub (exV (uc, [], false) (feedX l uc b)).1 ud A B C' D w' ∧ (∀ y, x.ownBlock = some y → ¬ A y ∧ ¬ B y ∧ ¬ C' y ∧ ¬ D y) ∧ (∀ y, C' y → C y ∨ W.heap.size ≤ y) ∧ GB W w' C := by
  refine (feed_any _ pu l uc C a ca b W h.bc ha hc0 hca hn hap).mono ?_
  rintro e w' ⟨x, C', rfl, h1, h2, h3, h4, h5⟩
  have key : ∀ y, (C y ∨ W.heap.size ≤ y) → ¬ A y ∧ ¬ B y ∧ ¬ D y := fun y q => q.elim (fun q => ⟨fun r => h.ac y r q, fun r => h.nb y r q, h.cd y q⟩) (fun q => ⟨(h.far q).1, (h.far q).2.1, (h.far q).2.2.2⟩)
  refine ⟨x, C', rfl, h1, ⟨h.ra.kept h5 (fun x q r => h.ac x q r), h.rb.kept h5 (fun x q r => h.nb x q r), h2, h.bd.kept h5 (fun x q r => h.cd x r q), h.ab, fun y hy r => (key y (h3 y r)).1 hy, h.ad, fun y hy r => (key y (h3 y r)).2.1 hy, h.nd, fun y hy => (key y (h3 y hy)).2.2, ?_⟩, fun y hy => ?_, h3, h5⟩
  · exact ((GB.non (S := C) h.up).trans h5 (fun _ _ q => q)).grown (fun x hx hS => by have := (h.bc.lt.1 x hS).1; omega)
  · have q := key y (.inr (World.ownsRow.lt h1 y hy).1)
    exact ⟨q.1, q.2.1, h4 y hy, q.2.2⟩
theorem Q4.feedD (h : Q4 w0 gw go pu po l ua ub uc ud A B C D W) (a : Option Addr) (ca : Nat) (b : List UInt8) (ha : Cells W a b) (hc0 : a = none → ca = 0) (hca : b.length ≤ ca) (hn : b.length ≤ 140737488355328) (hap : ∀ ad, a = some ad → b ≠ [] → ¬ D ad.block) :
    Calls Try.prog 21 #[po, .slice a b.length ca] W fun e w' => ∃ x D', e = .returned (.tuple #[x, .bool (exV (ud, [], false) (feedX l ud b)).2.2, .int .i64 (exE (feedX l ud b))]) ∧ Owns w' W.heap.size x (exV (ud, [], false) (feedX l ud b)).2.1 ∧
      Q4 w0 gw go pu po l ua ub uc (exV (ud, [], false) (feedX l ud b)).1 A B C D' w' ∧ GB W w' D := by
  refine (feed_any _ po l ud D a ca b W h.bd ha hc0 hca hn hap).mono ?_
  rintro e w' ⟨x, D', rfl, h1, h2, h3, h4, h5⟩
  have key : ∀ y, (D y ∨ W.heap.size ≤ y) → ¬ A y ∧ ¬ B y ∧ ¬ C y := fun y q => q.elim (fun q => ⟨fun r => h.ad y r q, fun r => h.nd y r q, fun r => h.cd y r q⟩) (fun q => ⟨(h.far q).1, (h.far q).2.1, (h.far q).2.2.1⟩)
  refine ⟨x, D', rfl, h1, ⟨h.ra.kept h5 (fun x q r => h.ad x q r), h.rb.kept h5 (fun x q r => h.nd x q r), h.bc.kept h5 (fun x q r => h.cd x q r), h2, h.ab, h.ac, fun y hy r => (key y (h3 y r)).1 hy, h.nb, fun y hy r => (key y (h3 y r)).2.1 hy, fun y hy r => (key y (h3 y r)).2.2 hy, ?_⟩, h5⟩
  exact ((GB.non (S := D) h.up).trans h5 (fun _ _ q => q)).grown (fun x hx hS => by have := (h.bd.lt.1 x hS).1; omega)
theorem Q4.waits (h : Q4 w0 gw go pu po l ua ub uc ud A B C D W) :
    Calls Try.prog 22 #[pu] W fun e w' => e = .returned (.tuple #[.int .u32 (uc.nxt : Int), .int .i64 (uc.has.length : Int)]) ∧ ∃ n, w' = W.drewN n := waits_any _ pu l uc C W h.bc
end

end Go.Proofs.Ytgfiadljjlajaaa
