/-
  A bundle that is alive while a statement walks: what it has; what was there ahead of it stays.
-/
import Derived.Test.YtgfiadljjlajaaaBundleC
import Derived.Test.YtgfiadljjlajaaaAwake9
namespace Go.Proofs.Ytgfiadljjlajaaa
open Go.RowKit
set_option maxRecDepth 100000

/-- A bundle made at wN; its blocks lie outside of m .. m'. -/
def BW (wN : World) (p : Value) (l : Lk) (u : Bs) (m m' : Nat) (W : World) : Prop :=
  ∃ S : Nat → Prop, BAt W wN.heap.size p l u S ∧ wN.grownBy W none ∧ ∀ y, S y → y < m ∨ m' ≤ y
theorem BW.kept {wN W W' : World} {p : Value} {l : Lk} {u : Bs} {m m' : Nat} (h : BW wN p l u m m' W) (K : W.grownBy W' none) : BW wN p l u m m' W' := by
  obtain ⟨S, h1, h2, h3⟩ := h
  exact ⟨S, h1.kept (S' := fun _ => False) (GB.non K) (fun _ _ h => h), grown_trans h2 K, h3⟩
theorem BW.ptr {wN W : World} {p : Value} {l : Lk} {u : Bs} {m m' : Nat} (h : BW wN p l u m m' W) : ∃ ad, p = .pointer (some ad) := by
  obtain ⟨S, h1, -, -⟩ := h
  exact h1.lt.2
theorem BW.up {wN W : World} {p : Value} {l : Lk} {u : Bs} {m m' : Nat} (h : BW wN p l u m m' W) : wN.grownBy W none := h.choose_spec.2.1
/-- Behind it something was made. -/
theorem BW.range {wN W W' : World} {p : Value} {l : Lk} {u : Bs} {m m' : Nat} (h : BW wN p l u m m' W) (K : W.grownBy W' none) : BW wN p l u W.heap.size W'.heap.size W' := by
  obtain ⟨S, h1, h2, h3⟩ := h
  exact ⟨S, h1.kept (S' := fun _ => False) (GB.non K) (fun _ _ h => h), grown_trans h2 K, fun y hy => .inl (h1.lt.1 y hy).2⟩
theorem BW.free {wN W : World} {p : Value} {l : Lk} {u : Bs} {m m' : Nat} (h : BW wN p l u m m' W) : BW wN p l u 0 0 W := by
  obtain ⟨S, h1, h2, h3⟩ := h
  exact ⟨S, h1, h2, fun y _ => .inr (Nat.zero_le y)⟩
/-- A new one. -/
theorem BW.new {wN W : World} {p : Value} {l : Lk} {u : Bs} {S : Nat → Prop} (h : BAt W wN.heap.size p l u S) (K : wN.grownBy W none) : BW wN p l u 0 0 W := ⟨S, h, K, fun y _ => .inr (Nat.zero_le y)⟩

/-- What lies in m .. m', or ahead of the bundle, is as it was. -/
def Rest (wN : World) (m m' : Nat) (W W' : World) : Prop := GB W W' (fun y => wN.heap.size ≤ y ∧ (y < m ∨ m' ≤ y))

theorem BW.feed0 {wN W : World} {p : Value} {l : Lk} {u : Bs} {m m' : Nat} (h : BW wN p l u m m' W) (a : Option Addr) (ca : Nat) (b : List UInt8) (ha : Cells W a b) (hc0 : a = none → ca = 0) (hca : b.length ≤ ca) (hn : b.length ≤ 140737488355328) (hm : m' ≤ W.heap.size) (hap : ∀ ad, a = some ad → b ≠ [] → m ≤ ad.block ∧ ad.block < m') :
    Calls Try.prog 21 #[p, .slice a b.length ca] W fun e w' => ∃ x, e = .returned (.tuple #[x, .bool (exV (u, [], false) (feedX l u b)).2.2, .int .i64 (exE (feedX l u b))]) ∧ Owns w' W.heap.size x (exV (u, [], false) (feedX l u b)).2.1 ∧ BW wN p l (exV (u, [], false) (feedX l u b)).1 m m' w' ∧ Rest wN m m' W w' := by
  obtain ⟨S, h1, h2, h3⟩ := h
  refine (feed_any wN.heap.size p l u S a ca b W h1 ha hc0 hca hn (fun ad had hne hs => by
    have := hap ad had hne
    have := h3 _ hs
    omega)).mono ?_
  rintro e w' ⟨x, S', rfl, O, B, hS', -, G⟩
  refine ⟨x, rfl, O, ⟨S', B, ((GB.non (S := S) h2).trans G (fun _ _ h => h)).grown (fun y hy hs => by have := (h1.lt.1 y hs).1; omega), fun y hy => ?_⟩, G.mono (fun y hy => ⟨(h1.lt.1 y hy).1, h3 y hy⟩)⟩
  rcases hS' y hy with q | q
  · exact h3 y q
  · exact .inr (by omega)

/-- Fed with a copy. -/
theorem BW.feed {wN W0 W : World} {p y : Value} {l : Lk} {u : Bs} {m m' : Nat} {b : List UInt8} (h : BW wN p l u m m' W0) (K : W0.grownBy W none) (O : Owns W W0.heap.size y b) (hn : b.length ≤ 140737488355328) :
    Calls Try.prog 21 #[p, y] W fun e w' => ∃ x, e = .returned (.tuple #[x, .bool (exV (u, [], false) (feedX l u b)).2.2, .int .i64 (exE (feedX l u b))]) ∧ Owns w' W.heap.size x (exV (u, [], false) (feedX l u b)).2.1 ∧ BW wN p l (exV (u, [], false) (feedX l u b)).1 0 0 w' := by
  obtain ⟨ao, ca, rfl, C, h1, -, h2, -⟩ := O.shape
  have h0 : ao = none → ca = 0 := by
    obtain ⟨ao', cap', e', -, -, -, h0, -⟩ := cv_of_row O
    simp only [Value.slice.injEq] at e'
    obtain ⟨rfl, -, rfl⟩ := e'
    exact h0
  refine ((h.range K).feed0 ao ca b C h0 h1 hn (Nat.le_refl _) (fun ad had _ => h2 ad had)).mono ?_
  rintro e w' ⟨x, rfl, O', B', -⟩
  exact ⟨x, rfl, O', B'.free⟩
theorem BW.feed_ok {wN W0 W : World} {p y : Value} {l : Lk} {u u' : Bs} {m m' : Nat} {b r : List UInt8} {d : Bool} (h : BW wN p l u m m' W0) (K : W0.grownBy W none) (O : Owns W W0.heap.size y b) (hn : b.length ≤ 140737488355328) (hf : feedX l u b = .ok (u', r, d)) :
    Calls Try.prog 21 #[p, y] W fun e w' => ∃ x, e = .returned (.tuple #[x, .bool d, .int .i64 0]) ∧ Owns w' W.heap.size x r ∧ BW wN p l u' 0 0 w' := by
  have k := h.feed K O hn
  rw [hf] at k
  exact k
theorem BW.feed_er {wN W0 W : World} {p y : Value} {l : Lk} {u : Bs} {m m' : Nat} {b : List UInt8} {er : Int} (h : BW wN p l u m m' W0) (K : W0.grownBy W none) (O : Owns W W0.heap.size y b) (hn : b.length ≤ 140737488355328) (hf : feedX l u b = .error er) :
    Calls Try.prog 21 #[p, y] W fun e w' => ∃ x, e = .returned (.tuple #[x, .bool false, .int .i64 er]) ∧ Owns w' W.heap.size x [] ∧ BW wN p l u 0 0 w' := by
  have k := h.feed K O hn
  rw [hf] at k
  exact k
theorem BW.waits {wN W : World} {p : Value} {l : Lk} {u : Bs} {m m' : Nat} (h : BW wN p l u m m' W) :
    Calls Try.prog 22 #[p] W fun e w' => e = .returned (.tuple #[.int .u32 (u.nxt : Int), .int .i64 (u.has.length : Int)]) ∧ BW wN p l u m m' w' ∧ W.grownBy w' none := by
  obtain ⟨S, h1, h2, h3⟩ := h
  refine (waits_any wN.heap.size p l u S W h1).mono ?_
  rintro e w' ⟨rfl, n, rfl⟩
  exact ⟨rfl, BW.kept ⟨S, h1, h2, h3⟩ (grown_drewN W n none), grown_drewN W n none⟩

end Go.Proofs.Ytgfiadljjlajaaa
