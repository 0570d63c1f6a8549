/-
  What a call leaves that may write several blocks.
-/
import Derived.Test.YtgfiadljjlajaaaBase
import Derived.Test.YtgfiadljjlajaaaFrameQ
namespace Go.Proofs.Ytgfiadljjlajaaa
open Go.RowKit
set_option maxRecDepth 100000

/-- Nothing is written but new memory, and the blocks of S. -/
structure GB (w w' : World) (S : Nat → Prop) : Prop where
  os : w'.os = w.os
  tape : w'.tape = w.tape
  output : w'.output = w.output
  size : w.heap.size ≤ w'.heap.size
  block : ∀ i, i < w.heap.size → ¬ S i → w'.heap[i]? = w.heap[i]?

theorem GB.of {w w' : World} {row : Option Nat} {S : Nat → Prop} (h : w.grownBy w' row) (hs : ∀ x, row = some x → S x) : GB w w' S :=
  ⟨h.os, h.tape, h.output, h.size, fun i hi hn => h.block i hi (fun e => hn (hs i e.symm))⟩
theorem GB.non {w w' : World} {S : Nat → Prop} (h : w.grownBy w' none) : GB w w' S := GB.of h (fun x hx => by cases hx)
theorem GB.refl (w : World) (S : Nat → Prop) : GB w w S := ⟨rfl, rfl, rfl, Nat.le_refl _, fun _ _ _ => rfl⟩
theorem GB.trans {w w1 w2 : World} {S S' : Nat → Prop} (h : GB w w1 S) (k : GB w1 w2 S') (hs : ∀ x, x < w.heap.size → S' x → S x) : GB w w2 S :=
  ⟨k.os.trans h.os, k.tape.trans h.tape, k.output.trans h.output, Nat.le_trans h.size k.size, fun i hi hn => (k.block i (Nat.lt_of_lt_of_le hi h.size) (fun e => hn (hs i hi e))).trans (h.block i hi hn)⟩
theorem GB.mono {w w' : World} {S S' : Nat → Prop} (h : GB w w' S) (hs : ∀ x, S x → S' x) : GB w w' S' := ⟨h.os, h.tape, h.output, h.size, fun i hi hn => h.block i hi (fun e => hn (hs i e))⟩
/-- Where S lies in new memory alone. -/
theorem GB.grown {w w' : World} {S : Nat → Prop} (h : GB w w' S) (hs : ∀ x, x < w.heap.size → ¬ S x) : w.grownBy w' none := ⟨h.os, h.tape, h.output, h.size, fun i hi _ => h.block i hi (hs i hi)⟩
theorem GB.one {w w' : World} {S : Nat → Prop} {g : Nat} (h : GB w w' S) (hs : ∀ x, x < w.heap.size → S x → x = g) : w.grownBy w' (some g) := ⟨h.os, h.tape, h.output, h.size, fun i hi hn => h.block i hi (fun e => hn (congrArg some (hs i hi e)))⟩

theorem GB.vat {w w' : World} {S : Nat → Prop} {g t : Nat} {cs : Array Value} (h : GB w w' S) (A : VAt w g t cs) (hg : ¬ S g) : VAt w' g t cs := by
  have := h.block g A.lt hg
  unfold VAt at *
  rw [this, A]
theorem GB.owns {w w' : World} {S : Nat → Prop} {base e size n : Nat} {v : Value} {vs : List Value} (h : GB w w' S) (O : w.ownsRow base e size v n vs) (hv : ∀ x, v.ownBlock = some x → ¬ S x) : w'.ownsRow base e size v n vs := by
  refine ⟨O.1, ?_⟩
  rcases O.2 with h0 | ⟨g, cap, cur, hv', hb, hg, r⟩
  · exact .inl h0
  · right
    refine ⟨g, cap, cur, hv', hb, ?_, r⟩
    have hlt : g < w.heap.size := by
      by_cases hh : g < w.heap.size
      · exact hh
      · rw [Array.getElem?_eq_none (by omega)] at hg; cases hg
    rw [h.block g hlt (hv g (by rw [hv']; rfl)), hg]
theorem GB.cell {w w' : World} {S : Nat → Prop} {ad : Addr} {v : Value} (h : GB w w' S) (hc : w.cell? ad = some v) (ha : ¬ S ad.block) (hlt : ad.block < w.heap.size) : w'.cell? ad = some v := by
  have := h.block ad.block hlt ha
  unfold World.cell? at *
  rw [this]
  exact hc
theorem GB.cells {w w' : World} {S : Nat → Prop} {ao : Option Addr} {xs : List UInt8} (h : GB w w' S) (hc : Cells w ao xs) (ha : ∀ ad, ao = some ad → xs ≠ [] → ¬ S ad.block) : Cells w' ao xs := by
  have hu := hc.under
  refine hc.same fun b off i hb hi => ?_
  have hne : xs ≠ [] := by
    intro e
    rw [e] at hi
    simp at hi
  have h1 := ha _ hb hne
  have h2 := hu _ hb hne
  have := h.block b h2 h1
  unfold World.cell?
  simp only [this]

end Go.Proofs.Ytgfiadljjlajaaa
