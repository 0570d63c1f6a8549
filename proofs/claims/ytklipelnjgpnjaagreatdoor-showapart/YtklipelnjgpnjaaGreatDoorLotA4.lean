import Derived.RangeFuncNested
import Derived.RangeFuncBound
import Derived.RangeFuncCalls
import Derived.RangeFuncLeaves
import Derived.RangeFuncBox
import Derived.Shelf.Abstract
import Derived.Shelf.RegionOpen
import Derived.WalkKit
import Derived.OwnWalkIn
import Derived.TacticsInMore
import Derived.LoopNIn
import Derived.LoopIn
import Derived.Test.YtklipelnjgpnjaaGreatDoorLotA3
import Derived.Test.YtklipelnjgpnjaaGreatDoorLotA2
namespace Go.Proofs.YtklipelnjgpnjaaGreatDoor
open Go.RowKit Go.Shelf
set_option maxRecDepth 100000

attribute [local go_sem] Oper.semAt_some
def Kp (n : Nat) (S : Nat → Prop) (W W' : World) : Prop := Below n W W' ∧ ∀ k o, S k → W.heap[k]? = some o → o.isCells = true → W'.heap[k]? = some o
theorem Kp.refl (n : Nat) (S : Nat → Prop) (W : World) : Kp n S W W := ⟨Below.refl _ _, fun _ _ _ h _ => h⟩
theorem Kp.trans {n : Nat} {S : Nat → Prop} {A B C : World} (h : Kp n S A B) (k : Kp n S B C) : Kp n S A C := ⟨h.1.trans k.1, fun i o hi ho hc => k.2 i o hi (h.2 i o hi ho hc) hc⟩
theorem Kp.book {n : Nat} {S : Nat → Prop} {w : World} (hn : n ≤ w.heap.size) (W : World) (l : Nat) (o o' : Obj) (hl : w.heap.size ≤ l) (h : W.heap[l]? = some o) (hc : o.isCells = false) (hw : o.isWalk = false) : Kp n S W (W.putObj l o') :=
 ⟨belowK_b hn W l o o' hl h hc hw, fun k o2 _ h2 hc2 => by
  by_cases e : k = l
  ·subst e; rw [h] at h2; cases h2; rw [hc] at hc2; cases hc2
  ·exact (World.putObj_heap_other e).trans h2⟩
theorem Kp.cell {n : Nat} {S : Nat → Prop} {W W' : World} (K : Kp n S W W') {a : Addr} {v : Value} (hs : a.block < n ∨ S a.block) (h : W.cell? a = some v) : W'.cell? a = some v := by
 rcases hs with hs | hs
 ·exact (K.1.cell hs).trans h
 ·obtain ⟨o, ho, hc⟩ : ∃ o : Obj, W.heap[a.block]? = some o ∧ o.isCells = true := by
   unfold World.cell? at h
   cases ho : W.heap[a.block]? with
   | none => simp [ho] at h
   | some o => exact ⟨o, rfl, by cases o <;> simp_all [Obj.isCells]⟩
  have e := K.2 a.block o hs ho hc
  rw [cell_same a (e.trans ho.symm)]
  exact h
theorem Kp.drewN {n : Nat} {S : Nat → Prop} (W : World) (m : Nat) (hn : n ≤ W.heap.size) : Kp n S W (W.drewN m) :=
 ⟨(Below.refl _ _).grown (grown_drewN W m none) hn (by simp), fun k o _ h _ => ((grown_drewN W m none).block k (Array.getElem?_eq_some_iff.1 h).1 (by simp)).trans h⟩
theorem Kp.none {n : Nat} {S : Nat → Prop} {W W' : World} (G : W.grownBy W' none) (hn : n ≤ W.heap.size) : Kp n S W W' :=
 ⟨(Below.refl _ _).grown G hn (by simp), fun k o _ h _ => (G.block k (Array.getElem?_eq_some_iff.1 h).1 (by simp)).trans h⟩
abbrev encP (p : Nat × List UInt8) : Array Value := #[.int .i64 (p.1 : Int), str p.2]

open Go.RowKit Go.Shelf

attribute [local go_sem] Oper.semAt_some
theorem box_keep {X Y : World} {row : Option Nat} {B : Nat} {t : TypeId} {v : Value} (h : Boxed X B t v) (hg : X.grownBy Y row) (hr : ∀ r, row = some r → ∃ o : Obj, X.heap[r]? = some o ∧ o.isCells = false) : Boxed Y B t v :=
 h.kept hg (fun e => by
  obtain ⟨o, ho, hc⟩ := hr B e.symm
  unfold Boxed at h
  rw [h] at ho
  cases ho
  cases hc)
def goodP (pre : List (Nat × List UInt8)) : Prop := ∀ p ∈ pre, (numberV 255 p.2).isSome = true ∧ p.1 < 4
theorem box_away {W : World} {B b i : Nat} {t : TypeId} {v : Value} (u : Value) (h : Boxed W B t v) (hb : B ≠ b) : Boxed (W.setCell ⟨b, i, none⟩ u) B t v := by
 unfold Boxed at *
 rw [heap_setCell_other _ _ _ _ hb]
 exact h
theorem hnew (W : World) (o : Obj) (k : Nat) (h : W.heap.size = k) : (W.alloc o).heap[k]? = some o := by subst h; exact heap_alloc_new W o
theorem hkeep {W : World} {k : Nat} {o : Obj} (h : W.heap[k]? = some o) (o' : Obj) : (W.alloc o').heap[k]? = some o :=
 (by show (W.heap.push o')[k]? = some o; rw [Array.getElem?_push, if_neg (Nat.ne_of_lt (Array.getElem?_eq_some_iff.1 h).1)]; exact h)
theorem below_of {w W : World} (G : w.grownBy W none) : Below w.heap.size w W := (Below.refl _ _).grown G (Nat.le_refl _) (by simp)
theorem grown_of {w W : World} (h : Below w.heap.size w W) : w.grownBy W none := ⟨h.os, h.tape, h.output, h.size, fun k hk _ => h.block k hk⟩
def X4 (w : World) (R E : Nat) (c : Code) (pre : List (Nat × List UInt8)) (W : World) : Prop :=
 (c = .ret ∧ ¬ goodP pre ∧ AAt W R 114 (List.replicate 4 0) ∧ Boxed W E 23 (.int .i64 60)) ∧ Below w.heap.size w W
theorem z4 {X : World} {R : Nat} (j : Nat) (h : AAt X R 114 (List.replicate 4 0)) : AAt (X.setCell ⟨R, j, none⟩ (.int .u8 0)) R 114 (List.replicate 4 0) := by
 have := h.set j 0 (by decide)
 rw [show UInt8.ofNat 0 = 0 from rfl, List.set_replicate_self] at this
 exact this
theorem numF_mem {α : Type} {i : Nat} {l : List α} {p : Nat × α} (h : p ∈ numF i l) : p.1 < i + l.length ∧ p.2 ∈ l := by
 induction l generalizing i with
 | nil => cases h
 | cons x r ih =>
  rw [numF] at h
  rcases List.mem_cons.1 h with rfl | h
  ·simp
  ·have := ih h
   refine ⟨by simp only [List.length_cons]; omega, List.mem_cons_of_mem _ this.2⟩
end Go.Proofs.YtklipelnjgpnjaaGreatDoor
