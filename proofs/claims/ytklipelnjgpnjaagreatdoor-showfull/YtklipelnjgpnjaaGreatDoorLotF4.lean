import Derived.Test.YtklipelnjgpnjaaGreatDoorLotF1
import Derived.RangeFuncNested
import Derived.RangeFuncBound
import Derived.RangeFuncCalls
import Derived.RangeFuncLeaves
import Derived.RangeFuncBox
import Derived.Shelf.Abstract
import Derived.Shelf.RegionOpen
import Derived.WalkKit
import Derived.OwnWalkIn
import Derived.TacticsInMore
import Derived.LoopNIn
import Derived.LoopIn
import Derived.Test.YtklipelnjgpnjaaGreatDoorLotF3
import Derived.Test.YtklipelnjgpnjaaGreatDoorLotF2
namespace Go.Proofs.YtklipelnjgpnjaaGreatDoor
open Go.RowKit
set_option maxRecDepth 100000
set_option maxHeartbeats 400000 in
theorem holds_any (a : Option Addr) (ca n : Nat) (p s : Int) (w : World) (hn : n ≤ 140737488355328) :
  Calls Tryz.prog 218 #[.slice a n ca, .int .i64 p, .int .i64 s] w fun e w' => e = .returned (.bool (okB n p s)) ∧ w = w' := by
 by_cases h : s = 1 ∨ s = 2 ∨ s = 4
 ·rcases h with rfl | rfl | rfl
  all_goals
   go_enter Tryz.func218, Tryz.ntmps218
   go_wp2
   ·go_ret
    exact ⟨ret_bool (okB_of (by omega)), rfl⟩
   ·go_ret
    exact ⟨ret_bool (okB_no (by omega)), rfl⟩
 ·have h1 : (s != 1) = true := by rw [bne_iff_ne]; omega
  have h2 : (s != 2) = true := by rw [bne_iff_ne]; omega
  have h3 : (s != 4) = true := by rw [bne_iff_ne]; omega
  go_enter Tryz.func218, Tryz.ntmps218
  go_wp2
  go_ret
  exact ⟨ret_bool (okB_no (by omega)), rfl⟩
set_option maxHeartbeats 400000 in
theorem get_any (a : Option Addr) (ca : Nat) (xs : List UInt8) (p s : Int) (w : World) (ha : Cells w a xs) (hn : xs.length ≤ 140737488355328) :
  Calls Tryz.prog 214 #[.slice a xs.length ca, .int .i64 p, .int .i64 s] w fun e w' => e = .returned (.tuple #[.int .u32 (getV xs p s), .bool (okB xs.length p s)]) ∧ w = w' := by
 cases hok : okB xs.length p s with
 | false =>
  go_enter Tryz.func214, Tryz.ntmps214
  go_wp2_with (go_at_call 218; refine (holds_any a ca xs.length p s _ hn).mono ?_; rintro e w' ⟨rfl, rfl⟩)
  go_ret2
  simp [getV, hok]
 | true =>
  have hy := okB_yes hok
  obtain ⟨P, rfl⟩ := Int.eq_ofNat_of_zero_le hy.2.1
  obtain ⟨S, rfl⟩ : ∃ S : Nat, s = S := ⟨s.toNat, by omega⟩
  have hS : S = 1 ∨ S = 2 ∨ S = 4 := by omega
  have hP : P + S ≤ xs.length := by omega
  clear hy
  go_enter Tryz.func214, Tryz.ntmps214
  go_wp2_with (go_at_call 218; refine (holds_any a ca xs.length P S _ hn).mono ?_; rintro e w' ⟨rfl, rfl⟩)
  go_loop [8, 16, 9] (fun v i _ => ∃ k : Nat, k ≤ S ∧ i = .int .i64 k ∧ v = .int .u32 (numAt xs P k)) (fun _ i _ => S - (intOf i).toNat)
  case atStart => exact ⟨0, Nat.zero_le _, rfl, rfl⟩
  case round =>
   obtain ⟨k, hk, rfl, rfl⟩ := hrel
   by_cases hlt : k < S
   ·obtain ⟨b, o, rfl, h1⟩ := ha.addr (k := P + k) (by omega)
    have c1 := h1 (P + k) (by omega)
    clear ha h1
    go_wp2
    go_round
    case rel => exact ⟨k + 1, by omega, by go_num, numAt_step xs P k (by omega) (by omega)⟩
    case measure => simp [intOf]; omega
   ·obtain rfl : k = S := by omega
    go_wp2
    go_ret2
    simp [getV, hok]

open Go.RowKit Go.Shelf

attribute [local go_sem] Oper.semAt_some
def Kp (n : Nat) (S : Nat → Prop) (W W' : World) : Prop := Below n W W' ∧ ∀ k o, S k → W.heap[k]? = some o → o.isCells = true → W'.heap[k]? = some o
theorem Kp.refl (n : Nat) (S : Nat → Prop) (W : World) : Kp n S W W := ⟨Below.refl _ _, fun _ _ _ h _ => h⟩
theorem Kp.trans {n : Nat} {S : Nat → Prop} {A B C : World} (h : Kp n S A B) (k : Kp n S B C) : Kp n S A C := ⟨h.1.trans k.1, fun i o hi ho hc => k.2 i o hi (h.2 i o hi ho hc) hc⟩
theorem Kp.book {n : Nat} {S : Nat → Prop} {w : World} (hn : n ≤ w.heap.size) (W : World) (l : Nat) (o o' : Obj) (hl : w.heap.size ≤ l) (h : W.heap[l]? = some o) (hc : o.isCells = false) (hw : o.isWalk = false) : Kp n S W (W.putObj l o') :=
 ⟨belowK_b hn W l o o' hl h hc hw, fun k o2 _ h2 hc2 => by
  by_cases e : k = l
  ·subst e; rw [h] at h2; cases h2; rw [hc] at hc2; cases hc2
  ·exact (World.putObj_heap_other e).trans h2⟩
theorem Kp.cell {n : Nat} {S : Nat → Prop} {W W' : World} (K : Kp n S W W') {a : Addr} {v : Value} (hs : a.block < n ∨ S a.block) (h : W.cell? a = some v) : W'.cell? a = some v := by
 rcases hs with hs | hs
 ·exact (K.1.cell hs).trans h
 ·obtain ⟨o, ho, hc⟩ : ∃ o : Obj, W.heap[a.block]? = some o ∧ o.isCells = true := by
   unfold World.cell? at h
   cases ho : W.heap[a.block]? with
   | none => simp [ho] at h
   | some o => exact ⟨o, rfl, by cases o <;> simp_all [Obj.isCells]⟩
  have e := K.2 a.block o hs ho hc
  rw [cell_same a (e.trans ho.symm)]
  exact h
theorem Kp.drewN {n : Nat} {S : Nat → Prop} (W : World) (m : Nat) (hn : n ≤ W.heap.size) : Kp n S W (W.drewN m) :=
 ⟨(Below.refl _ _).grown (grown_drewN W m none) hn (by simp), fun k o _ h _ => ((grown_drewN W m none).block k (Array.getElem?_eq_some_iff.1 h).1 (by simp)).trans h⟩
theorem Kp.none {n : Nat} {S : Nat → Prop} {W W' : World} (G : W.grownBy W' none) (hn : n ≤ W.heap.size) : Kp n S W W' :=
 ⟨(Below.refl _ _).grown G hn (by simp), fun k o _ h _ => (G.block k (Array.getElem?_eq_some_iff.1 h).1 (by simp)).trans h⟩
abbrev encP (p : Nat × List UInt8) : Array Value := #[.int .i64 (p.1 : Int), str p.2]

open Go.RowKit Go.Shelf

attribute [local go_sem] Oper.semAt_some
theorem box_keep {X Y : World} {row : Option Nat} {B : Nat} {t : TypeId} {v : Value} (h : Boxed X B t v) (hg : X.grownBy Y row) (hr : ∀ r, row = some r → ∃ o : Obj, X.heap[r]? = some o ∧ o.isCells = false) : Boxed Y B t v :=
 h.kept hg (fun e => by
  obtain ⟨o, ho, hc⟩ := hr B e.symm
  unfold Boxed at h
  rw [h] at ho
  cases ho
  cases hc)
def goodP (pre : List (Nat × List UInt8)) : Prop := ∀ p ∈ pre, (numberV 255 p.2).isSome = true ∧ p.1 < 4
theorem box_away {W : World} {B b i : Nat} {t : TypeId} {v : Value} (u : Value) (h : Boxed W B t v) (hb : B ≠ b) : Boxed (W.setCell ⟨b, i, none⟩ u) B t v := by
 unfold Boxed at *
 rw [heap_setCell_other _ _ _ _ hb]
 exact h
theorem hnew (W : World) (o : Obj) (k : Nat) (h : W.heap.size = k) : (W.alloc o).heap[k]? = some o := by subst h; exact heap_alloc_new W o
theorem hkeep {W : World} {k : Nat} {o : Obj} (h : W.heap[k]? = some o) (o' : Obj) : (W.alloc o').heap[k]? = some o :=
 (by show (W.heap.push o')[k]? = some o; rw [Array.getElem?_push, if_neg (Nat.ne_of_lt (Array.getElem?_eq_some_iff.1 h).1)]; exact h)
theorem below_of {w W : World} (G : w.grownBy W none) : Below w.heap.size w W := (Below.refl _ _).grown G (Nat.le_refl _) (by simp)
theorem grown_of {w W : World} (h : Below w.heap.size w W) : w.grownBy W none := ⟨h.os, h.tape, h.output, h.size, fun k hk _ => h.block k hk⟩
def X4 (w : World) (R E : Nat) (c : Code) (pre : List (Nat × List UInt8)) (W : World) : Prop :=
 (c = .ret ∧ ¬ goodP pre ∧ AAt W R 114 (List.replicate 4 0) ∧ Boxed W E 23 (.int .i64 60)) ∧ Below w.heap.size w W
theorem z4 {X : World} {R : Nat} (j : Nat) (h : AAt X R 114 (List.replicate 4 0)) : AAt (X.setCell ⟨R, j, none⟩ (.int .u8 0)) R 114 (List.replicate 4 0) := by
 have := h.set j 0 (by decide)
 rw [show UInt8.ofNat 0 = 0 from rfl, List.set_replicate_self] at this
 exact this
theorem numF_mem {α : Type} {i : Nat} {l : List α} {p : Nat × α} (h : p ∈ numF i l) : p.1 < i + l.length ∧ p.2 ∈ l := by
 induction l generalizing i with
 | nil => cases h
 | cons x r ih =>
  rw [numF] at h
  rcases List.mem_cons.1 h with rfl | h
  ·simp
  ·have := ih h
   refine ⟨by simp only [List.length_cons]; omega, List.mem_cons_of_mem _ this.2⟩
end Go.Proofs.YtklipelnjgpnjaaGreatDoor
