/-
  The landed Parse: what is caught.
-/
import Derived.Test.YtbdmpjnlgdahmaaGreatDoorPsP
import Derived.Defers
import Derived.Recover
namespace Go.Proofs.YtbdmpjnlgdahmaaGreatDoor
open Go.RowKit
set_option maxRecDepth 100000

def nilV : Value := .slice none 0 0
/-- The four results' blocks. -/
structure Res (w : World) (R : Nat) (a b d e : Value) : Prop where
  t : VAt w R 22 #[a]
  p : VAt w (R + 1) 23 #[b]
  n : VAt w (R + 2) 3 #[d]
  x : VAt w (R + 3) 24 #[e]
theorem Res.keep {w w' : World} {R : Nat} {a b d e : Value} (h : Res w R a b d e) (G : w.grownBy w' none) : Res w' R a b d e := ⟨h.t.kept G, h.p.kept G, h.n.kept G, h.x.kept G⟩
theorem Res.gb {w w' : World} {R : Nat} {a b d e : Value} {S : Nat → Prop} (h : Res w R a b d e) (G : GB w w' S) (hS : ∀ x, S x → x < R ∨ R + 3 < x) : Res w' R a b d e :=
  ⟨G.vat h.t (fun e => by have := hS _ e; omega), G.vat h.p (fun e => by have := hS _ e; omega), G.vat h.n (fun e => by have := hS _ e; omega), G.vat h.x (fun e => by have := hS _ e; omega)⟩
def R4 (R x : Nat) : Prop := R ≤ x ∧ x ≤ R + 3
theorem Res.set {w : World} {R : Nat} {a b d e : Value} (h : Res w R a b d e) (a' b' d' e' : Value) :
    Res ((((w.setCell ⟨R, 0, none⟩ a').setCell ⟨R + 1, 0, none⟩ b').setCell ⟨R + 2, 0, none⟩ d').setCell ⟨R + 3, 0, none⟩ e') R a' b' d' e' ∧ GB w ((((w.setCell ⟨R, 0, none⟩ a').setCell ⟨R + 1, 0, none⟩ b').setCell ⟨R + 2, 0, none⟩ d').setCell ⟨R + 3, 0, none⟩ e') (R4 R) := by
  have t1 := h.t.set 0 a'
  have p2 := (h.p.setOther (k := R) (i := 0) a' (by omega)).set 0 b'
  have t2 := t1.setOther (k := R + 1) (i := 0) b' (by omega)
  have n3 := ((h.n.setOther (k := R) (i := 0) a' (by omega)).setOther (k := R + 1) (i := 0) b' (by omega)).set 0 d'
  have x4 := (((h.x.setOther (k := R) (i := 0) a' (by omega)).setOther (k := R + 1) (i := 0) b' (by omega)).setOther (k := R + 2) (i := 0) d' (by omega)).set 0 e'
  refine ⟨⟨(t2.setOther d' (by omega)).setOther e' (by omega), (p2.setOther d' (by omega)).setOther e' (by omega), n3.setOther e' (by omega), x4⟩, ?_⟩
  have g : ∀ (W : World) (k : Nat) (v : Value), R ≤ k → k ≤ R + 3 → GB W (W.setCell ⟨k, 0, none⟩ v) (R4 R) := fun W k v h1 h2 => GB.of (grown_set W k 0 v) (fun x hx => by cases hx; exact ⟨h1, h2⟩)
  exact ((((g w R a' (by omega) (by omega)).trans (g _ (R + 1) b' (by omega) (by omega)) (fun _ _ h => h)).trans (g _ (R + 2) d' (by omega) (by omega)) (fun _ _ h => h)).trans (g _ (R + 3) e' (by omega) (by omega)) (fun _ _ h => h))

set_option maxHeartbeats 4000000 in
theorem pcatch_pan (R : Nat) (er : Er) (a b d e0 : Value) (w : World) (h : Res w R a b d e0) :
    CallsD Tryz.prog 27 #[.pointer (some ⟨R, 0, none⟩), .pointer (some ⟨R + 1, 0, none⟩), .pointer (some ⟨R + 2, 0, none⟩), .pointer (some ⟨R + 3, 0, none⟩)] (.panicking (PanS er)) w fun e u' w' =>
      e = .returned (.tuple #[]) ∧ u' = .panicking [{ v := .iface 60 (.agg #[.int .i64 (er.1 : Int), .int .i64 er.2]), recovered := true }] ∧ Res w' R nilV nilV (.int .i64 (er.1 : Int)) (.int .i64 er.2) ∧ GB w w' (R4 R) := by
  obtain ⟨ep, ex⟩ := er
  have hta : ∀ W : World, (Instr.typeAssert (.iface 60 (.agg #[.int .i64 (ep : Int), .int .i64 ex])) 20 60 true).run Tryz.prog W = .ok (.tuple #[.agg #[.int .i64 (ep : Int), .int .i64 ex], .bool true]) W := fun W => by kernel_rfl
  refine callsD_of_wpS Tryz.func27 rfl fun c₀ cs hu => ?_
  unfold PanS at hu
  apply wpS_seq
  apply wpS_region
  simp [wpOpsS, go_sem, recoverD, hu, hta, Tryz.ntmps27, Exit.thenS]
  refine wpS_of_wp ?_
  have K1 := World.grownBy_alloc w (.cells #[.int .i64 (ep : Int), .int .i64 ex] 60) none
  have B1 := VAt.alloc w 60 #[.int .i64 (ep : Int), .int .i64 ex]
  have H1 := h.keep K1
  have HL : Hid (R + 3 < w.heap.size) := h.x.lt
  clear hta h
  obtain ⟨T, hT⟩ : ∃ T, Tryz.f27 = T := ⟨_, rfl⟩
  have HT : Hid (T.results = #[]) := by show T.results = #[]; rw [← hT]; rfl
  rw [hT]
  clear hT
  have eT : (#[.pointer (some ⟨R, 0, none⟩), .pointer (some ⟨R + 1, 0, none⟩), .pointer (some ⟨R + 2, 0, none⟩), .pointer (some ⟨R + 3, 0, none⟩)] ++ (((((((Array.replicate 12 undef).setIfInBounds 3 (.iface 60 (.agg #[.int .i64 (ep : Int), .int .i64 ex]))).setIfInBounds 4 (.tuple #[.agg #[.int .i64 (ep : Int), .int .i64 ex], .bool true])).setIfInBounds 2 (.tuple #[.agg #[.int .i64 (ep : Int), .int .i64 ex], .bool true])).setIfInBounds 5 (.agg #[.int .i64 (ep : Int), .int .i64 ex])).setIfInBounds 6 (.bool true)).setIfInBounds 0 (.pointer (some ⟨w.heap.size, 0, none⟩))).setIfInBounds 1 (.bool true) : Array Value) =
    #[.pointer (some ⟨R, 0, none⟩), .pointer (some ⟨R + 1, 0, none⟩), .pointer (some ⟨R + 2, 0, none⟩), .pointer (some ⟨R + 3, 0, none⟩), .pointer (some ⟨w.heap.size, 0, none⟩), .bool true, .tuple #[.agg #[.int .i64 (ep : Int), .int .i64 ex], .bool true], .iface 60 (.agg #[.int .i64 (ep : Int), .int .i64 ex]), .tuple #[.agg #[.int .i64 (ep : Int), .int .i64 ex], .bool true], .agg #[.int .i64 (ep : Int), .int .i64 ex], .bool true, undef, undef, undef, undef, undef] := by kernel_rfl
  rw [eT]
  clear eT
  generalize w.alloc (.cells #[.int .i64 (ep : Int), .int .i64 ex] 60) = w1 at *
  generalize w.heap.size = V at *
  have b0 : w1.cell? ⟨V, 0, none⟩ = some (.int .i64 (ep : Int)) := B1.cell 0
  have b1 : w1.cell? ⟨V, 1, none⟩ = some (.int .i64 ex) := B1.cell 1
  have r0 : w1.cell? ⟨R, 0, none⟩ = some a := H1.t.cell 0
  have r1 : w1.cell? ⟨R + 1, 0, none⟩ = some b := H1.p.cell 0
  have r2 : w1.cell? ⟨R + 2, 0, none⟩ = some d := H1.n.cell 0
  have r3 : w1.cell? ⟨R + 3, 0, none⟩ = some e0 := H1.x.cell 0
  have f0 := H1.t.free 0
  have f1 := H1.p.free 0
  have f2 := H1.n.free 0
  have f3 := H1.x.free 0
  have HQ : Hid (Res w1 R a b d e0 ∧ w.grownBy w1 none) := ⟨H1, K1⟩
  have n0 : ¬ R = V := fun e => by have := HL.out; omega
  have n1 : ¬ R + 1 = V := fun e => by have := HL.out; omega
  have n2 : ¬ R + 2 = V := fun e => by have := HL.out; omega
  have n3 : ¬ R + 3 = V := fun e => by have := HL.out; omega
  clear K1 B1 H1
  go_wp2
  go_region
  go_wp2
  obtain ⟨h1, h2⟩ := HQ.out.1.set nilV nilV (.int .i64 (ep : Int)) (.int .i64 ex)
  exact ⟨rfl, _, rfl, _, results_none HT.out _ _ _, rfl, rfl, h1.keep (grown_drewN _ 1 none), ((GB.non HQ.out.2).trans h2 (fun _ _ h => h)).trans (GB.non (S := R4 R) (grown_drewN _ 1 none)) (fun _ _ h => h)⟩

set_option maxHeartbeats 4000000 in
theorem pcatch_idle (R : Nat) (a b d e0 : Value) (w : World) (h : Res w R a b d e0) :
    CallsD Tryz.prog 27 #[.pointer (some ⟨R, 0, none⟩), .pointer (some ⟨R + 1, 0, none⟩), .pointer (some ⟨R + 2, 0, none⟩), .pointer (some ⟨R + 3, 0, none⟩)] .returning w fun e u' w' => e = .returned (.tuple #[]) ∧ u' = .returning ∧ Res w' R a b d e0 ∧ w.grownBy w' none := by
  have hta : ∀ W : World, (Instr.typeAssert .nilIface 20 60 true).run Tryz.prog W = .ok (.tuple #[.agg #[.int .i64 0, .int .i64 0], .bool false]) W := fun W => by kernel_rfl
  refine callsD_of_wpS Tryz.func27 rfl fun c₀ cs hu => ?_
  apply wpS_seq
  apply wpS_region
  simp [wpOpsS, go_sem, recoverD, hu, hta, Tryz.ntmps27, Exit.thenS]
  refine wpS_of_wp ?_
  have K1 := World.grownBy_alloc w (.cells #[.int .i64 0, .int .i64 0] 60) none
  have HQ : Hid (Res (w.alloc (.cells #[.int .i64 0, .int .i64 0] 60)) R a b d e0 ∧ w.grownBy (w.alloc (.cells #[.int .i64 0, .int .i64 0] 60)) none) := ⟨h.keep K1, K1⟩
  clear hta h K1
  obtain ⟨T, hT⟩ : ∃ T, Tryz.f27 = T := ⟨_, rfl⟩
  have HT : Hid (T.results = #[]) := by show T.results = #[]; rw [← hT]; rfl
  rw [hT]
  clear hT
  have eT : (#[.pointer (some ⟨R, 0, none⟩), .pointer (some ⟨R + 1, 0, none⟩), .pointer (some ⟨R + 2, 0, none⟩), .pointer (some ⟨R + 3, 0, none⟩)] ++ (((((((Array.replicate 12 undef).setIfInBounds 3 .nilIface).setIfInBounds 4 (.tuple #[.agg #[.int .i64 0, .int .i64 0], .bool false])).setIfInBounds 2 (.tuple #[.agg #[.int .i64 0, .int .i64 0], .bool false])).setIfInBounds 5 (.agg #[.int .i64 0, .int .i64 0])).setIfInBounds 6 (.bool false)).setIfInBounds 0 (.pointer (some ⟨w.heap.size, 0, none⟩))).setIfInBounds 1 (.bool false) : Array Value) =
    #[.pointer (some ⟨R, 0, none⟩), .pointer (some ⟨R + 1, 0, none⟩), .pointer (some ⟨R + 2, 0, none⟩), .pointer (some ⟨R + 3, 0, none⟩), .pointer (some ⟨w.heap.size, 0, none⟩), .bool false, .tuple #[.agg #[.int .i64 0, .int .i64 0], .bool false], .nilIface, .tuple #[.agg #[.int .i64 0, .int .i64 0], .bool false], .agg #[.int .i64 0, .int .i64 0], .bool false, undef, undef, undef, undef, undef] := by kernel_rfl
  rw [eT]
  clear eT
  generalize w.alloc (.cells #[.int .i64 0, .int .i64 0] 60) = w1 at *
  generalize w.heap.size = V at *
  go_wp2
  exact ⟨rfl, _, by rw [← hu], _, results_none HT.out _ _ _, rfl, rfl, HQ.out.1, HQ.out.2⟩

end Go.Proofs.YtbdmpjnlgdahmaaGreatDoor
