/-
  What every program answers that is one: awake of stage 11.
-/
import Derived.Test.YtbdmpjnlgdahmabGreatDoorPsR
import Derived.Deep.DeepCutAuto
namespace Go.Proofs.YtbdmpjnlgdahmabGreatDoor
open Go.RowKit
set_option maxRecDepth 100000

def wk11 : List (Nd × Nat) := [(wordN 2, 0), (wordN 5, 11), (ndK 9, 7), (ndK 7, 3)]
theorem p11a : parseV [105, 112, 32, 97, 110, 100, 32, 110, 111, 116, 32, 117, 100, 112] = .ok wk11 := by kernel_rfl
theorem p11b : parseV [105, 112, 32, 117, 100, 112] = .error (3, 111) := by kernel_rfl

theorem NOwns.nodes {w : World} {base : Nat} {v : Value} {xs : List Nd} (h : NOwns w base v xs) (hx : 0 < xs.length) : ∃ g cap, v = .slice (some ⟨g, 0, none⟩) xs.length cap ∧ ∀ i (hi : i < xs.length), w.rangeAt g (i * 24) xs[i].cells := by
  obtain ⟨g, cap, hv, -⟩ := owns_head h hx
  obtain ⟨ao, cap', hv', C, -⟩ := cv_of_row h
  rw [hv] at hv'
  simp only [Value.slice.injEq, true_and] at hv'
  obtain ⟨rfl, rfl⟩ := hv'
  refine ⟨g, cap, hv, fun i hi => ?_⟩
  obtain ⟨b, off, e, hc⟩ := C.nodes hi
  simp only [Option.some.injEq, Addr.mk.injEq] at e
  obtain ⟨rfl, rfl, -⟩ := e
  have := hc i hi
  simpa using this
theorem wpList_load_midG {P : Program} {ops : Array Oper} {rest : List Oper} {op : Oper} {a : Act} {w : World} {Q : Exit → Act → World → Prop} (hw : Region.wanted op (yielded ops a.tmps) = true) (ty : TypeId) (x : Operand) (ho : op.op = .load ty x)
    (b o : Nat) (hx : a.eval x = .pointer (some ⟨b, o, none⟩)) (cs : List Value) (d : TypeDesc) (hc : w.rangeAt b o cs)
    (hu : P.underlying ty = some d) (hd : d.isRow = true) (hi : (P.info? ty).map (·.size) = some cs.length)
    (h : wpList P ops Q rest (a.put op.dst (.agg cs.toArray)) w) : wpList P ops Q (op :: rest) a w :=
  BigFrame.wpList_want hw fun _ hK => wp_load_mid ty x ho b o hx cs d hc hu hd hi (hK _ _ h)

set_option maxHeartbeats 2000000 in
theorem awake11_any (w : World) (T : TabB w) : Calls Tryz.prog 7 #[] w fun e w' => e = .returned (.bool true) ∧ w.grownBy w' none := by
  have C1 := pparse_any ⟨#[105, 112, 32, 97, 110, 100, 32, 110, 111, 116, 32, 117, 100, 112]⟩ (by decide) w T
  rw [show sl ⟨#[105, 112, 32, 97, 110, 100, 32, 110, 111, 116, 32, 117, 100, 112]⟩ = [105, 112, 32, 97, 110, 100, 32, 110, 111, 116, 32, 117, 100, 112] from rfl, p11a] at C1
  have HC2 : Hid (∀ W, TabB W → Calls Tryz.prog 5 #[.string ⟨#[105, 112, 32, 117, 100, 112]⟩] W fun e w' => ∃ vt vp, e = .returned (.tuple #[vt, vp, .int .i64 3, .int .i64 111]) ∧ W.grownBy w' none) := fun W TW => by
    have := pparse_any ⟨#[105, 112, 32, 117, 100, 112]⟩ (by decide) W TW
    rw [show sl ⟨#[105, 112, 32, 117, 100, 112]⟩ = [105, 112, 32, 117, 100, 112] from rfl, p11b] at this
    exact this.mono fun e w' ⟨a, b, h1, _, _, h2⟩ => ⟨a, b, h1, h2⟩
  have HT : Hid (TabB w) := T
  simp only [prP, prE, prN] at C1
  clear T
  go_enter Tryz.func7, Tryz.ntmps7
  go_wp2_with fail
  refine C1.mono ?_
  rintro e w1 ⟨vt, vp, rfl, O1, Z1, G1⟩
  have C2 := HC2.out w1 (HT.out.grown G1)
  clear C1 HC2
  go_wp2_with fail
  refine C2.mono ?_
  rintro e w2 ⟨va, vb, rfl, G2⟩
  have O2 := owns_keptNone O1 G2
  have Z2 := owns_keptNone Z1 G2
  clear C2 O1 Z1
  obtain ⟨g, cap, hv, hc⟩ := NOwns.nodes O2 (by decide)
  obtain ⟨pa, pc, hp, PC, -⟩ := cv_of_row Z2
  have R0 := hc 0 (by decide)
  have R3 := hc 3 (by decide)
  subst hv hp
  have R0' : w2.rangeAt g 0 (wordN 2).cells := R0
  have k3 : w2.cell? ⟨g, 72, none⟩ = some (.int .i64 7) := R3 0 _ rfl
  have HC : Hid (CV w2 pa ([0, 11, 7, 3].map iv)) := PC
  clear R0 R3 hc O2 Z2 PC
  have HEQ := fun W => node_eq (wordN 2) W
  rw [wordN_cells] at R0' HEQ
  rw [show ((2 : Nat) : Int) = 2 from rfl] at R0' HEQ
  rw [show (wk11.map Prod.fst).length = 4 from rfl, show (wk11.map plc).length = 4 from rfl]
  have KA := World.grownBy_alloc w2 (.cells #[.int .i64 0, .int .i64 11, .int .i64 7, .int .i64 3] 3) none
  have CSI := zsame_any pa (some ⟨w2.heap.size, 0, none⟩) pc 4 [0, 11, 7, 3] (w2.alloc (.cells #[.int .i64 0, .int .i64 11, .int .i64 7, .int .i64 3] 3)) (HC.out.keptNone KA) (cv_lit w2 _ _) (by decide)
  rw [show ([0, 11, 7, 3] : List Int).length = 4 from rfl] at CSI
  have G3 := grown_trans (grown_trans G1 G2) KA
  clear HC KA G1 G2
  go_wp2_with (refine wpList_load_midG rfl 50 (.tmp 30) rfl g 0 rfl _ _ R0' Tryz.underlying50 rfl size50 ?_)
  refine CSI.mono ?_
  rintro e w3 ⟨rfl, n, rfl⟩
  clear CSI
  go_wp2
  go_ret
  exact ⟨rfl, grown_trans G3 (grown_drewN _ _ _)⟩

end Go.Proofs.YtbdmpjnlgdahmabGreatDoor
