/-
  What every program answers that is one: awake of stage 10.
-/
import Derived.Test.YtcmeejoabiedaaaDoorLexC
import Derived.Deep.DeepCutAuto
namespace Go.Proofs.YtcmeejoabiedaaaDoor
open Go.RowKit
set_option maxRecDepth 100000

def wk10 : List Tk := [⟨2, 0, [105, 112], 0⟩, ⟨5, 2, [60, 61], 0⟩, ⟨1, 4, [48, 120, 48, 102], 15⟩, ⟨0, 8, [], 0⟩]
theorem lex10a : lexV [105, 112, 60, 61, 48, 120, 48, 102] = .ok wk10 := by kernel_rfl
theorem lex10b : lexV [97, 32, 59] = .error (2, 101) := by kernel_rfl

theorem TOwns.toks {w : World} {base : Nat} {v : Value} {xs : List Tk} (h : TOwns w base v xs) (hx : 0 < xs.length) : ∃ g cap, v = .slice (some ⟨g, 0, none⟩) xs.length cap ∧ ∀ i (hi : i < xs.length), w.cell? ⟨g, i * 4, none⟩ = some (.int .i64 (xs[i].kind : Int)) ∧ w.cell? ⟨g, i * 4 + 1, none⟩ = some (.int .i64 (xs[i].pos : Int)) ∧
      w.cell? ⟨g, i * 4 + 2, none⟩ = some (str xs[i].text) ∧ w.cell? ⟨g, i * 4 + 3, none⟩ = some (.int .u32 (xs[i].num : Int)) := by
  obtain ⟨g, cap, hv, -⟩ := owns_head h hx
  obtain ⟨ao, cap', hv', C, -⟩ := cv_of_row h
  rw [hv] at hv'
  simp only [Value.slice.injEq, true_and] at hv'
  obtain ⟨rfl, rfl⟩ := hv'
  refine ⟨g, cap, hv, fun i hi => ?_⟩
  obtain ⟨b, off, e, hc⟩ := C.toks hi
  simp only [Option.some.injEq, Addr.mk.injEq] at e
  obtain ⟨rfl, rfl, -⟩ := e
  have := hc i hi
  simpa using this

set_option maxHeartbeats 2000000 in
theorem awake10_any (w : World) (T : Tab w) : Calls Tryd.prog 5 #[] w fun e w' => e = .returned (.bool true) ∧ w.grownBy w' none := by
  have C1 := lex_any ⟨#[105, 112, 60, 61, 48, 120, 48, 102]⟩ (by decide) w T
  rw [show sl ⟨#[105, 112, 60, 61, 48, 120, 48, 102]⟩ = [105, 112, 60, 61, 48, 120, 48, 102] from rfl, lex10a] at C1
  simp only [lexP, lexE, lexT] at C1
  have HC2 : Hid (∀ W : World, Tab W → Calls Tryd.prog 4 #[.string ⟨#[97, 32, 59]⟩] W fun e w' => ∃ v, e = .returned (.tuple #[v, .int .i64 2, .int .i64 101]) ∧ W.grownBy w' none) := fun W TW => by
    have q := lex_any ⟨#[97, 32, 59]⟩ (by decide) W TW
    rw [show sl ⟨#[97, 32, 59]⟩ = [97, 32, 59] from rfl, lex10b] at q
    refine q.mono ?_
    rintro e w' ⟨v, rfl, -, K⟩
    exact ⟨v, rfl, K⟩
  go_enter Tryd.func5, Tryd.ntmps5
  go_wp2_with fail
  refine C1.mono ?_
  rintro e w1 ⟨v, rfl, O1, K1⟩
  clear C1
  go_wp2_with fail
  have C2 := HC2.out _ (T.grown K1)
  clear HC2 T
  refine C2.mono ?_
  rintro e w2 ⟨v2, rfl, K2⟩
  have O2 : TOwns w2 w.heap.size v wk10 := owns_keptNone O1 K2
  obtain ⟨g, cap, rfl, hc⟩ := O2.toks (by decide)
  have q1 := hc 1 (by decide)
  have q2 := hc 2 (by decide)
  obtain ⟨a0, a1, a2, a3⟩ := q1
  obtain ⟨b0, b1, b2, b3⟩ := q2
  have a0' : w2.cell? ⟨g, 4, none⟩ = some (.int .i64 5) := a0
  have a1' : w2.cell? ⟨g, 5, none⟩ = some (.int .i64 2) := a1
  have a2' : w2.cell? ⟨g, 6, none⟩ = some (.string ⟨#[60, 61]⟩) := a2
  have a3' : w2.cell? ⟨g, 7, none⟩ = some (.int .u32 0) := a3
  have b0' : w2.cell? ⟨g, 8, none⟩ = some (.int .i64 1) := b0
  have b1' : w2.cell? ⟨g, 9, none⟩ = some (.int .i64 4) := b1
  have b2' : w2.cell? ⟨g, 10, none⟩ = some (.string ⟨#[48, 120, 48, 102]⟩) := b2
  have b3' : w2.cell? ⟨g, 11, none⟩ = some (.int .u32 15) := b3
  have G := grown_trans K1 K2
  rw [show wk10.length = 4 from rfl]
  clear C2 O1 K1 K2 O2 hc a0 a1 a2 a3 b0 b1 b2 b3
  go_wp2
  go_ret
  exact ⟨rfl, G⟩

end Go.Proofs.YtcmeejoabiedaaaDoor
