/-
  For every instruction riddlelaw3.AsmLines returns true and leaves what was there as it was: no condition.
-/
import Derived.Test.YtcapmbeabfhjoaaDoorOpenI
import Derived.Test.YtcapmbeabfhjoaaDoorAwake3
import Derived.Test.YtcapmbeabfhjoaaDoorLaid
namespace Go.Proofs.YtcapmbeabfhjoaaDoor
open Go.ChangeShapes Go.WideShapes Go.ChangeAt Go.RowKit
open Go.ChangeMaps (open_string shut_string)
set_option maxRecDepth 100000
namespace asmLines

/-- Two boxes. -/
abbrev Box8 (w0 : World) (b d : Nat) (v0 v1 v2 v3 u0 u1 u2 u3 : Value) (W : World) : Prop := W.cell? ⟨b, 0, none⟩ = some v0 ∧ W.cell? ⟨b, 1, none⟩ = some v1 ∧ W.cell? ⟨b, 2, none⟩ = some v2 ∧ W.cell? ⟨b, 3, none⟩ = some v3 ∧ W.cell? ⟨d, 0, none⟩ = some u0 ∧ W.cell? ⟨d, 1, none⟩ = some u1 ∧ W.cell? ⟨d, 2, none⟩ = some u2 ∧ W.cell? ⟨d, 3, none⟩ = some u3 ∧ w0.grownBy W none

theorem box8_call {w0 W W' : World} {b d : Nat} {v0 v1 v2 v3 u0 u1 u2 u3 : Value} (K : W.grownBy W' none) (h : Box8 w0 b d v0 v1 v2 v3 u0 u1 u2 u3 W) : Box8 w0 b d v0 v1 v2 v3 u0 u1 u2 u3 W' :=
  ⟨K.cell h.1 (by simp), K.cell h.2.1 (by simp), K.cell h.2.2.1 (by simp), K.cell h.2.2.2.1 (by simp), K.cell h.2.2.2.2.1 (by simp), K.cell h.2.2.2.2.2.1 (by simp), K.cell h.2.2.2.2.2.2.1 (by simp), K.cell h.2.2.2.2.2.2.2.1 (by simp), grown_trans h.2.2.2.2.2.2.2.2 K⟩

theorem box8_alloc (w : World) (e : TypeId) (v0 v1 v2 v3 u0 u1 u2 u3 : Value) : Box8 w w.heap.size (w.heap.size + 1) v0 v1 v2 v3 u0 u1 u2 u3 ((w.alloc (.cells #[v0, v1, v2, v3] e)).alloc (.cells #[u0, u1, u2, u3] e)).drew := by
  have h := box4_alloc w e v0 v1 v2 v3
  have k := box4_alloc (w.alloc (.cells #[v0, v1, v2, v3] e)) e u0 u1 u2 u3
  rw [show (w.alloc (.cells #[v0, v1, v2, v3] e)).heap.size = w.heap.size + 1 by simp] at k
  have h' := box4_call k.2.2.2.2 h
  exact ⟨h'.1, h'.2.1, h'.2.2.1, h'.2.2.2.1, k.1, k.2.1, k.2.2.1, k.2.2.2.1, grown_trans h'.2.2.2.2 (grown_drewN _ 1 none)⟩

set_option maxRecDepth 100000 in
set_option maxHeartbeats 4000000 in
theorem walk (x : In) (w : World) (T : Tab w) :
    Calls Tryd.prog 3 #[.agg x.cells.toArray] w fun e w' => e = .returned (.bool true) ∧ w.grownBy w' none := by
  have HTb : Hid (Tab w) := T
  clear T
  obtain ⟨hc, ht, hf, hk⟩ := x.bounds
  simp only [In.cells]
  generalize x.code.toNat = c at *
  generalize x.jt.toNat = t at *
  generalize x.jf.toNat = f at *
  generalize x.k.toNat = k at *
  have B0 := box4_alloc w 25 (.int .u16 c) (.int .u8 t) (.int .u8 f) (.int .u32 k)
  go_enter Tryd.func3, Tryd.ntmps3
  go_wp2_with fail
  go_region_held3 (fun W => W.cell? ⟨w.heap.size, 0, none⟩ = some (.int .u16 (c : Int)) ∧ W.cell? ⟨w.heap.size, 1, none⟩ = some (.int .u8 (t : Int)) ∧ W.cell? ⟨w.heap.size, 2, none⟩ = some (.int .u8 (f : Int)) ∧ W.cell? ⟨w.heap.size, 3, none⟩ = some (.int .u32 (k : Int)) ∧ w.grownBy W none) (first | exact box4_call K (by assumption) | exact box4_drewn B0) (first | (go_at_call 9; refine (line_any c t f k _ hc ht hf hk (by exact HTb.out.grown (by exact (by assumption : Box4 w w.heap.size (.int .u16 c) (.int .u8 t) (.int .u8 f) (.int .u32 k) _).2.2.2.2))).mono ?_; rintro e w' ⟨rfl, K⟩) | (go_at_call 10; refine (refline_any c t f k _ hc ht hf hk).mono ?_; rintro e w' ⟨rfl, K⟩))
  have B1 := (by assumption : Box4 w w.heap.size (.int .u16 c) (.int .u8 t) (.int .u8 f) (.int .u32 k) w')
  clear B0 K
  go_wp2
  go_loopw [3] (fun i wr => ∃ j : Nat, j ≤ 256 ∧ i = .int .i64 j ∧ Box4 w w.heap.size (.int .u16 c) (.int .u8 t) (.int .u8 f) (.int .u32 k) wr) (fun i _ => 256 - (intOf i).toNat)
  case atStart => exact ⟨0, Nat.zero_le _, rfl, B1⟩
  case round =>
    clear B1
    obtain ⟨j, hj, rfl, b0, b1, b2, b3, G⟩ := hrel
    by_cases hlt : j < 256
    · have B2 := box8_alloc wr 25 (.int .u16 j) (.int .u8 t) (.int .u8 f) (.int .u32 k) (.int .u16 j) (.int .u8 0) (.int .u8 0) (.int .u32 k)
      have hj5 : j ≤ 65535 := by omega
      have z0 : (0 : Nat) ≤ 255 := by omega
      have b3' : (wr.alloc (.cells #[.int .u16 (j : Int), .int .u8 (t : Int), .int .u8 (f : Int), .int .u32 (k : Int)] 25)).cell? ⟨w.heap.size, 3, none⟩ = some (.int .u32 (k : Int)) := (World.grownBy_alloc wr _ none).cell b3 (by simp)
      have L1 : Hid (∀ W : World, Tab W → Calls Tryd.prog 9 #[.agg #[.int .u16 j, .int .u8 t, .int .u8 f, .int .u32 k]] W fun e w' => e = .returned (str (lineN j t f k)) ∧ W.grownBy w' none) := fun W T => line_any j t f k W hj5 ht hf hk T
      have L2 : Hid (∀ W : World, Tab W → Calls Tryd.prog 9 #[.agg #[.int .u16 j, .int .u8 0, .int .u8 0, .int .u32 k]] W fun e w' => e = .returned (str (lineN j 0 0 k)) ∧ W.grownBy w' none) := fun W T => line_any j 0 0 k W hj5 z0 z0 hk T
      have R1 : Hid (∀ W : World, Calls Tryd.prog 10 #[.agg #[.int .u16 j, .int .u8 t, .int .u8 f, .int .u32 k]] W fun e w' => e = .returned (str (lineN j t f k)) ∧ W.grownBy w' none) := fun W => refline_any j t f k W hj5 ht hf hk
      have R2 : Hid (∀ W : World, Calls Tryd.prog 10 #[.agg #[.int .u16 j, .int .u8 0, .int .u8 0, .int .u32 k]] W fun e w' => e = .returned (str (lineN j 0 0 k)) ∧ W.grownBy w' none) := fun W => refline_any j 0 0 k W hj5 z0 z0 hk
      go_wp2_with fail
      go_region_held3 (fun W => W.cell? ⟨wr.heap.size, 0, none⟩ = some (.int .u16 (j : Int)) ∧ W.cell? ⟨wr.heap.size, 1, none⟩ = some (.int .u8 (t : Int)) ∧ W.cell? ⟨wr.heap.size, 2, none⟩ = some (.int .u8 (f : Int)) ∧ W.cell? ⟨wr.heap.size, 3, none⟩ = some (.int .u32 (k : Int)) ∧ W.cell? ⟨wr.heap.size + 1, 0, none⟩ = some (.int .u16 (j : Int)) ∧ W.cell? ⟨wr.heap.size + 1, 1, none⟩ = some (.int .u8 0) ∧ W.cell? ⟨wr.heap.size + 1, 2, none⟩ = some (.int .u8 0) ∧ W.cell? ⟨wr.heap.size + 1, 3, none⟩ = some (.int .u32 (k : Int)) ∧ wr.grownBy W none) (first | exact box8_call K (by assumption) | exact B2) (first | (go_at_call_of 9 (Value.agg #[.int .u16 (j : Int), .int .u8 (t : Int), .int .u8 (f : Int), .int .u32 (k : Int)]); refine (L1.out _ (by exact HTb.out.grown (grown_trans G (by exact (by assumption : Box8 wr wr.heap.size (wr.heap.size + 1) (.int .u16 j) (.int .u8 t) (.int .u8 f) (.int .u32 k) (.int .u16 j) (.int .u8 0) (.int .u8 0) (.int .u32 k) _).2.2.2.2.2.2.2.2)))).mono ?_; rintro e w' ⟨rfl, K⟩) | (go_at_call_of 10 (Value.agg #[.int .u16 (j : Int), .int .u8 (t : Int), .int .u8 (f : Int), .int .u32 (k : Int)]); refine (R1.out _).mono ?_; rintro e w' ⟨rfl, K⟩) | (go_at_call 9; refine (L2.out _ (by exact HTb.out.grown (grown_trans G (by exact (by assumption : Box8 wr wr.heap.size (wr.heap.size + 1) (.int .u16 j) (.int .u8 t) (.int .u8 f) (.int .u32 k) (.int .u16 j) (.int .u8 0) (.int .u8 0) (.int .u32 k) _).2.2.2.2.2.2.2.2)))).mono ?_; rintro e w' ⟨rfl, K⟩) | (go_at_call 10; refine (R2.out _).mono ?_; rintro e w' ⟨rfl, K⟩))
      have B3 := (by assumption : Box8 wr wr.heap.size (wr.heap.size + 1) (.int .u16 j) (.int .u8 t) (.int .u8 f) (.int .u32 k) (.int .u16 j) (.int .u8 0) (.int .u8 0) (.int .u32 k) w')
      have B4 := box4_call B3.2.2.2.2.2.2.2.2 (⟨b0, b1, b2, b3, G⟩ : Box4 w w.heap.size (.int .u16 c) (.int .u8 t) (.int .u8 f) (.int .u32 k) wr)
      clear b0 b1 b2 b3 b3' B2 B3 G L1 L2 R1 R2 K
      go_wp2
      go_roundw
      case rel => exact ⟨j + 1, by omega, by go_num, B4⟩
      case measure => simp [intOf]; omega
    · obtain rfl : j = 256 := by omega
      go_wp2_with fail
      refine (awake3_any _ (HTb.out.grown G)).mono ?_
      rintro e w2 ⟨rfl, K2⟩
      have G2 := grown_trans G K2
      clear K2 G b0 b1 b2 b3
      go_wp2
      go_ret
      exact ⟨rfl, G2⟩

set_option maxRecDepth 100000 in
theorem lifted (os : Os) (started : os.Started) (H : Type) (enc : TypeId × Value → H) (F : Stop.Interp) :
    ReturnsInHanded {} Tryd.checked os 3 .any ((OpenSpec.ofChange Rows.asmLinesSpec).preRow enc Tryd.prog Tryd.f3 Rows.asmLinesRow.domain false Rows.asmLinesRow.laid) (((OpenSpec.ofChange Rows.asmLinesSpec).at F).post enc Tryd.prog Tryd.f3 false true false false) := by
  have hx : DataW.whole enc Tryd.prog ((laidWorld os).forCall (fun _ _ => 0) ⟨#[], #[.agg #[.int .u16 0, .int .u8 0, .int .u8 0, .int .u32 0]], []⟩).memory Tryd.f3.params.toList Rows.asmLinesSpec.vars false (#[.agg #[.int .u16 0, .int .u8 0, .int .u8 0, .int .u32 0]] : Array Value).toList 8 = some ([.agg [.lit (.int .u16 0), .lit (.int .u8 0), .lit (.int .u8 0), .lit (.int .u32 0)]], [], []) := by kernel_rfl
  refine returnsInHanded_of_row (C := Tryd.checked) (s := (OpenSpec.ofChange Rows.asmLinesSpec)) own started (by kernel_rfl) Tryd.func3
    (witness_row_at (enc := enc) (C := Tryd.checked) false (laidWorld os) #[.agg #[.int .u16 0, .int .u8 0, .int .u8 0, .int .u32 0]] rfl (by kernel_rfl) (by kernel_rfl) (by kernel_rfl)
      (OpenSpec.preRow_of_cond 8 hx (by kernel_rfl) (fun k hk => by cases hk) (by kernel_rfl) (laid_met os _))) ?_
  intro W base args ds gs before hval0 hW hcnd hcond hsz0 hL _ _
  have hsz : (DataW.weightsEach Tryd.prog (Tryd.f3.params.toList ++ Rows.asmLinesSpec.plain.varTypes Tryd.prog) (ds ++ gs)).all (· ≤ reachBytes) = true := hsz0
  have T : Tab W := laid_tab hL
  have hval : ∀ (j : Nat) t v, Tryd.f3.params[j]? = some t → args[j]? = some v → Value.okWide Tryd.prog W .any base t v := hval0
  have hW' := hW
  obtain ⟨p, q, hA0, hV, rfl, hfz, hnd⟩ := hW
  have hA : DataW.TrodAll enc Tryd.prog W 0 (fun _ => true) true Tryd.f3.params.toList args.toList ds p := hA0
  rw [Tryd.params3] at hA hval hsz
  obtain ⟨v0, vs0, d0, ds0, p0, q0, hargs, rfl, rfl, h0, r0⟩ := trodAll_cons hA
  obtain ⟨rfl, rfl, rfl⟩ := trodAll_nil r0
  obtain rfl : args = #[v0] := by cases args; simp_all
  obtain ⟨rfl, rfl⟩ := trodVars_none hV
  have k0 := h0
  have lt0 : ∀ x ∈ p0, x.block < W.heap.size := by obtain ⟨m, hm⟩ := k0; exact DataW.trod_lt m _ _ _ hm
  obtain ⟨x0, rfl⟩ := open_insn h0
  clear hA0 hval0
  refine (walk x0 W T).mono fun e W' ⟨he, hg⟩ => ?_
  subst he
  have bel : Below W.heap.size W W' := (Below.refl _ _).grown hg (Nat.le_refl _) (by simp)
  exact ⟨_, rfl, _, _, _, [], _, [], hW', trodAll_mk1 (shut_bool Tryd.underlying4 _), (trodAll_cons_mk (Below.trod laidOut (by kernel_rfl) (of_decide_eq_true (by kernel_rfl)) k0 bel lt0) trodAll_mk0), rfl, bel.frame _, fun h => by cases h⟩

theorem over : Rows.AsmLinesSaid :=
  OpenClaim.holds_of_cond 3 Tryd.f3 rfl rfl rfl rfl rfl rfl rfl ⟨rfl, rfl, rfl, rfl, rfl⟩ rfl rfl rfl rfl rfl (by kernel_rfl) Tryd.func3 (by kernel_rfl)
    (of_decide_eq_true (by kernel_rfl)) (by unfold Func.isWrapper; first | (rw [if_pos (by decide +kernel)]; kernel_rfl) | (rw [if_neg (by decide +kernel)]; exact ⟨rfl, rfl⟩))
    (fun os started H enc _ F => by rw [OpenClaim.pre_eq_preRow]; exact lifted os started H enc F)

theorem plain (f : FuncId) (fn : Func) (hf : Tryd.pinned.checked.prog.funcNamed "riddle/riddlelaw3.AsmLines" = some f) (hfn : Tryd.pinned.checked.prog.funcs[f]? = some fn) :
    false = Tryd.pinned.checked.prog.looks [] ∧ ∀ (j : Nat) t, fn.params[j]? = some t → Tryd.pinned.checked.prog.wantsStandIn t = false := by
  obtain rfl : f = 3 := Option.some.inj ((show Tryd.prog.funcNamed "riddle/riddlelaw3.AsmLines" = some 3 by kernel_rfl).symm.trans hf) |>.symm
  obtain rfl : fn = Tryd.f3 := (Option.some.inj (Tryd.func3.symm.trans hfn)).symm
  refine ⟨by kernel_rfl, fun j t ht => ?_⟩
  rw [Tryd.params3] at ht
  have ht2 := Array.mem_of_getElem? ht
  simp only [List.mem_toArray, List.mem_cons, List.not_mem_nil, or_false] at ht2
  rcases ht2 with rfl
  · exact (show Tryd.prog.wantsStandIn 25 = false by kernel_rfl)

theorem card : Rows.AsmLinesCardSaid :=
  Claim7.holds_tied_plain_at .later [] _ _ _ _ over (fun _ h => by cases h) (by kernel_rfl) (fun _ h => by cases h) asmLines_row_tie rfl ⟨rfl, rfl⟩ (by kernel_rfl) rfl plain (by kernel_rfl)

end asmLines

theorem asmLines_holds : Rows.AsmLinesCardSaid := asmLines.card
#print axioms asmLines_holds
end Go.Proofs.YtcapmbeabfhjoaaDoor
