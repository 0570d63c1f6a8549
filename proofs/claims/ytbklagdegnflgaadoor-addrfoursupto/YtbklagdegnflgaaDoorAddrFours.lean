/-
  For every text and address of four bytes, what is read of bulk at most 1048576, riddlelaw6.AddrFours returns true and leaves what was there as it was.
-/
import Derived.Test.YtbklagdegnflgaaDoorOpenA
import Derived.Test.YtbklagdegnflgaaDoorAwake6
import Derived.Test.YtbklagdegnflgaaDoorLaid6
import Derived.Deep.RegionHeld3
namespace Go.Proofs.YtbklagdegnflgaaDoor
open Go.ChangeShapes Go.WideShapes Go.ChangeAt Go.RowKit
open Go.ChangeMaps (open_string shut_string)
set_option maxRecDepth 100000
namespace addrFours

/-- Three arrays of four bytes that are read through calls. -/
abbrev Box12 (w0 : World) (A X Y : Nat) (a0 a1 a2 a3 y0 y1 y2 y3 : Value) (W : World) : Prop := W.cell? ⟨A, 0, none⟩ = some (a0) ∧ W.cell? ⟨A, 1, none⟩ = some (a1) ∧ W.cell? ⟨A, 2, none⟩ = some (a2) ∧ W.cell? ⟨A, 3, none⟩ = some (a3) ∧ W.cell? ⟨X, 0, none⟩ = some (y0) ∧ W.cell? ⟨X, 1, none⟩ = some (y1) ∧ W.cell? ⟨X, 2, none⟩ = some (y2) ∧ W.cell? ⟨X, 3, none⟩ = some (y3) ∧ W.cell? ⟨Y, 0, none⟩ = some (y0) ∧ W.cell? ⟨Y, 1, none⟩ = some (y1) ∧ W.cell? ⟨Y, 2, none⟩ = some (y2) ∧ W.cell? ⟨Y, 3, none⟩ = some (y3) ∧ w0.grownBy W none
theorem box12_call {w0 W W' : World} {A X Y : Nat} {a0 a1 a2 a3 y0 y1 y2 y3 : Value} (K : W.grownBy W' none) (h : Box12 w0 A X Y a0 a1 a2 a3 y0 y1 y2 y3 W) : Box12 w0 A X Y a0 a1 a2 a3 y0 y1 y2 y3 W' := by
  obtain ⟨h0, h1, h2, h3, h4, h5, h6, h7, h8, h9, h10, h11, G⟩ := h
  exact ⟨K.cell h0 (by simp), K.cell h1 (by simp), K.cell h2 (by simp), K.cell h3 (by simp), K.cell h4 (by simp), K.cell h5 (by simp), K.cell h6 (by simp), K.cell h7 (by simp), K.cell h8 (by simp), K.cell h9 (by simp), K.cell h10 (by simp), K.cell h11 (by simp), grown_trans G K⟩
theorem box12_drew {w0 : World} {A X Y : Nat} {a0 a1 a2 a3 y0 y1 y2 y3 : Value} {W : World} (h : Box12 w0 A X Y a0 a1 a2 a3 y0 y1 y2 y3 W) : Box12 w0 A X Y a0 a1 a2 a3 y0 y1 y2 y3 W.drew := by
  obtain ⟨h0, h1, h2, h3, h4, h5, h6, h7, h8, h9, h10, h11, G⟩ := h
  exact ⟨h0, h1, h2, h3, h4, h5, h6, h7, h8, h9, h10, h11, grown_trans G (grown_drewN W 1 none)⟩

set_option maxRecDepth 100000 in
set_option maxHeartbeats 4000000 in
theorem walk (s : ByteArray) (xs : List UInt8) (w : World) (hs : s.size ≤ 1048576) (h4 : xs.length = 4) (T : Tab w) :
    Calls Tryd.prog 3 #[.string s, .agg (xs.map bv).toArray] w fun e w' => e = .returned (.bool true) ∧ w.grownBy w' none := by
  have HTb : Hid (Tab w) := T
  clear T
  have C1 := fun W t => parse4_any s W hs t
  have C2 := fun W => refparse4_any s W hs
  have P1 := fun W t => print4_any xs W h4 t
  have P2 := fun W => refprint4_any xs W h4
  have HL := parse4_len (sl s)
  unfold arrV at C1 C2
  generalize (parse4V (sl s)).getD (List.replicate 4 0) = ys at *
  generalize errV (parse4V (sl s)) = er at *
  generalize print4V xs = pt at *
  obtain ⟨a0, a1, a2, a3, rfl⟩ := list4 xs h4
  obtain ⟨y0, y1, y2, y3, rfl⟩ := list4 ys HL
  clear h4 HL
  have heq := eq22 [y0, y1, y2, y3] [y0, y1, y2, y3] rfl rfl
  rw [decide_eq_true rfl] at heq
  simp only [List.map_cons, List.map_nil, bv] at C1 C2 P1 P2 heq ⊢
  have A0 : AAt (w.alloc (.cells #[.int .u8 (a0.toNat : Int), .int .u8 (a1.toNat : Int), .int .u8 (a2.toNat : Int), .int .u8 (a3.toNat : Int)] 22)) w.heap.size 22 [a0, a1, a2, a3] := AAt.alloc w 22 [a0, a1, a2, a3]
  have G0 := World.grownBy_alloc w (.cells #[.int .u8 (a0.toNat : Int), .int .u8 (a1.toNat : Int), .int .u8 (a2.toNat : Int), .int .u8 (a3.toNat : Int)] 22) none
  go_enter Tryd.func3, Tryd.ntmps3
  go_wp2_with fail
  refine (C1 _ (HTb.out.grown G0)).mono ?_
  rintro e w1 ⟨rfl, K1⟩
  have A1 := A0.grown K1 (by simp)
  have G1 := grown_trans G0 K1
  clear A0 G0 K1 C1
  generalize w.heap.size = A at *
  go_upto_region 2 with fail
  have X2 : AAt (w1.alloc (.cells #[.int .u8 (y0.toNat : Int), .int .u8 (y1.toNat : Int), .int .u8 (y2.toNat : Int), .int .u8 (y3.toNat : Int)] 22)) w1.heap.size 22 [y0, y1, y2, y3] := AAt.alloc w1 22 [y0, y1, y2, y3]
  have K2 := World.grownBy_alloc w1 (.cells #[.int .u8 (y0.toNat : Int), .int .u8 (y1.toNat : Int), .int .u8 (y2.toNat : Int), .int .u8 (y3.toNat : Int)] 22) none
  have A2 := A1.grown K2 (by simp)
  have G2 := grown_trans G1 K2
  clear A1 G1 K2
  generalize w1.alloc (.cells #[.int .u8 (y0.toNat : Int), .int .u8 (y1.toNat : Int), .int .u8 (y2.toNat : Int), .int .u8 (y3.toNat : Int)] 22) = w2 at *
  generalize w1.heap.size = X at *
  clear w1
  go_wp2_with fail
  refine (C2 _).mono ?_
  rintro e w3 ⟨rfl, K3⟩
  have A3 := A2.grown K3 (by simp)
  have X3 := X2.grown K3 (by simp)
  have G3 := grown_trans G2 K3
  clear A2 X2 G2 K3 C2 w2
  go_upto_region 3 with fail
  have Y4 : AAt (w3.alloc (.cells #[.int .u8 (y0.toNat : Int), .int .u8 (y1.toNat : Int), .int .u8 (y2.toNat : Int), .int .u8 (y3.toNat : Int)] 22)) w3.heap.size 22 [y0, y1, y2, y3] := AAt.alloc w3 22 [y0, y1, y2, y3]
  have K4 := World.grownBy_alloc w3 (.cells #[.int .u8 (y0.toNat : Int), .int .u8 (y1.toNat : Int), .int .u8 (y2.toNat : Int), .int .u8 (y3.toNat : Int)] 22) none
  have A4 := A3.grown K4 (by simp)
  have X4 := X3.grown K4 (by simp)
  have G4 := grown_trans G3 K4
  clear A3 X3 G3 K4
  generalize w3.alloc (.cells #[.int .u8 (y0.toNat : Int), .int .u8 (y1.toNat : Int), .int .u8 (y2.toNat : Int), .int .u8 (y3.toNat : Int)] 22) = w4 at *
  generalize w3.heap.size = Y at *
  clear w3
  have B0 : Box12 w A X Y (.int .u8 (a0.toNat : Int)) (.int .u8 (a1.toNat : Int)) (.int .u8 (a2.toNat : Int)) (.int .u8 (a3.toNat : Int)) (.int .u8 (y0.toNat : Int)) (.int .u8 (y1.toNat : Int)) (.int .u8 (y2.toNat : Int)) (.int .u8 (y3.toNat : Int)) w4 := ⟨A4.cell (i := 0) (by simp), A4.cell (i := 1) (by simp), A4.cell (i := 2) (by simp), A4.cell (i := 3) (by simp), X4.cell (i := 0) (by simp), X4.cell (i := 1) (by simp), X4.cell (i := 2) (by simp), X4.cell (i := 3) (by simp), Y4.cell (i := 0) (by simp), Y4.cell (i := 1) (by simp), Y4.cell (i := 2) (by simp), Y4.cell (i := 3) (by simp), G4⟩
  have B0d := box12_drew B0
  clear A4 X4 Y4 G4
  go_region_held3 (fun W => W.cell? ⟨A, 0, none⟩ = some (.int .u8 (a0.toNat : Int)) ∧ W.cell? ⟨A, 1, none⟩ = some (.int .u8 (a1.toNat : Int)) ∧ W.cell? ⟨A, 2, none⟩ = some (.int .u8 (a2.toNat : Int)) ∧ W.cell? ⟨A, 3, none⟩ = some (.int .u8 (a3.toNat : Int)) ∧ W.cell? ⟨X, 0, none⟩ = some (.int .u8 (y0.toNat : Int)) ∧ W.cell? ⟨X, 1, none⟩ = some (.int .u8 (y1.toNat : Int)) ∧ W.cell? ⟨X, 2, none⟩ = some (.int .u8 (y2.toNat : Int)) ∧ W.cell? ⟨X, 3, none⟩ = some (.int .u8 (y3.toNat : Int)) ∧ W.cell? ⟨Y, 0, none⟩ = some (.int .u8 (y0.toNat : Int)) ∧ W.cell? ⟨Y, 1, none⟩ = some (.int .u8 (y1.toNat : Int)) ∧ W.cell? ⟨Y, 2, none⟩ = some (.int .u8 (y2.toNat : Int)) ∧ W.cell? ⟨Y, 3, none⟩ = some (.int .u8 (y3.toNat : Int)) ∧ w.grownBy W none) (first | exact box12_call K (by assumption) | (with_reducible assumption) | exact box12_drew B0) (first | (go_at_call 11; refine (P1 _ (by exact HTb.out.grown (by exact (by assumption : Box12 w A X Y (.int .u8 (a0.toNat : Int)) (.int .u8 (a1.toNat : Int)) (.int .u8 (a2.toNat : Int)) (.int .u8 (a3.toNat : Int)) (.int .u8 (y0.toNat : Int)) (.int .u8 (y1.toNat : Int)) (.int .u8 (y2.toNat : Int)) (.int .u8 (y3.toNat : Int)) _).2.2.2.2.2.2.2.2.2.2.2.2))).mono ?_; rintro e w' ⟨rfl, K⟩) | (go_at_call 12; refine (P2 _).mono ?_; rintro e w' ⟨rfl, K⟩) | (go_at_call 13; refine (awake6_any _ (by exact HTb.out.grown (by exact (by assumption : Box12 w A X Y (.int .u8 (a0.toNat : Int)) (.int .u8 (a1.toNat : Int)) (.int .u8 (a2.toNat : Int)) (.int .u8 (a3.toNat : Int)) (.int .u8 (y0.toNat : Int)) (.int .u8 (y1.toNat : Int)) (.int .u8 (y2.toNat : Int)) (.int .u8 (y3.toNat : Int)) _).2.2.2.2.2.2.2.2.2.2.2.2))).mono ?_; rintro e w' ⟨rfl, K⟩))
  all_goals
    have HH := (by assumption : Box12 w A X Y (.int .u8 (a0.toNat : Int)) (.int .u8 (a1.toNat : Int)) (.int .u8 (a2.toNat : Int)) (.int .u8 (a3.toNat : Int)) (.int .u8 (y0.toNat : Int)) (.int .u8 (y1.toNat : Int)) (.int .u8 (y2.toNat : Int)) (.int .u8 (y3.toNat : Int)) w')
    have GF := HH.2.2.2.2.2.2.2.2.2.2.2.2
    clear B0 HH heq P1 P2
    go_wp2
    go_ret
    exact ⟨rfl, GF⟩

set_option maxRecDepth 100000 in
theorem lifted (os : Os) (started : os.Started) (H : Type) (enc : TypeId × Value → H) (F : Stop.Interp) :
    ReturnsInHanded {} Tryd.checked os 3 .any ((Rows.OpenSpec.upto Rows.addrFoursSpec).preRow enc Tryd.prog Tryd.f3 Rows.addrFoursUptoRow.domain false Rows.addrFoursUptoRow.laid) (((Rows.OpenSpec.upto Rows.addrFoursSpec).at F).post enc Tryd.prog Tryd.f3 false true false false) := by
  have hx : DataW.whole enc Tryd.prog ((laidWorld os).forCall (fun _ _ => 0) ⟨#[], #[.string .empty, .agg #[.int .u8 0, .int .u8 0, .int .u8 0, .int .u8 0]], []⟩).memory Tryd.f3.params.toList Rows.addrFoursSpec.vars false (#[.string .empty, .agg #[.int .u8 0, .int .u8 0, .int .u8 0, .int .u8 0]] : Array Value).toList 8 = some ([.lit (.string []), .agg [.lit (.int .u8 0), .lit (.int .u8 0), .lit (.int .u8 0), .lit (.int .u8 0)]], [], []) := by kernel_rfl
  refine returnsInHanded_of_row (C := Tryd.checked) (s := (Rows.OpenSpec.upto Rows.addrFoursSpec)) own started (by kernel_rfl) Tryd.func3
    (witness_row_at (enc := enc) (C := Tryd.checked) false (laidWorld os) #[.string .empty, .agg #[.int .u8 0, .int .u8 0, .int .u8 0, .int .u8 0]] rfl (by kernel_rfl) (by kernel_rfl) (by kernel_rfl)
      (OpenSpec.preRow_of_cond 8 hx (by kernel_rfl) (fun k hk => by cases hk; kernel_rfl) (by kernel_rfl) (laid_met os _))) ?_
  intro W base args ds gs before hval0 hW hcnd hcond hsz0 hL hsh _
  have hk0 := hcond _ rfl
  have T : Tab W := laid_tab hL hsh
  have hval : ∀ (j : Nat) t v, Tryd.f3.params[j]? = some t → args[j]? = some v → Value.okWide Tryd.prog W .any base t v := hval0
  have hW' := hW
  obtain ⟨p, q, hA0, hV, rfl, hfz, hnd⟩ := hW
  have hA : DataW.TrodAll enc Tryd.prog W 0 (fun _ => true) true Tryd.f3.params.toList args.toList ds p := hA0
  rw [Tryd.params3] at hA hval
  obtain ⟨v0, vs0, d0, ds0, p0, q0, hargs, rfl, rfl, h0, r0⟩ := trodAll_cons hA
  obtain ⟨v1, vs1, d1, ds1, p1, q1, rfl, rfl, rfl, h1, r1⟩ := trodAll_cons r0
  obtain ⟨rfl, rfl, rfl⟩ := trodAll_nil r1
  obtain rfl : args = #[v0, v1] := by cases args; simp_all
  obtain ⟨rfl, rfl⟩ := trodVars_none hV
  obtain ⟨s0, rfl, rfl, rfl, hs0⟩ := open_string Tryd.underlying9 (hval 0 9 v0 rfl rfl) h0
  have k1 := h1
  have lt1 : ∀ x ∈ p1, x.block < W.heap.size := by obtain ⟨m, hm⟩ := k1; exact DataW.trod_lt m _ _ _ hm
  obtain ⟨x1, xl1, rfl⟩ := open_arr Tryd.underlying22 (by kernel_rfl) (by decide) h1
  simp only [List.append_nil] at hW' hk0
  have hk : Rows.uptoBulkAll ([.lit (.string s0.data.toList), d1] : List (DataW H)) ≤ 1048576 := of_decide_eq_true hk0
  simp only [Rows.uptoBulkAll] at hk
  have hlen0 : s0.size ≤ 1048576 := by
    have e := bulk_string (H := H) s0
    omega
  clear hA0 hval0
  refine (walk s0 x1 W hlen0 xl1 T).mono fun e W' ⟨he, hg⟩ => ?_
  subst he
  have bel : Below W.heap.size W W' := (Below.refl _ _).grown hg (Nat.le_refl _) (by simp)
  exact ⟨_, rfl, _, _, _, [], _, [], hW', trodAll_mk1 (shut_bool Tryd.underlying4 _), (trodAll_cons_mk (shut_string Tryd.underlying9 hs0) (trodAll_cons_mk (Below.trod laidOut (by kernel_rfl) (of_decide_eq_true (by kernel_rfl)) k1 bel lt1) trodAll_mk0)), rfl, bel.frame _, fun h => by cases h⟩

theorem over : Rows.AddrFoursUptoSaid :=
  OpenClaim.holds_of_cond 3 Tryd.f3 rfl rfl rfl rfl rfl rfl rfl ⟨rfl, rfl, rfl, rfl, rfl⟩ rfl rfl rfl rfl rfl (by kernel_rfl) Tryd.func3 (by kernel_rfl)
    (of_decide_eq_true (by kernel_rfl)) (by unfold Func.isWrapper; first | (rw [if_pos (by decide +kernel)]; kernel_rfl) | (rw [if_neg (by decide +kernel)]; exact ⟨rfl, rfl⟩))
    (fun os started H enc _ F => by rw [OpenClaim.pre_eq_preRow]; exact lifted os started H enc F)

theorem plain (f : FuncId) (fn : Func) (hf : Tryd.pinned.checked.prog.funcNamed "riddle/riddlelaw6.AddrFours" = some f) (hfn : Tryd.pinned.checked.prog.funcs[f]? = some fn) :
    false = Tryd.pinned.checked.prog.looks [] ∧ ∀ (j : Nat) t, fn.params[j]? = some t → Tryd.pinned.checked.prog.wantsStandIn t = false := by
  obtain rfl : f = 3 := Option.some.inj ((show Tryd.prog.funcNamed "riddle/riddlelaw6.AddrFours" = some 3 by kernel_rfl).symm.trans hf) |>.symm
  obtain rfl : fn = Tryd.f3 := (Option.some.inj (Tryd.func3.symm.trans hfn)).symm
  refine ⟨by kernel_rfl, fun j t ht => ?_⟩
  rw [Tryd.params3] at ht
  have ht2 := Array.mem_of_getElem? ht
  simp only [List.mem_toArray, List.mem_cons, List.not_mem_nil, or_false] at ht2
  rcases ht2 with rfl | rfl
  · exact (show Tryd.prog.wantsStandIn 9 = false by kernel_rfl)
  · exact (show Tryd.prog.wantsStandIn 22 = false by kernel_rfl)

theorem card : Rows.AddrFoursUptoCardSaid :=
  Claim7.holds_tied_plain_at .later [] _ _ _ _ over (fun _ h => by cases h) (by kernel_rfl) (fun _ h => by cases h) addrFoursUpto_row_tie rfl ⟨rfl, rfl⟩ (by kernel_rfl) rfl plain (by kernel_rfl)

end addrFours

theorem addrFoursUpto_holds : Rows.AddrFoursUptoCardSaid := addrFours.card
#print axioms addrFoursUpto_holds

end Go.Proofs.YtbklagdegnflgaaDoor
