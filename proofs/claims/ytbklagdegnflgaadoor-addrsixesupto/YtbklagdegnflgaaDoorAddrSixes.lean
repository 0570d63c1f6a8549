/-
  For every text and address of sixteen bytes, what is read of bulk at most 1048576, riddlelaw6.AddrSixes returns true and leaves what was there as it was.
-/
import Derived.Test.YtbklagdegnflgaaDoorOpenA
import Derived.Test.YtbklagdegnflgaaDoorAwake6
import Derived.Test.YtbklagdegnflgaaDoorLaid6
import Derived.Deep.RegionHeld3
import Derived.Deep.WholeRow
namespace Go.Proofs.YtbklagdegnflgaaDoor
open Go.ChangeShapes Go.WideShapes Go.ChangeAt Go.RowKit
open Go.ChangeMaps (open_string shut_string)
set_option maxRecDepth 100000
namespace addrSixes

theorem AAt.range {w : World} {g t : Nat} {xs : List UInt8} (h : AAt w g t xs) : w.rangeAt g 0 (xs.map bv) := fun j v hv => by
  rw [Nat.zero_add, cell_of_row w g j _ t (0, 0) h]
  simpa using hv
theorem range_grown {w w' : World} {g : Nat} {cs : List Value} (h : w.rangeAt g 0 cs) (G : w.grownBy w' none) : w'.rangeAt g 0 cs := fun j v hv => G.cell (h j v hv) (by simp)

/-- Three arrays that are read through calls. -/
abbrev Rng3 (w0 : World) (A X Y : Nat) (us ys : List Value) (W : World) : Prop := W.rangeAt A 0 us ∧ W.rangeAt X 0 ys ∧ W.rangeAt Y 0 ys ∧ w0.grownBy W none
theorem rng3_call {w0 W W' : World} {A X Y : Nat} {us ys : List Value} (K : W.grownBy W' none) (h : Rng3 w0 A X Y us ys W) : Rng3 w0 A X Y us ys W' := ⟨range_grown h.1 K, range_grown h.2.1 K, range_grown h.2.2.1 K, grown_trans h.2.2.2 K⟩
theorem rng3_drew {w0 W : World} {A X Y : Nat} {us ys : List Value} (h : Rng3 w0 A X Y us ys W) : Rng3 w0 A X Y us ys W.drew := rng3_call (grown_drewN W 1 none) h

set_option maxRecDepth 100000 in
set_option maxHeartbeats 4000000 in
theorem walk (s : ByteArray) (xs : List UInt8) (w : World) (hs : s.size ≤ 1048576) (h16 : xs.length = 16) (T : Tab w) :
    Calls Tryd.prog 4 #[.string s, .agg (xs.map bv).toArray] w fun e w' => e = .returned (.bool true) ∧ w.grownBy w' none := by
  have HTb : Hid (Tab w) := T
  clear T
  have C1 := fun W t => parse6_any s W hs t
  have C2 := fun W => refparse6_any s W hs
  have P1 := fun W t => print6_any xs W h16 t
  have P2 := fun W => refprint6_any xs W h16
  have HL := parse6_len (sl s)
  unfold arrV at C1 C2
  generalize (parse6V (sl s)).getD (List.replicate 16 0) = ys at *
  generalize errV (parse6V (sl s)) = er at *
  generalize print6V (pairsG xs) = pt at *
  have heq := eq29 ys ys HL HL
  rw [decide_eq_true rfl] at heq
  have HZ : Hid ((Tryd.prog.info? 29).map (·.size) = some (ys.map bv).toArray.size ∧ ((List.replicate 16 (0 : UInt8)).map bv).toArray.size = (ys.map bv).toArray.size) := by
    refine ⟨?_, ?_⟩
    · rw [bv_size, HL]; exact size29
    · rw [bv_size, bv_size, HL]; rfl
  have A0 := AAt.alloc w 29 xs
  have G0 := World.grownBy_alloc w (.cells (xs.map bv).toArray 29) none
  have HX16 : Hid (xs.length = 16 ∧ ys.length = 16) := ⟨h16, HL⟩
  have HEQ : Hid (∀ W : World, (Op.equalIn 10000 29 (.agg (ys.map bv).toArray) (.agg (ys.map bv).toArray)).run Tryd.prog W = .ok true W) := heq
  have HP : Hid ((∀ W : World, Tab W → Calls Tryd.prog 16 #[.agg (xs.map bv).toArray] W fun e w' => e = .returned (str pt) ∧ W.grownBy w' none) ∧ (∀ W : World, Calls Tryd.prog 17 #[.agg (xs.map bv).toArray] W fun e w' => e = .returned (str pt) ∧ W.grownBy w' none)) := ⟨P1, P2⟩
  have HC2 : Hid (∀ W : World, Calls Tryd.prog 15 #[.string s] W fun e w' => e = .returned (.tuple #[.agg (ys.map bv).toArray, .int .i64 er]) ∧ W.grownBy w' none) := C2
  clear heq P1 P2 C2 h16 HL
  go_enter Tryd.func4, Tryd.ntmps4
  go_wp2_with fail
  refine (C1 _ (HTb.out.grown G0)).mono ?_
  rintro e w1 ⟨rfl, K1⟩
  have A1 := A0.grown K1 (by simp)
  have G1 := grown_trans G0 K1
  clear A0 G0 K1 C1
  generalize w.heap.size = A at *
  have Z1 := AAt.alloc w1 29 (List.replicate 16 0)
  have X2 := AAt.alloc w1 29 ys
  have K2 := World.grownBy_alloc w1 (.cells (ys.map bv).toArray 29) none
  have A2 := A1.grown K2 (by simp)
  have G2 := grown_trans G1 K2
  clear A1 G1 K2
  go_wp2_with (refine wpList_store_row rfl 29 (.tmp 5) (.tmp 12) rfl w1.heap.size (ys.map bv).toArray rfl rfl 29 _ Z1 HZ.out.1 HZ.out.2 (bv_all _) ?_)
  rw [World.setRow_alloc_new]
  generalize w1.alloc (.cells (ys.map bv).toArray 29) = w2 at *
  generalize w1.heap.size = X at *
  clear Z1
  refine (HC2.out _).mono ?_
  rintro e w3 ⟨rfl, K3⟩
  have A3 := A2.grown K3 (by simp)
  have X3 := X2.grown K3 (by simp)
  have G3 := grown_trans G2 K3
  clear A2 X2 G2 K3 HC2 w2
  have Z3 := AAt.alloc w3 29 (List.replicate 16 0)
  have Y4 := AAt.alloc w3 29 ys
  have K4 := World.grownBy_alloc w3 (.cells (ys.map bv).toArray 29) none
  have A4 := A3.grown K4 (by simp)
  have X4 := X3.grown K4 (by simp)
  have G4 := grown_trans G3 K4
  clear A3 X3 G3 K4
  go_wp2_with (refine wpList_store_row rfl 29 (.tmp 7) (.tmp 17) rfl w3.heap.size (ys.map bv).toArray rfl rfl 29 _ Z3 HZ.out.1 HZ.out.2 (bv_all _) ?_)
  rw [World.setRow_alloc_new]
  generalize w3.alloc (.cells (ys.map bv).toArray 29) = w4 at *
  generalize w3.heap.size = Y at *
  clear Z3 w3
  have B0 : Rng3 w A X Y (xs.map bv) (ys.map bv) w4 := ⟨AAt.range A4, AAt.range X4, AAt.range Y4, G4⟩
  have hu := Tryd.underlying29
  have hi1 : (Tryd.prog.info? 29).map (·.size) = some (xs.map bv).length := by rw [List.length_map, HX16.out.1]; exact size29
  have hi2 : (Tryd.prog.info? 29).map (·.size) = some (ys.map bv).length := by rw [List.length_map, HX16.out.2]; exact size29
  have heq := HEQ.out
  clear A4 X4 Y4 G4
  have hT : (er == er) = true := by simp
  refine wp_region_held_drew (S := fun W => Rng3 w A X Y (xs.map bv) (ys.map bv) W) (by kernel_rfl) (rng3_drew B0) (fun hHeld => ?_)
  refine wpAnyH_take (i := 0) (v := .agg (ys.map bv).toArray) rfl (by kernel_rfl) (by kernel_rfl) (by kernel_rfl) (fun _ _ _ h => h) (yieldsIf_load_mid (by rfl) _ _ rfl _ _ rfl (ys.map bv) _ (fun W hW => hW.2.1) hu rfl hi2) hHeld ?_
  try simp only [Act.put, List.getElem_toArray, List.getElem_cons_zero, List.setIfInBounds_toArray, List.set_cons_zero, List.set_cons_succ]
  refine wpAnyH_take (i := 1) (v := .agg (ys.map bv).toArray) rfl (by kernel_rfl) (by kernel_rfl) (by kernel_rfl) (fun _ _ _ h => h) (yieldsIf_load_mid (by rfl) _ _ rfl _ _ rfl (ys.map bv) _ (fun W hW => hW.2.2.1) hu rfl hi2) hHeld ?_
  try simp only [Act.put, List.getElem_toArray, List.getElem_cons_zero, List.getElem_cons_succ, List.setIfInBounds_toArray, List.set_cons_zero, List.set_cons_succ]
  refine wpAnyH_take (i := 2) (v := .bool true) rfl (by kernel_rfl) (by kernel_rfl) (by kernel_rfl) (fun _ _ _ h => h) (Or.inl ⟨by rfl, fun W hW => ?_⟩) hHeld ?_
  · clear hW
    go_simp
  try simp only [Act.put, List.getElem_toArray, List.getElem_cons_zero, List.getElem_cons_succ, List.setIfInBounds_toArray, List.set_cons_zero, List.set_cons_succ]
  refine wpAnyH_take (i := 3) (v := .bool true) rfl (by kernel_rfl) (by kernel_rfl) (by kernel_rfl) (fun _ _ _ h => h) (Or.inl ⟨by rfl, fun W hW => ?_⟩) hHeld ?_
  · clear hW
    go_simp
  try simp only [Act.put, List.getElem_toArray, List.getElem_cons_zero, List.getElem_cons_succ, List.setIfInBounds_toArray, List.set_cons_zero, List.set_cons_succ]
  refine wpAnyH_take (i := 4) (v := .int .i64 er) rfl (by kernel_rfl) (by kernel_rfl) (by kernel_rfl) (fun _ _ _ h => h) (Or.inl ⟨by rfl, fun W hW => ?_⟩) hHeld ?_
  · clear hW
    go_simp
  try simp only [Act.put, List.getElem_toArray, List.getElem_cons_zero, List.getElem_cons_succ, List.setIfInBounds_toArray, List.set_cons_zero, List.set_cons_succ]
  refine wpAnyH_take (i := 5) (v := .int .i64 er) rfl (by kernel_rfl) (by kernel_rfl) (by kernel_rfl) (fun _ _ _ h => h) (Or.inl ⟨by rfl, fun W hW => ?_⟩) hHeld ?_
  · clear hW
    go_simp
  try simp only [Act.put, List.getElem_toArray, List.getElem_cons_zero, List.getElem_cons_succ, List.setIfInBounds_toArray, List.set_cons_zero, List.set_cons_succ]
  refine wpAnyH_take (i := 6) (v := .bool true) rfl (by kernel_rfl) (by kernel_rfl) (by kernel_rfl) (fun _ _ _ h => h) (Or.inl ⟨by rfl, fun W hW => ?_⟩) hHeld ?_
  · clear hW
    go_simp
  try simp only [Act.put, List.getElem_toArray, List.getElem_cons_zero, List.getElem_cons_succ, List.setIfInBounds_toArray, List.set_cons_zero, List.set_cons_succ]
  refine wpAnyH_take (i := 7) (v := .bool true) rfl (by kernel_rfl) (by kernel_rfl) (by kernel_rfl) (fun _ _ _ h => h) (Or.inl ⟨by rfl, fun W hW => ?_⟩) hHeld ?_
  · clear hW
    go_simp
  try simp only [Act.put, List.getElem_toArray, List.getElem_cons_zero, List.getElem_cons_succ, List.setIfInBounds_toArray, List.set_cons_zero, List.set_cons_succ]
  refine wpAnyH_take (i := 8) (v := .bool true) rfl (by kernel_rfl) (by kernel_rfl) (by kernel_rfl) (fun _ _ _ h => h) (Or.inl ⟨by rfl, fun W hW => ?_⟩) hHeld ?_
  · clear hW
    go_simp
  try simp only [Act.put, List.getElem_toArray, List.getElem_cons_zero, List.getElem_cons_succ, List.setIfInBounds_toArray, List.set_cons_zero, List.set_cons_succ]
  refine wpAnyH_take (i := 9) (v := .agg (xs.map bv).toArray) rfl (by kernel_rfl) (by kernel_rfl) (by kernel_rfl) (fun _ _ _ h => h) (yieldsIf_load_mid (by rfl) _ _ rfl _ _ rfl (xs.map bv) _ (fun W hW => hW.1) hu rfl hi1) hHeld ?_
  try simp only [Act.put, List.getElem_toArray, List.getElem_cons_zero, List.getElem_cons_succ, List.setIfInBounds_toArray, List.set_cons_zero, List.set_cons_succ]
  refine wpAnyH_take (i := 11) (v := .agg (xs.map bv).toArray) rfl (by kernel_rfl) (by kernel_rfl) (by kernel_rfl) (fun _ _ _ h => h) (yieldsIf_load_mid (by rfl) _ _ rfl _ _ rfl (xs.map bv) _ (fun W hW => hW.1) hu rfl hi1) hHeld ?_
  try simp only [Act.put, List.getElem_toArray, List.getElem_cons_zero, List.getElem_cons_succ, List.setIfInBounds_toArray, List.set_cons_zero, List.set_cons_succ]
  refine wpAnyH_ready (rs := [10]) (by kernel_rfl) (by simp) (AllReadyH.cons rfl (fun K hK => ?_) AllReadyH.nil)
  go_simp
  refine (HP.out.1 _ (HTb.out.grown hHeld.2.2.2)).mono ?_
  rintro e w5 ⟨rfl, KK⟩
  go_wp2_with fail
  refine hK.out _ _ (rng3_call KK hHeld) (fun hHeld => ?_)
  clear hK K
  try simp only [Act.put, List.getElem_toArray, List.getElem_cons_zero, List.getElem_cons_succ, List.setIfInBounds_toArray, List.set_cons_zero, List.set_cons_succ]
  refine wpAnyH_ready (rs := [12]) (by kernel_rfl) (by simp) (AllReadyH.cons rfl (fun K hK => ?_) AllReadyH.nil)
  go_simp
  refine (HP.out.2 _).mono ?_
  rintro e w5 ⟨rfl, KK⟩
  go_wp2_with fail
  refine hK.out _ _ (rng3_call KK hHeld) (fun hHeld => ?_)
  clear hK K
  try simp only [Act.put, List.getElem_toArray, List.getElem_cons_zero, List.getElem_cons_succ, List.setIfInBounds_toArray, List.set_cons_zero, List.set_cons_succ]
  refine wpAnyH_take (i := 13) (v := .bool true) rfl (by kernel_rfl) (by kernel_rfl) (by kernel_rfl) (fun _ _ _ h => h) (Or.inl ⟨by rfl, fun W hW => ?_⟩) hHeld ?_
  · clear hW
    go_simp
  try simp only [Act.put, List.getElem_toArray, List.getElem_cons_zero, List.getElem_cons_succ, List.setIfInBounds_toArray, List.set_cons_zero, List.set_cons_succ]
  refine wpAnyH_take (i := 14) (v := .bool true) rfl (by kernel_rfl) (by kernel_rfl) (by kernel_rfl) (fun _ _ _ h => h) (Or.inl ⟨by rfl, fun W hW => ?_⟩) hHeld ?_
  · clear hW
    go_simp
  try simp only [Act.put, List.getElem_toArray, List.getElem_cons_zero, List.getElem_cons_succ, List.setIfInBounds_toArray, List.set_cons_zero, List.set_cons_succ]
  refine wpAnyH_take (i := 15) (v := .bool true) rfl (by kernel_rfl) (by kernel_rfl) (by kernel_rfl) (fun _ _ _ h => h) (Or.inl ⟨by rfl, fun W hW => ?_⟩) hHeld ?_
  · clear hW
    go_simp
  try simp only [Act.put, List.getElem_toArray, List.getElem_cons_zero, List.getElem_cons_succ, List.setIfInBounds_toArray, List.set_cons_zero, List.set_cons_succ]
  refine wpAnyH_ready (rs := [16]) (by kernel_rfl) (by simp) (AllReadyH.cons rfl (fun K hK => ?_) AllReadyH.nil)
  go_simp
  refine (awake6_any _ (HTb.out.grown hHeld.2.2.2)).mono ?_
  rintro e w5 ⟨rfl, KK⟩
  go_wp2_with fail
  refine hK.out _ _ (rng3_call KK hHeld) (fun hHeld => ?_)
  clear hK K
  try simp only [Act.put, List.getElem_toArray, List.getElem_cons_zero, List.getElem_cons_succ, List.setIfInBounds_toArray, List.set_cons_zero, List.set_cons_succ]
  refine wpAnyH_take (i := 17) (v := .bool true) rfl (by kernel_rfl) (by kernel_rfl) (by kernel_rfl) (fun _ _ _ h => h) (Or.inl ⟨by rfl, fun W hW => ?_⟩) hHeld ?_
  · clear hW
    go_simp
  try simp only [Act.put, List.getElem_toArray, List.getElem_cons_zero, List.getElem_cons_succ, List.setIfInBounds_toArray, List.set_cons_zero, List.set_cons_succ]
  refine wpAnyH_take (i := 18) (v := .bool true) rfl (by kernel_rfl) (by kernel_rfl) (by kernel_rfl) (fun _ _ _ h => h) (Or.inl ⟨by rfl, fun W hW => ?_⟩) hHeld ?_
  · clear hW
    go_simp
  try simp only [Act.put, List.getElem_toArray, List.getElem_cons_zero, List.getElem_cons_succ, List.setIfInBounds_toArray, List.set_cons_zero, List.set_cons_succ]
  refine wpAnyH_done (by kernel_rfl) ?_ _
  clear heq
  go_wp2
  go_ret
  exact ⟨rfl, hHeld.2.2.2⟩

set_option maxRecDepth 100000 in
theorem lifted (os : Os) (started : os.Started) (H : Type) (enc : TypeId × Value → H) (F : Stop.Interp) :
    ReturnsInHanded {} Tryd.checked os 4 .any ((Rows.OpenSpec.upto Rows.addrSixesSpec).preRow enc Tryd.prog Tryd.f4 Rows.addrSixesUptoRow.domain false Rows.addrSixesUptoRow.laid) (((Rows.OpenSpec.upto Rows.addrSixesSpec).at F).post enc Tryd.prog Tryd.f4 false true false false) := by
  have hx : DataW.whole enc Tryd.prog ((laidWorld os).forCall (fun _ _ => 0) ⟨#[], #[.string .empty, .agg #[.int .u8 0, .int .u8 0, .int .u8 0, .int .u8 0, .int .u8 0, .int .u8 0, .int .u8 0, .int .u8 0, .int .u8 0, .int .u8 0, .int .u8 0, .int .u8 0, .int .u8 0, .int .u8 0, .int .u8 0, .int .u8 0]], []⟩).memory Tryd.f4.params.toList Rows.addrSixesSpec.vars false (#[.string .empty, .agg #[.int .u8 0, .int .u8 0, .int .u8 0, .int .u8 0, .int .u8 0, .int .u8 0, .int .u8 0, .int .u8 0, .int .u8 0, .int .u8 0, .int .u8 0, .int .u8 0, .int .u8 0, .int .u8 0, .int .u8 0, .int .u8 0]] : Array Value).toList 8 = some ([.lit (.string []), .agg [.lit (.int .u8 0), .lit (.int .u8 0), .lit (.int .u8 0), .lit (.int .u8 0), .lit (.int .u8 0), .lit (.int .u8 0), .lit (.int .u8 0), .lit (.int .u8 0), .lit (.int .u8 0), .lit (.int .u8 0), .lit (.int .u8 0), .lit (.int .u8 0), .lit (.int .u8 0), .lit (.int .u8 0), .lit (.int .u8 0), .lit (.int .u8 0)]], [], []) := by kernel_rfl
  refine returnsInHanded_of_row (C := Tryd.checked) (s := (Rows.OpenSpec.upto Rows.addrSixesSpec)) own started (by kernel_rfl) Tryd.func4
    (witness_row_at (enc := enc) (C := Tryd.checked) false (laidWorld os) #[.string .empty, .agg #[.int .u8 0, .int .u8 0, .int .u8 0, .int .u8 0, .int .u8 0, .int .u8 0, .int .u8 0, .int .u8 0, .int .u8 0, .int .u8 0, .int .u8 0, .int .u8 0, .int .u8 0, .int .u8 0, .int .u8 0, .int .u8 0]] rfl (by kernel_rfl) (by kernel_rfl) (by kernel_rfl)
      (OpenSpec.preRow_of_cond 8 hx (by kernel_rfl) (fun k hk => by cases hk; kernel_rfl) (by kernel_rfl) (laid_met os _))) ?_
  intro W base args ds gs before hval0 hW hcnd hcond hsz0 hL hsh _
  have hk0 := hcond _ rfl
  have T : Tab W := laid_tab hL hsh
  have hval : ∀ (j : Nat) t v, Tryd.f4.params[j]? = some t → args[j]? = some v → Value.okWide Tryd.prog W .any base t v := hval0
  have hW' := hW
  obtain ⟨p, q, hA0, hV, rfl, hfz, hnd⟩ := hW
  have hA : DataW.TrodAll enc Tryd.prog W 0 (fun _ => true) true Tryd.f4.params.toList args.toList ds p := hA0
  rw [Tryd.params4] at hA hval
  obtain ⟨v0, vs0, d0, ds0, p0, q0, hargs, rfl, rfl, h0, r0⟩ := trodAll_cons hA
  obtain ⟨v1, vs1, d1, ds1, p1, q1, rfl, rfl, rfl, h1, r1⟩ := trodAll_cons r0
  obtain ⟨rfl, rfl, rfl⟩ := trodAll_nil r1
  obtain rfl : args = #[v0, v1] := by cases args; simp_all
  obtain ⟨rfl, rfl⟩ := trodVars_none hV
  obtain ⟨s0, rfl, rfl, rfl, hs0⟩ := open_string Tryd.underlying9 (hval 0 9 v0 rfl rfl) h0
  have k1 := h1
  have lt1 : ∀ x ∈ p1, x.block < W.heap.size := by obtain ⟨m, hm⟩ := k1; exact DataW.trod_lt m _ _ _ hm
  obtain ⟨x1, xl1, rfl⟩ := open_arr Tryd.underlying29 (by kernel_rfl) (by decide) h1
  simp only [List.append_nil] at hW' hk0
  have hk : Rows.uptoBulkAll ([.lit (.string s0.data.toList), d1] : List (DataW H)) ≤ 1048576 := of_decide_eq_true hk0
  simp only [Rows.uptoBulkAll] at hk
  have hlen0 : s0.size ≤ 1048576 := by
    have e := bulk_string (H := H) s0
    omega
  clear hA0 hval0
  refine (walk s0 x1 W hlen0 xl1 T).mono fun e W' ⟨he, hg⟩ => ?_
  subst he
  have bel : Below W.heap.size W W' := (Below.refl _ _).grown hg (Nat.le_refl _) (by simp)
  exact ⟨_, rfl, _, _, _, [], _, [], hW', trodAll_mk1 (shut_bool Tryd.underlying4 _), (trodAll_cons_mk (shut_string Tryd.underlying9 hs0) (trodAll_cons_mk (Below.trod laidOut (by kernel_rfl) (of_decide_eq_true (by kernel_rfl)) k1 bel lt1) trodAll_mk0)), rfl, bel.frame _, fun h => by cases h⟩

theorem over : Rows.AddrSixesUptoSaid :=
  OpenClaim.holds_of_cond 4 Tryd.f4 rfl rfl rfl rfl rfl rfl rfl ⟨rfl, rfl, rfl, rfl, rfl⟩ rfl rfl rfl rfl rfl (by kernel_rfl) Tryd.func4 (by kernel_rfl)
    (of_decide_eq_true (by kernel_rfl)) (by unfold Func.isWrapper; first | (rw [if_pos (by decide +kernel)]; kernel_rfl) | (rw [if_neg (by decide +kernel)]; exact ⟨rfl, rfl⟩))
    (fun os started H enc _ F => by rw [OpenClaim.pre_eq_preRow]; exact lifted os started H enc F)

theorem plain (f : FuncId) (fn : Func) (hf : Tryd.pinned.checked.prog.funcNamed "riddle/riddlelaw6.AddrSixes" = some f) (hfn : Tryd.pinned.checked.prog.funcs[f]? = some fn) :
    false = Tryd.pinned.checked.prog.looks [] ∧ ∀ (j : Nat) t, fn.params[j]? = some t → Tryd.pinned.checked.prog.wantsStandIn t = false := by
  obtain rfl : f = 4 := Option.some.inj ((show Tryd.prog.funcNamed "riddle/riddlelaw6.AddrSixes" = some 4 by kernel_rfl).symm.trans hf) |>.symm
  obtain rfl : fn = Tryd.f4 := (Option.some.inj (Tryd.func4.symm.trans hfn)).symm
  refine ⟨by kernel_rfl, fun j t ht => ?_⟩
  rw [Tryd.params4] at ht
  have ht2 := Array.mem_of_getElem? ht
  simp only [List.mem_toArray, List.mem_cons, List.not_mem_nil, or_false] at ht2
  rcases ht2 with rfl | rfl
  · exact (show Tryd.prog.wantsStandIn 9 = false by kernel_rfl)
  · exact (show Tryd.prog.wantsStandIn 29 = false by kernel_rfl)

theorem card : Rows.AddrSixesUptoCardSaid :=
  Claim7.holds_tied_plain_at .later [] _ _ _ _ over (fun _ h => by cases h) (by kernel_rfl) (fun _ h => by cases h) addrSixesUpto_row_tie rfl ⟨rfl, rfl⟩ (by kernel_rfl) rfl plain (by kernel_rfl)

end addrSixes

theorem addrSixesUpto_holds : Rows.AddrSixesUptoCardSaid := addrSixes.card
#print axioms addrSixesUpto_holds

end Go.Proofs.YtbklagdegnflgaaDoor
