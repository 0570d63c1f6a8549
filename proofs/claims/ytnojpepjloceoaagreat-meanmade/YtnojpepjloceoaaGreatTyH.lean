/-
  Package types as landed: addresses of hosts and nets.
-/
import Derived.Test.YtnojpepjloceoaaGreatTyF
import Derived.Test.YtnojpepjloceoaaGreatLotP21
import Derived.Laws.CopyOwn
namespace Go.Proofs.YtnojpepjloceoaaGreat
open Go.RowKit
set_option maxRecDepth 100000

theorem adgs_len (x : Ng) : (adgs x).length = 16 := rfl
theorem addrG_len (x : Ng) : (addrG x).length = if x.of = 2 then 4 else 16 := by
  unfold addrG
  split <;> simp [adgs_len]
theorem range_cells {w : World} {b o : Nat} {xs : List UInt8} (h : w.rangeAt b o (xs.map bv)) : Cells w (some ⟨b, o, none⟩) xs := by
  refine ⟨fun e => (by cases e), fun ad had j hj => ?_⟩
  cases had
  rw [Addr.add_lit]
  exact h j _ (by simp [hj])

theorem range_take {w : World} {b o n : Nat} {xs : List UInt8} (h : Cells w (some ⟨b, o, none⟩) xs) : Cells w (some ⟨b, o, none⟩) (xs.take n) := by
  refine ⟨fun e => (by cases e), fun ad had j hj => ?_⟩
  rw [List.length_take] at hj
  rw [h.2 ad had j (by omega), List.getElem_take]

set_option maxHeartbeats 400000 in
theorem addressOf_any (x : Ng) (w : World) : Calls Tryz.prog 124 #[.agg x.cells.toArray] w fun e w' => ∃ B, e = .returned (.slice (some ⟨B, 7, none⟩) (addrG x).length 16) ∧ Cells w' (some ⟨B, 7, none⟩) (addrG x) ∧ w.heap.size ≤ B ∧ w.grownBy w' none := by
  have HBX := box_ng x
  have h1 := NB.alloc w x
  have h3 := World.grownBy_alloc w (.cells x.cells.toArray 37) none
  have c5 := h1.of
  have HA : Hid (Cells _ _ (adgs x)) := range_cells h1.addr
  have HB : Hid (w.heap.size ≤ w.heap.size) := Nat.le_refl _
  obtain ⟨L, hL⟩ : ∃ L, (addrG x).length = L := ⟨_, rfl⟩
  rw [hL]
  have HL : Hid ((addrG x).length = L) := hL
  clear hL
  obtain ⟨X, hX⟩ : ∃ X, x.cells.toArray = X := ⟨_, rfl⟩
  rw [hX] at HBX ⊢
  by_cases q : x.of = 2
  · have HQ : Hid (addrG x = (adgs x).take 4) := by show addrG x = _; rw [addrG, if_pos q]
    have e1 : (x.of == 2) = true := by simpa using q
    have HL2 : Hid (L = 4) := by show L = 4; rw [← HL.out, HQ.out]; rfl
    clear q
    go_enter Tryz.func124, Tryz.ntmps124
    go_upto_region 1 with fail
    rw [← hX] at *
    generalize w.alloc (.cells x.cells.toArray 37) = w1 at *
    obtain ⟨B, hB⟩ : ∃ B, w.heap.size = B := ⟨_, rfl⟩
    have HB2 : Hid (w.heap.size ≤ B) := Nat.le_of_eq hB
    rw [hB] at c5 HA ⊢
    clear HBX hX X h1 HB hB
    go_wp2
    go_ret
    refine ⟨B, ?_, ?_, HB2.out, h3⟩
    · rw [HL2.out]; rfl
    · rw [HQ.out]; exact range_take HA.out
  · have HQ : Hid (addrG x = adgs x) := by show addrG x = _; rw [addrG, if_neg q]
    have e1 : (x.of == 2) = false := by simpa using q
    have HL2 : Hid (L = 16) := by show L = 16; rw [← HL.out, HQ.out]; rfl
    clear q
    go_enter Tryz.func124, Tryz.ntmps124
    go_upto_region 1 with fail
    rw [← hX] at *
    generalize w.alloc (.cells x.cells.toArray 37) = w1 at *
    obtain ⟨B, hB⟩ : ∃ B, w.heap.size = B := ⟨_, rfl⟩
    have HB2 : Hid (w.heap.size ≤ B) := Nat.le_of_eq hB
    rw [hB] at c5 HA ⊢
    clear HBX hX X h1 HB hB
    go_wp2
    go_ret
    refine ⟨B, ?_, ?_, HB2.out, h3⟩
    · rw [HL2.out]; rfl
    · rw [HQ.out]; exact HA.out

/-- The address as mayAddress lays it. -/
def padG (x : Ng) : List UInt8 := splice ((zeros 16)) 0 (addrG x)
theorem hostG_eq (x : Ng) : (inG x.of 2 3 && inG x.side 0 2 && decide (adgs x = padG x)) = hostG x := by
  unfold hostG padG addrG
  by_cases h : x.of = 2
  · rw [if_pos h]
    have e : (x.of == 3) = false := by rw [h]; rfl
    rw [e, Bool.false_or]
    congr 1
    apply decide_eq_decide.2
    constructor
    · intro h2
      have := congrArg (List.drop 4) h2
      simpa [splice, zeros, adgs_len] using this
    · intro h2
      have : splice (zeros 16) 0 ((adgs x).take 4) = (adgs x).take 4 ++ zeros 12 := by simp [splice, zeros, adgs_len]
      rw [this, ← h2, List.take_append_drop]
  · rw [if_neg h]
    have : splice (zeros 16) 0 (adgs x) = adgs x := by simp [splice, zeros, adgs_len]
    rw [this, decide_eq_true rfl, Bool.and_true]
    by_cases h3 : x.of = 3
    · rw [h3]; simp
    · have : inG x.of 2 3 = false := by unfold inG; by_cases h4 : (2 : Int) ≤ x.of <;> simp [h4] <;> omega
      rw [this]; rfl

theorem bld_arr (W : World) : (Instr.alloc 25 true (.tuple #[])).run Tryz.prog W = .ok (.pointer (some ⟨W.heap.size, 0, none⟩)) (W.alloc (.cells ((zeros 16).map bv).toArray 25)) := by kernel_rfl
theorem size_u8 : (Tryz.prog.info? 5).map (·.size) = some 1 := by kernel_rfl
theorem size_z16 (xs : List UInt8) (h : xs.length = 16) : (Tryz.prog.info? 25).map (·.size) = some (xs.map bv).toArray.size := by rw [List.size_toArray, List.length_map, h]; kernel_rfl
theorem padG_len (x : Ng) : (padG x).length = 16 := by
  have := addrG_len x
  unfold padG
  simp only [splice, zeros]
  rw [List.length_append, List.length_append, List.length_take, List.length_drop, List.length_replicate]
  split at this <;> omega
theorem pad_map (x : Ng) : splice ((zeros 16).map bv) 0 ((addrG x).map bv) = (padG x).map bv := by simp [padG, splice, zeros]
theorem addr_eqT (x : Ng) (w : World) : (Op.equalIn 10000 25 (.agg ((adgs x).map bv).toArray) (.agg ((padG x).map bv).toArray)).run Tryz.prog w = .ok (decide (adgs x = padG x)) w := by
  obtain ⟨i0, hi, -⟩ := info_parts info5
  exact eq_bytes Tryz.underlying25 hi Tryz.underlying5 (by kernel_rfl) (by kernel_rfl) _ _ (adgs_len x) (padG_len x) w

theorem wpList_load_midG {P : Program} {ops : Array Oper} {rest : List Oper} {op : Oper} {a : Act} {w : World} {Q : Exit → Act → World → Prop} (hw : Region.wanted op (yielded ops a.tmps) = true) (ty : TypeId) (x : Operand) (ho : op.op = .load ty x)
    (b o : Nat) (hx : a.eval x = .pointer (some ⟨b, o, none⟩)) (cs : List Value) (d : TypeDesc) (hc : w.rangeAt b o cs)
    (hu : P.underlying ty = some d) (hd : d.isRow = true) (hi : (P.info? ty).map (·.size) = some cs.length)
    (h : wpList P ops Q rest (a.put op.dst (.agg cs.toArray)) w) : wpList P ops Q (op :: rest) a w :=
  BigFrame.wpList_want hw fun _ hK => wp_load_mid ty x ho b o hx cs d hc hu hd hi (hK _ _ h)

set_option maxHeartbeats 2000000 in
theorem mayAddress_any (x : Ng) (w : World) : Calls Tryz.prog 93 #[.agg x.cells.toArray] w fun e w' => e = .returned (.bool (hostG x)) ∧ w.grownBy w' none := by
  rw [← hostG_eq]
  obtain ⟨E, hE⟩ : ∃ E : Bool, (inG x.of 2 3 && inG x.side 0 2 && decide (adgs x = padG x)) = E := ⟨_, rfl⟩
  rw [hE]
  have HE : Hid ((inG x.of 2 3 && inG x.side 0 2 && decide (adgs x = padG x)) = E) := hE
  clear hE
  have HBX := box_ng x
  have HAR := bld_arr
  have HZ : Hid ((Tryz.prog.info? 37).map (·.size) = some x.cells.toArray.size) := ng_size x
  have HAD : Hid (∀ W : World, Calls Tryz.prog 124 #[.agg x.cells.toArray] W fun e w' => ∃ B, e = .returned (.slice (some ⟨B, 7, none⟩) (addrG x).length 16) ∧ Cells w' (some ⟨B, 7, none⟩) (addrG x) ∧ W.heap.size ≤ B ∧ W.grownBy w' none) := fun W => addressOf_any x W
  have HC1 : Hid (∀ W : World, Calls Tryz.prog 89 #[.agg x.cells.toArray] W fun e w' => e = .returned (.bool (inG x.of 2 3)) ∧ W.grownBy w' none) := fun W => mayCarry_any x W
  have HC2 : Hid (∀ W : World, Calls Tryz.prog 125 #[.agg x.cells.toArray] W fun e w' => e = .returned (.bool (inG x.side 0 2)) ∧ W.grownBy w' none) := fun W => maySide_any x W
  have HEQ := addr_eqT x
  have HLA : Hid ((addrG x).length ≤ 16 ∧ (addrG x).length = Nat.min (addrG x).length 16) := by
    have := addrG_len x
    have h : (addrG x).length ≤ 16 := by rw [this]; split <;> omega
    exact ⟨h, (Nat.min_eq_left h).symm⟩
  obtain ⟨X, hX⟩ : ∃ X, x.cells.toArray = X := ⟨_, rfl⟩
  have HXX : Hid (x.cells.toArray = X) := hX
  rw [hX] at HBX HZ HAD HC1 HC2 ⊢
  have V1 := VAt.alloc w 37 X
  have G1 := World.grownBy_alloc w (.cells X 37) none
  go_enter Tryz.func93, Tryz.ntmps93
  go_upto_region 1 with fail
  generalize w.alloc (.cells X 37) = w1 at *
  obtain ⟨B, hB⟩ : ∃ B, w.heap.size = B := ⟨_, rfl⟩
  have HB2 : Hid (w.heap.size ≤ B) := Nat.le_of_eq hB
  rw [hB] at V1 ⊢
  clear HBX hX hB
  have V2 := VAt.alloc w1 25 ((zeros 16).map bv).toArray
  have G2 := World.grownBy_alloc w1 (.cells ((zeros 16).map bv).toArray 25) none
  go_upto_region 2 with fail
  rw [show #[.int .u8 0, .int .u8 0, .int .u8 0, .int .u8 0, .int .u8 0, .int .u8 0, .int .u8 0, .int .u8 0, .int .u8 0, .int .u8 0, .int .u8 0, .int .u8 0, .int .u8 0, .int .u8 0, .int .u8 0, .int .u8 0] = ((zeros 16).map bv).toArray from rfl]
  generalize w1.alloc (.cells ((zeros 16).map bv).toArray 25) = w2 at *
  obtain ⟨A, hA⟩ : ∃ A, w1.heap.size = A := ⟨_, rfl⟩
  have HA : Hid (B < A ∧ w.heap.size ≤ A) := by have := V1.lt; have := HB2.out; exact ⟨by omega, by omega⟩
  rw [hA] at V2 ⊢
  have HS0 : Hid (VAt w2.drew B 37 X ∧ VAt w2.drew A 25 ((zeros 16).map bv).toArray ∧ w.grownBy w2.drew none) := ⟨(V1.kept G2).kept (grown_drewN w2 1 none), V2.kept (grown_drewN w2 1 none), grown_trans G1 (grown_trans G2 (grown_drewN w2 1 none))⟩
  clear hA V1 V2 G1 G2 HAR
  refine wp_region_held_drew (S := fun W => VAt W B 37 X) (by kernel_rfl) HS0.out.1 (fun hHeld => ?_)
  refine wpAnyH_take (i := 0) (v := .slice (some ⟨A, 0, none⟩) 16 16) rfl (by kernel_rfl) (by kernel_rfl) (by kernel_rfl) (fun _ _ _ h => h) (Or.inl ⟨by rfl, fun W hW => ?_⟩) hHeld ?_
  · clear hW
    go_simp
  try simp only [Act.put, List.getElem_toArray, List.getElem_cons_zero, List.setIfInBounds_toArray, List.set_cons_zero, List.set_cons_succ]
  refine wpAnyH_take (i := 1) (v := .agg X) rfl (by kernel_rfl) (by kernel_rfl) (by kernel_rfl) (fun _ _ _ h => h) (yieldsIf_load_row (by rfl) _ _ rfl B rfl 37 X _ (fun W hW => hW) Tryz.underlying37 rfl HZ.out) hHeld ?_
  try simp only [Act.put, List.getElem_toArray, List.getElem_cons_zero, List.getElem_cons_succ, List.setIfInBounds_toArray, List.set_cons_zero, List.set_cons_succ]
  refine wpAnyH_ready (rs := [2]) (by kernel_rfl) (by simp) (AllReadyH.cons rfl (fun K hK => ?_) AllReadyH.nil)
  go_simp
  refine (HAD.out _).mono ?_
  rintro e wc ⟨B2, rfl, C2, hB2, K2⟩
  go_wp2_with fail
  have V2 := HS0.out.2.1.kept K2
  have G2 := grown_trans HS0.out.2.2 K2
  refine hK.out _ _ (hHeld.kept K2) (fun hHeld => ?_)
  clear hK K K2 HS0
  try simp only [Act.put, List.getElem_toArray, List.getElem_cons_zero, List.getElem_cons_succ, List.setIfInBounds_toArray, List.set_cons_zero, List.set_cons_succ]
  refine wpAnyH_ready (rs := [3]) (by kernel_rfl) (by simp) (AllReadyH.cons rfl (fun K hK => ?_) AllReadyH.nil)
  refine step_copy_splice rfl (.tmp 4) (.tmp 6) 26 26 rfl 5 Tryz.underlying26 size_u8 (some ⟨A, 0, none⟩) (some ⟨B2, 7, none⟩) 16 16 (addrG x).length 16 rfl rfl A 0 ((zeros 16).map bv) 25 V2 ((addrG x).map bv) (by rw [List.length_map]; exact HLA.out.2) (fun _ => ⟨rfl, _, rfl, ?_⟩) (by rw [List.length_map, List.length_map, zeros_len]; have := HLA.out.1; omega) (bv_one _) A wc (Below.refl _ _) (Nat.le_refl _) ?_
  · intro j v hv
    obtain ⟨hlt, e⟩ := List.getElem?_eq_some_iff.1 hv
    rw [List.length_map] at hlt
    rw [C2.2 _ rfl j hlt, ← e]
    simp
  intro w3 hc3 hb3
  have V3 : VAt w3 B 37 X := by have := hb3.block B HA.out.1; unfold VAt; rw [this]; exact hHeld
  have P3 : VAt w3 A 25 ((padG x).map bv).toArray := by have := hc3.out; rw [pad_map] at this; exact this
  have G3 : w.grownBy w3 none := ⟨hb3.os.trans G2.os, hb3.tape.trans G2.tape, hb3.output.trans G2.output, Nat.le_trans G2.size hb3.size, fun k hk _ => (hb3.block k (Nat.lt_of_lt_of_le hk HA.out.2)).trans (G2.block k hk (by simp))⟩
  refine hK.out _ _ V3 (fun hHeld => ?_)
  clear hK K hb3 hc3 G2 V2 C2 hB2
  try simp only [Act.put, List.getElem_toArray, List.getElem_cons_zero, List.getElem_cons_succ, List.setIfInBounds_toArray, List.set_cons_zero, List.set_cons_succ]
  refine wpAnyH_done (by kernel_rfl) ?_ _
  clear hHeld
  have LV := V3
  have HV3 : Hid (VAt w3 B 37 X ∧ VAt w3 A 25 ((padG x).map bv).toArray) := ⟨V3, P3⟩
  have HZA : Hid ((Tryz.prog.info? 25).map (·.size) = some ((padG x).map bv).toArray.size) := size_z16 _ (padG_len x)
  have HZB : Hid ((Tryz.prog.info? 25).map (·.size) = some ((adgs x).map bv).length) := size_arr16 x
  clear V3 P3 HAD HLA
  go_wp2_with (refine wpList_load_row rfl 37 (.tmp 1) rfl B rfl 37 X (0, 0) _ LV Tryz.underlying37 rfl HZ.out ?_)
  refine (HC1.out _).mono ?_
  rintro e w4 ⟨rfl, K4⟩
  have LV := HV3.out.1.kept K4
  have G4 := grown_trans G3 K4
  cases q1 : inG x.of 2 3 with
  | false =>
    have HQ : Hid (inG x.of 2 3 = false) := q1
    clear q1
    go_wp2
    go_ret
    exact ⟨ret_bool (by rw [← HE.out, HQ.out]; rfl), G4⟩
  | true =>
    have HQ : Hid (inG x.of 2 3 = true) := q1
    clear q1
    go_wp2_with (refine wpList_load_rowG (by rfl) 37 (.tmp 1) rfl B rfl 37 X (0, 0) _ LV Tryz.underlying37 rfl HZ.out ?_)
    refine (HC2.out _).mono ?_
    rintro e w5 ⟨rfl, K5⟩
    have LV5 := LV.kept K5
    have LA5 := (HV3.out.2.kept K4).kept K5
    have G5 := grown_trans G4 K5
    have HR : Hid (w5.rangeAt B 7 ((adgs x).map bv)) := by
      have : NB w5 B x := by unfold NB; rw [HXX.out]; exact LV5
      exact this.addr
    clear LV K4 K5
    cases q2 : inG x.side 0 2 with
    | false =>
      have HQ2 : Hid (inG x.side 0 2 = false) := q2
      clear q2
      go_wp2
      go_ret
      exact ⟨ret_bool (by rw [← HE.out, HQ.out, HQ2.out]; rfl), G5⟩
    | true =>
      have HQ2 : Hid (inG x.side 0 2 = true) := q2
      clear q2
      go_wp2_with (first | refine wpList_load_rowG (by rfl) 25 (.tmp 3) rfl A rfl 25 ((padG x).map bv).toArray (0, 0) _ LA5 Tryz.underlying25 rfl HZA.out ?_ | refine wpList_load_midG (by rfl) 25 (.tmp 15) rfl B 7 rfl ((adgs x).map bv) _ HR.out Tryz.underlying25 rfl HZB.out ?_)
      go_ret
      exact ⟨ret_bool (by rw [← HE.out, HQ.out, HQ2.out]; rfl), G5⟩

theorem netE_len (x : Ng) (b : Int) : netE (addrG x).length b = if ¬ (0 ≤ b ∧ b ≤ 8 * ((addrG x).length : Int)) then 61 else 0 := by
  have h := addrG_len x
  have h4 : ¬ ((addrG x).length ≠ 4 ∧ (addrG x).length ≠ 16) := by split at h <;> omega
  rw [netE, if_neg h4]
  by_cases hb : b < 0 ∨ 8 * ((addrG x).length : Int) < b
  · rw [if_pos hb, if_pos (by omega)]
  · rw [if_neg hb, if_neg (by omega)]

set_option maxHeartbeats 2000000 in
theorem boundsOfNet_any (x : Ng) (w : World) (hk : x.kind = 15) : Calls Tryz.prog 95 #[.agg x.cells.toArray] w fun e w' => e = .returned (.int .i64 (rangeE x)) ∧ w.grownBy w' none := by
  obtain ⟨E, hE⟩ : ∃ E : Int, rangeE x = E := ⟨_, rfl⟩
  rw [hE]
  have HE : Hid ((if ¬ (0 ≤ x.bits ∧ x.bits ≤ 8 * ((addrG x).length : Int)) then 124 else if maskV x.bits.toNat (addrG x) = addrG x then 0 else 125) = E) := by
    have := hE
    rw [rangeE, if_neg (show ¬ x.kind = 3 by omega), if_neg (show ¬ x.kind = 12 by omega), if_neg (show ¬ x.kind = 13 by omega), if_neg (show ¬ x.kind = 16 by omega), if_pos hk] at this
    exact this
  clear hE hk
  have HBX := box_ng x
  have HZ : Hid ((Tryz.prog.info? 37).map (·.size) = some x.cells.toArray.size) := ng_size x
  have HAD : Hid (∀ W : World, Calls Tryz.prog 124 #[.agg x.cells.toArray] W fun e w' => ∃ B, e = .returned (.slice (some ⟨B, 7, none⟩) (addrG x).length 16) ∧ Cells w' (some ⟨B, 7, none⟩) (addrG x) ∧ W.heap.size ≤ B ∧ W.grownBy w' none) := fun W => addressOf_any x W
  have HLA : Hid ((addrG x).length ≤ 16) := by
    have := addrG_len x
    show _ ≤ _
    rw [this]; split <;> omega
  have HNE : Hid _ := netE_len x x.bits
  obtain ⟨X, hX⟩ : ∃ X, x.cells.toArray = X := ⟨_, rfl⟩
  have HXX : Hid (x.cells.toArray = X) := hX
  rw [hX] at HBX HZ HAD ⊢
  have V1 := VAt.alloc w 37 X
  have G1 := World.grownBy_alloc w (.cells X 37) none
  go_enter Tryz.func95, Tryz.ntmps95
  go_upto_region 1 with fail
  generalize w.alloc (.cells X 37) = w1 at *
  generalize w.heap.size = B at V1 ⊢
  clear HBX hX
  go_wp2_with (refine wpList_load_row rfl 37 (.tmp 1) rfl B rfl 37 X (0, 0) _ V1 Tryz.underlying37 rfl HZ.out ?_)
  refine (HAD.out _).mono ?_
  rintro e w2 ⟨B2, rfl, C2, -, K2⟩
  have c8 : w2.cell? ⟨B, 23, none⟩ = some (.int .i64 x.bits) := by
    have : NB w2 B x := by unfold NB; rw [HXX.out]; exact V1.kept K2
    exact this.bits
  have G2 := grown_trans G1 K2
  have CN := net_any (some ⟨B2, 7, none⟩) 16 (addrG x) x.bits w2 C2 (by simp) (by have := HLA.out; omega)
  have HC2 : Hid (Cells w2 (some ⟨B2, 7, none⟩) (addrG x)) := C2
  clear V1 G1 K2 HAD C2
  rw [HNE.out] at CN
  by_cases hb : 0 ≤ x.bits ∧ x.bits ≤ 8 * ((addrG x).length : Int)
  · rw [if_neg (fun h => h hb)] at CN
    have HQ : Hid (0 ≤ x.bits ∧ x.bits ≤ 8 * ((addrG x).length : Int)) := hb
    have hn : netE (addrG x).length x.bits = 0 := by rw [HNE.out, if_neg (fun h => h hb)]
    have hv : netV (addrG x) x.bits = maskV x.bits.toNat (addrG x) := by rw [netV, if_pos hn]
    rw [hv] at CN
    clear hb hv hn HNE
    go_wp2_with fail
    refine CN.mono ?_
    rintro e w3 ⟨v3, rfl, O3, K3⟩
    obtain ⟨a3, k3, rfl, C3, -⟩ := O3.rd
    have CE := equal_any a3 (some ⟨B2, 7, none⟩) k3 16 _ _ w3 C3 (HC2.out.keptNone K3)
    have G3 := grown_trans G2 K3
    rw [mask_len] at CE
    clear CN K3 O3 C3 G2
    by_cases hm : maskV x.bits.toNat (addrG x) = addrG x
    · rw [decide_eq_true hm] at CE
      have HM : Hid (maskV x.bits.toNat (addrG x) = addrG x) := hm
      clear hm
      rw [mask_len]
      go_wp2_with fail
      refine CE.mono ?_
      rintro e w' ⟨rfl, rfl⟩
      go_wp2
      go_ret
      exact ⟨ret_int (by rw [← HE.out, if_neg (fun h => h HQ.out), if_pos HM.out]), G3⟩
    · rw [decide_eq_false hm] at CE
      have HM : Hid (¬ maskV x.bits.toNat (addrG x) = addrG x) := hm
      clear hm
      rw [mask_len]
      go_wp2_with fail
      refine CE.mono ?_
      rintro e w' ⟨rfl, rfl⟩
      go_wp2
      go_ret
      exact ⟨ret_int (by rw [← HE.out, if_neg (fun h => h HQ.out), if_neg HM.out]), G3⟩
  · rw [if_pos hb] at CN
    have HQ : Hid (¬ (0 ≤ x.bits ∧ x.bits ≤ 8 * ((addrG x).length : Int))) := hb
    clear hb HNE
    go_wp2_with fail
    refine CN.mono ?_
    rintro e w3 ⟨v3, rfl, O3, K3⟩
    have G3 := grown_trans G2 K3
    clear CN K3 O3 G2
    go_wp2
    go_ret
    exact ⟨ret_int (by rw [← HE.out, if_pos HQ.out]), G3⟩

end Go.Proofs.YtnojpepjloceoaaGreat
