import Derived.Test.YtcodofamdhcfiaaGreatAb
import Derived.Test.YtcodofamdhcfiaaGreatTyF
import Derived.Test.YtcodofamdhcfiaaGreatLotP9
import Derived.Laws.CopyOwn
import Derived.Test.YtcodofamdhcfiaaGreatLotP16
namespace Go.Proofs.YtcodofamdhcfiaaGreat
open Go.RowKit
set_option maxRecDepth 100000
theorem adgs_len (x : Ng) : (adgs x).length = 16 := rfl
theorem addrG_len (x : Ng) : (addrG x).length = if x.of = 2 then 4 else 16 := by
 unfold addrG
 split <;> simp [adgs_len]
theorem range_cells {w : World} {b o : Nat} {xs : List UInt8} (h : w.rangeAt b o (xs.map bv)) : Cells w (some ⟨b, o, none⟩) xs := by
 refine ⟨fun e => (by cases e), fun ad had j hj => ?_⟩
 cases had
 rw [Addr.add_lit]
 exact h j _ (by simp [hj])
theorem range_take {w : World} {b o n : Nat} {xs : List UInt8} (h : Cells w (some ⟨b, o, none⟩) xs) : Cells w (some ⟨b, o, none⟩) (xs.take n) := by
 refine ⟨fun e => (by cases e), fun ad had j hj => ?_⟩
 rw [List.length_take] at hj
 rw [h.2 ad had j (by omega), List.getElem_take]
set_option maxHeartbeats 400000 in
theorem addressOf_any (x : Ng) (w : World) : Calls Tryz.prog 135 #[.agg x.cells.toArray] w fun e w' => ∃ B, e = .returned (.slice (some ⟨B, 7, none⟩) (addrG x).length 16) ∧ Cells w' (some ⟨B, 7, none⟩) (addrG x) ∧ w.heap.size ≤ B ∧ w.grownBy w' none := by
 have HBX := box_ng x
 have h1 := NB.alloc w x
 have h3 := World.grownBy_alloc w (.cells x.cells.toArray 52) none
 have c5 := h1.of
 have HA : Hid (Cells _ _ (adgs x)) := range_cells h1.addr
 have HB : Hid (w.heap.size ≤ w.heap.size) := Nat.le_refl _
 obtain ⟨L, hL⟩ : ∃ L, (addrG x).length = L := ⟨_, rfl⟩
 rw [hL]
 have HL : Hid ((addrG x).length = L) := hL
 clear hL
 obtain ⟨X, hX⟩ : ∃ X, x.cells.toArray = X := ⟨_, rfl⟩
 rw [hX] at HBX ⊢
 by_cases q : x.of = 2
 ·have HQ : Hid (addrG x = (adgs x).take 4) := by show addrG x = _; rw [addrG, if_pos q]
  have e1 : (x.of == 2) = true := by simpa using q
  have HL2 : Hid (L = 4) := by show L = 4; rw [← HL.out, HQ.out]; rfl
  clear q
  go_enter Tryz.func135, Tryz.ntmps135
  go_upto_region 1 with fail
  rw [← hX] at *
  generalize w.alloc (.cells x.cells.toArray 52) = w1 at *
  obtain ⟨B, hB⟩ : ∃ B, w.heap.size = B := ⟨_, rfl⟩
  have HB2 : Hid (w.heap.size ≤ B) := Nat.le_of_eq hB
  rw [hB] at c5 HA ⊢
  clear HBX hX X h1 HB hB
  go_wp2
  go_ret
  refine ⟨B, ?_, ?_, HB2.out, h3⟩
  ·rw [HL2.out]; rfl
  ·rw [HQ.out]; exact range_take HA.out
 ·have HQ : Hid (addrG x = adgs x) := by show addrG x = _; rw [addrG, if_neg q]
  have e1 : (x.of == 2) = false := by simpa using q
  have HL2 : Hid (L = 16) := by show L = 16; rw [← HL.out, HQ.out]; rfl
  clear q
  go_enter Tryz.func135, Tryz.ntmps135
  go_upto_region 1 with fail
  rw [← hX] at *
  generalize w.alloc (.cells x.cells.toArray 52) = w1 at *
  obtain ⟨B, hB⟩ : ∃ B, w.heap.size = B := ⟨_, rfl⟩
  have HB2 : Hid (w.heap.size ≤ B) := Nat.le_of_eq hB
  rw [hB] at c5 HA ⊢
  clear HBX hX X h1 HB hB
  go_wp2
  go_ret
  refine ⟨B, ?_, ?_, HB2.out, h3⟩
  ·rw [HL2.out]; rfl
  ·rw [HQ.out]; exact HA.out
def padG (x : Ng) : List UInt8 := splice ((zeros 16)) 0 (addrG x)
theorem hostG_eq (x : Ng) : (inG x.of 2 3 && inG x.side 0 2 && decide (adgs x = padG x)) = hostG x := by
 unfold hostG padG addrG
 by_cases h : x.of = 2
 ·rw [if_pos h]
  have e : (x.of == 3) = false := by rw [h]; rfl
  rw [e, Bool.false_or]
  congr 1
  apply decide_eq_decide.2
  constructor
  ·intro h2
   have := congrArg (List.drop 4) h2
   simpa [splice, zeros, adgs_len] using this
  ·intro h2
   have : splice (zeros 16) 0 ((adgs x).take 4) = (adgs x).take 4 ++ zeros 12 := by simp [splice, zeros, adgs_len]
   rw [this, ← h2, List.take_append_drop]
 ·rw [if_neg h]
  have : splice (zeros 16) 0 (adgs x) = adgs x := by simp [splice, zeros, adgs_len]
  rw [this, decide_eq_true rfl, Bool.and_true]
  by_cases h3 : x.of = 3
  ·rw [h3]; simp
  ·have : inG x.of 2 3 = false := by unfold inG; by_cases h4 : (2 : Int) ≤ x.of <;> simp [h4] <;> omega
   rw [this]; rfl
theorem bld_arr (W : World) : (Instr.alloc 50 true (.tuple #[])).run Tryz.prog W = .ok (.pointer (some ⟨W.heap.size, 0, none⟩)) (W.alloc (.cells ((zeros 16).map bv).toArray 50)) := by kernel_rfl
theorem size_u8 : (Tryz.prog.info? 5).map (·.size) = some 1 := by kernel_rfl
theorem size_z16 (xs : List UInt8) (h : xs.length = 16) : (Tryz.prog.info? 50).map (·.size) = some (xs.map bv).toArray.size := by rw [List.size_toArray, List.length_map, h]; kernel_rfl
theorem padG_len (x : Ng) : (padG x).length = 16 := by
 have := addrG_len x
 unfold padG
 simp only [splice, zeros]
 rw [List.length_append, List.length_append, List.length_take, List.length_drop, List.length_replicate]
 split at this <;> omega
theorem pad_map (x : Ng) : splice ((zeros 16).map bv) 0 ((addrG x).map bv) = (padG x).map bv := by simp [padG, splice, zeros]
theorem addr_eqT (x : Ng) (w : World) : (Op.equalIn 10000 50 (.agg ((adgs x).map bv).toArray) (.agg ((padG x).map bv).toArray)).run Tryz.prog w = .ok (decide (adgs x = padG x)) w := by
 obtain ⟨i0, hi, -⟩ := info_parts info5
 exact eq_bytes Tryz.underlying50 hi Tryz.underlying5 (by kernel_rfl) (by kernel_rfl) _ _ (adgs_len x) (padG_len x) w
theorem wpList_load_midG {P : Program} {ops : Array Oper} {rest : List Oper} {op : Oper} {a : Act} {w : World} {Q : Exit → Act → World → Prop} (hw : Region.wanted op (yielded ops a.tmps) = true) (ty : TypeId) (x : Operand) (ho : op.op = .load ty x)
  (b o : Nat) (hx : a.eval x = .pointer (some ⟨b, o, none⟩)) (cs : List Value) (d : TypeDesc) (hc : w.rangeAt b o cs)
  (hu : P.underlying ty = some d) (hd : d.isRow = true) (hi : (P.info? ty).map (·.size) = some cs.length)
  (h : wpList P ops Q rest (a.put op.dst (.agg cs.toArray)) w) : wpList P ops Q (op :: rest) a w :=
 BigFrame.wpList_want hw fun _ hK => wp_load_mid ty x ho b o hx cs d hc hu hd hi (hK _ _ h)
set_option maxHeartbeats 2000000 in
theorem mayAddress_any (x : Ng) (w : World) : Calls Tryz.prog 98 #[.agg x.cells.toArray] w fun e w' => e = .returned (.bool (hostG x)) ∧ w.grownBy w' none := by
 rw [← hostG_eq]
 obtain ⟨E, hE⟩ : ∃ E : Bool, (inG x.of 2 3 && inG x.side 0 2 && decide (adgs x = padG x)) = E := ⟨_, rfl⟩
 rw [hE]
 have HE : Hid ((inG x.of 2 3 && inG x.side 0 2 && decide (adgs x = padG x)) = E) := hE
 clear hE
 have HBX := box_ng x
 have HAR := bld_arr
 have HZ : Hid ((Tryz.prog.info? 52).map (·.size) = some x.cells.toArray.size) := ng_size x
 have HAD : Hid (∀ W : World, Calls Tryz.prog 135 #[.agg x.cells.toArray] W fun e w' => ∃ B, e = .returned (.slice (some ⟨B, 7, none⟩) (addrG x).length 16) ∧ Cells w' (some ⟨B, 7, none⟩) (addrG x) ∧ W.heap.size ≤ B ∧ W.grownBy w' none) := fun W => addressOf_any x W
 have HC1 : Hid (∀ W : World, Calls Tryz.prog 94 #[.agg x.cells.toArray] W fun e w' => e = .returned (.bool (inG x.of 2 3)) ∧ W.grownBy w' none) := fun W => mayCarry_any x W
 have HC2 : Hid (∀ W : World, Calls Tryz.prog 136 #[.agg x.cells.toArray] W fun e w' => e = .returned (.bool (inG x.side 0 2)) ∧ W.grownBy w' none) := fun W => maySide_any x W
 have HEQ := addr_eqT x
 have HLA : Hid ((addrG x).length ≤ 16 ∧ (addrG x).length = Nat.min (addrG x).length 16) := by
  have := addrG_len x
  have h : (addrG x).length ≤ 16 := by rw [this]; split <;> omega
  exact ⟨h, (Nat.min_eq_left h).symm⟩
 obtain ⟨X, hX⟩ : ∃ X, x.cells.toArray = X := ⟨_, rfl⟩
 have HXX : Hid (x.cells.toArray = X) := hX
 rw [hX] at HBX HZ HAD HC1 HC2 ⊢
 have V1 := VAt.alloc w 52 X
 have G1 := World.grownBy_alloc w (.cells X 52) none
 go_enter Tryz.func98, Tryz.ntmps98
 go_upto_region 1 with fail
 generalize w.alloc (.cells X 52) = w1 at *
 obtain ⟨B, hB⟩ : ∃ B, w.heap.size = B := ⟨_, rfl⟩
 have HB2 : Hid (w.heap.size ≤ B) := Nat.le_of_eq hB
 rw [hB] at V1 ⊢
 clear HBX hX hB
 have V2 := VAt.alloc w1 50 ((zeros 16).map bv).toArray
 have G2 := World.grownBy_alloc w1 (.cells ((zeros 16).map bv).toArray 50) none
 go_upto_region 2 with fail
 rw [show #[.int .u8 0, .int .u8 0, .int .u8 0, .int .u8 0, .int .u8 0, .int .u8 0, .int .u8 0, .int .u8 0, .int .u8 0, .int .u8 0, .int .u8 0, .int .u8 0, .int .u8 0, .int .u8 0, .int .u8 0, .int .u8 0] = ((zeros 16).map bv).toArray from rfl]
 generalize w1.alloc (.cells ((zeros 16).map bv).toArray 50) = w2 at *
 obtain ⟨A, hA⟩ : ∃ A, w1.heap.size = A := ⟨_, rfl⟩
 have HA : Hid (B < A ∧ w.heap.size ≤ A) := by have := V1.lt; have := HB2.out; exact ⟨by omega, by omega⟩
 rw [hA] at V2 ⊢
 have HS0 : Hid (VAt w2.drew B 52 X ∧ VAt w2.drew A 50 ((zeros 16).map bv).toArray ∧ w.grownBy w2.drew none) := ⟨(V1.kept G2).kept (grown_drewN w2 1 none), V2.kept (grown_drewN w2 1 none), grown_trans G1 (grown_trans G2 (grown_drewN w2 1 none))⟩
 clear hA V1 V2 G1 G2 HAR
 refine wp_region_held_drew (S := fun W => VAt W B 52 X) (by kernel_rfl) HS0.out.1 (fun hHeld => ?_)
 refine wpT (i := 0) (v := .slice (some ⟨A, 0, none⟩) 16 16) rfl (Or.inl ⟨by rfl, fun W hW => ?_⟩) hHeld ?_
 ·clear hW
  go_simp
 try simp only [Act.put, a0, a1, a3, a4, a5]
 refine wpT (i := 1) (v := .agg X) rfl (yieldsIf_load_row (by rfl) _ _ rfl B rfl 52 X _ (fun W hW => hW) Tryz.underlying52 rfl HZ.out) hHeld ?_
 try simp only [Act.put, a0, a1, a2, a3, a4, a5]
 refine wpR (rs := [2]) (AllReadyH.cons rfl (fun K hK => ?_) AllReadyH.nil)
 go_simp
 refine (HAD.out _).mono ?_
 rintro e wc ⟨B2, rfl, C2, hB2, K2⟩
 go_wp2_with fail
 have V2 := HS0.out.2.1.kept K2
 have G2 := grown_trans HS0.out.2.2 K2
 refine hK.out _ _ (hHeld.kept K2) (fun hHeld => ?_)
 clear hK K K2 HS0
 try simp only [Act.put, a0, a1, a2, a3, a4, a5]
 refine wpR (rs := [3]) (AllReadyH.cons rfl (fun K hK => ?_) AllReadyH.nil)
 refine step_copy_splice rfl (.tmp 4) (.tmp 6) 25 25 rfl 5 Tryz.underlying25 size_u8 (some ⟨A, 0, none⟩) (some ⟨B2, 7, none⟩) 16 16 (addrG x).length 16 rfl rfl A 0 ((zeros 16).map bv) 50 V2 ((addrG x).map bv) (by rw [List.length_map]; exact HLA.out.2) (fun _ => ⟨rfl, _, rfl, ?_⟩) (by rw [List.length_map, List.length_map, zeros_len]; have := HLA.out.1; omega) (bv_one _) A wc (Below.refl _ _) (Nat.le_refl _) ?_
 ·intro j v hv
  obtain ⟨hlt, e⟩ := List.getElem?_eq_some_iff.1 hv
  rw [List.length_map] at hlt
  rw [C2.2 _ rfl j hlt, ← e]
  simp
 intro w3 hc3 hb3
 have V3 : VAt w3 B 52 X := by have := hb3.block B HA.out.1; unfold VAt; rw [this]; exact hHeld
 have P3 : VAt w3 A 50 ((padG x).map bv).toArray := by have := hc3.out; rw [pad_map] at this; exact this
 have G3 : w.grownBy w3 none := ⟨hb3.os.trans G2.os, hb3.tape.trans G2.tape, hb3.output.trans G2.output, Nat.le_trans G2.size hb3.size, fun k hk _ => (hb3.block k (Nat.lt_of_lt_of_le hk HA.out.2)).trans (G2.block k hk (by simp))⟩
 refine hK.out _ _ V3 (fun hHeld => ?_)
 clear hK K hb3 hc3 G2 V2 C2 hB2
 try simp only [Act.put, a0, a1, a2, a3, a4, a5]
 refine wpAnyH_done (by kernel_rfl) ?_ _
 clear hHeld
 have LV := V3
 have HV3 : Hid (VAt w3 B 52 X ∧ VAt w3 A 50 ((padG x).map bv).toArray) := ⟨V3, P3⟩
 have HZA : Hid ((Tryz.prog.info? 50).map (·.size) = some ((padG x).map bv).toArray.size) := size_z16 _ (padG_len x)
 have HZB : Hid ((Tryz.prog.info? 50).map (·.size) = some ((adgs x).map bv).length) := size_arr16 x
 clear V3 P3 HAD HLA
 go_wp2_with (refine wpList_load_row rfl 52 (.tmp 1) rfl B rfl 52 X (0, 0) _ LV Tryz.underlying52 rfl HZ.out ?_)
 refine (HC1.out _).mono ?_
 rintro e w4 ⟨rfl, K4⟩
 have LV := HV3.out.1.kept K4
 have G4 := grown_trans G3 K4
 cases q1 : inG x.of 2 3 with
 | false =>
  have HQ : Hid (inG x.of 2 3 = false) := q1
  clear q1
  go_wp2
  go_ret
  exact ⟨ret_bool (by rw [← HE.out, HQ.out]; rfl), G4⟩
 | true =>
  have HQ : Hid (inG x.of 2 3 = true) := q1
  clear q1
  go_wp2_with (refine wpList_load_rowG (by rfl) 52 (.tmp 1) rfl B rfl 52 X (0, 0) _ LV Tryz.underlying52 rfl HZ.out ?_)
  refine (HC2.out _).mono ?_
  rintro e w5 ⟨rfl, K5⟩
  have LV5 := LV.kept K5
  have LA5 := (HV3.out.2.kept K4).kept K5
  have G5 := grown_trans G4 K5
  have HR : Hid (w5.rangeAt B 7 ((adgs x).map bv)) := by
   have : NB w5 B x := by unfold NB; rw [HXX.out]; exact LV5
   exact this.addr
  clear LV K4 K5
  cases q2 : inG x.side 0 2 with
  | false =>
   have HQ2 : Hid (inG x.side 0 2 = false) := q2
   clear q2
   go_wp2
   go_ret
   exact ⟨ret_bool (by rw [← HE.out, HQ.out, HQ2.out]; rfl), G5⟩
  | true =>
   have HQ2 : Hid (inG x.side 0 2 = true) := q2
   clear q2
   go_wp2_with (first | refine wpList_load_rowG (by rfl) 50 (.tmp 3) rfl A rfl 50 ((padG x).map bv).toArray (0, 0) _ LA5 Tryz.underlying50 rfl HZA.out ?_ | refine wpList_load_midG (by rfl) 50 (.tmp 15) rfl B 7 rfl ((adgs x).map bv) _ HR.out Tryz.underlying50 rfl HZB.out ?_)
   go_ret
   exact ⟨ret_bool (by rw [← HE.out, HQ.out, HQ2.out]; rfl), G5⟩
theorem netE_len (x : Ng) (b : Int) : netE (addrG x).length b = if ¬ (0 ≤ b ∧ b ≤ 8 * ((addrG x).length : Int)) then 61 else 0 := by
 have h := addrG_len x
 have h4 : ¬ ((addrG x).length ≠ 4 ∧ (addrG x).length ≠ 16) := by split at h <;> omega
 rw [netE, if_neg h4]
 by_cases hb : b < 0 ∨ 8 * ((addrG x).length : Int) < b
 ·rw [if_pos hb, if_pos (by omega)]
 ·rw [if_neg hb, if_neg (by omega)]
set_option maxHeartbeats 2000000 in
theorem boundsOfNet_any (x : Ng) (w : World) (hk : x.kind = 15) : Calls Tryz.prog 100 #[.agg x.cells.toArray] w fun e w' => e = .returned (.int .i64 (rangeE x)) ∧ w.grownBy w' none := by
 obtain ⟨E, hE⟩ : ∃ E : Int, rangeE x = E := ⟨_, rfl⟩
 rw [hE]
 have HE : Hid ((if ¬ (0 ≤ x.bits ∧ x.bits ≤ 8 * ((addrG x).length : Int)) then 124 else if maskV x.bits.toNat (addrG x) = addrG x then 0 else 125) = E) := by
  have := hE
  rw [rangeE, if_neg (show ¬ x.kind = 3 by omega), if_neg (show ¬ x.kind = 12 by omega), if_neg (show ¬ x.kind = 13 by omega), if_neg (show ¬ x.kind = 16 by omega), if_pos hk] at this
  exact this
 clear hE hk
 have HBX := box_ng x
 have HZ : Hid ((Tryz.prog.info? 52).map (·.size) = some x.cells.toArray.size) := ng_size x
 have HAD : Hid (∀ W : World, Calls Tryz.prog 135 #[.agg x.cells.toArray] W fun e w' => ∃ B, e = .returned (.slice (some ⟨B, 7, none⟩) (addrG x).length 16) ∧ Cells w' (some ⟨B, 7, none⟩) (addrG x) ∧ W.heap.size ≤ B ∧ W.grownBy w' none) := fun W => addressOf_any x W
 have HLA : Hid ((addrG x).length ≤ 16) := by
  have := addrG_len x
  show _ ≤ _
  rw [this]; split <;> omega
 have HNE : Hid _ := netE_len x x.bits
 obtain ⟨X, hX⟩ : ∃ X, x.cells.toArray = X := ⟨_, rfl⟩
 have HXX : Hid (x.cells.toArray = X) := hX
 rw [hX] at HBX HZ HAD ⊢
 have V1 := VAt.alloc w 52 X
 have G1 := World.grownBy_alloc w (.cells X 52) none
 go_enter Tryz.func100, Tryz.ntmps100
 go_upto_region 1 with fail
 generalize w.alloc (.cells X 52) = w1 at *
 generalize w.heap.size = B at V1 ⊢
 clear HBX hX
 go_wp2_with (refine wpList_load_row rfl 52 (.tmp 1) rfl B rfl 52 X (0, 0) _ V1 Tryz.underlying52 rfl HZ.out ?_)
 refine (HAD.out _).mono ?_
 rintro e w2 ⟨B2, rfl, C2, -, K2⟩
 have c8 : w2.cell? ⟨B, 23, none⟩ = some (.int .i64 x.bits) := by
  have : NB w2 B x := by unfold NB; rw [HXX.out]; exact V1.kept K2
  exact this.bits
 have G2 := grown_trans G1 K2
 have CN := net_any (some ⟨B2, 7, none⟩) 16 (addrG x) x.bits w2 C2 (by simp) (by have := HLA.out; omega)
 have HC2 : Hid (Cells w2 (some ⟨B2, 7, none⟩) (addrG x)) := C2
 clear V1 G1 K2 HAD C2
 rw [HNE.out] at CN
 by_cases hb : 0 ≤ x.bits ∧ x.bits ≤ 8 * ((addrG x).length : Int)
 ·rw [if_neg (fun h => h hb)] at CN
  have HQ : Hid (0 ≤ x.bits ∧ x.bits ≤ 8 * ((addrG x).length : Int)) := hb
  have hn : netE (addrG x).length x.bits = 0 := by rw [HNE.out, if_neg (fun h => h hb)]
  have hv : netV (addrG x) x.bits = maskV x.bits.toNat (addrG x) := by rw [netV, if_pos hn]
  rw [hv] at CN
  clear hb hv hn HNE
  go_wp2_with fail
  refine CN.mono ?_
  rintro e w3 ⟨v3, rfl, O3, K3⟩
  obtain ⟨a3, k3, rfl, C3, -⟩ := O3.rd
  have CE := equal_any a3 (some ⟨B2, 7, none⟩) k3 16 _ _ w3 C3 (HC2.out.keptNone K3)
  have G3 := grown_trans G2 K3
  rw [mask_len] at CE
  clear CN K3 O3 C3 G2
  by_cases hm : maskV x.bits.toNat (addrG x) = addrG x
  ·rw [decide_eq_true hm] at CE
   have HM : Hid (maskV x.bits.toNat (addrG x) = addrG x) := hm
   clear hm
   rw [mask_len]
   go_wp2_with fail
   refine CE.mono ?_
   rintro e w' ⟨rfl, rfl⟩
   go_wp2
   go_ret
   exact ⟨ret_int (by rw [← HE.out, if_neg (fun h => h HQ.out), if_pos HM.out]), G3⟩
  ·rw [decide_eq_false hm] at CE
   have HM : Hid (¬ maskV x.bits.toNat (addrG x) = addrG x) := hm
   clear hm
   rw [mask_len]
   go_wp2_with fail
   refine CE.mono ?_
   rintro e w' ⟨rfl, rfl⟩
   go_wp2
   go_ret
   exact ⟨ret_int (by rw [← HE.out, if_neg (fun h => h HQ.out), if_neg HM.out]), G3⟩
 ·rw [if_pos hb] at CN
  have HQ : Hid (¬ (0 ≤ x.bits ∧ x.bits ≤ 8 * ((addrG x).length : Int))) := hb
  clear hb HNE
  go_wp2_with fail
  refine CN.mono ?_
  rintro e w3 ⟨v3, rfl, O3, K3⟩
  have G3 := grown_trans G2 K3
  clear CN K3 O3 G2
  go_wp2
  go_ret
  exact ⟨ret_int (by rw [← HE.out, if_pos HQ.out]), G3⟩
def useN (k : Nat) : Nat := ([0, 74, 78, 80, 83, 78, 83, 78, 78, 78, 88, 90, 74, 93, 97, 99, 101] : List Nat).getD k 0
def mayN (k : Nat) : Nat := ([0, 75, 75, 81, 84, 75, 87, 75, 75, 75, 89, 91, 75, 94, 98, 98, 102] : List Nat).getD k 0
def bndN (k : Nat) : Nat := ([0, 76, 76, 82, 76, 76, 76, 76, 76, 76, 76, 76, 92, 95, 76, 100, 103] : List Nat).getD k 0
def valN (k : Nat) : Nat := ([0, 77, 79, 79, 85, 86, 79, 79, 79, 79, 79, 79, 79, 79, 79, 79, 79] : List Nat).getD k 0
def wgtN (k : Nat) : Int := ([0, 1, 2, 24, 6, 2, 8, 1, 1, 1, 6, 12, 8, 16, 24, 32, 40] : List Int).getD k 0
def fnV (n : Nat) : Value := .func (.func n) #[] #[]
structure RT where
 g : Nat
 n1 : Nat
 n2 : Nat
 t1 : Nat
 t2 : Nat
 wv : Nat → Value
def takesR (R : RT) (k : Nat) : Value :=
 if k = 3 ∨ k = 5 then .slice (some ⟨R.n1, 0, none⟩) 1 1 else if k = 4 ∨ k = 6 then .slice (some ⟨R.n2, 0, none⟩) 2 2
 else if k = 9 then .slice (some ⟨R.t1, 0, none⟩) 1 1 else if k = 7 ∨ k = 8 then .slice (some ⟨R.t2, 0, none⟩) 2 2 else .slice none 0 0
def ruleC (R : RT) (k : Nat) : List Value := [takesR R k, .int .i64 (if k ≤ 5 then 1 else 0), R.wv k, fnV (useN k), fnV (mayN k), fnV (bndN k), fnV (valN k)]
structure TabT (R : RT) (w : World) : Prop where
 rows : ∀ k, 1 ≤ k → k ≤ 16 → w.rangeAt R.g (k * 7) (ruleC R k)
 n1 : w.cell? ⟨R.n1, 0, none⟩ = some (.int .i64 1)
 n2 : w.cell? ⟨R.n2, 0, none⟩ = some (.int .i64 1) ∧ w.cell? ⟨R.n2, 1, none⟩ = some (.int .i64 1)
 t1 : w.cell? ⟨R.t1, 0, none⟩ = some (.int .i64 0)
 t2 : w.cell? ⟨R.t2, 0, none⟩ = some (.int .i64 0) ∧ w.cell? ⟨R.t2, 1, none⟩ = some (.int .i64 0)
 wgt : ∀ k, 1 ≤ k → k ≤ 16 → k ≠ 14 → k ≠ 15 → ∃ b, R.wv k = .func (.func 129) #[] #[.pointer (some ⟨b, 0, none⟩)] ∧ w.cell? ⟨b, 0, none⟩ = some (.int .i64 (wgtN k))
 wg2 : ∀ k, k = 14 ∨ k = 15 → ∃ b c, R.wv k = .func (.func 134) #[] #[.pointer (some ⟨c, 0, none⟩), .pointer (some ⟨b, 0, none⟩)] ∧ w.cell? ⟨b, 0, none⟩ = some (.int .i64 (wgtN k)) ∧ w.cell? ⟨c, 0, none⟩ = some (.int .i64 (wgtN k + 48))
theorem TabT.kept {R : RT} {w w' : World} (h : TabT R w) (K : w.grownBy w' none) : TabT R w' where
 rows := fun k h1 h2 j v hv => K.cell (h.rows k h1 h2 j v hv) (by simp)
 n1 := K.cell h.n1 (by simp)
 n2 := ⟨K.cell h.n2.1 (by simp), K.cell h.n2.2 (by simp)⟩
 t1 := K.cell h.t1 (by simp)
 t2 := ⟨K.cell h.t2.1 (by simp), K.cell h.t2.2 (by simp)⟩
 wgt := fun k h1 h2 h3 h4 => by
  obtain ⟨b, e, c⟩ := h.wgt k h1 h2 h3 h4
  exact ⟨b, e, K.cell c (by simp)⟩
 wg2 := fun k h1 => by
  obtain ⟨b, d, e, c1, c2⟩ := h.wg2 k h1
  exact ⟨b, d, e, K.cell c1 (by simp), K.cell c2 (by simp)⟩
theorem mkf (fn : Fn) (first cap : Array Value) (w : World) : (Instr.makeFunc fn first cap).run Tryz.prog w = .ok (.func fn first cap) w := rfl
theorem new_cell (w : World) (t : Nat) (v : Value) : (w.alloc (.cells #[v] t)).cell? ⟨w.heap.size, 0, none⟩ = some v := (VAt.alloc w t #[v]).cell 0
set_option maxHeartbeats 400000 in
theorem weighs_any (c : Int) (w : World) : Calls Tryz.prog 73 #[.int .i64 c] w fun e w' => ∃ b, e = .returned (.func (.func 129) #[] #[.pointer (some ⟨b, 0, none⟩)]) ∧ w'.cell? ⟨b, 0, none⟩ = some (.int .i64 c) ∧ w.grownBy w' none := by
 have h1 := new_cell w 3 (.int .i64 c)
 have h2 := World.grownBy_alloc w (.cells #[.int .i64 c] 3) none
 have hmf := mkf
 go_enter Tryz.func73, Tryz.ntmps73
 go_upto_region 1 with fail
 generalize w.alloc (.cells #[.int .i64 c] 3) = w1 at *
 generalize w.heap.size = B at *
 go_wp2
 go_ret
 exact ⟨B, rfl, h1, h2⟩
set_option maxHeartbeats 400000 in
theorem weighsBy_any (c d : Int) (w : World) : Calls Tryz.prog 96 #[.int .i64 c, .int .i64 d] w fun e w' => ∃ b g, e = .returned (.func (.func 134) #[] #[.pointer (some ⟨g, 0, none⟩), .pointer (some ⟨b, 0, none⟩)]) ∧ w'.cell? ⟨b, 0, none⟩ = some (.int .i64 c) ∧ w'.cell? ⟨g, 0, none⟩ = some (.int .i64 d) ∧ w.grownBy w' none := by
 have h1 := new_cell w 3 (.int .i64 c)
 have h2 := World.grownBy_alloc w (.cells #[.int .i64 c] 3) none
 have h3 := new_cell (w.alloc (.cells #[.int .i64 c] 3)) 3 (.int .i64 d)
 have h4 := World.grownBy_alloc (w.alloc (.cells #[.int .i64 c] 3)) (.cells #[.int .i64 d] 3) none
 have h5 := h4.cell h1 (by simp)
 have h6 := grown_trans h2 h4
 rw [show (w.alloc (.cells #[.int .i64 c] 3)).heap.size = w.heap.size + 1 by simp] at h3
 have hmf := mkf
 clear h1 h2 h4
 go_enter Tryz.func96, Tryz.ntmps96
 go_upto_region 1 with fail
 generalize (w.alloc (.cells #[.int .i64 c] 3)).alloc (.cells #[.int .i64 d] 3) = w1 at *
 generalize w.heap.size + 1 = G at *
 generalize w.heap.size = B at *
 go_wp2
 go_ret
 exact ⟨B, G, rfl, h5, h3, h6⟩
def allRules (n1 n2 t1 t2 : Nat) (v1 v2 v3 v4 v5 v6 v7 v8 v9 v10 v11 v12 v13 v14 v15 v16 : Value) : List Value := [.slice none 0 0, .int .i64 0, .nilFunc, .nilFunc, .nilFunc, .nilFunc, .nilFunc,
 .slice none 0 0, .int .i64 1, v1, fnV 74, fnV 75, fnV 76, fnV 77,
 .slice none 0 0, .int .i64 1, v2, fnV 78, fnV 75, fnV 76, fnV 79,
 .slice (some ⟨n1, 0, none⟩) 1 1, .int .i64 1, v3, fnV 80, fnV 81, fnV 82, fnV 79,
 .slice (some ⟨n2, 0, none⟩) 2 2, .int .i64 1, v4, fnV 83, fnV 84, fnV 76, fnV 85,
 .slice (some ⟨n1, 0, none⟩) 1 1, .int .i64 1, v5, fnV 78, fnV 75, fnV 76, fnV 86,
 .slice (some ⟨n2, 0, none⟩) 2 2, .int .i64 0, v6, fnV 83, fnV 87, fnV 76, fnV 79,
 .slice (some ⟨t2, 0, none⟩) 2 2, .int .i64 0, v7, fnV 78, fnV 75, fnV 76, fnV 79,
 .slice (some ⟨t2, 0, none⟩) 2 2, .int .i64 0, v8, fnV 78, fnV 75, fnV 76, fnV 79,
 .slice (some ⟨t1, 0, none⟩) 1 1, .int .i64 0, v9, fnV 78, fnV 75, fnV 76, fnV 79,
 .slice none 0 0, .int .i64 0, v10, fnV 88, fnV 89, fnV 76, fnV 79,
 .slice none 0 0, .int .i64 0, v11, fnV 90, fnV 91, fnV 76, fnV 79,
 .slice none 0 0, .int .i64 0, v12, fnV 74, fnV 75, fnV 92, fnV 79,
 .slice none 0 0, .int .i64 0, v13, fnV 93, fnV 94, fnV 95, fnV 79,
 .slice none 0 0, .int .i64 0, v14, fnV 97, fnV 98, fnV 76, fnV 79,
 .slice none 0 0, .int .i64 0, v15, fnV 99, fnV 98, fnV 100, fnV 79,
 .slice none 0 0, .int .i64 0, v16, fnV 101, fnV 102, fnV 103, fnV 79]
set_option maxRecDepth 100000 in
theorem lit_rules (n1 n2 t1 t2 : Nat) (v1 v2 v3 v4 v5 v6 v7 v8 v9 v10 v11 v12 v13 v14 v15 v16 : Value) (W : World) : (Instr.buildSlice 86 17 #[(1, .agg #[.slice none 0 0, .int .i64 1, v1, fnV 74, fnV 75, fnV 76, fnV 77]), (2, .agg #[.slice none 0 0, .int .i64 1, v2, fnV 78, fnV 75, fnV 76, fnV 79]), (3, .agg #[.slice (some ⟨n1, 0, none⟩) 1 1, .int .i64 1, v3, fnV 80, fnV 81, fnV 82, fnV 79]), (4, .agg #[.slice (some ⟨n2, 0, none⟩) 2 2, .int .i64 1, v4, fnV 83, fnV 84, fnV 76, fnV 85]), (5, .agg #[.slice (some ⟨n1, 0, none⟩) 1 1, .int .i64 1, v5, fnV 78, fnV 75, fnV 76, fnV 86]), (6, .agg #[.slice (some ⟨n2, 0, none⟩) 2 2, .int .i64 0, v6, fnV 83, fnV 87, fnV 76, fnV 79]), (7, .agg #[.slice (some ⟨t2, 0, none⟩) 2 2, .int .i64 0, v7, fnV 78, fnV 75, fnV 76, fnV 79]), (8, .agg #[.slice (some ⟨t2, 0, none⟩) 2 2, .int .i64 0, v8, fnV 78, fnV 75, fnV 76, fnV 79]), (9, .agg #[.slice (some ⟨t1, 0, none⟩) 1 1, .int .i64 0, v9, fnV 78, fnV 75, fnV 76, fnV 79]), (10, .agg #[.slice none 0 0, .int .i64 0, v10, fnV 88, fnV 89, fnV 76, fnV 79]), (11, .agg #[.slice none 0 0, .int .i64 0, v11, fnV 90, fnV 91, fnV 76, fnV 79]), (12, .agg #[.slice none 0 0, .int .i64 0, v12, fnV 74, fnV 75, fnV 92, fnV 79]), (13, .agg #[.slice none 0 0, .int .i64 0, v13, fnV 93, fnV 94, fnV 95, fnV 79]), (14, .agg #[.slice none 0 0, .int .i64 0, v14, fnV 97, fnV 98, fnV 76, fnV 79]), (15, .agg #[.slice none 0 0, .int .i64 0, v15, fnV 99, fnV 98, fnV 100, fnV 79]), (16, .agg #[.slice none 0 0, .int .i64 0, v16, fnV 101, fnV 102, fnV 103, fnV 79])]).run Tryz.prog W = .ok (.slice (some ⟨W.heap.size, 0, none⟩) 17 17) (W.alloc (.cells (allRules n1 n2 t1 t2 v1 v2 v3 v4 v5 v6 v7 v8 v9 v10 v11 v12 v13 v14 v15 v16).toArray 126)) := by kernel_rfl
theorem rules_get (g n1 n2 t1 t2 : Nat) (v1 v2 v3 v4 v5 v6 v7 v8 v9 v10 v11 v12 v13 v14 v15 v16 : Value) (k : Nat) (h1 : 1 ≤ k) (h2 : k ≤ 16) (j : Nat) (hj : j < 7) : (allRules n1 n2 t1 t2 v1 v2 v3 v4 v5 v6 v7 v8 v9 v10 v11 v12 v13 v14 v15 v16)[k * 7 + j]? = (ruleC ⟨g, n1, n2, t1, t2, fun k => ([undef, v1, v2, v3, v4, v5, v6, v7, v8, v9, v10, v11, v12, v13, v14, v15, v16] : List Value).getD k undef⟩ k)[j]? := by
 have hk : k = 1 ∨ k = 2 ∨ k = 3 ∨ k = 4 ∨ k = 5 ∨ k = 6 ∨ k = 7 ∨ k = 8 ∨ k = 9 ∨ k = 10 ∨ k = 11 ∨ k = 12 ∨ k = 13 ∨ k = 14 ∨ k = 15 ∨ k = 16 := by omega
 have hjj : j = 0 ∨ j = 1 ∨ j = 2 ∨ j = 3 ∨ j = 4 ∨ j = 5 ∨ j = 6 := by omega
 clear h1 h2 hj
 rcases hk with rfl | rfl | rfl | rfl | rfl | rfl | rfl | rfl | rfl | rfl | rfl | rfl | rfl | rfl | rfl | rfl <;> rcases hjj with rfl | rfl | rfl | rfl | rfl | rfl | rfl <;> rfl
set_option maxRecDepth 100000 in
set_option maxHeartbeats 4000000 in
theorem rules_any (w : World) : Calls Tryz.prog 53 #[] w fun e w' => ∃ R : RT, e = .returned (.slice (some ⟨R.g, 0, none⟩) 17 17) ∧ TabT R w' ∧ w.grownBy w' none := by
 obtain ⟨W4, hW4⟩ : ∃ W4, (((w.alloc (.cells #[.int .i64 1] 3)).alloc (.cells #[.int .i64 1, .int .i64 1] 3)).alloc (.cells #[.int .i64 0] 3)).alloc (.cells #[.int .i64 0, .int .i64 0] 3) = W4 := ⟨_, rfl⟩
 have A1 := VAt.alloc w 3 #[.int .i64 1]
 have A2 := VAt.alloc (w.alloc (.cells #[.int .i64 1] 3)) 3 #[.int .i64 1, .int .i64 1]
 have A3 := VAt.alloc ((w.alloc (.cells #[.int .i64 1] 3)).alloc (.cells #[.int .i64 1, .int .i64 1] 3)) 3 #[.int .i64 0]
 have A4 := VAt.alloc (((w.alloc (.cells #[.int .i64 1] 3)).alloc (.cells #[.int .i64 1, .int .i64 1] 3)).alloc (.cells #[.int .i64 0] 3)) 3 #[.int .i64 0, .int .i64 0]
 have K1 := World.grownBy_alloc w (.cells #[.int .i64 1] 3) none
 have K2 := World.grownBy_alloc (w.alloc (.cells #[.int .i64 1] 3)) (.cells #[.int .i64 1, .int .i64 1] 3) none
 have K3 := World.grownBy_alloc ((w.alloc (.cells #[.int .i64 1] 3)).alloc (.cells #[.int .i64 1, .int .i64 1] 3)) (.cells #[.int .i64 0] 3) none
 have K4 := World.grownBy_alloc (((w.alloc (.cells #[.int .i64 1] 3)).alloc (.cells #[.int .i64 1, .int .i64 1] 3)).alloc (.cells #[.int .i64 0] 3)) (.cells #[.int .i64 0, .int .i64 0] 3) none
 have B1 := A1.kept (grown_trans K2 (grown_trans K3 K4))
 have B2 := A2.kept (grown_trans K3 K4)
 have B3 := A3.kept K4
 have G4 := grown_trans K1 (grown_trans K2 (grown_trans K3 K4))
 simp only [World.size_alloc] at B2 B3 A4
 rw [hW4] at B1 B2 B3 A4 G4
 have HN : Hid (W4.cell? ⟨w.heap.size, 0, none⟩ = some (.int .i64 1) ∧ (W4.cell? ⟨w.heap.size + 1, 0, none⟩ = some (.int .i64 1) ∧ W4.cell? ⟨w.heap.size + 1, 1, none⟩ = some (.int .i64 1)) ∧ W4.cell? ⟨w.heap.size + 1 + 1, 0, none⟩ = some (.int .i64 0) ∧ W4.cell? ⟨w.heap.size + 1 + 1 + 1, 0, none⟩ = some (.int .i64 0) ∧ W4.cell? ⟨w.heap.size + 1 + 1 + 1, 1, none⟩ = some (.int .i64 0)) := ⟨B1.cell 0, ⟨B2.cell 0, B2.cell 1⟩, B3.cell 0, A4.cell 0, A4.cell 1⟩
 clear A1 A2 A3 A4 K1 K2 K3 K4 B1 B2 B3
 go_enter Tryz.func53, Tryz.ntmps53
 go_upto_region 4 with fail
 clear hW4
 generalize w.heap.size + 1 + 1 + 1 = t2 at HN ⊢
 generalize w.heap.size + 1 + 1 = t1 at HN ⊢
 generalize w.heap.size + 1 = n2 at HN ⊢
 generalize w.heap.size = n1 at HN ⊢
 have HG : Hid (w.grownBy W4 none) := G4
 clear G4
 have X0 : Hid (W4.grownBy W4 none) := World.grownBy.refl _ _
 go_wp2_with fail
 refine (weighs_any _ _).mono ?_
 rintro e w1 ⟨b1, rfl, c1, K1⟩
 have C1 : Hid (w1.cell? ⟨b1, 0, none⟩ = _) := c1
 have X1 : Hid (W4.grownBy w1 none) := K1
 clear c1 K1
 go_wp2_with fail
 refine (weighs_any _ _).mono ?_
 rintro e w2 ⟨b2, rfl, c2, K2⟩
 have C2 : Hid (w2.cell? ⟨b2, 0, none⟩ = _) := c2
 have X2 : Hid (w1.grownBy w2 none) := K2
 clear c2 K2
 go_wp2_with fail
 refine (weighs_any _ _).mono ?_
 rintro e w3 ⟨b3, rfl, c3, K3⟩
 have C3 : Hid (w3.cell? ⟨b3, 0, none⟩ = _) := c3
 have X3 : Hid (w2.grownBy w3 none) := K3
 clear c3 K3
 go_wp2_with fail
 refine (weighs_any _ _).mono ?_
 rintro e w4 ⟨b4, rfl, c4, K4⟩
 have C4 : Hid (w4.cell? ⟨b4, 0, none⟩ = _) := c4
 have X4 : Hid (w3.grownBy w4 none) := K4
 clear c4 K4
 go_wp2_with fail
 refine (weighs_any _ _).mono ?_
 rintro e w5 ⟨b5, rfl, c5, K5⟩
 have C5 : Hid (w5.cell? ⟨b5, 0, none⟩ = _) := c5
 have X5 : Hid (w4.grownBy w5 none) := K5
 clear c5 K5
 go_wp2_with fail
 refine (weighs_any _ _).mono ?_
 rintro e w6 ⟨b6, rfl, c6, K6⟩
 have C6 : Hid (w6.cell? ⟨b6, 0, none⟩ = _) := c6
 have X6 : Hid (w5.grownBy w6 none) := K6
 clear c6 K6
 go_wp2_with fail
 refine (weighs_any _ _).mono ?_
 rintro e w7 ⟨b7, rfl, c7, K7⟩
 have C7 : Hid (w7.cell? ⟨b7, 0, none⟩ = _) := c7
 have X7 : Hid (w6.grownBy w7 none) := K7
 clear c7 K7
 go_wp2_with fail
 refine (weighs_any _ _).mono ?_
 rintro e w8 ⟨b8, rfl, c8, K8⟩
 have C8 : Hid (w8.cell? ⟨b8, 0, none⟩ = _) := c8
 have X8 : Hid (w7.grownBy w8 none) := K8
 clear c8 K8
 go_wp2_with fail
 refine (weighs_any _ _).mono ?_
 rintro e w9 ⟨b9, rfl, c9, K9⟩
 have C9 : Hid (w9.cell? ⟨b9, 0, none⟩ = _) := c9
 have X9 : Hid (w8.grownBy w9 none) := K9
 clear c9 K9
 go_wp2_with fail
 refine (weighs_any _ _).mono ?_
 rintro e w10 ⟨b10, rfl, c10, K10⟩
 have C10 : Hid (w10.cell? ⟨b10, 0, none⟩ = _) := c10
 have X10 : Hid (w9.grownBy w10 none) := K10
 clear c10 K10
 go_wp2_with fail
 refine (weighs_any _ _).mono ?_
 rintro e w11 ⟨b11, rfl, c11, K11⟩
 have C11 : Hid (w11.cell? ⟨b11, 0, none⟩ = _) := c11
 have X11 : Hid (w10.grownBy w11 none) := K11
 clear c11 K11
 go_wp2_with fail
 refine (weighs_any _ _).mono ?_
 rintro e w12 ⟨b12, rfl, c12, K12⟩
 have C12 : Hid (w12.cell? ⟨b12, 0, none⟩ = _) := c12
 have X12 : Hid (w11.grownBy w12 none) := K12
 clear c12 K12
 go_wp2_with fail
 refine (weighs_any _ _).mono ?_
 rintro e w13 ⟨b13, rfl, c13, K13⟩
 have C13 : Hid (w13.cell? ⟨b13, 0, none⟩ = _) := c13
 have X13 : Hid (w12.grownBy w13 none) := K13
 clear c13 K13
 go_wp2_with fail
 refine (weighsBy_any _ _ _).mono ?_
 rintro e w14 ⟨b14, g14, rfl, c14, d14, K14⟩
 have C14 : Hid (w14.cell? ⟨b14, 0, none⟩ = _ ∧ w14.cell? ⟨g14, 0, none⟩ = _) := ⟨c14, d14⟩
 have X14 : Hid (w13.grownBy w14 none) := K14
 clear c14 d14 K14
 go_wp2_with fail
 refine (weighsBy_any _ _ _).mono ?_
 rintro e w15 ⟨b15, g15, rfl, c15, d15, K15⟩
 have C15 : Hid (w15.cell? ⟨b15, 0, none⟩ = _ ∧ w15.cell? ⟨g15, 0, none⟩ = _) := ⟨c15, d15⟩
 have X15 : Hid (w14.grownBy w15 none) := K15
 clear c15 d15 K15
 go_wp2_with fail
 refine (weighs_any _ _).mono ?_
 rintro e w16 ⟨b16, rfl, c16, K16⟩
 have C16 : Hid (w16.cell? ⟨b16, 0, none⟩ = _) := c16
 have X16 : Hid (w15.grownBy w16 none) := K16
 clear c16 K16
 go_wp2_with (refine wpList_lit (by rfl) 86 17 _ rfl _ (by kernel_rfl) (allRules n1 n2 t1 t2 (.func (.func 129) #[] #[.pointer (some ⟨b1, 0, none⟩)]) (.func (.func 129) #[] #[.pointer (some ⟨b2, 0, none⟩)]) (.func (.func 129) #[] #[.pointer (some ⟨b3, 0, none⟩)]) (.func (.func 129) #[] #[.pointer (some ⟨b4, 0, none⟩)]) (.func (.func 129) #[] #[.pointer (some ⟨b5, 0, none⟩)]) (.func (.func 129) #[] #[.pointer (some ⟨b6, 0, none⟩)]) (.func (.func 129) #[] #[.pointer (some ⟨b7, 0, none⟩)]) (.func (.func 129) #[] #[.pointer (some ⟨b8, 0, none⟩)]) (.func (.func 129) #[] #[.pointer (some ⟨b9, 0, none⟩)]) (.func (.func 129) #[] #[.pointer (some ⟨b10, 0, none⟩)]) (.func (.func 129) #[] #[.pointer (some ⟨b11, 0, none⟩)]) (.func (.func 129) #[] #[.pointer (some ⟨b12, 0, none⟩)]) (.func (.func 129) #[] #[.pointer (some ⟨b13, 0, none⟩)]) (.func (.func 134) #[] #[.pointer (some ⟨g14, 0, none⟩), .pointer (some ⟨b14, 0, none⟩)]) (.func (.func 134) #[] #[.pointer (some ⟨g15, 0, none⟩), .pointer (some ⟨b15, 0, none⟩)]) (.func (.func 129) #[] #[.pointer (some ⟨b16, 0, none⟩)])) 126 (lit_rules n1 n2 t1 t2 (.func (.func 129) #[] #[.pointer (some ⟨b1, 0, none⟩)]) (.func (.func 129) #[] #[.pointer (some ⟨b2, 0, none⟩)]) (.func (.func 129) #[] #[.pointer (some ⟨b3, 0, none⟩)]) (.func (.func 129) #[] #[.pointer (some ⟨b4, 0, none⟩)]) (.func (.func 129) #[] #[.pointer (some ⟨b5, 0, none⟩)]) (.func (.func 129) #[] #[.pointer (some ⟨b6, 0, none⟩)]) (.func (.func 129) #[] #[.pointer (some ⟨b7, 0, none⟩)]) (.func (.func 129) #[] #[.pointer (some ⟨b8, 0, none⟩)]) (.func (.func 129) #[] #[.pointer (some ⟨b9, 0, none⟩)]) (.func (.func 129) #[] #[.pointer (some ⟨b10, 0, none⟩)]) (.func (.func 129) #[] #[.pointer (some ⟨b11, 0, none⟩)]) (.func (.func 129) #[] #[.pointer (some ⟨b12, 0, none⟩)]) (.func (.func 129) #[] #[.pointer (some ⟨b13, 0, none⟩)]) (.func (.func 134) #[] #[.pointer (some ⟨g14, 0, none⟩), .pointer (some ⟨b14, 0, none⟩)]) (.func (.func 134) #[] #[.pointer (some ⟨g15, 0, none⟩), .pointer (some ⟨b15, 0, none⟩)]) (.func (.func 129) #[] #[.pointer (some ⟨b16, 0, none⟩)])) ?_; intro V wl CL KL)
 have Y16 : w16.grownBy wl none := KL
 have Y15 := grown_trans X16.out Y16
 have Y14 := grown_trans X15.out Y15
 have Y13 := grown_trans X14.out Y14
 have Y12 := grown_trans X13.out Y13
 have Y11 := grown_trans X12.out Y12
 have Y10 := grown_trans X11.out Y11
 have Y9 := grown_trans X10.out Y10
 have Y8 := grown_trans X9.out Y9
 have Y7 := grown_trans X8.out Y8
 have Y6 := grown_trans X7.out Y7
 have Y5 := grown_trans X6.out Y6
 have Y4 := grown_trans X5.out Y5
 have Y3 := grown_trans X4.out Y4
 have Y2 := grown_trans X3.out Y3
 have Y1 := grown_trans X2.out Y2
 have Y0 := grown_trans X1.out Y1
 have GW := grown_trans HG.out Y0
 have TT : TabT ⟨V, n1, n2, t1, t2, fun k => ([undef, (.func (.func 129) #[] #[.pointer (some ⟨b1, 0, none⟩)]), (.func (.func 129) #[] #[.pointer (some ⟨b2, 0, none⟩)]), (.func (.func 129) #[] #[.pointer (some ⟨b3, 0, none⟩)]), (.func (.func 129) #[] #[.pointer (some ⟨b4, 0, none⟩)]), (.func (.func 129) #[] #[.pointer (some ⟨b5, 0, none⟩)]), (.func (.func 129) #[] #[.pointer (some ⟨b6, 0, none⟩)]), (.func (.func 129) #[] #[.pointer (some ⟨b7, 0, none⟩)]), (.func (.func 129) #[] #[.pointer (some ⟨b8, 0, none⟩)]), (.func (.func 129) #[] #[.pointer (some ⟨b9, 0, none⟩)]), (.func (.func 129) #[] #[.pointer (some ⟨b10, 0, none⟩)]), (.func (.func 129) #[] #[.pointer (some ⟨b11, 0, none⟩)]), (.func (.func 129) #[] #[.pointer (some ⟨b12, 0, none⟩)]), (.func (.func 129) #[] #[.pointer (some ⟨b13, 0, none⟩)]), (.func (.func 134) #[] #[.pointer (some ⟨g14, 0, none⟩), .pointer (some ⟨b14, 0, none⟩)]), (.func (.func 134) #[] #[.pointer (some ⟨g15, 0, none⟩), .pointer (some ⟨b15, 0, none⟩)]), (.func (.func 129) #[] #[.pointer (some ⟨b16, 0, none⟩)])] : List Value).getD k undef⟩ wl := {
  rows := fun k h1 h2 j v hv => by
   have hj : j < 7 := (List.getElem?_eq_some_iff.1 hv).1
   have e := rules_get V n1 n2 t1 t2 (.func (.func 129) #[] #[.pointer (some ⟨b1, 0, none⟩)]) (.func (.func 129) #[] #[.pointer (some ⟨b2, 0, none⟩)]) (.func (.func 129) #[] #[.pointer (some ⟨b3, 0, none⟩)]) (.func (.func 129) #[] #[.pointer (some ⟨b4, 0, none⟩)]) (.func (.func 129) #[] #[.pointer (some ⟨b5, 0, none⟩)]) (.func (.func 129) #[] #[.pointer (some ⟨b6, 0, none⟩)]) (.func (.func 129) #[] #[.pointer (some ⟨b7, 0, none⟩)]) (.func (.func 129) #[] #[.pointer (some ⟨b8, 0, none⟩)]) (.func (.func 129) #[] #[.pointer (some ⟨b9, 0, none⟩)]) (.func (.func 129) #[] #[.pointer (some ⟨b10, 0, none⟩)]) (.func (.func 129) #[] #[.pointer (some ⟨b11, 0, none⟩)]) (.func (.func 129) #[] #[.pointer (some ⟨b12, 0, none⟩)]) (.func (.func 129) #[] #[.pointer (some ⟨b13, 0, none⟩)]) (.func (.func 134) #[] #[.pointer (some ⟨g14, 0, none⟩), .pointer (some ⟨b14, 0, none⟩)]) (.func (.func 134) #[] #[.pointer (some ⟨g15, 0, none⟩), .pointer (some ⟨b15, 0, none⟩)]) (.func (.func 129) #[] #[.pointer (some ⟨b16, 0, none⟩)]) k h1 h2 j hj
   rw [hv] at e
   obtain ⟨hlt, e2⟩ := List.getElem?_eq_some_iff.1 e
   have := CL.2 _ rfl (k * 7 + j) hlt
   rw [Addr.add_lit, Nat.zero_add] at this
   rw [this, e2]
  n1 := Y0.cell HN.out.1 (by simp)
  n2 := ⟨Y0.cell HN.out.2.1.1 (by simp), Y0.cell HN.out.2.1.2 (by simp)⟩
  t1 := Y0.cell HN.out.2.2.1 (by simp)
  t2 := ⟨Y0.cell HN.out.2.2.2.1 (by simp), Y0.cell HN.out.2.2.2.2 (by simp)⟩
  wgt := fun k h1 h2 h3 h4 => by
   have : k = 1 ∨ k = 2 ∨ k = 3 ∨ k = 4 ∨ k = 5 ∨ k = 6 ∨ k = 7 ∨ k = 8 ∨ k = 9 ∨ k = 10 ∨ k = 11 ∨ k = 12 ∨ k = 13 ∨ k = 16 := by omega
   rcases this with rfl | rfl | rfl | rfl | rfl | rfl | rfl | rfl | rfl | rfl | rfl | rfl | rfl | rfl
   ·exact ⟨b1, rfl, Y1.cell C1.out (by simp)⟩
   ·exact ⟨b2, rfl, Y2.cell C2.out (by simp)⟩
   ·exact ⟨b3, rfl, Y3.cell C3.out (by simp)⟩
   ·exact ⟨b4, rfl, Y4.cell C4.out (by simp)⟩
   ·exact ⟨b5, rfl, Y5.cell C5.out (by simp)⟩
   ·exact ⟨b6, rfl, Y6.cell C6.out (by simp)⟩
   ·exact ⟨b7, rfl, Y7.cell C7.out (by simp)⟩
   ·exact ⟨b8, rfl, Y8.cell C8.out (by simp)⟩
   ·exact ⟨b9, rfl, Y9.cell C9.out (by simp)⟩
   ·exact ⟨b10, rfl, Y10.cell C10.out (by simp)⟩
   ·exact ⟨b11, rfl, Y11.cell C11.out (by simp)⟩
   ·exact ⟨b12, rfl, Y12.cell C12.out (by simp)⟩
   ·exact ⟨b13, rfl, Y13.cell C13.out (by simp)⟩
   ·exact ⟨b16, rfl, Y16.cell C16.out (by simp)⟩
  wg2 := fun k h => by
   rcases h with rfl | rfl
   ·exact ⟨b14, g14, rfl, Y14.cell C14.out.1 (by simp), Y14.cell C14.out.2 (by simp)⟩
   ·exact ⟨b15, g15, rfl, Y15.cell C15.out.1 (by simp), Y15.cell C15.out.2 (by simp)⟩ }
 clear C1 X1 Y1 C2 X2 Y2 C3 X3 Y3 C4 X4 Y4 C5 X5 Y5 C6 X6 Y6 C7 X7 Y7 C8 X8 Y8 C9 X9 Y9 C10 X10 Y10 C11 X11 Y11 C12 X12 Y12 C13 X13 Y13 C14 X14 Y14 C15 X15 Y15 C16 X16 Y16 CL KL
 go_wp2
 go_ret
 exact ⟨_, rfl, TT, GW⟩
theorem sixteen {k : Nat} (h1 : 1 ≤ k) (h2 : k ≤ 16) : k = 1 ∨ k = 2 ∨ k = 3 ∨ k = 4 ∨ k = 5 ∨ k = 6 ∨ k = 7 ∨ k = 8 ∨ k = 9 ∨ k = 10 ∨ k = 11 ∨ k = 12 ∨ k = 13 ∨ k = 14 ∨ k = 15 ∨ k = 16 := by omega

end Go.Proofs.YtcodofamdhcfiaaGreat
