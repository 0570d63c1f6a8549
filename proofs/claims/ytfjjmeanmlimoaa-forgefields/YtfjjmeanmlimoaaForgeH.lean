/-
  Package forge as landed: piece, network.
-/
import Derived.Test.YtfjjmeanmlimoaaForgeE
import Derived.Test.YtfjjmeanmlimoaaWalkH
namespace Go.Proofs.Ytfjjmeanmlimoaa
open Go.RowKit
set_option maxRecDepth 100000

def netV (s : Sp) : List UInt8 := if s.proto = 33 then ip4V s else if s.proto = 87 then ip6V s else []

set_option maxRecDepth 100000 in
theorem fnetwork_any (s : Sp) (a : Option Addr) (ca : Nat) (w : World) (ok : s.ok) (hn : s.data.length ≤ 140737488355328) (hx : 0 ≤ s.next ∧ s.next ≤ 255) : Calls Try.prog 30 #[.agg (spA s a ca)] w fun e w' => ∃ v, e = .returned v ∧ Owns w' w.heap.size v (netV s) ∧ w.grownBy w' none := by
  have S0 : SAt (w.alloc (.cells (spA s a ca) 28)) w.heap.size s a ca := ⟨VAt.alloc w _ _, ok⟩
  have G0 : w.grownBy (w.alloc (.cells (spA s a ca) 28)) none := World.grownBy_alloc _ _ _
  have HSS : Hid ((Try.prog.info? 28).map (·.size) = some (spA s a ca).size) := spA_size ok a ca
  have HOK : Hid s.ok := ok
  have c6 := S0.eight.2.2.2.2.2.2.1
  have SK := S0.1
  clear S0 ok
  by_cases h33 : s.proto = 33
  · have e : netV s = ip4V s := by rw [netV, if_pos h33]
    rw [e]
    rw [h33] at c6
    clear e
    go_enter Try.func30, Try.ntmps30
    go_upto_region 3 with fail
    generalize w.alloc (.cells (spA s a ca) 28) = w1 at *
    have HSZ : Hid (w.heap.size ≤ w1.heap.size) := G0.size
    obtain ⟨C, hC⟩ : ∃ C, w.heap.size = C := ⟨_, rfl⟩
    rw [hC] at SK ⊢
    clear hC c6
    go_wp2_with (refine wpList_load_row rfl 28 (.tmp 1) rfl C rfl 28 (spA s a ca) (0, 0) _ SK Try.underlying28 rfl HSS.out ?_)
    refine (fip_any s a ca _ HOK.out hn hx).mono ?_
    rintro e w2 ⟨v, rfl, O2, K2⟩
    clear SK
    go_wp2
    go_ret
    exact ⟨_, rfl, owns_mono O2 HSZ.out, grown_trans G0 K2⟩
  · by_cases h87 : s.proto = 87
    · have e : netV s = ip6V s := by rw [netV, if_neg h33, if_pos h87]
      rw [e]
      rw [h87] at c6
      clear e
      go_enter Try.func30, Try.ntmps30
      go_upto_region 5 with fail
      generalize w.alloc (.cells (spA s a ca) 28) = w1 at *
      have HSZ : Hid (w.heap.size ≤ w1.heap.size) := G0.size
      obtain ⟨C, hC⟩ : ∃ C, w.heap.size = C := ⟨_, rfl⟩
      rw [hC] at SK ⊢
      clear hC c6
      go_wp2_with (refine wpList_load_row rfl 28 (.tmp 1) rfl C rfl 28 (spA s a ca) (0, 0) _ SK Try.underlying28 rfl HSS.out ?_)
      refine (fip6_any s a ca _ HOK.out hn hx).mono ?_
      rintro e w2 ⟨v, rfl, O2, K2⟩
      clear SK
      go_wp2
      go_ret
      exact ⟨_, rfl, owns_mono O2 HSZ.out, grown_trans G0 K2⟩
    · have e : netV s = [] := by rw [netV, if_neg h33, if_neg h87]
      rw [e]
      have h1 : ((s.proto : Int) == 33) = false := by rw [beq_eq_false_iff_ne]; omega
      have h2 : ((s.proto : Int) == 87) = false := by rw [beq_eq_false_iff_ne]; omega
      clear e SK
      go_enter Try.func30, Try.ntmps30
      go_wp2
      go_ret
      exact ⟨_, rfl, World.ownsRow_nil _ _ _ _, G0⟩

set_option maxRecDepth 100000 in
set_option maxHeartbeats 4000000 in
theorem fpiece_multi (l : Lk) (s : Sp) (a : Option Addr) (ca : Nat) (w : World) (ok : s.ok) (hmu : s.multi = true) (hm : l.mp = 1 ∨ l.mp = 2) (hs : s.seq < spV l) :
    Calls Try.prog 28 #[.agg (lkA l), .agg (spA s a ca)] w fun e w' => ∃ v, e = .returned v ∧ Owns w' w.heap.size v (fieldV l s.plain 61 ++ hdB l s.beg s.fin s.seq) ∧ w.grownBy w' none := by
  have I := ls_boxes w l s a ca
  have HLS : Hid ((Try.prog.info? 23).map (·.size) = some (lkA l).size) := size23
  have HSS : Hid ((Try.prog.info? 28).map (·.size) = some (spA s a ca).size) := spA_size ok a ca
  have HOK : Hid s.ok := ok
  have HLY : Hid (∀ W : World, Calls Try.prog 47 #[.int .i64 l.mp] W fun e w' => e = .returned (.agg (layA l.mp)) ∧ W.grownBy w' none) := fun W => layout_any l.mp W
  have HHD : Hid (∀ W : World, Calls Try.prog 63 #[.agg (layA l.mp), .bool s.beg, .bool s.fin, .int .u32 (s.seq : Int)] W fun e w' => ∃ v, e = .returned v ∧ Owns w' W.heap.size v (hdB l s.beg s.fin s.seq) ∧ W.grownBy w' none) := fun W => lhead_any l s.beg s.fin s.seq W hm hs
  have HF : Hid (∀ W : World, Calls Try.prog 60 #[.agg (lkA l), .agg (spA s a ca), .int .u32 61] W fun e w' => ∃ v, e = .returned v ∧ Owns w' W.heap.size v (fieldV l s.plain 61) ∧ W.grownBy w' none) := fun W => lfield_any l s a ca 61 W ok (by omega)
  have HFL : Hid ((fieldV l s.plain 61).length ≤ 2 ∧ (hdB l s.beg s.fin s.seq).length ≤ 4) := ⟨by rcases field_len l s.plain 61 with h | h <;> omega, by rw [hd_len]; unfold szV; split <;> omega⟩
  clear ok hm hs
  go_enter Try.func28, Try.ntmps28
  go_upto_region 1 with fail
  generalize (w.alloc (.cells (lkA l) 23)).alloc (.cells (spA s a ca) 28) = w1 at *
  obtain ⟨B, hB⟩ : ∃ B, w.heap.size = B := ⟨_, rfl⟩
  obtain ⟨C, hC⟩ : ∃ C, w.heap.size + 1 = C := ⟨_, rfl⟩
  have HBw : Hid (w.heap.size = B) := hB
  rw [hC, hB] at I ⊢
  clear hB hC
  have c2 := (show SAt w1 C s a ca from ⟨I.2.1, HOK.out⟩).eight.2.2.1
  rw [hmu] at c2
  go_upto_region 3 with fail
  clear c2
  refine wp_region_held_drew (S := fun W => LS w B C l s a ca W) (by kernel_rfl) (ls_call (grown_drewN w1 1 none) I) (fun hHeld => ?_)
  clear I
  refine wpAnyH_take (i := 0) (v := .pointer (some ⟨B, 2, none⟩)) rfl (by kernel_rfl) (by kernel_rfl) (by kernel_rfl) (fun _ _ _ h => h) (Or.inl ⟨by rfl, fun W hW => ?_⟩) hHeld ?_
  · clear hW
    go_simp
  try simp only [Act.put, List.getElem_toArray, List.getElem_cons_zero, List.setIfInBounds_toArray, List.set_cons_zero, List.set_cons_succ]
  refine wpAnyH_take (i := 1) (v := .int .i64 l.mp) rfl (by kernel_rfl) (by kernel_rfl) (by kernel_rfl) (fun _ _ _ h => h) (Or.inl ⟨by rfl, fun W hW => ?_⟩) hHeld ?_
  · have c : W.cell? ⟨B, 2, none⟩ = some (.int .i64 l.mp) := hW.1.cell 2
    clear hW
    go_simp
  try simp only [Act.put, List.getElem_toArray, List.getElem_cons_zero, List.getElem_cons_succ, List.setIfInBounds_toArray, List.set_cons_zero, List.set_cons_succ]
  refine wpAnyH_take (i := 3) (v := .pointer (some ⟨C, 3, none⟩)) rfl (by kernel_rfl) (by kernel_rfl) (by kernel_rfl) (fun _ _ _ h => h) (Or.inl ⟨by rfl, fun W hW => ?_⟩) hHeld ?_
  · clear hW
    go_simp
  try simp only [Act.put, List.getElem_toArray, List.getElem_cons_zero, List.getElem_cons_succ, List.setIfInBounds_toArray, List.set_cons_zero, List.set_cons_succ]
  refine wpAnyH_take (i := 4) (v := .bool s.beg) rfl (by kernel_rfl) (by kernel_rfl) (by kernel_rfl) (fun _ _ _ h => h) (Or.inl ⟨by rfl, fun W hW => ?_⟩) hHeld ?_
  · obtain ⟨-, -, -, c, -⟩ := (show SAt W C s a ca from ⟨hW.2.1, HOK.out⟩).eight
    clear hW
    go_simp
  try simp only [Act.put, List.getElem_toArray, List.getElem_cons_zero, List.getElem_cons_succ, List.setIfInBounds_toArray, List.set_cons_zero, List.set_cons_succ]
  refine wpAnyH_take (i := 5) (v := .pointer (some ⟨C, 4, none⟩)) rfl (by kernel_rfl) (by kernel_rfl) (by kernel_rfl) (fun _ _ _ h => h) (Or.inl ⟨by rfl, fun W hW => ?_⟩) hHeld ?_
  · clear hW
    go_simp
  try simp only [Act.put, List.getElem_toArray, List.getElem_cons_zero, List.getElem_cons_succ, List.setIfInBounds_toArray, List.set_cons_zero, List.set_cons_succ]
  refine wpAnyH_take (i := 6) (v := .bool s.fin) rfl (by kernel_rfl) (by kernel_rfl) (by kernel_rfl) (fun _ _ _ h => h) (Or.inl ⟨by rfl, fun W hW => ?_⟩) hHeld ?_
  · obtain ⟨-, -, -, -, c, -⟩ := (show SAt W C s a ca from ⟨hW.2.1, HOK.out⟩).eight
    clear hW
    go_simp
  try simp only [Act.put, List.getElem_toArray, List.getElem_cons_zero, List.getElem_cons_succ, List.setIfInBounds_toArray, List.set_cons_zero, List.set_cons_succ]
  refine wpAnyH_take (i := 7) (v := .pointer (some ⟨C, 5, none⟩)) rfl (by kernel_rfl) (by kernel_rfl) (by kernel_rfl) (fun _ _ _ h => h) (Or.inl ⟨by rfl, fun W hW => ?_⟩) hHeld ?_
  · clear hW
    go_simp
  try simp only [Act.put, List.getElem_toArray, List.getElem_cons_zero, List.getElem_cons_succ, List.setIfInBounds_toArray, List.set_cons_zero, List.set_cons_succ]
  refine wpAnyH_take (i := 8) (v := .int .u32 (s.seq : Int)) rfl (by kernel_rfl) (by kernel_rfl) (by kernel_rfl) (fun _ _ _ h => h) (Or.inl ⟨by rfl, fun W hW => ?_⟩) hHeld ?_
  · obtain ⟨-, -, -, -, -, c, -⟩ := (show SAt W C s a ca from ⟨hW.2.1, HOK.out⟩).eight
    clear hW
    go_simp
  try simp only [Act.put, List.getElem_toArray, List.getElem_cons_zero, List.getElem_cons_succ, List.setIfInBounds_toArray, List.set_cons_zero, List.set_cons_succ]
  refine wpAnyH_ready (rs := [2]) (by kernel_rfl) (by simp) (AllReadyH.cons rfl (fun K hK => ?_) AllReadyH.nil)
  go_simp
  refine (HLY.out _).mono ?_
  rintro e w4 ⟨rfl, K1⟩
  go_wp2_with fail
  refine hK.out _ _ (ls_call K1 hHeld) (fun hHeld => ?_)
  clear hK K K1
  try simp only [Act.put, List.getElem_toArray, List.getElem_cons_zero, List.getElem_cons_succ, List.setIfInBounds_toArray, List.set_cons_zero, List.set_cons_succ]
  refine wpAnyH_ready (rs := [9]) (by kernel_rfl) (by simp) (AllReadyH.cons rfl (fun K hK => ?_) AllReadyH.nil)
  go_simp
  have hs4 := hHeld.2.2.size
  refine (HHD.out _).mono ?_
  rintro e w5 ⟨u2, rfl, O2, K2⟩
  obtain ⟨a2, k2, rfl, C2, z2⟩ := O2.cells
  clear O2
  go_wp2_with fail
  refine hK.out _ _ (ls_call K2 hHeld) (fun hHeld => ?_)
  clear hK K K2
  try simp only [Act.put, List.getElem_toArray, List.getElem_cons_zero, List.getElem_cons_succ, List.setIfInBounds_toArray, List.set_cons_zero, List.set_cons_succ]
  refine wpAnyH_take (i := 10) (v := .slice a2 (hdB l s.beg s.fin s.seq).length k2) rfl (by kernel_rfl) (by kernel_rfl) (by kernel_rfl) (fun _ _ _ h => h) (Or.inl ⟨by rfl, fun W hW => ?_⟩) hHeld ?_
  · clear hW
    go_simp
  try simp only [Act.put, List.getElem_toArray, List.getElem_cons_zero, List.getElem_cons_succ, List.setIfInBounds_toArray, List.set_cons_zero, List.set_cons_succ]
  refine wpAnyH_done (by kernel_rfl) ?_ _
  have LB := hHeld.1
  have LC := hHeld.2.1
  have G5 := hHeld.2.2
  have HC2 : Hid (Cells w5 a2 (hdB l s.beg s.fin s.seq) ∧ (a2 = none → k2 = 0)) := ⟨C2, z2⟩
  clear hHeld C2 z2 HLY HHD
  go_wp2_with (first
    | refine wpList_load_row rfl 23 (.tmp 2) rfl B rfl 23 (lkA l) (0, 0) _ LB Try.underlying23 rfl HLS.out ?_
    | refine wpList_load_row rfl 28 (.tmp 3) rfl C rfl 28 (spA s a ca) (0, 0) _ LC Try.underlying28 rfl HSS.out ?_)
  refine (HF.out _).mono ?_
  rintro e w6 ⟨u1, rfl, O1, K6⟩
  obtain ⟨a1, k1, rfl, C1, z1⟩ := O1.cells
  have JN := join_two (W := w6) 26 C1 z1 (HC2.out.1.keptNone K6) HC2.out.2 (by have := HFL.out; omega)
  have G6 := grown_trans G5 K6
  clear O1 C1 z1 K6 LB LC G5
  go_wp2_with fail
  refine JN.mono ?_
  rintro e w7 ⟨u3, rfl, O3, K7⟩
  have G7 := grown_trans G6 (grown_trans (World.grownBy_alloc w6 _ none) K7)
  have HO : Hid (Owns w7 w.heap.size u3 (fieldV l s.plain 61 ++ hdB l s.beg s.fin s.seq)) := owns_mono O3 G6.size
  clear JN O3 K7 G6
  go_wp2
  go_ret
  exact ⟨_, rfl, HO.out, G7⟩

theorem fpiece_any (l : Lk) (s : Sp) (a : Option Addr) (ca : Nat) (w : World) (ok : s.ok) (hp : s.multi = true → (l.mp = 1 ∨ l.mp = 2) ∧ s.seq < spV l) :
    Calls Try.prog 28 #[.agg (lkA l), .agg (spA s a ca)] w fun e w' => ∃ v, e = .returned v ∧ Owns w' w.heap.size v (pieceB l s) ∧ w.grownBy w' none := by
  cases hm : s.multi with
  | false =>
    have e : pieceB l s = [] := by rw [pieceB, if_neg (by rw [hm]; simp)]
    rw [e]
    have I := ls_boxes w l s a ca
    have c2 := (show SAt _ _ s a ca from ⟨I.2.1, ok⟩).eight.2.2.1
    have G := I.2.2
    rw [hm] at c2
    clear I e ok
    go_enter Try.func28, Try.ntmps28
    go_wp2
    go_ret
    exact ⟨_, rfl, World.ownsRow_nil _ _ _ _, G⟩
  | true =>
    obtain ⟨h1, h2⟩ := hp hm
    have e : pieceB l s = fieldV l s.plain 61 ++ hdB l s.beg s.fin s.seq := by rw [pieceB, if_pos hm]
    rw [e]
    exact fpiece_multi l s a ca w ok hm h1 h2

end Go.Proofs.Ytfjjmeanmlimoaa
