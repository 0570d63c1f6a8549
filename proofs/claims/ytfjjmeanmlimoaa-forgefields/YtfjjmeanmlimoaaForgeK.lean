/-
  Package forge as landed: Make; the statements' own lend and awake.
-/
import Derived.Test.YtfjjmeanmlimoaaForgeM
import Derived.Test.YtfjjmeanmlimoaaForgeH
import Derived.Test.YtfjjmeanmlimoaaForgeO
import Derived.Test.YtfjjmeanmlimoaaFrameD
import Derived.Test.YtfjjmeanmlimoaaSame
import Derived.Test.YtfjjmeanmlimoaaSpoil
namespace Go.Proofs.Ytfjjmeanmlimoaa
open Go.RowKit
set_option maxRecDepth 100000

/-- The head of a frame. -/
def headP (l : Lk) (s : Sp) : List UInt8 := wideV s ++ (pieceB l s ++ (ownV l s ++ (netV s ++ preV8 s)))
theorem head_out {l : Lk} {s : Sp} (F : Fits l s) : headP l s ++ s.data = outV l s := by
  have hc : carV s = netV s ++ loadV s := by
    unfold carV netV
    by_cases hm : s.multi = true ∧ s.beg = false
    · rw [if_pos hm]
      have := (F.mute hm.1 hm.2).1
      rw [if_neg (by omega), if_neg (by omega)]
      rfl
    · rw [if_neg hm]
      by_cases h33 : s.proto = 33
      · rw [if_pos h33, if_pos h33, ip4V]
        simp [be4, be2]
      · rw [if_neg h33, if_neg h33]
        by_cases h87 : s.proto = 87
        · rw [if_pos h87, if_pos h87, ip6V]
          simp
        · rw [if_neg h87, if_neg h87]
          rfl
  unfold outV frontV headP
  rw [hc, load_pre]
  simp
theorem head_len {l : Lk} {s : Sp} (ok : s.ok) : (wideV s).length ≤ 2 ∧ (pieceB l s).length ≤ 6 ∧ (ownV l s).length ≤ 2 ∧ (netV s).length ≤ 40 ∧ (preV8 s).length ≤ 4 := by
  obtain ⟨h1, h2, h3⟩ := front_len l s
  refine ⟨h1, h2, h3, ?_, pre_len s⟩
  have e1 := ok.src
  have e2 := ok.dst
  unfold netV ip4V ip6V
  split
  · simp [be2, be4]; omega
  · split
    · simp [be2]; omega
    · simp

set_option maxRecDepth 100000 in
set_option maxHeartbeats 4000000 in
theorem make_any (l : Lk) (s : Sp) (a : Option Addr) (ca : Nat) (w : World) (ok : s.ok) (hD : Cells w a s.data) (hc0 : a = none → ca = 0) (hn : s.data.length ≤ 140737488355328) :
    Calls Try.prog 10 #[.agg (lkA l), .agg (spA s a ca)] w fun e w' => ∃ v, e = .returned (.tuple #[v, .int .i64 (exE (makeX l s))]) ∧ Owns w' w.heap.size v (exV [] (makeX l s)) ∧ w.grownBy w' none := by
  have I := ls_boxes w l s a ca
  have HLS : Hid ((Try.prog.info? 23).map (·.size) = some (lkA l).size) := size23
  have HSS : Hid ((Try.prog.info? 28).map (·.size) = some (spA s a ca).size) := spA_size ok a ca
  have HOK : Hid s.ok := ok
  have H : Hid (Cells w a s.data) := hD
  obtain ⟨M, hM⟩ : ∃ M, makeX l s = M := ⟨_, rfl⟩
  rw [hM]
  have HM : Hid (M = if checkF l ≠ 0 then .error (checkF l) else if fitsB l s = false then .error 80 else if 65535 < s.data.length then .error 81 else if 65535 < (outV l s).length then .error 81 else .ok (outV l s)) := by
    show M = _
    rw [← hM]
    rfl
  have HN : Hid (∀ (E : Int) (W : World), M = .error E → w.grownBy W none → ∃ v, Ending.returned (.tuple #[.slice none 0 0, .int .i64 E]) = .returned (.tuple #[v, .int .i64 (exE M)]) ∧ Owns W w.heap.size v (exV [] M) ∧ w.grownBy W none) := fun E W h g => by
    rw [h]
    exact ⟨_, rfl, World.ownsRow_nil _ _ _ _, g⟩
  have CK : Hid (∀ W : World, Calls Try.prog 24 #[.agg (lkA l)] W fun e w' => e = .returned (.int .i64 (checkF l)) ∧ W.grownBy w' none) := fun W => chk_any l W
  have WR : Hid (∀ W : World, checkF l = 0 → Calls Try.prog 25 #[.agg (lkA l), .agg (spA s a ca)] W fun e w' => e = .returned (.bool (!fitsB l s)) ∧ W.grownBy w' none) := fun W h => by
    have k := wrong_any l s a ca W ok
    rw [wrong_fits l s h] at k
    exact k
  clear hD hM ok
  go_enter Try.func10, Try.ntmps10
  go_upto_region 1 with fail
  generalize (w.alloc (.cells (lkA l) 23)).alloc (.cells (spA s a ca) 28) = w1 at *
  obtain ⟨B, hB⟩ : ∃ B, w.heap.size = B := ⟨_, rfl⟩
  obtain ⟨C, hC⟩ : ∃ C, w.heap.size + 1 = C := ⟨_, rfl⟩
  rw [hC, hB] at I ⊢
  clear hB hC
  have LK := I.1
  go_wp2_with (refine wpList_load_row rfl 23 (.tmp 2) rfl B rfl 23 (lkA l) (0, 0) _ LK Try.underlying23 rfl HLS.out ?_)
  refine (CK.out _).mono ?_
  rintro e w2 ⟨rfl, K2⟩
  have I2 := ls_call K2 I
  clear LK I K2 CK
  by_cases hck : checkF l = 0
  case neg =>
    have hck' : (checkF l != 0) = true := by rw [bne_iff_ne]; exact hck
    go_wp2
    go_ret2
    exact HN.out _ _ (by rw [HM.out, if_pos hck]) I2.2.2
  have HMP : Hid (l.mp = 0 ∨ l.mp = 1 ∨ l.mp = 2) := by
    show _ ∨ _
    unfold checkF at hck
    split at hck
    · exact absurd hck (by simp)
    · omega
  have WR2 : Hid (∀ W : World, Calls Try.prog 25 #[.agg (lkA l), .agg (spA s a ca)] W fun e w' => e = .returned (.bool (!fitsB l s)) ∧ W.grownBy w' none) := fun W => WR.out W hck
  have HM3 : Hid (M = if fitsB l s = false then .error 80 else if 65535 < s.data.length then .error 81 else if 65535 < (outV l s).length then .error 81 else .ok (outV l s)) := by
    show M = _
    rw [HM.out, if_neg (by rw [hck]; simp)]
  rw [hck]
  clear HM WR hck
  have LK := I2.1
  have SK := I2.2.1
  go_wp2_with (first | (refine wpList_load_row rfl 23 (.tmp 2) rfl B rfl 23 (lkA l) (0, 0) _ LK Try.underlying23 rfl HLS.out ?_) | (refine wpList_load_row rfl 28 (.tmp 3) rfl C rfl 28 (spA s a ca) (0, 0) _ SK Try.underlying28 rfl HSS.out ?_))
  refine (WR2.out _).mono ?_
  rintro e w3 ⟨rfl, K3⟩
  have I3 := ls_call K3 I2
  clear LK SK I2 K3 WR2
  cases hfit : fitsB l s with
  | false =>
    go_wp2
    go_ret2
    exact HN.out _ _ (by rw [HM3.out, if_pos hfit]) I3.2.2
  | true =>
  have HFT : Hid (Fits l s) := fits_of hfit
  have HM4 : Hid (M = if 65535 < s.data.length then .error 81 else if 65535 < (outV l s).length then .error 81 else .ok (outV l s)) := by
    show M = _
    rw [HM3.out, if_neg (by rw [hfit]; simp)]
  have HHL := head_len (l := l) HOK.out
  have HPC : Hid (∀ W : World, Calls Try.prog 28 #[.agg (lkA l), .agg (spA s a ca)] W fun e w' => ∃ v, e = .returned v ∧ Owns w' W.heap.size v (pieceB l s) ∧ W.grownBy w' none) := fun W => fpiece_any l s a ca W HOK.out (fun hm => by
    obtain ⟨q1, q2⟩ := HFT.out.piece hm
    exact ⟨by rcases HMP.out with h | h | h <;> omega, q2⟩)
  have HPN : Hid (∀ W : World, Calls Try.prog 30 #[.agg (spA s a ca)] W fun e w' => ∃ v, e = .returned v ∧ Owns w' W.heap.size v (netV s) ∧ W.grownBy w' none) := fun W => fnetwork_any s a ca W HOK.out hn HFT.out.next
  have HPA : Hid (∀ W : World, Calls Try.prog 27 #[.agg (spA s a ca)] W fun e w' => ∃ v, e = .returned v ∧ Owns w' W.heap.size v (wideV s) ∧ W.grownBy w' none) := fun W => faddress_any s a ca W HOK.out
  have HPI : Hid (∀ W : World, Calls Try.prog 29 #[.agg (lkA l), .agg (spA s a ca)] W fun e w' => ∃ v, e = .returned v ∧ Owns w' W.heap.size v (ownV l s) ∧ W.grownBy w' none) := fun W => finner_any l s a ca W HOK.out
  have HPP : Hid (∀ W : World, Calls Try.prog 31 #[.agg (spA s a ca)] W fun e w' => ∃ v, e = .returned v ∧ Owns w' W.heap.size v (preV8 s) ∧ W.grownBy w' none) := fun W => fports_any s a ca W HOK.out
  clear HM3 hfit
  have G3 := I3.2.2
  have J3 : LS w3 B C l s a ca w3 := ⟨I3.1, I3.2.1, World.grownBy.refl _ _⟩
  clear I3
  generalize hq1 : wideV s = q1 at *
  generalize hq2 : pieceB l s = q2 at *
  generalize hq3 : ownV l s = q3 at *
  generalize hq4 : netV s = q4 at *
  generalize hq5 : preV8 s = q5 at *
  have HHO : Hid ((q1 ++ (q2 ++ (q3 ++ (q4 ++ q5)))) ++ s.data = outV l s) := by
    show _ = _
    rw [← head_out HFT.out, headP, hq1, hq2, hq3, hq4, hq5]
  clear hq1 hq2 hq3 hq4 hq5
  go_upto_region 6 with fail
  refine wp_region_held_drew (S := fun W => LS w3 B C l s a ca W) (by kernel_rfl) (ls_drew J3) (fun hHeld => ?_)
  clear J3
  refine wpAnyH_take (i := 0) (v := .agg (spA s a ca)) rfl (by kernel_rfl) (by kernel_rfl) (by kernel_rfl) (fun _ _ _ h => h) (yieldsIf_load_row (by rfl) _ _ rfl C rfl 28 (spA s a ca) _ (fun W hW => hW.2.1) Try.underlying28 rfl HSS.out) hHeld ?_
  try simp only [Act.put, List.getElem_toArray, List.getElem_cons_zero, List.setIfInBounds_toArray, List.set_cons_zero, List.set_cons_succ]
  refine wpAnyH_take (i := 2) (v := .agg (lkA l)) rfl (by kernel_rfl) (by kernel_rfl) (by kernel_rfl) (fun _ _ _ h => h) (yieldsIf_load_row (by rfl) _ _ rfl B rfl 23 (lkA l) _ (fun W hW => hW.1) Try.underlying23 rfl HLS.out) hHeld ?_
  try simp only [Act.put, List.getElem_toArray, List.getElem_cons_zero, List.getElem_cons_succ, List.setIfInBounds_toArray, List.set_cons_zero, List.set_cons_succ]
  refine wpAnyH_take (i := 3) (v := .agg (spA s a ca)) rfl (by kernel_rfl) (by kernel_rfl) (by kernel_rfl) (fun _ _ _ h => h) (yieldsIf_load_row (by rfl) _ _ rfl C rfl 28 (spA s a ca) _ (fun W hW => hW.2.1) Try.underlying28 rfl HSS.out) hHeld ?_
  try simp only [Act.put, List.getElem_toArray, List.getElem_cons_zero, List.getElem_cons_succ, List.setIfInBounds_toArray, List.set_cons_zero, List.set_cons_succ]
  refine wpAnyH_take (i := 5) (v := .agg (lkA l)) rfl (by kernel_rfl) (by kernel_rfl) (by kernel_rfl) (fun _ _ _ h => h) (yieldsIf_load_row (by rfl) _ _ rfl B rfl 23 (lkA l) _ (fun W hW => hW.1) Try.underlying23 rfl HLS.out) hHeld ?_
  try simp only [Act.put, List.getElem_toArray, List.getElem_cons_zero, List.getElem_cons_succ, List.setIfInBounds_toArray, List.set_cons_zero, List.set_cons_succ]
  refine wpAnyH_take (i := 6) (v := .agg (spA s a ca)) rfl (by kernel_rfl) (by kernel_rfl) (by kernel_rfl) (fun _ _ _ h => h) (yieldsIf_load_row (by rfl) _ _ rfl C rfl 28 (spA s a ca) _ (fun W hW => hW.2.1) Try.underlying28 rfl HSS.out) hHeld ?_
  try simp only [Act.put, List.getElem_toArray, List.getElem_cons_zero, List.getElem_cons_succ, List.setIfInBounds_toArray, List.set_cons_zero, List.set_cons_succ]
  refine wpAnyH_take (i := 8) (v := .agg (spA s a ca)) rfl (by kernel_rfl) (by kernel_rfl) (by kernel_rfl) (fun _ _ _ h => h) (yieldsIf_load_row (by rfl) _ _ rfl C rfl 28 (spA s a ca) _ (fun W hW => hW.2.1) Try.underlying28 rfl HSS.out) hHeld ?_
  try simp only [Act.put, List.getElem_toArray, List.getElem_cons_zero, List.getElem_cons_succ, List.setIfInBounds_toArray, List.set_cons_zero, List.set_cons_succ]
  refine wpAnyH_take (i := 10) (v := .agg (spA s a ca)) rfl (by kernel_rfl) (by kernel_rfl) (by kernel_rfl) (fun _ _ _ h => h) (yieldsIf_load_row (by rfl) _ _ rfl C rfl 28 (spA s a ca) _ (fun W hW => hW.2.1) Try.underlying28 rfl HSS.out) hHeld ?_
  try simp only [Act.put, List.getElem_toArray, List.getElem_cons_zero, List.getElem_cons_succ, List.setIfInBounds_toArray, List.set_cons_zero, List.set_cons_succ]
  refine wpAnyH_ready (rs := [1]) (by kernel_rfl) (by simp) (AllReadyH.cons rfl (fun K hK => ?_) AllReadyH.nil)
  go_simp
  refine (HPA.out _).mono ?_
  rintro e v1 ⟨u, rfl, O, K1⟩
  obtain ⟨a1, k1, rfl, C1, z1⟩ := O.cells
  clear O
  go_wp2_with fail
  refine hK.out _ _ (ls_call K1 hHeld) (fun hHeld => ?_)
  clear hK K K1
  try simp only [Act.put, List.getElem_toArray, List.getElem_cons_zero, List.getElem_cons_succ, List.setIfInBounds_toArray, List.set_cons_zero, List.set_cons_succ]
  refine wpAnyH_ready (rs := [4]) (by kernel_rfl) (by simp) (AllReadyH.cons rfl (fun K hK => ?_) AllReadyH.nil)
  go_simp
  refine (HPC.out _).mono ?_
  rintro e v2 ⟨u, rfl, O, K2⟩
  obtain ⟨a2, k2, rfl, C2, z2⟩ := O.cells
  clear O
  have C1' := C1.keptNone K2
  clear C1
  have C1 := C1'
  clear C1'
  go_wp2_with fail
  refine hK.out _ _ (ls_call K2 hHeld) (fun hHeld => ?_)
  clear hK K K2
  try simp only [Act.put, List.getElem_toArray, List.getElem_cons_zero, List.getElem_cons_succ, List.setIfInBounds_toArray, List.set_cons_zero, List.set_cons_succ]
  refine wpAnyH_ready (rs := [7]) (by kernel_rfl) (by simp) (AllReadyH.cons rfl (fun K hK => ?_) AllReadyH.nil)
  go_simp
  refine (HPI.out _).mono ?_
  rintro e v3 ⟨u, rfl, O, K3⟩
  obtain ⟨a3, k3, rfl, C3, z3⟩ := O.cells
  clear O
  have C1' := C1.keptNone K3
  clear C1
  have C1 := C1'
  clear C1'
  have C2' := C2.keptNone K3
  clear C2
  have C2 := C2'
  clear C2'
  go_wp2_with fail
  refine hK.out _ _ (ls_call K3 hHeld) (fun hHeld => ?_)
  clear hK K K3
  try simp only [Act.put, List.getElem_toArray, List.getElem_cons_zero, List.getElem_cons_succ, List.setIfInBounds_toArray, List.set_cons_zero, List.set_cons_succ]
  refine wpAnyH_ready (rs := [9]) (by kernel_rfl) (by simp) (AllReadyH.cons rfl (fun K hK => ?_) AllReadyH.nil)
  go_simp
  refine (HPN.out _).mono ?_
  rintro e v4 ⟨u, rfl, O, K4⟩
  obtain ⟨a4, k4, rfl, C4, z4⟩ := O.cells
  clear O
  have C1' := C1.keptNone K4
  clear C1
  have C1 := C1'
  clear C1'
  have C2' := C2.keptNone K4
  clear C2
  have C2 := C2'
  clear C2'
  have C3' := C3.keptNone K4
  clear C3
  have C3 := C3'
  clear C3'
  go_wp2_with fail
  refine hK.out _ _ (ls_call K4 hHeld) (fun hHeld => ?_)
  clear hK K K4
  try simp only [Act.put, List.getElem_toArray, List.getElem_cons_zero, List.getElem_cons_succ, List.setIfInBounds_toArray, List.set_cons_zero, List.set_cons_succ]
  refine wpAnyH_ready (rs := [11]) (by kernel_rfl) (by simp) (AllReadyH.cons rfl (fun K hK => ?_) AllReadyH.nil)
  go_simp
  refine (HPP.out _).mono ?_
  rintro e v5 ⟨u, rfl, O, K5⟩
  obtain ⟨a5, k5, rfl, C5, z5⟩ := O.cells
  clear O
  have C1' := C1.keptNone K5
  clear C1
  have C1 := C1'
  clear C1'
  have C2' := C2.keptNone K5
  clear C2
  have C2 := C2'
  clear C2'
  have C3' := C3.keptNone K5
  clear C3
  have C3 := C3'
  clear C3'
  have C4' := C4.keptNone K5
  clear C4
  have C4 := C4'
  clear C4'
  go_wp2_with fail
  refine hK.out _ _ (ls_call K5 hHeld) (fun hHeld => ?_)
  clear hK K K5
  try simp only [Act.put, List.getElem_toArray, List.getElem_cons_zero, List.getElem_cons_succ, List.setIfInBounds_toArray, List.set_cons_zero, List.set_cons_succ]
  have hs5 := hHeld.2.2.size
  refine wpAnyH_ready (rs := [12]) (by kernel_rfl) (by simp) (AllReadyH.cons rfl (fun K hK => ?_) AllReadyH.nil)
  go_simp
  refine hK.out _ _ (ls_call (World.grownBy_alloc _ _ _) hHeld) (fun hHeld => ?_)
  clear hK K
  try simp only [Act.put, List.getElem_toArray, List.getElem_cons_zero, List.getElem_cons_succ, List.setIfInBounds_toArray, List.set_cons_zero, List.set_cons_succ]
  refine wpAnyH_ready (rs := [13]) (by kernel_rfl) (by simp) (AllReadyH.cons rfl (fun K hK => ?_) AllReadyH.nil)
  go_simp
  refine (join_five _ C1 z1 C2 z2 C3 z3 C4 z4 C5 z5 _ _ _ _ _ rfl rfl rfl rfl rfl (by omega)).mono ?_
  rintro e w6 ⟨u6, rfl, O6, K6⟩
  obtain ⟨a6, k6, rfl, C6, z6⟩ := O6.cells
  clear O6
  go_wp2_with fail
  refine hK.out _ _ (ls_call K6 hHeld) (fun hHeld => ?_)
  clear hK K K6 C1 C2 C3 C4 C5
  try simp only [Act.put, List.getElem_toArray, List.getElem_cons_zero, List.getElem_cons_succ, List.setIfInBounds_toArray, List.set_cons_zero, List.set_cons_succ]
  refine wpAnyH_take (i := 14) (v := .slice a6 (q1 ++ (q2 ++ (q3 ++ (q4 ++ q5)))).length k6) rfl (by kernel_rfl) (by kernel_rfl) (by kernel_rfl) (fun _ _ _ h => h) (Or.inl ⟨by rfl, fun W hW => ?_⟩) hHeld ?_
  · clear hW
    go_simp
  try simp only [Act.put, List.getElem_toArray, List.getElem_cons_zero, List.getElem_cons_succ, List.setIfInBounds_toArray, List.set_cons_zero, List.set_cons_succ]
  refine wpAnyH_done (by kernel_rfl) ?_ _
  have S6 : SAt w6 C s a ca := ⟨hHeld.2.1, HOK.out⟩
  have G6 := grown_trans G3 hHeld.2.2
  have c43 := S6.four.2.2.2
  have HD6 : Hid (Cells w6 a s.data) := H.out.keptNone G6
  obtain ⟨m, hm⟩ : ∃ m, (q1 ++ (q2 ++ (q3 ++ (q4 ++ q5)))).length = m := ⟨_, rfl⟩
  have hml : m ≤ 54 := by rw [← hm]; simp only [List.length_append]; omega
  have HOL : Hid ((outV l s).length = m + s.data.length) := by show _ = _; rw [← HHO.out, List.length_append, hm]
  obtain ⟨hd, hhd⟩ : ∃ hd, q1 ++ (q2 ++ (q3 ++ (q4 ++ q5))) = hd := ⟨_, rfl⟩
  rw [hhd] at hm HHO C6
  rw [hhd, hm]
  have HC6 : Hid (Cells w6 a6 hd) := C6
  have HML : Hid (hd.length = m) := hm
  clear hHeld S6 C6 hhd hm HHL
  by_cases hlong : 65535 < m + s.data.length
  · have hl' : (65535 : Int) - (m : Int) < (s.data.length : Int) := by omega
    have HE : Hid (M = .error 81) := by
      show M = _
      rw [HM4.out]
      by_cases hd' : 65535 < s.data.length
      · rw [if_pos hd']
      · rw [if_neg hd', if_pos (by rw [HOL.out]; exact hlong)]
    go_wp2
    go_ret2
    exact HN.out _ _ HE.out G6
  · have hl' : ¬ (65535 : Int) - (m : Int) < (s.data.length : Int) := by omega
    have HE : Hid (M = .ok (outV l s)) := by
      show M = _
      rw [HM4.out, if_neg (by omega), if_neg (by rw [HOL.out]; exact hlong)]
    have J := join_two 26 HC6.out z6 HD6.out hc0 (by rw [HML.out]; omega)
    rw [HML.out, HHO.out] at J
    have HJ : Hid (Calls Try.prog 26 #[.slice (some ⟨w6.heap.size, 0, none⟩) 2 2] (w6.alloc (.cells #[.slice a6 m k6, .slice a s.data.length ca] 26)) fun e w' => ∃ v, e = .returned v ∧ Owns w' w6.heap.size v (outV l s) ∧ (w6.alloc (.cells #[.slice a6 m k6, .slice a s.data.length ca] 26)).grownBy w' none) := J
    clear J
    go_wp2_with fail
    refine HJ.out.mono ?_
    rintro e w7 ⟨u7, rfl, O7, K7⟩
    have K7' := grown_trans (World.grownBy_alloc w6 (.cells #[.slice a6 m k6, .slice a s.data.length ca] 26) none) K7
    have G7 := grown_trans G6 K7'
    clear HJ K7
    go_wp2
    go_ret2
    rw [HE.out]
    exact ⟨_, rfl, owns_mono O7 G6.size, G7⟩

theorem spL_set {s : Sp} (h : s.ok) (a b : Option Addr) (ca cb : Nat) : (spL s a ca).set 43 (.slice b s.data.length cb) = spL s b cb := by
  unfold spL
  simp only [List.set_cons_succ]
  rw [List.set_append_right _ _ (by simp [h.src])]
  simp only [List.length_map, h.src]
  rw [List.set_append_right _ _ (by simp [h.dst])]
  simp only [List.length_map, h.dst]
  rfl

def zS : Array Value := #[.bool false, .bool false, .bool false, .bool false, .bool false, .int .u32 0, .int .u32 0, .int .i64 0, .int .u8 0, .int .u8 0, .int .u8 0, .int .u8 0, .int .u8 0, .int .u8 0, .int .u8 0, .int .u8 0, .int .u8 0, .int .u8 0, .int .u8 0, .int .u8 0, .int .u8 0, .int .u8 0, .int .u8 0, .int .u8 0, .int .u8 0, .int .u8 0, .int .u8 0, .int .u8 0, .int .u8 0, .int .u8 0, .int .u8 0, .int .u8 0, .int .u8 0, .int .u8 0, .int .u8 0, .int .u8 0, .int .u8 0, .int .u8 0, .int .u8 0, .int .u8 0, .bool false, .int .u32 0, .int .u32 0, .slice none 0 0]
theorem zS_size : zS.size = 44 := by decide +kernel
theorem spA_all (s : Sp) (a : Option Addr) (ca : Nat) : (spA s a ca).all (·.oneCell') = true := by
  unfold spA spL
  refine all_oneCell_toArray (fun v hv => ?_)
  simp only [List.mem_cons, List.mem_append, List.mem_map, List.not_mem_nil, or_false] at hv
  rcases hv with rfl | rfl | rfl | rfl | rfl | rfl | rfl | rfl | ⟨x, -, rfl⟩ | ⟨x, -, rfl⟩ | rfl | rfl | rfl | rfl <;> rfl

set_option maxRecDepth 100000 in
set_option maxHeartbeats 1000000 in
theorem lend8_any (s : Sp) (a : Option Addr) (ca : Nat) (w : World) (ok : s.ok) (hD : Cells w a s.data) (hc0 : a = none → ca = 0) (hn : s.data.length ≤ 140737488351232) :
    Calls Try.prog 9 #[.agg (spA s a ca)] w fun e w' => ∃ g cap, e = .returned (.agg (spA s (some ⟨g, 0, none⟩) cap)) ∧ Lent w' w.heap.size (.slice (some ⟨g, 0, none⟩) s.data.length cap) s.data ∧ w.grownBy w' none := by
  have S0 := VAt.alloc w 28 (spA s a ca)
  have K1 := World.grownBy_alloc (w.alloc (.cells (spA s a ca) 28)) (.cells zS 28) none
  have Z1 := VAt.alloc (w.alloc (.cells (spA s a ca) 28)) 28 zS
  have G1 := grown_trans (World.grownBy_alloc w (.cells (spA s a ca) 28) none) K1
  rw [show (w.alloc (.cells (spA s a ca) 28)).heap.size = w.heap.size + 1 by simp] at Z1
  have HS1 : Hid (SAt ((w.alloc (.cells (spA s a ca) 28)).alloc (.cells zS 28)) w.heap.size s a ca) := ⟨S0.kept K1, ok⟩
  have HZ1 : Hid (VAt ((w.alloc (.cells (spA s a ca) 28)).alloc (.cells zS 28)) (w.heap.size + 1) 28 zS) := Z1
  have H : Hid (Cells w a s.data) := hD
  have HOK : Hid s.ok := ok
  clear S0 K1 Z1 hD ok
  go_enter Try.func9, Try.ntmps9
  go_upto_region 1 with fail
  rw [show (w.alloc (.cells (spA s a ca) 28)).alloc (.cells #[.bool false, .bool false, .bool false, .bool false, .bool false, .int .u32 0, .int .u32 0, .int .i64 0, .int .u8 0, .int .u8 0, .int .u8 0, .int .u8 0, .int .u8 0, .int .u8 0, .int .u8 0, .int .u8 0, .int .u8 0, .int .u8 0, .int .u8 0, .int .u8 0, .int .u8 0, .int .u8 0, .int .u8 0, .int .u8 0, .int .u8 0, .int .u8 0, .int .u8 0, .int .u8 0, .int .u8 0, .int .u8 0, .int .u8 0, .int .u8 0, .int .u8 0, .int .u8 0, .int .u8 0, .int .u8 0, .int .u8 0, .int .u8 0, .int .u8 0, .int .u8 0, .bool false, .int .u32 0, .int .u32 0, .slice none 0 0] 28) = (w.alloc (.cells (spA s a ca) 28)).alloc (.cells zS 28) from rfl]
  obtain ⟨C, hC⟩ : ∃ C, w.heap.size = C := ⟨_, rfl⟩
  obtain ⟨D, hDD⟩ : ∃ D, w.heap.size + 1 = D := ⟨_, rfl⟩
  rw [hDD] at HZ1
  rw [hDD]
  rw [hC] at HS1
  rw [hC]
  have HB : Hid (w.heap.size = C ∧ w.heap.size + 1 = D) := ⟨hC, hDD⟩
  clear hC hDD
  generalize (w.alloc (.cells (spA s a ca) 28)).alloc (.cells zS 28) = w1 at *
  have c43 := HS1.out.four.2.2.2
  go_wp2_with fail
  refine (lend_any a ca s.data _ (H.out.keptNone G1) hc0 hn).mono ?_
  rintro e w2 ⟨v2, rfl, ⟨g, cap, rfl, hcap, hcm, hg1, hg2, hown⟩, K2⟩
  have S2 := HS1.out.kept K2
  have Z2 := HZ1.out.kept K2
  have G2 := grown_trans G1 K2
  have c43' := S2.four.2.2.2
  have f43 := S2.1.free 43
  have hCg : C < w1.heap.size := HS1.out.1.lt
  have hDg : D < w1.heap.size := HZ1.out.lt
  have HL2 : Hid (w2.ownsRow w1.heap.size 5 1 (.slice (some ⟨g, 0, none⟩) (s.data.length + 3) cap) (s.data.length + 3) ((s.data ++ [201, 201, 201]).map bv)) := hown
  have hne : C ≠ D := by have := HB.out; omega
  have S3 : VAt (w2.setCell ⟨C, 43, none⟩ (.slice (some ⟨g, 0, none⟩) s.data.length cap)) C 28 (spA s (some ⟨g, 0, none⟩) cap) := by
    have k := S2.1.set 43 (.slice (some ⟨g, 0, none⟩) s.data.length cap)
    rw [spA, List.setIfInBounds_toArray, spL_set HOK.out] at k
    exact k
  have K3 : w2.grownBy (w2.setCell ⟨C, 43, none⟩ (.slice (some ⟨g, 0, none⟩) s.data.length cap)) (some C) := grown_set1 _ _ _
  have Z3 := Z2.grown K3 (by simpa using hne)
  have HL3 := HL2.out.kept K3 (by right; simp only [Value.ownBlock, ne_eq, Option.some.injEq]; omega)
  have hg2' : g < (w2.setCell ⟨C, 43, none⟩ (.slice (some ⟨g, 0, none⟩) s.data.length cap)).heap.size := Nat.lt_of_lt_of_le hg2 K3.size
  have G3 : w.grownBy (w2.setCell ⟨C, 43, none⟩ (.slice (some ⟨g, 0, none⟩) s.data.length cap)) none := grown_trans_new G2 K3 (by intro x hx; obtain rfl := Option.some.inj hx; have := HB.out; omega)
  clear hown S2 Z2 G2 K2 K3 HS1 HZ1 HL2
  go_upto_region 2 with fail
  generalize w2.setCell ⟨C, 43, none⟩ (.slice (some ⟨g, 0, none⟩) s.data.length cap) = w3 at *
  have HSS : Hid ((Try.prog.info? 28).map (·.size) = some (spA s (some ⟨g, 0, none⟩) cap).size) := spA_size HOK.out _ _
  have hzs : zS.size = (spA s (some ⟨g, 0, none⟩) cap).size := by rw [zS_size, spA, List.size_toArray, spL_len HOK.out]
  clear c43 c43' f43
  go_wp2_with (first | (refine wpList_load_row rfl 28 (.tmp 1) rfl C rfl 28 (spA s (some ⟨g, 0, none⟩) cap) (0, 0) _ S3 Try.underlying28 rfl HSS.out ?_) | (refine wpList_store_row rfl 28 (.tmp 2) (.tmp 7) rfl D (spA s (some ⟨g, 0, none⟩) cap) rfl rfl 28 _ Z3 HSS.out hzs (spA_all _ _ _) ?_))
  have VR := Z3.setRow (spA s (some ⟨g, 0, none⟩) cap)
  have KR : w3.grownBy (w3.setRow D (spA s (some ⟨g, 0, none⟩) cap)) (some D) := vgrown_setRow (World.grownBy.refl _ _) _ _ (.inl rfl)
  refine bodyPost_ret (results_cell_row rfl _ _ D _ (spA s (some ⟨g, 0, none⟩) cap) (0, 0) _ rfl VR Try.underlying28 rfl HSS.out) rfl ?_
  have hB := HB.out
  refine ⟨g, cap, rfl, ⟨g, cap, rfl, hcap, hcm, by omega, Nat.lt_of_lt_of_le hg2' KR.size, ?_⟩, grown_trans_new G3 KR (by intro x hx; obtain rfl := Option.some.inj hx; omega)⟩
  exact owns_mono (HL3.kept KR (by right; simp only [Value.ownBlock, ne_eq, Option.some.injEq]; omega)) (by have := G1.size; omega)

def z16 : List UInt8 := [0, 0, 0, 0, 0, 0, 0, 0, 0, 0, 0, 0, 0, 0, 0, 0]
def aw1 : Sp := ⟨false, true, false, false, false, 0, 49185, 0, z16, z16, false, 0, 0, [1]⟩
def aw2 : Sp := ⟨false, false, false, false, false, 0, 49185, 0, z16, z16, false, 0, 0, []⟩
theorem aw1_ok : aw1.ok := ⟨rfl, rfl, by decide, by decide, by decide, by decide⟩
theorem aw2_ok : aw2.ok := ⟨rfl, rfl, by decide, by decide, by decide, by decide⟩
theorem aw1_x : makeX ⟨false, false, 0⟩ aw1 = .ok [255, 3, 192, 33, 1] := by rfl
theorem aw2_x : makeX ⟨false, false, 0⟩ aw2 = .error 80 := by rfl

theorem a8_one (g : Nat) (w : World) (h : Cells w (some ⟨g, 0, none⟩) [1]) : Calls Try.prog 10 #[.agg #[.bool false, .bool false, .int .i64 0], .agg #[.bool false, .bool true, .bool false, .bool false, .bool false, .int .u32 0, .int .u32 49185, .int .i64 0, .int .u8 0, .int .u8 0, .int .u8 0, .int .u8 0, .int .u8 0, .int .u8 0, .int .u8 0, .int .u8 0, .int .u8 0, .int .u8 0, .int .u8 0, .int .u8 0, .int .u8 0, .int .u8 0, .int .u8 0, .int .u8 0, .int .u8 0, .int .u8 0, .int .u8 0, .int .u8 0, .int .u8 0, .int .u8 0, .int .u8 0, .int .u8 0, .int .u8 0, .int .u8 0, .int .u8 0, .int .u8 0, .int .u8 0, .int .u8 0, .int .u8 0, .int .u8 0, .bool false, .int .u32 0, .int .u32 0, .slice (some ⟨g, 0, none⟩) 1 1]] w fun e w' => ∃ v, e = .returned (.tuple #[v, .int .i64 0]) ∧ Owns w' w.heap.size v [255, 3, 192, 33, 1] ∧ w.grownBy w' none := by
  have k := make_any ⟨false, false, 0⟩ aw1 (some ⟨g, 0, none⟩) 1 w aw1_ok h (by simp) (by decide)
  rw [aw1_x] at k
  exact k
theorem a8_two (w : World) : Calls Try.prog 10 #[.agg #[.bool false, .bool false, .int .i64 0], .agg #[.bool false, .bool false, .bool false, .bool false, .bool false, .int .u32 0, .int .u32 49185, .int .i64 0, .int .u8 0, .int .u8 0, .int .u8 0, .int .u8 0, .int .u8 0, .int .u8 0, .int .u8 0, .int .u8 0, .int .u8 0, .int .u8 0, .int .u8 0, .int .u8 0, .int .u8 0, .int .u8 0, .int .u8 0, .int .u8 0, .int .u8 0, .int .u8 0, .int .u8 0, .int .u8 0, .int .u8 0, .int .u8 0, .int .u8 0, .int .u8 0, .int .u8 0, .int .u8 0, .int .u8 0, .int .u8 0, .int .u8 0, .int .u8 0, .int .u8 0, .int .u8 0, .bool false, .int .u32 0, .int .u32 0, .slice none 0 0]] w fun e w' => ∃ v, e = .returned (.tuple #[v, .int .i64 80]) ∧ w.grownBy w' none := by
  have k := make_any ⟨false, false, 0⟩ aw2 none 0 w aw2_ok ⟨fun _ => rfl, fun ad had => (by cases had)⟩ (by simp) (by decide)
  rw [aw2_x] at k
  exact k.mono fun e w' ⟨v, h1, _, h3⟩ => ⟨v, h1, h3⟩

set_option maxRecDepth 100000 in
set_option maxHeartbeats 2000000 in
theorem awake8_any (w : World) : Calls Try.prog 14 #[] w fun e w' => e = .returned (.bool true) ∧ w.grownBy w' none := by
  have C0 := cells_lit w [1]
  have G0 := World.grownBy_alloc w (.cells #[.int .u8 1] 5) none
  go_enter Try.func14, Try.ntmps14
  go_wp2_with fail
  refine (a8_one _ _ C0).mono ?_
  rintro e w1 ⟨v1, rfl, O1, K1⟩
  obtain ⟨ao1, cap1, rfl, C1, -⟩ := O1.cells
  have G1 := grown_trans G0 K1
  have HC1 : Hid (Cells w1 ao1 [255, 3, 192, 33, 1]) := C1
  clear C0 G0 O1 K1 C1
  go_wp2_with fail
  refine (a8_two _).mono ?_
  rintro e w2 ⟨v2, rfl, K2⟩
  have G2 := grown_trans G1 K2
  have C2 := HC1.out.keptNone K2
  have C3 := C2.keptNone (World.grownBy_alloc w2 (.cells #[.int .u8 255, .int .u8 3, .int .u8 192, .int .u8 33, .int .u8 1] 5) none)
  have D3 := cells_lit w2 [255, 3, 192, 33, 1]
  clear G1 K2 C2 HC1
  go_wp2_with fail
  refine (same_any ao1 (some ⟨w2.heap.size, 0, none⟩) cap1 5 [255, 3, 192, 33, 1] _ C3 D3 (by simp)).mono ?_
  rintro e w4 ⟨rfl, n4, rfl⟩
  have G4 := grown_trans (grown_trans G2 (World.grownBy_alloc w2 (.cells #[.int .u8 255, .int .u8 3, .int .u8 192, .int .u8 33, .int .u8 1] 5) none)) (grown_drewN _ n4 none)
  clear C3 D3 G2
  go_wp2
  go_ret
  exact ⟨rfl, G4⟩

end Go.Proofs.Ytfjjmeanmlimoaa
