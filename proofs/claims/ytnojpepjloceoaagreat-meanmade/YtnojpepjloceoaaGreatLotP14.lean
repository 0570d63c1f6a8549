/-
  Package frame as landed: Check, the reader's beginning, what is caught, a frame that is refused for its link. Package forge as landed: Make; the statements' own lend and awake. Numbers in decimal: riddleref1.Decimal.
-/
import Derived.Test.YtnojpepjloceoaaGreatLotP13
import Derived.Defers
import Derived.Recover
import Derived.Deep.MidRow
import Derived.Test.YtnojpepjloceoaaGreatLotP5
import Derived.Test.YtnojpepjloceoaaGreatLotP10
import Derived.Test.YtnojpepjloceoaaGreatLotP1
import Derived.Test.YtnojpepjloceoaaGreatLotP3
import Derived.Laws.IdiomStrings
import Derived.Handy
namespace Go.Proofs.YtnojpepjloceoaaGreat
open Go.RowKit
set_option maxRecDepth 100000

set_option maxHeartbeats 400000 in
theorem chk_any (l : Lk) (w : World) : Calls Tryz.prog 10 #[.agg (lkA l)] w fun e w' => e = .returned (.int .i64 (checkF l)) ∧ w.grownBy w' none := by
  obtain ⟨a, p, m⟩ := l
  simp only [lkA]
  by_cases h0 : m < 0
  · have e : checkF ⟨a, p, m⟩ = 70 := by rw [checkF, if_pos (.inl h0)]
    rw [e]
    go_enter Tryz.func10, Tryz.ntmps10
    go_wp2
    go_ret
    exact ⟨rfl, World.grownBy_alloc _ _ _⟩
  · by_cases h2 : 2 < m
    · have e : checkF ⟨a, p, m⟩ = 70 := by rw [checkF, if_pos (.inr h2)]
      rw [e]
      go_enter Tryz.func10, Tryz.ntmps10
      go_wp2
      go_ret
      exact ⟨rfl, World.grownBy_alloc _ _ _⟩
    · have e : checkF ⟨a, p, m⟩ = 0 := by rw [checkF, if_neg (by simp only; omega)]
      rw [e]
      go_enter Tryz.func10, Tryz.ntmps10
      go_wp2
      go_ret
      exact ⟨rfl, World.grownBy_alloc _ _ _⟩

set_option maxHeartbeats 1000000 in
theorem over_any (l : Lk) (a : Option Addr) (n ca : Nat) (w : World) : Calls Tryz.prog 59 #[.agg (lkA l), .slice a n ca] w fun e w' => ∃ g, e = .returned (.pointer (some ⟨g, 0, none⟩)) ∧ WAt w' g Vw.zero l (.slice a n ca) ∧ w.heap.size ≤ g ∧ w.grownBy w' none := by
  obtain ⟨ac, pf, m⟩ := l
  simp only [lkA]
  go_enter Tryz.func59, Tryz.ntmps59
  go_wp2
  go_ret
  refine ⟨_, rfl, ?_, Nat.le_succ _, grown_trans (World.grownBy_alloc _ _ _) (World.grownBy_alloc _ _ _)⟩
  have k := VAt.alloc (w.alloc (.cells #[.bool ac, .bool pf, .int .i64 m] 23)) 104 (wkA Vw.zero ⟨ac, pf, m⟩ (.slice a n ca))
  rw [show (w.alloc (.cells #[.bool ac, .bool pf, .int .i64 m] 23)).heap.size = w.heap.size + 1 by simp] at k
  exact k

/-- Three new blocks: the boxed link, the view, the error. -/
theorem three_blocks (w : World) (l : Lk) (t s r : Nat) (cs ds : Array Value) :
    VAt (((w.alloc (.cells (lkA l) t)).alloc (.cells cs s)).alloc (.cells ds r)) w.heap.size t (lkA l) ∧ VAt (((w.alloc (.cells (lkA l) t)).alloc (.cells cs s)).alloc (.cells ds r)) (w.heap.size + 1) s cs ∧ VAt (((w.alloc (.cells (lkA l) t)).alloc (.cells cs s)).alloc (.cells ds r)) (w.heap.size + 2) r ds ∧ w.grownBy (((w.alloc (.cells (lkA l) t)).alloc (.cells cs s)).alloc (.cells ds r)) none := by
  obtain ⟨A0, A1, G⟩ := two_blocks w l t s cs
  have A2 := VAt.alloc ((w.alloc (.cells (lkA l) t)).alloc (.cells cs s)) r ds
  have K := World.grownBy_alloc ((w.alloc (.cells (lkA l) t)).alloc (.cells cs s)) (.cells ds r) none
  rw [show ((w.alloc (.cells (lkA l) t)).alloc (.cells cs s)).heap.size = w.heap.size + 2 by simp] at A2
  exact ⟨A0.kept K, A1.kept K, A2, grown_trans G K⟩

set_option maxHeartbeats 1000000 in
theorem catch_pan (R E : Nat) (er e0 : Int) (X : Array Value) (w : World) (hR : VAt w R 81 X) (hX : X.size = 9) (hE : VAt w E 29 #[.int .i64 e0]) (hne : R ≠ E) :
    CallsD Tryz.prog 58 #[.pointer (some ⟨R, 0, none⟩), .pointer (some ⟨E, 0, none⟩)] (.panicking (PanE er)) w fun e u' w' =>
      e = .returned (.tuple #[]) ∧ u' = .panicking [{ v := .iface 29 (.int .i64 er), recovered := true }] ∧ w' = (w.setRow R (vwA Vw.zero)).setCell ⟨E, 0, none⟩ (.int .i64 er) := by
  have hta : ∀ W : World, (Instr.typeAssert (.iface 29 (.int .i64 er)) 20 29 true).run Tryz.prog W = .ok (.tuple #[.int .i64 er, .bool true]) W := fun W => by kernel_rfl
  refine callsD_of_wpS Tryz.func58 rfl fun c₀ cs hu => ?_
  unfold PanE at hu
  apply wpS_seq
  apply wpS_region
  simp [wpOpsS, go_sem, recoverD, hu, hta, Tryz.ntmps58, Exit.thenS]
  refine wpS_of_wp ?_
  have HS : Hid ((Tryz.prog.info? 81).map (·.size) = some (vwA Vw.zero).size) := size81
  have HX : Hid (X.size = (vwA Vw.zero).size) := hX
  have RA := hR
  have E1 := hE.grown (w' := w.setRow R (vwA Vw.zero)) (vgrown_setRow (World.grownBy.refl w (some R)) R (vwA Vw.zero) (.inl rfl)) (by simpa using hne)
  have cE : (w.setRow R (vwA Vw.zero)).cell? ⟨E, 0, none⟩ = some (.int .i64 e0) := E1.cell 0
  have fE := E1.free 0
  clear hta hX hE E1 hR
  obtain ⟨T, hT⟩ : ∃ T, Tryz.f58 = T := ⟨_, rfl⟩
  have HT : Hid (T.results = #[]) := by show T.results = #[]; rw [← hT]; rfl
  rw [hT]
  clear hT
  have eT : (#[.pointer (some ⟨R, 0, none⟩), .pointer (some ⟨E, 0, none⟩)] ++ (((((((Array.replicate 10 undef).setIfInBounds 3 (.iface 29 (.int .i64 er))).setIfInBounds 4 (.tuple #[.int .i64 er, .bool true])).setIfInBounds 2 (.tuple #[.int .i64 er, .bool true])).setIfInBounds 5 (.int .i64 er)).setIfInBounds 6 (.bool true)).setIfInBounds 0 (.int .i64 er)).setIfInBounds 1 (.bool true) : Array Value) = #[.pointer (some ⟨R, 0, none⟩), .pointer (some ⟨E, 0, none⟩), .int .i64 er, .bool true, .tuple #[.int .i64 er, .bool true], .iface 29 (.int .i64 er), .tuple #[.int .i64 er, .bool true], .int .i64 er, .bool true, undef, undef, undef] := by kernel_rfl
  rw [eT]
  clear eT
  go_wp2_with (refine wpList_store_row rfl 81 (.tmp 0) (.tmp 10) rfl R (vwA Vw.zero) rfl rfl 81 X RA HS.out HX.out (vwA_all _) ?_)
  exact ⟨rfl, _, rfl, _, results_none HT.out _ _ _, rfl, rfl, rfl⟩

set_option maxHeartbeats 1000000 in
theorem catch_idle (R E : Nat) (w : World) :
    CallsD Tryz.prog 58 #[.pointer (some ⟨R, 0, none⟩), .pointer (some ⟨E, 0, none⟩)] .returning w fun e u' w' => e = .returned (.tuple #[]) ∧ u' = .returning ∧ w' = w := by
  have hta : ∀ W : World, (Instr.typeAssert .nilIface 20 29 true).run Tryz.prog W = .ok (.tuple #[.int .i64 0, .bool false]) W := fun W => by kernel_rfl
  refine callsD_of_wpS Tryz.func58 rfl fun c₀ cs hu => ?_
  apply wpS_seq
  apply wpS_region
  simp [wpOpsS, go_sem, recoverD, hu, hta, Tryz.ntmps58, Exit.thenS]
  refine wpS_of_wp ?_
  clear hta
  obtain ⟨T, hT⟩ : ∃ T, Tryz.f58 = T := ⟨_, rfl⟩
  have HT : Hid (T.results = #[]) := by show T.results = #[]; rw [← hT]; rfl
  rw [hT]
  clear hT
  have eT : (#[.pointer (some ⟨R, 0, none⟩), .pointer (some ⟨E, 0, none⟩)] ++ (((((((Array.replicate 10 undef).setIfInBounds 3 .nilIface).setIfInBounds 4 (.tuple #[.int .i64 0, .bool false])).setIfInBounds 2 (.tuple #[.int .i64 0, .bool false])).setIfInBounds 5 (.int .i64 0)).setIfInBounds 6 (.bool false)).setIfInBounds 0 (.int .i64 0)).setIfInBounds 1 (.bool false) : Array Value) = #[.pointer (some ⟨R, 0, none⟩), .pointer (some ⟨E, 0, none⟩), .int .i64 0, .bool false, .tuple #[.int .i64 0, .bool false], .nilIface, .tuple #[.int .i64 0, .bool false], .int .i64 0, .bool false, undef, undef, undef] := by kernel_rfl
  rw [eT]
  clear eT
  go_wp2
  exact ⟨rfl, _, by rw [← hu], _, results_none HT.out _ _ _, rfl, rfl, rfl⟩

end Go.Proofs.YtnojpepjloceoaaGreat

namespace Go.Proofs.YtnojpepjloceoaaGreat
open Go.RowKit
set_option maxRecDepth 100000

/-- The head of a frame. -/
def headP (l : Lk) (s : Sp) : List UInt8 := wideV s ++ (pieceB l s ++ (ownV l s ++ (fnetV s ++ preV8 s)))
theorem head_out {l : Lk} {s : Sp} (F : Fits l s) : headP l s ++ s.data = outV l s := by
  have hc : carV s = fnetV s ++ loadV s := by
    unfold carV fnetV
    by_cases hm : s.multi = true ∧ s.beg = false
    · rw [if_pos hm]
      have := (F.mute hm.1 hm.2).1
      rw [if_neg (by omega), if_neg (by omega)]
      rfl
    · rw [if_neg hm]
      by_cases h33 : s.proto = 33
      · rw [if_pos h33, if_pos h33, ip4V]
        simp [be4, be2]
      · rw [if_neg h33, if_neg h33]
        by_cases h87 : s.proto = 87
        · rw [if_pos h87, if_pos h87, ip6V]
          simp
        · rw [if_neg h87, if_neg h87]
          rfl
  unfold outV frontV headP
  rw [hc, load_pre]
  simp
theorem head_len {l : Lk} {s : Sp} (ok : s.ok) : (wideV s).length ≤ 2 ∧ (pieceB l s).length ≤ 6 ∧ (ownV l s).length ≤ 2 ∧ (fnetV s).length ≤ 40 ∧ (preV8 s).length ≤ 4 := by
  obtain ⟨h1, h2, h3⟩ := front_len l s
  refine ⟨h1, h2, h3, ?_, pre_len s⟩
  have e1 := ok.src
  have e2 := ok.dst
  unfold fnetV ip4V ip6V
  split
  · simp [be2, be4]; omega
  · split
    · simp [be2]; omega
    · simp

set_option maxRecDepth 100000 in
set_option maxHeartbeats 4000000 in
theorem make_any (l : Lk) (s : Sp) (a : Option Addr) (ca : Nat) (w : World) (ok : s.ok) (hD : Cells w a s.data) (hc0 : a = none → ca = 0) (hn : s.data.length ≤ 140737488355328) :
    Calls Tryz.prog 5 #[.agg (lkA l), .agg (spA s a ca)] w fun e w' => ∃ v, e = .returned (.tuple #[v, .int .i64 (exE (makeX l s))]) ∧ Owns w' w.heap.size v (exV [] (makeX l s)) ∧ w.grownBy w' none := by
  have I := ls_boxes w l s a ca
  have HLS : Hid ((Tryz.prog.info? 23).map (·.size) = some (lkA l).size) := size23
  have HSS : Hid ((Tryz.prog.info? 28).map (·.size) = some (spA s a ca).size) := spA_size ok a ca
  have HOK : Hid s.ok := ok
  have H : Hid (Cells w a s.data) := hD
  obtain ⟨M, hM⟩ : ∃ M, makeX l s = M := ⟨_, rfl⟩
  rw [hM]
  have HM : Hid (M = if checkF l ≠ 0 then .error (checkF l) else if fitsB l s = false then .error 80 else if 65535 < s.data.length then .error 81 else if 65535 < (outV l s).length then .error 81 else .ok (outV l s)) := by
    show M = _
    rw [← hM]
    rfl
  have HN : Hid (∀ (E : Int) (W : World), M = .error E → w.grownBy W none → ∃ v, Ending.returned (.tuple #[.slice none 0 0, .int .i64 E]) = .returned (.tuple #[v, .int .i64 (exE M)]) ∧ Owns W w.heap.size v (exV [] M) ∧ w.grownBy W none) := fun E W h g => by
    rw [h]
    exact ⟨_, rfl, World.ownsRow_nil _ _ _ _, g⟩
  have CK : Hid (∀ W : World, Calls Tryz.prog 10 #[.agg (lkA l)] W fun e w' => e = .returned (.int .i64 (checkF l)) ∧ W.grownBy w' none) := fun W => chk_any l W
  have WR : Hid (∀ W : World, checkF l = 0 → Calls Tryz.prog 11 #[.agg (lkA l), .agg (spA s a ca)] W fun e w' => e = .returned (.bool (!fitsB l s)) ∧ W.grownBy w' none) := fun W h => by
    have k := wrong_any l s a ca W ok
    rw [wrong_fits l s h] at k
    exact k
  clear hD hM ok
  go_enter Tryz.func5, Tryz.ntmps5
  go_upto_region 1 with fail
  generalize (w.alloc (.cells (lkA l) 23)).alloc (.cells (spA s a ca) 28) = w1 at *
  obtain ⟨B, hB⟩ : ∃ B, w.heap.size = B := ⟨_, rfl⟩
  obtain ⟨C, hC⟩ : ∃ C, w.heap.size + 1 = C := ⟨_, rfl⟩
  rw [hC, hB] at I ⊢
  clear hB hC
  have LK := I.1
  go_wp2_with (refine wpList_load_row rfl 23 (.tmp 2) rfl B rfl 23 (lkA l) (0, 0) _ LK Tryz.underlying23 rfl HLS.out ?_)
  refine (CK.out _).mono ?_
  rintro e w2 ⟨rfl, K2⟩
  have I2 := ls_call K2 I
  clear LK I K2 CK
  by_cases hck : checkF l = 0
  case neg =>
    have hck' : (checkF l != 0) = true := by rw [bne_iff_ne]; exact hck
    go_wp2
    go_ret2
    exact HN.out _ _ (by rw [HM.out, if_pos hck]) I2.2.2
  have HMP : Hid (l.mp = 0 ∨ l.mp = 1 ∨ l.mp = 2) := by
    show _ ∨ _
    unfold checkF at hck
    split at hck
    · exact absurd hck (by simp)
    · omega
  have WR2 : Hid (∀ W : World, Calls Tryz.prog 11 #[.agg (lkA l), .agg (spA s a ca)] W fun e w' => e = .returned (.bool (!fitsB l s)) ∧ W.grownBy w' none) := fun W => WR.out W hck
  have HM3 : Hid (M = if fitsB l s = false then .error 80 else if 65535 < s.data.length then .error 81 else if 65535 < (outV l s).length then .error 81 else .ok (outV l s)) := by
    show M = _
    rw [HM.out, if_neg (by rw [hck]; simp)]
  rw [hck]
  clear HM WR hck
  have LK := I2.1
  have SK := I2.2.1
  go_wp2_with (first | (refine wpList_load_row rfl 23 (.tmp 2) rfl B rfl 23 (lkA l) (0, 0) _ LK Tryz.underlying23 rfl HLS.out ?_) | (refine wpList_load_row rfl 28 (.tmp 3) rfl C rfl 28 (spA s a ca) (0, 0) _ SK Tryz.underlying28 rfl HSS.out ?_))
  refine (WR2.out _).mono ?_
  rintro e w3 ⟨rfl, K3⟩
  have I3 := ls_call K3 I2
  clear LK SK I2 K3 WR2
  cases hfit : fitsB l s with
  | false =>
    go_wp2
    go_ret2
    exact HN.out _ _ (by rw [HM3.out, if_pos hfit]) I3.2.2
  | true =>
  have HFT : Hid (Fits l s) := fits_of hfit
  have HM4 : Hid (M = if 65535 < s.data.length then .error 81 else if 65535 < (outV l s).length then .error 81 else .ok (outV l s)) := by
    show M = _
    rw [HM3.out, if_neg (by rw [hfit]; simp)]
  have HHL := head_len (l := l) HOK.out
  have HPC : Hid (∀ W : World, Calls Tryz.prog 14 #[.agg (lkA l), .agg (spA s a ca)] W fun e w' => ∃ v, e = .returned v ∧ Owns w' W.heap.size v (pieceB l s) ∧ W.grownBy w' none) := fun W => fpiece_any l s a ca W HOK.out (fun hm => by
    obtain ⟨q1, q2⟩ := HFT.out.piece hm
    exact ⟨by rcases HMP.out with h | h | h <;> omega, q2⟩)
  have HPN : Hid (∀ W : World, Calls Tryz.prog 16 #[.agg (spA s a ca)] W fun e w' => ∃ v, e = .returned v ∧ Owns w' W.heap.size v (fnetV s) ∧ W.grownBy w' none) := fun W => fnetwork_any s a ca W HOK.out hn HFT.out.next
  have HPA : Hid (∀ W : World, Calls Tryz.prog 13 #[.agg (spA s a ca)] W fun e w' => ∃ v, e = .returned v ∧ Owns w' W.heap.size v (wideV s) ∧ W.grownBy w' none) := fun W => faddress_any s a ca W HOK.out
  have HPI : Hid (∀ W : World, Calls Tryz.prog 15 #[.agg (lkA l), .agg (spA s a ca)] W fun e w' => ∃ v, e = .returned v ∧ Owns w' W.heap.size v (ownV l s) ∧ W.grownBy w' none) := fun W => finner_any l s a ca W HOK.out
  have HPP : Hid (∀ W : World, Calls Tryz.prog 17 #[.agg (spA s a ca)] W fun e w' => ∃ v, e = .returned v ∧ Owns w' W.heap.size v (preV8 s) ∧ W.grownBy w' none) := fun W => fports_any s a ca W HOK.out
  clear HM3 hfit
  have G3 := I3.2.2
  have J3 : LS w3 B C l s a ca w3 := ⟨I3.1, I3.2.1, World.grownBy.refl _ _⟩
  clear I3
  generalize hq1 : wideV s = q1 at *
  generalize hq2 : pieceB l s = q2 at *
  generalize hq3 : ownV l s = q3 at *
  generalize hq4 : fnetV s = q4 at *
  generalize hq5 : preV8 s = q5 at *
  have HHO : Hid ((q1 ++ (q2 ++ (q3 ++ (q4 ++ q5)))) ++ s.data = outV l s) := by
    show _ = _
    rw [← head_out HFT.out, headP, hq1, hq2, hq3, hq4, hq5]
  clear hq1 hq2 hq3 hq4 hq5
  go_upto_region 6 with fail
  refine wp_region_held_drew (S := fun W => LS w3 B C l s a ca W) (by kernel_rfl) (ls_drew J3) (fun hHeld => ?_)
  clear J3
  refine wpAnyH_take (i := 0) (v := .agg (spA s a ca)) rfl (by kernel_rfl) (by kernel_rfl) (by kernel_rfl) (fun _ _ _ h => h) (yieldsIf_load_row (by rfl) _ _ rfl C rfl 28 (spA s a ca) _ (fun W hW => hW.2.1) Tryz.underlying28 rfl HSS.out) hHeld ?_
  try simp only [Act.put, List.getElem_toArray, List.getElem_cons_zero, List.setIfInBounds_toArray, List.set_cons_zero, List.set_cons_succ]
  refine wpAnyH_take (i := 2) (v := .agg (lkA l)) rfl (by kernel_rfl) (by kernel_rfl) (by kernel_rfl) (fun _ _ _ h => h) (yieldsIf_load_row (by rfl) _ _ rfl B rfl 23 (lkA l) _ (fun W hW => hW.1) Tryz.underlying23 rfl HLS.out) hHeld ?_
  try simp only [Act.put, List.getElem_toArray, List.getElem_cons_zero, List.getElem_cons_succ, List.setIfInBounds_toArray, List.set_cons_zero, List.set_cons_succ]
  refine wpAnyH_take (i := 3) (v := .agg (spA s a ca)) rfl (by kernel_rfl) (by kernel_rfl) (by kernel_rfl) (fun _ _ _ h => h) (yieldsIf_load_row (by rfl) _ _ rfl C rfl 28 (spA s a ca) _ (fun W hW => hW.2.1) Tryz.underlying28 rfl HSS.out) hHeld ?_
  try simp only [Act.put, List.getElem_toArray, List.getElem_cons_zero, List.getElem_cons_succ, List.setIfInBounds_toArray, List.set_cons_zero, List.set_cons_succ]
  refine wpAnyH_take (i := 5) (v := .agg (lkA l)) rfl (by kernel_rfl) (by kernel_rfl) (by kernel_rfl) (fun _ _ _ h => h) (yieldsIf_load_row (by rfl) _ _ rfl B rfl 23 (lkA l) _ (fun W hW => hW.1) Tryz.underlying23 rfl HLS.out) hHeld ?_
  try simp only [Act.put, List.getElem_toArray, List.getElem_cons_zero, List.getElem_cons_succ, List.setIfInBounds_toArray, List.set_cons_zero, List.set_cons_succ]
  refine wpAnyH_take (i := 6) (v := .agg (spA s a ca)) rfl (by kernel_rfl) (by kernel_rfl) (by kernel_rfl) (fun _ _ _ h => h) (yieldsIf_load_row (by rfl) _ _ rfl C rfl 28 (spA s a ca) _ (fun W hW => hW.2.1) Tryz.underlying28 rfl HSS.out) hHeld ?_
  try simp only [Act.put, List.getElem_toArray, List.getElem_cons_zero, List.getElem_cons_succ, List.setIfInBounds_toArray, List.set_cons_zero, List.set_cons_succ]
  refine wpAnyH_take (i := 8) (v := .agg (spA s a ca)) rfl (by kernel_rfl) (by kernel_rfl) (by kernel_rfl) (fun _ _ _ h => h) (yieldsIf_load_row (by rfl) _ _ rfl C rfl 28 (spA s a ca) _ (fun W hW => hW.2.1) Tryz.underlying28 rfl HSS.out) hHeld ?_
  try simp only [Act.put, List.getElem_toArray, List.getElem_cons_zero, List.getElem_cons_succ, List.setIfInBounds_toArray, List.set_cons_zero, List.set_cons_succ]
  refine wpAnyH_take (i := 10) (v := .agg (spA s a ca)) rfl (by kernel_rfl) (by kernel_rfl) (by kernel_rfl) (fun _ _ _ h => h) (yieldsIf_load_row (by rfl) _ _ rfl C rfl 28 (spA s a ca) _ (fun W hW => hW.2.1) Tryz.underlying28 rfl HSS.out) hHeld ?_
  try simp only [Act.put, List.getElem_toArray, List.getElem_cons_zero, List.getElem_cons_succ, List.setIfInBounds_toArray, List.set_cons_zero, List.set_cons_succ]
  refine wpAnyH_ready (rs := [1]) (by kernel_rfl) (by simp) (AllReadyH.cons rfl (fun K hK => ?_) AllReadyH.nil)
  go_simp
  refine (HPA.out _).mono ?_
  rintro e v1 ⟨u, rfl, O, K1⟩
  obtain ⟨a1, k1, rfl, C1, z1⟩ := O.cells
  clear O
  go_wp2_with fail
  refine hK.out _ _ (ls_call K1 hHeld) (fun hHeld => ?_)
  clear hK K K1
  try simp only [Act.put, List.getElem_toArray, List.getElem_cons_zero, List.getElem_cons_succ, List.setIfInBounds_toArray, List.set_cons_zero, List.set_cons_succ]
  refine wpAnyH_ready (rs := [4]) (by kernel_rfl) (by simp) (AllReadyH.cons rfl (fun K hK => ?_) AllReadyH.nil)
  go_simp
  refine (HPC.out _).mono ?_
  rintro e v2 ⟨u, rfl, O, K2⟩
  obtain ⟨a2, k2, rfl, C2, z2⟩ := O.cells
  clear O
  have C1' := C1.keptNone K2
  clear C1
  have C1 := C1'
  clear C1'
  go_wp2_with fail
  refine hK.out _ _ (ls_call K2 hHeld) (fun hHeld => ?_)
  clear hK K K2
  try simp only [Act.put, List.getElem_toArray, List.getElem_cons_zero, List.getElem_cons_succ, List.setIfInBounds_toArray, List.set_cons_zero, List.set_cons_succ]
  refine wpAnyH_ready (rs := [7]) (by kernel_rfl) (by simp) (AllReadyH.cons rfl (fun K hK => ?_) AllReadyH.nil)
  go_simp
  refine (HPI.out _).mono ?_
  rintro e v3 ⟨u, rfl, O, K3⟩
  obtain ⟨a3, k3, rfl, C3, z3⟩ := O.cells
  clear O
  have C1' := C1.keptNone K3
  clear C1
  have C1 := C1'
  clear C1'
  have C2' := C2.keptNone K3
  clear C2
  have C2 := C2'
  clear C2'
  go_wp2_with fail
  refine hK.out _ _ (ls_call K3 hHeld) (fun hHeld => ?_)
  clear hK K K3
  try simp only [Act.put, List.getElem_toArray, List.getElem_cons_zero, List.getElem_cons_succ, List.setIfInBounds_toArray, List.set_cons_zero, List.set_cons_succ]
  refine wpAnyH_ready (rs := [9]) (by kernel_rfl) (by simp) (AllReadyH.cons rfl (fun K hK => ?_) AllReadyH.nil)
  go_simp
  refine (HPN.out _).mono ?_
  rintro e v4 ⟨u, rfl, O, K4⟩
  obtain ⟨a4, k4, rfl, C4, z4⟩ := O.cells
  clear O
  have C1' := C1.keptNone K4
  clear C1
  have C1 := C1'
  clear C1'
  have C2' := C2.keptNone K4
  clear C2
  have C2 := C2'
  clear C2'
  have C3' := C3.keptNone K4
  clear C3
  have C3 := C3'
  clear C3'
  go_wp2_with fail
  refine hK.out _ _ (ls_call K4 hHeld) (fun hHeld => ?_)
  clear hK K K4
  try simp only [Act.put, List.getElem_toArray, List.getElem_cons_zero, List.getElem_cons_succ, List.setIfInBounds_toArray, List.set_cons_zero, List.set_cons_succ]
  refine wpAnyH_ready (rs := [11]) (by kernel_rfl) (by simp) (AllReadyH.cons rfl (fun K hK => ?_) AllReadyH.nil)
  go_simp
  refine (HPP.out _).mono ?_
  rintro e v5 ⟨u, rfl, O, K5⟩
  obtain ⟨a5, k5, rfl, C5, z5⟩ := O.cells
  clear O
  have C1' := C1.keptNone K5
  clear C1
  have C1 := C1'
  clear C1'
  have C2' := C2.keptNone K5
  clear C2
  have C2 := C2'
  clear C2'
  have C3' := C3.keptNone K5
  clear C3
  have C3 := C3'
  clear C3'
  have C4' := C4.keptNone K5
  clear C4
  have C4 := C4'
  clear C4'
  go_wp2_with fail
  refine hK.out _ _ (ls_call K5 hHeld) (fun hHeld => ?_)
  clear hK K K5
  try simp only [Act.put, List.getElem_toArray, List.getElem_cons_zero, List.getElem_cons_succ, List.setIfInBounds_toArray, List.set_cons_zero, List.set_cons_succ]
  have hs5 := hHeld.2.2.size
  refine wpAnyH_ready (rs := [12]) (by kernel_rfl) (by simp) (AllReadyH.cons rfl (fun K hK => ?_) AllReadyH.nil)
  go_simp
  refine hK.out _ _ (ls_call (World.grownBy_alloc _ _ _) hHeld) (fun hHeld => ?_)
  clear hK K
  try simp only [Act.put, List.getElem_toArray, List.getElem_cons_zero, List.getElem_cons_succ, List.setIfInBounds_toArray, List.set_cons_zero, List.set_cons_succ]
  refine wpAnyH_ready (rs := [13]) (by kernel_rfl) (by simp) (AllReadyH.cons rfl (fun K hK => ?_) AllReadyH.nil)
  go_simp
  refine (join_five _ C1 z1 C2 z2 C3 z3 C4 z4 C5 z5 _ _ _ _ _ rfl rfl rfl rfl rfl (by omega)).mono ?_
  rintro e w6 ⟨u6, rfl, O6, K6⟩
  obtain ⟨a6, k6, rfl, C6, z6⟩ := O6.cells
  clear O6
  go_wp2_with fail
  refine hK.out _ _ (ls_call K6 hHeld) (fun hHeld => ?_)
  clear hK K K6 C1 C2 C3 C4 C5
  try simp only [Act.put, List.getElem_toArray, List.getElem_cons_zero, List.getElem_cons_succ, List.setIfInBounds_toArray, List.set_cons_zero, List.set_cons_succ]
  refine wpAnyH_take (i := 14) (v := .slice a6 (q1 ++ (q2 ++ (q3 ++ (q4 ++ q5)))).length k6) rfl (by kernel_rfl) (by kernel_rfl) (by kernel_rfl) (fun _ _ _ h => h) (Or.inl ⟨by rfl, fun W hW => ?_⟩) hHeld ?_
  · clear hW
    go_simp
  try simp only [Act.put, List.getElem_toArray, List.getElem_cons_zero, List.getElem_cons_succ, List.setIfInBounds_toArray, List.set_cons_zero, List.set_cons_succ]
  refine wpAnyH_done (by kernel_rfl) ?_ _
  have S6 : SAt w6 C s a ca := ⟨hHeld.2.1, HOK.out⟩
  have G6 := grown_trans G3 hHeld.2.2
  have c43 := S6.four.2.2.2
  have HD6 : Hid (Cells w6 a s.data) := H.out.keptNone G6
  obtain ⟨m, hm⟩ : ∃ m, (q1 ++ (q2 ++ (q3 ++ (q4 ++ q5)))).length = m := ⟨_, rfl⟩
  have hml : m ≤ 54 := by rw [← hm]; simp only [List.length_append]; omega
  have HOL : Hid ((outV l s).length = m + s.data.length) := by show _ = _; rw [← HHO.out, List.length_append, hm]
  obtain ⟨hd, hhd⟩ : ∃ hd, q1 ++ (q2 ++ (q3 ++ (q4 ++ q5))) = hd := ⟨_, rfl⟩
  rw [hhd] at hm HHO C6
  rw [hhd, hm]
  have HC6 : Hid (Cells w6 a6 hd) := C6
  have HML : Hid (hd.length = m) := hm
  clear hHeld S6 C6 hhd hm HHL
  by_cases hlong : 65535 < m + s.data.length
  · have hl' : (65535 : Int) - (m : Int) < (s.data.length : Int) := by omega
    have HE : Hid (M = .error 81) := by
      show M = _
      rw [HM4.out]
      by_cases hd' : 65535 < s.data.length
      · rw [if_pos hd']
      · rw [if_neg hd', if_pos (by rw [HOL.out]; exact hlong)]
    go_wp2
    go_ret2
    exact HN.out _ _ HE.out G6
  · have hl' : ¬ (65535 : Int) - (m : Int) < (s.data.length : Int) := by omega
    have HE : Hid (M = .ok (outV l s)) := by
      show M = _
      rw [HM4.out, if_neg (by omega), if_neg (by rw [HOL.out]; exact hlong)]
    have J := join_two 26 HC6.out z6 HD6.out hc0 (by rw [HML.out]; omega)
    rw [HML.out, HHO.out] at J
    have HJ : Hid (Calls Tryz.prog 12 #[.slice (some ⟨w6.heap.size, 0, none⟩) 2 2] (w6.alloc (.cells #[.slice a6 m k6, .slice a s.data.length ca] 26)) fun e w' => ∃ v, e = .returned v ∧ Owns w' w6.heap.size v (outV l s) ∧ (w6.alloc (.cells #[.slice a6 m k6, .slice a s.data.length ca] 26)).grownBy w' none) := J
    clear J
    go_wp2_with fail
    refine HJ.out.mono ?_
    rintro e w7 ⟨u7, rfl, O7, K7⟩
    have K7' := grown_trans (World.grownBy_alloc w6 (.cells #[.slice a6 m k6, .slice a s.data.length ca] 26) none) K7
    have G7 := grown_trans G6 K7'
    clear HJ K7
    go_wp2
    go_ret2
    rw [HE.out]
    exact ⟨_, rfl, owns_mono O7 G6.size, G7⟩

theorem spL_set {s : Sp} (h : s.ok) (a b : Option Addr) (ca cb : Nat) : (spL s a ca).set 43 (.slice b s.data.length cb) = spL s b cb := by
  unfold spL
  simp only [List.set_cons_succ]
  rw [List.set_append_right _ _ (by simp [h.src])]
  simp only [List.length_map, h.src]
  rw [List.set_append_right _ _ (by simp [h.dst])]
  simp only [List.length_map, h.dst]
  rfl

def zS : Array Value := #[.bool false, .bool false, .bool false, .bool false, .bool false, .int .u32 0, .int .u32 0, .int .i64 0, .int .u8 0, .int .u8 0, .int .u8 0, .int .u8 0, .int .u8 0, .int .u8 0, .int .u8 0, .int .u8 0, .int .u8 0, .int .u8 0, .int .u8 0, .int .u8 0, .int .u8 0, .int .u8 0, .int .u8 0, .int .u8 0, .int .u8 0, .int .u8 0, .int .u8 0, .int .u8 0, .int .u8 0, .int .u8 0, .int .u8 0, .int .u8 0, .int .u8 0, .int .u8 0, .int .u8 0, .int .u8 0, .int .u8 0, .int .u8 0, .int .u8 0, .int .u8 0, .bool false, .int .u32 0, .int .u32 0, .slice none 0 0]
theorem zS_size : zS.size = 44 := by decide +kernel
theorem spA_all (s : Sp) (a : Option Addr) (ca : Nat) : (spA s a ca).all (·.oneCell') = true := by
  unfold spA spL
  refine all_oneCell_toArray (fun v hv => ?_)
  simp only [List.mem_cons, List.mem_append, List.mem_map, List.not_mem_nil, or_false] at hv
  rcases hv with rfl | rfl | rfl | rfl | rfl | rfl | rfl | rfl | ⟨x, -, rfl⟩ | ⟨x, -, rfl⟩ | rfl | rfl | rfl | rfl <;> rfl

def z16 : List UInt8 := [0, 0, 0, 0, 0, 0, 0, 0, 0, 0, 0, 0, 0, 0, 0, 0]
def aw1 : Sp := ⟨false, true, false, false, false, 0, 49185, 0, z16, z16, false, 0, 0, [1]⟩
def aw2 : Sp := ⟨false, false, false, false, false, 0, 49185, 0, z16, z16, false, 0, 0, []⟩
theorem aw1_ok : aw1.ok := ⟨rfl, rfl, by decide, by decide, by decide, by decide⟩
theorem aw2_ok : aw2.ok := ⟨rfl, rfl, by decide, by decide, by decide, by decide⟩
theorem aw1_x : makeX ⟨false, false, 0⟩ aw1 = .ok [255, 3, 192, 33, 1] := by rfl
theorem aw2_x : makeX ⟨false, false, 0⟩ aw2 = .error 80 := by rfl

theorem a8_one (g : Nat) (w : World) (h : Cells w (some ⟨g, 0, none⟩) [1]) : Calls Tryz.prog 5 #[.agg #[.bool false, .bool false, .int .i64 0], .agg #[.bool false, .bool true, .bool false, .bool false, .bool false, .int .u32 0, .int .u32 49185, .int .i64 0, .int .u8 0, .int .u8 0, .int .u8 0, .int .u8 0, .int .u8 0, .int .u8 0, .int .u8 0, .int .u8 0, .int .u8 0, .int .u8 0, .int .u8 0, .int .u8 0, .int .u8 0, .int .u8 0, .int .u8 0, .int .u8 0, .int .u8 0, .int .u8 0, .int .u8 0, .int .u8 0, .int .u8 0, .int .u8 0, .int .u8 0, .int .u8 0, .int .u8 0, .int .u8 0, .int .u8 0, .int .u8 0, .int .u8 0, .int .u8 0, .int .u8 0, .int .u8 0, .bool false, .int .u32 0, .int .u32 0, .slice (some ⟨g, 0, none⟩) 1 1]] w fun e w' => ∃ v, e = .returned (.tuple #[v, .int .i64 0]) ∧ Owns w' w.heap.size v [255, 3, 192, 33, 1] ∧ w.grownBy w' none := by
  have k := make_any ⟨false, false, 0⟩ aw1 (some ⟨g, 0, none⟩) 1 w aw1_ok h (by simp) (by decide)
  rw [aw1_x] at k
  exact k
theorem a8_two (w : World) : Calls Tryz.prog 5 #[.agg #[.bool false, .bool false, .int .i64 0], .agg #[.bool false, .bool false, .bool false, .bool false, .bool false, .int .u32 0, .int .u32 49185, .int .i64 0, .int .u8 0, .int .u8 0, .int .u8 0, .int .u8 0, .int .u8 0, .int .u8 0, .int .u8 0, .int .u8 0, .int .u8 0, .int .u8 0, .int .u8 0, .int .u8 0, .int .u8 0, .int .u8 0, .int .u8 0, .int .u8 0, .int .u8 0, .int .u8 0, .int .u8 0, .int .u8 0, .int .u8 0, .int .u8 0, .int .u8 0, .int .u8 0, .int .u8 0, .int .u8 0, .int .u8 0, .int .u8 0, .int .u8 0, .int .u8 0, .int .u8 0, .int .u8 0, .bool false, .int .u32 0, .int .u32 0, .slice none 0 0]] w fun e w' => ∃ v, e = .returned (.tuple #[v, .int .i64 80]) ∧ w.grownBy w' none := by
  have k := make_any ⟨false, false, 0⟩ aw2 none 0 w aw2_ok ⟨fun _ => rfl, fun ad had => (by cases had)⟩ (by simp) (by decide)
  rw [aw2_x] at k
  exact k.mono fun e w' ⟨v, h1, _, h3⟩ => ⟨v, h1, h3⟩

end Go.Proofs.YtnojpepjloceoaaGreat

namespace Go.Proofs.YtnojpepjloceoaaGreat
open Go.RowKit
set_option maxRecDepth 100000

/-- A digit. -/
def dg (n : Nat) : UInt8 := UInt8.ofNat (48 + n)

theorem dg_nat {n : Nat} (h : n < 10) : (dg n).toNat = 48 + n := by simp [dg]; omega

/-- A number in decimal, with at most f digits. -/
def decF : Nat → Nat → List UInt8
  | 0, _ => []
  | f + 1, n => if n < 10 then [dg n] else decF f (n / 10) ++ [dg (n % 10)]

/-- A number in decimal (of at most 20 digits); nothing for 0. -/
def dec (n : Nat) : List UInt8 := decF 20 n
def decZ (n : Nat) : List UInt8 := if n = 0 then [] else dec n

theorem decF_more (f n : Nat) (h : n < 10 ^ f) (hf : 0 < f) : decF (f + 1) n = decF f n := by
  induction f generalizing n with
  | zero => omega
  | succ f ih =>
    by_cases h10 : n < 10
    · simp [decF, h10]
    · have hf0 : 0 < f := by
        rcases Nat.eq_zero_or_pos f with rfl | h0
        · simp at h; omega
        · exact h0
      rw [decF, if_neg h10, ih (n / 10) (by rw [Nat.pow_succ] at h; omega) hf0, decF, if_neg h10]

theorem decF_len (f n : Nat) : (decF f n).length ≤ f := by
  induction f generalizing n with
  | zero => simp [decF]
  | succ f ih =>
    rw [decF]
    split
    · simp
    · have := ih (n / 10); simp; omega

theorem dec_len (n : Nat) : (dec n).length ≤ 20 := decF_len 20 n

theorem dec_step (n : Nat) (h : n < 10 ^ 20) : dec n = decZ (n / 10) ++ [dg (n % 10)] := by
  by_cases h10 : n < 10
  · rw [show n / 10 = 0 by omega, show n % 10 = n by omega]
    simp [decZ, dec, decF, h10]
  · have h0 : n / 10 ≠ 0 := by omega
    rw [decZ, if_neg h0]
    show decF (19 + 1) n = decF 20 (n / 10) ++ _
    rw [decF, if_neg h10, decF_more 19 (n / 10) (by omega) (by omega)]

theorem decZ_step (n : Nat) (h0 : 0 < n) (h : n < 10 ^ 20) : decZ n = decZ (n / 10) ++ [dg (n % 10)] := by
  rw [← dec_step n h, decZ, if_neg (by omega)]

/-- A text as a value. -/
abbrev str (xs : List UInt8) : Value := .string ⟨xs.toArray⟩

/-- 'string([]byte{c})', the bytes just made. -/
theorem run_str1 {P : Program} {w : World} (c : UInt8) (src dst : TypeId) (hs : P.underlying src = some (.slice 5)) (he : P.underlying 5 = some (.int .u8)) (hd : P.underlying dst = some .string) (n : Int) (hn : n = (c.toNat : Int)) :
    (convert src dst (.slice (some ⟨w.heap.size, 0, none⟩) 1 1)).run P (w.alloc (.cells #[.int .u8 n] 5)) = .ok (str [c]) (w.alloc (.cells #[.int .u8 n] 5)) := by
  subst hn
  exact run_convert_bytes_back _ src dst 5 ⟨w.heap.size, 0, none⟩ 1 [c] hs he hd (fun j hj => (cells_lit w [c]).2 _ rfl j hj)

theorem cat (xs ys : List UInt8) : ((⟨xs.toArray⟩ : ByteArray) ++ (⟨ys.toArray⟩ : ByteArray)) = ⟨(xs ++ ys).toArray⟩ := by
  apply ByteArray.ext
  simp

theorem str_cat (xs ys : List UInt8) : Value.string ((⟨xs.toArray⟩ : ByteArray) ++ (⟨ys.toArray⟩ : ByteArray)) = str (xs ++ ys) := by rw [cat]

theorem digit_cell (n : Nat) : 48 + (n : Int) % 10 = ((dg (n % 10)).toNat : Int) := by
  rw [dg_nat (by omega)]; omega

end Go.Proofs.YtnojpepjloceoaaGreat
