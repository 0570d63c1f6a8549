/-
  For every link and every spec (its data's capacity at most 2^47 - 4096 bytes, as the form itself says of each argument) riddlelaw8.ForgeRefuses returns true and leaves what was there as it was: no condition of ours.
-/
import Derived.Test.YtfjjmeanmlimoaaOpenS
import Derived.Test.YtfjjmeanmlimoaaForgeL
import Derived.Test.YtfjjmeanmlimoaaForgeX
import Derived.Deep.DeepCutAuto
namespace Go.Proofs.Ytfjjmeanmlimoaa
open Go.ChangeShapes Go.WideShapes Go.ChangeAt Go.RowKit
open Go.ChangeMaps (open_string shut_string)
set_option maxRecDepth 100000
namespace forgeRefuses

set_option maxRecDepth 100000 in
set_option maxHeartbeats 4000000 in
theorem walk (l : Lk) (s : Sp) (a : Option Addr) (ca : Nat) (w : World) (ok : s.ok) (ha : Cells w a s.data) (hc0 : a = none → ca = 0) (_hcp : s.data.length ≤ ca) (hn : s.data.length ≤ 140737488351232) :
    Calls Try.prog 7 #[.agg (lkA l), .agg (spA s a ca)] w fun e w' => e = .returned (.bool true) ∧ w.grownBy w' none := by
  obtain ⟨R, hR⟩ : ∃ R, exV [] (makeX l s) = R := ⟨_, rfl⟩
  obtain ⟨E, hE⟩ : ∃ E, exE (makeX l s) = E := ⟨_, rfl⟩
  have hRl : R.length ≤ 65535 := by rw [← hR]; exact made_len l s
  have HMK : Hid (∀ (g cap : Nat) (W : World), Cells W (some ⟨g, 0, none⟩) s.data → Calls Try.prog 10 #[.agg (lkA l), .agg (spA s (some ⟨g, 0, none⟩) cap)] W fun e w' => ∃ v, e = .returned (.tuple #[v, .int .i64 E]) ∧ Owns w' W.heap.size v R ∧ W.grownBy w' none) := fun g cap W h => by
    have k := make_any l s (some ⟨g, 0, none⟩) cap W ok h (by simp) (by omega)
    rw [hR, hE] at k
    exact k
  have L0 := VAt.alloc w 23 (lkA l)
  have K1 := World.grownBy_alloc (w.alloc (.cells (lkA l) 23)) (.cells (spA s a ca) 28) none
  have S1 := VAt.alloc (w.alloc (.cells (lkA l) 23)) 28 (spA s a ca)
  have G1 := grown_trans (World.grownBy_alloc w (.cells (lkA l) 23) none) K1
  rw [show (w.alloc (.cells (lkA l) 23)).heap.size = w.heap.size + 1 by simp] at S1
  have LK := L0.kept K1
  have SK := S1
  have HLS : Hid ((Try.prog.info? 23).map (·.size) = some (lkA l).size) := size23
  have HSS : Hid ((Try.prog.info? 28).map (·.size) = some (spA s a ca).size) := spA_size ok a ca
  have H : Hid (Cells w a s.data) := ha
  have HOK : Hid s.ok := ok
  have HV : Hid (exE (makeX l s) = E) := hE
  have HTM : Hid (Fits l s → checkF l = 0 → ∀ (j g cap : Nat) (W : World), j < 8 → (tS j s).ok → Cells W (some ⟨g, 0, none⟩) s.data → Calls Try.prog 10 #[.agg (lkA (tL j l)), .agg (spA (tS j s) (some ⟨g, 0, none⟩) cap)] W fun e w' => ∃ v, e = .returned (.tuple #[v, .int .i64 (tE j)]) ∧ Owns w' W.heap.size v [] ∧ W.grownBy w' none) := fun F h0 j g cap W hj hok h => by
    have e : (tS j s).data = s.data := by unfold tS; split <;> rfl
    have k := make_any (tL j l) (tS j s) (some ⟨g, 0, none⟩) cap W hok (by rw [e]; exact h) (by simp) (by rw [e]; omega)
    rw [refuses h0 F j hj] at k
    exact k
  clear hR hE L0 S1 K1 ha ok hRl
  go_enter Try.func7, Try.ntmps7
  go_upto_region 1 with fail
  obtain ⟨B, hB⟩ : ∃ B, w.heap.size = B := ⟨_, rfl⟩
  obtain ⟨C, hC⟩ : ∃ C, w.heap.size + 1 = C := ⟨_, rfl⟩
  rw [hC] at SK
  rw [hB] at LK
  rw [hC, hB]
  have HBC : Hid (w.heap.size ≤ B ∧ w.heap.size ≤ C) := ⟨by omega, by omega⟩
  clear hB hC
  generalize (w.alloc (.cells (lkA l) 23)).alloc (.cells (spA s a ca) 28) = w1 at *
  have B0 : LS w1 B C l s a ca w1 := ⟨LK, SK, World.grownBy.refl _ _⟩
  clear LK SK
  refine wp_region_held_drew (S := fun W => LS w1 B C l s a ca W) (by kernel_rfl) (ls_drew B0) (fun hHeld => ?_)
  refine wpAnyH_take (i := 0) (v := .agg (lkA l)) rfl (by kernel_rfl) (by kernel_rfl) (by kernel_rfl) (fun _ _ _ h => h) (yieldsIf_load_row (by rfl) _ _ rfl B rfl 23 (lkA l) _ (fun W hW => hW.1) Try.underlying23 rfl HLS.out) hHeld ?_
  try simp only [Act.put, List.getElem_toArray, List.getElem_cons_zero, List.setIfInBounds_toArray, List.set_cons_zero, List.set_cons_succ]
  refine wpAnyH_take (i := 1) (v := .agg (spA s a ca)) rfl (by kernel_rfl) (by kernel_rfl) (by kernel_rfl) (fun _ _ _ h => h) (yieldsIf_load_row (by rfl) _ _ rfl C rfl 28 (spA s a ca) _ (fun W hW => hW.2.1) Try.underlying28 rfl HSS.out) hHeld ?_
  try simp only [Act.put, List.getElem_toArray, List.getElem_cons_zero, List.getElem_cons_succ, List.setIfInBounds_toArray, List.set_cons_zero, List.set_cons_succ]
  refine wpAnyH_ready (rs := [2]) (by kernel_rfl) (by simp) (AllReadyH.cons rfl (fun K hK => ?_) AllReadyH.nil)
  go_simp
  refine (lend8_any s a ca _ HOK.out (H.out.keptNone (grown_trans G1 hHeld.2.2)) hc0 hn).mono ?_
  rintro e w2 ⟨g0, cap0, rfl, Lw2, Kw2⟩
  obtain ⟨g', cap', e', -, -, -, -, hownw2⟩ := Lw2
  obtain ⟨rfl, rfl⟩ : g0 = g' ∧ cap0 = cap' := by simpa using e'
  clear e'
  have Cw2 := (cells_front hownw2).1
  go_wp2_with fail
  refine hK.out _ _ (ls_call Kw2 hHeld) (fun hHeld => ?_)
  clear hK K hownw2 Kw2
  try simp only [Act.put, List.getElem_toArray, List.getElem_cons_zero, List.getElem_cons_succ, List.setIfInBounds_toArray, List.set_cons_zero, List.set_cons_succ]
  refine wpAnyH_ready (rs := [3]) (by kernel_rfl) (by simp) (AllReadyH.cons rfl (fun K hK => ?_) AllReadyH.nil)
  go_simp
  refine (HMK.out g0 cap0 _ Cw2).mono ?_
  rintro e w3 ⟨y, rfl, Ow3, Kw3⟩
  go_wp2_with fail
  refine hK.out _ _ (ls_call Kw3 hHeld) (fun hHeld => ?_)
  clear hK K Cw2
  try simp only [Act.put, List.getElem_toArray, List.getElem_cons_zero, List.getElem_cons_succ, List.setIfInBounds_toArray, List.set_cons_zero, List.set_cons_succ]
  refine wpAnyH_take (i := 4) (v := .tuple #[y, .int .i64 E]) rfl (by kernel_rfl) (by kernel_rfl) (by kernel_rfl) (fun _ _ _ h => h) (Or.inl ⟨by rfl, fun W hW => ?_⟩) hHeld ?_
  · clear hW
    go_simp
  try simp only [Act.put, List.getElem_toArray, List.getElem_cons_zero, List.getElem_cons_succ, List.setIfInBounds_toArray, List.set_cons_zero, List.set_cons_succ]
  refine wpAnyH_take (i := 5) (v := y) rfl (by kernel_rfl) (by kernel_rfl) (by kernel_rfl) (fun _ _ _ h => h) (Or.inl ⟨by rfl, fun W hW => ?_⟩) hHeld ?_
  · clear hW
    go_simp
  try simp only [Act.put, List.getElem_toArray, List.getElem_cons_zero, List.getElem_cons_succ, List.setIfInBounds_toArray, List.set_cons_zero, List.set_cons_succ]
  refine wpAnyH_take (i := 6) (v := .int .i64 E) rfl (by kernel_rfl) (by kernel_rfl) (by kernel_rfl) (fun _ _ _ h => h) (Or.inl ⟨by rfl, fun W hW => ?_⟩) hHeld ?_
  · clear hW
    go_simp
  try simp only [Act.put, List.getElem_toArray, List.getElem_cons_zero, List.getElem_cons_succ, List.setIfInBounds_toArray, List.set_cons_zero, List.set_cons_succ]
  refine wpAnyH_take (i := 7) (v := y) rfl (by kernel_rfl) (by kernel_rfl) (by kernel_rfl) (fun _ _ _ h => h) (Or.inl ⟨by rfl, fun W hW => ?_⟩) hHeld ?_
  · clear hW
    go_simp
  try simp only [Act.put, List.getElem_toArray, List.getElem_cons_zero, List.getElem_cons_succ, List.setIfInBounds_toArray, List.set_cons_zero, List.set_cons_succ]
  refine wpAnyH_take (i := 8) (v := .int .i64 E) rfl (by kernel_rfl) (by kernel_rfl) (by kernel_rfl) (fun _ _ _ h => h) (Or.inl ⟨by rfl, fun W hW => ?_⟩) hHeld ?_
  · clear hW
    go_simp
  try simp only [Act.put, List.getElem_toArray, List.getElem_cons_zero, List.getElem_cons_succ, List.setIfInBounds_toArray, List.set_cons_zero, List.set_cons_succ]
  refine wpAnyH_done (by kernel_rfl) ?_ _
  obtain ⟨LK, SK, K3⟩ := hHeld
  have G3 := grown_trans G1 K3
  clear B0 K3 G1 Ow3 Kw3 HMK
  cases hmk : makeX l s with
  | error er =>
    have h1 : E = er := by rw [← HV.out, hmk]; rfl
    have hz := make_err hmk
    subst h1
    clear HV hmk HTM LK SK
    go_wp2_with fail
    refine (awake8_any _).mono ?_
    rintro e w4 ⟨rfl, K4⟩
    have G4 := grown_trans G3 K4
    clear K4 G3
    go_wp2
    go_ret
    exact ⟨rfl, G4⟩
  | ok b =>
    have h1 : E = 0 := by rw [← HV.out, hmk]; rfl
    subst h1
    obtain ⟨hck, FT, -, -⟩ := make_ok hmk
    have HF : Hid (Fits l s) := FT
    have HT := HTM.out FT hck
    have HTN : Hid (∀ (j g cap : Nat) (W : World), j < 8 → (tS j s).ok → Cells W (some ⟨g, 0, none⟩) s.data → Calls Try.prog 10 #[.agg (lkA (tL j l)), .agg (spA (tS j s) (some ⟨g, 0, none⟩) cap)] W fun e w' => ∃ v, e = .returned (.tuple #[v, .int .i64 (tE j)]) ∧ Owns w' W.heap.size v [] ∧ W.grownBy w' none) := HT
    clear HV hmk HTM HT hck FT b
    go_wp2
    go_loopw [7] (fun i wr => ∃ j : Nat, j ≤ 8 ∧ i = .int .i64 j ∧ LS w B C l s a ca wr) (fun i _ => 8 - (intOf i).toNat)
    case atStart => exact ⟨0, Nat.zero_le _, rfl, LK, SK, G3⟩
    case round =>
      clear LK SK G3
      obtain ⟨j, hj, rfl, LK, SK, G3⟩ := hrel
      by_cases hlt : j < 8
      case neg =>
        obtain rfl : j = 8 := by omega
        clear LK SK HTN
        go_wp2_with fail
        refine (awake8_any _).mono ?_
        rintro e w4 ⟨rfl, K4⟩
        have G4 := grown_trans G3 K4
        clear K4 G3
        go_wp2
        go_ret
        exact ⟨rfl, G4⟩
      have hlt' : decide ((j : Int) < 8) = true := decide_eq_true (by omega)
      go_wp2_with (refine wpList_load_row rfl 28 (.tmp 3) rfl C rfl 28 (spA s a ca) (0, 0) _ SK Try.underlying28 rfl HSS.out ?_)
      refine (lend8_any s a ca _ HOK.out (H.out.keptNone G3) hc0 hn).mono ?_
      rintro e w4 ⟨g, cap, rfl, L4, K4⟩
      obtain ⟨g', cap', e', -, -, -, hg4, hown⟩ := L4
      obtain ⟨rfl, rfl⟩ : g = g' ∧ cap = cap' := by simpa using e'
      clear e'
      have HST : Hid ((Try.prog.info? 28).map (·.size) = some (spA s (some ⟨g, 0, none⟩) cap).size) := spA_size HOK.out _ _
      have hzs : zS.size = (spA s (some ⟨g, 0, none⟩) cap).size := by rw [zS_size, spA, List.size_toArray, spL_len HOK.out]
      have Z4 := VAt.alloc w4 28 zS
      have T5 := VAt.alloc w4 28 (spA s (some ⟨g, 0, none⟩) cap)
      have K5 := grown_trans K4 (World.grownBy_alloc w4 (.cells (spA s (some ⟨g, 0, none⟩) cap) 28) none)
      have C5 := (cells_front hown).1.keptNone (World.grownBy_alloc w4 (.cells (spA s (some ⟨g, 0, none⟩) cap) 28) none)
      have hord0 : g < w4.heap.size ∧ B < w4.heap.size ∧ C < w4.heap.size ∧ w.heap.size ≤ w4.heap.size := ⟨hg4, Nat.lt_of_lt_of_le LK.lt K4.size, Nat.lt_of_lt_of_le SK.lt K4.size, Nat.le_trans G3.size K4.size⟩
      clear hown K4 hg4
      go_upto_region 8 with (refine wpList_store_row rfl 28 (.tmp 8) (.tmp 28) rfl w4.heap.size (spA s (some ⟨g, 0, none⟩) cap) rfl rfl 28 _ Z4 HST.out hzs (spA_all _ _ _) ?_)
      rw [World.setRow_alloc_new]
      generalize w4.alloc (.cells (spA s (some ⟨g, 0, none⟩) cap) 28) = w5 at *
      generalize w4.heap.size = D at *
      have LK5 := LK.kept K5
      have SK5 := SK.kept K5
      have Z5 := VAt.alloc w5 23 (lkA ⟨false, false, 0⟩)
      have hl1 : (lkA ⟨false, false, 0⟩).size = (lkA l).size := rfl
      have hl2 : (lkA l).all (·.oneCell') = true := by simp [lkA, Value.oneCell']
      have F6 := VAt.alloc w5 23 (lkA l)
      have K6 := World.grownBy_alloc w5 (.cells (lkA l) 23) none
      have T6 := T5.kept K6
      have C6 := C5.keptNone K6
      have LK6 := LK5.kept K6
      have SK6 := SK5.kept K6
      have G6 := grown_trans G3 (grown_trans K5 K6)
      have hDw := T5.lt
      clear Z4 hzs T5 C5 LK SK G3 K5 SK5
      go_upto_region 9 with (first | (refine wpList_load_row rfl 23 (.tmp 2) rfl B rfl 23 (lkA l) (0, 0) _ LK5 Try.underlying23 rfl HLS.out ?_) | (refine wpList_store_row rfl 23 (.tmp 9) (.tmp 29) rfl w5.heap.size (lkA l) rfl rfl 23 _ Z5 HLS.out hl1 hl2 ?_))
      rw [World.setRow_alloc_new]
      have hord : g < D ∧ D < w5.heap.size ∧ B < D ∧ C < D ∧ w.heap.size ≤ D := ⟨hord0.1, hDw, hord0.2.1, hord0.2.2.1, hord0.2.2.2⟩
      generalize w5.alloc (.cells (lkA l) 23) = w6 at *
      generalize w5.heap.size = F at *
      clear Z5 LK5 K6 hDw hord0
      have hS6 : SAt w6 D s (some ⟨g, 0, none⟩) cap := ⟨T6, HOK.out⟩
      have I6 : TI w B C D F g cap l s a ca l s w6 := ⟨T6, F6, C6, LK6, SK6, G6, hord⟩
      clear C6 LK6 SK6 G6 hord hl1 hl2
      obtain (rfl | rfl | rfl | rfl) | rfl | rfl | rfl | rfl : (j = 0 ∨ j = 1 ∨ j = 2 ∨ j = 3) ∨ j = 4 ∨ j = 5 ∨ j = 6 ∨ j = 7 := by omega
      · have c1 := hS6.eight.2.2.2.2.2.2.1
        have f1 := T6.free 6
        have I7 : TI w B C D F g cap l s a ca (tL 0 l) (tS 0 s) (w6.setCell ⟨D, 6, none⟩ (.int .u32 (bits .xor .u32 (s.proto : Int) 1))) := TI.set (s'' := tS 0 s) I6 6 (.int .u32 (bits .xor .u32 (s.proto : Int) 1)) (by rw [turn0 HF.out]; rfl)
        clear I6 T6 F6 hS6
        go_upto_region 27 with fail
        generalize w6.setCell ⟨D, 6, none⟩ (.int .u32 (bits .xor .u32 (s.proto : Int) 1)) = w7 at *
        have HSX : Hid ((Try.prog.info? 28).map (·.size) = some (spA (tS 0 s) (some ⟨g, 0, none⟩) cap).size) := spA_size (tS_ok HOK.out HF.out 0) _ _
        have HM7 := HTN.out 0 g cap w7 (by omega) (tS_ok HOK.out HF.out 0) I7.dt
        rw [show tE 0 = 80 from rfl] at HM7
        have LK7 := I7.lk
        have SP7 := I7.sp
        generalize hl7 : tL 0 l = l7 at *
        generalize hs7 : tS 0 s = s7 at *
        have HLX : Hid ((Try.prog.info? 23).map (·.size) = some (lkA l7).size) := size23
        clear c1 f1
        go_wp2_with (first | (refine wpList_load_row rfl 23 (.tmp 9) rfl F rfl 23 (lkA l7) (0, 0) _ LK7 Try.underlying23 rfl HLX.out ?_) | (refine wpList_load_row rfl 28 (.tmp 8) rfl D rfl 28 (spA s7 (some ⟨g, 0, none⟩) cap) (0, 0) _ SP7 Try.underlying28 rfl HSX.out ?_))
        refine HM7.mono ?_
        rintro e w8 ⟨v, rfl, O8, K8⟩
        obtain ⟨ao8, cap8, hv, -⟩ := O8.shape
        simp only [List.length_nil] at hv
        subst hv
        have I8 : LS w B C l s a ca w8 := ⟨I7.LK.kept K8, I7.SK.kept K8, grown_trans I7.up K8⟩
        clear I7 LK7 SP7 HSX HLX HM7 O8 K8 HST
        go_wp2
        go_roundw
        case rel => exact ⟨1, by omega, by go_num, I8⟩
        case measure => simp [intOf]
      · have c1 := hS6.eight.2.2.2.2.2.2.1
        have f1 := T6.free 6
        have I7 : TI w B C D F g cap l s a ca (tL 1 l) (tS 1 s) (w6.setCell ⟨D, 6, none⟩ (.int .u32 (bits .or .u32 (s.proto : Int) 65536))) := TI.set (s'' := tS 1 s) I6 6 (.int .u32 (bits .or .u32 (s.proto : Int) 65536)) (by rw [turn1 HF.out]; rfl)
        clear I6 T6 F6 hS6
        go_upto_region 27 with fail
        generalize w6.setCell ⟨D, 6, none⟩ (.int .u32 (bits .or .u32 (s.proto : Int) 65536)) = w7 at *
        have HSX : Hid ((Try.prog.info? 28).map (·.size) = some (spA (tS 1 s) (some ⟨g, 0, none⟩) cap).size) := spA_size (tS_ok HOK.out HF.out 1) _ _
        have HM7 := HTN.out 1 g cap w7 (by omega) (tS_ok HOK.out HF.out 1) I7.dt
        rw [show tE 1 = 80 from rfl] at HM7
        have LK7 := I7.lk
        have SP7 := I7.sp
        generalize hl7 : tL 1 l = l7 at *
        generalize hs7 : tS 1 s = s7 at *
        have HLX : Hid ((Try.prog.info? 23).map (·.size) = some (lkA l7).size) := size23
        clear c1 f1
        go_wp2_with (first | (refine wpList_load_row rfl 23 (.tmp 9) rfl F rfl 23 (lkA l7) (0, 0) _ LK7 Try.underlying23 rfl HLX.out ?_) | (refine wpList_load_row rfl 28 (.tmp 8) rfl D rfl 28 (spA s7 (some ⟨g, 0, none⟩) cap) (0, 0) _ SP7 Try.underlying28 rfl HSX.out ?_))
        refine HM7.mono ?_
        rintro e w8 ⟨v, rfl, O8, K8⟩
        obtain ⟨ao8, cap8, hv, -⟩ := O8.shape
        simp only [List.length_nil] at hv
        subst hv
        have I8 : LS w B C l s a ca w8 := ⟨I7.LK.kept K8, I7.SK.kept K8, grown_trans I7.up K8⟩
        clear I7 LK7 SP7 HSX HLX HM7 O8 K8 HST
        go_wp2
        go_roundw
        case rel => exact ⟨2, by omega, by go_num, I8⟩
        case measure => simp [intOf]
      · have c1 := hS6.eight.2.2.2.2.2.2.2
        have f1 := T6.free 7
        have I7 : TI w B C D F g cap l s a ca (tL 2 l) (tS 2 s) (w6.setCell ⟨D, 7, none⟩ (.int .i64 (wrap64 (s.next + 256)))) := TI.set (s'' := tS 2 s) I6 7 (.int .i64 (wrap64 (s.next + 256))) (by rw [turn2 HF.out]; rfl)
        clear I6 T6 F6 hS6
        go_upto_region 27 with fail
        generalize w6.setCell ⟨D, 7, none⟩ (.int .i64 (wrap64 (s.next + 256))) = w7 at *
        have HSX : Hid ((Try.prog.info? 28).map (·.size) = some (spA (tS 2 s) (some ⟨g, 0, none⟩) cap).size) := spA_size (tS_ok HOK.out HF.out 2) _ _
        have HM7 := HTN.out 2 g cap w7 (by omega) (tS_ok HOK.out HF.out 2) I7.dt
        rw [show tE 2 = 80 from rfl] at HM7
        have LK7 := I7.lk
        have SP7 := I7.sp
        generalize hl7 : tL 2 l = l7 at *
        generalize hs7 : tS 2 s = s7 at *
        have HLX : Hid ((Try.prog.info? 23).map (·.size) = some (lkA l7).size) := size23
        clear c1 f1
        go_wp2_with (first | (refine wpList_load_row rfl 23 (.tmp 9) rfl F rfl 23 (lkA l7) (0, 0) _ LK7 Try.underlying23 rfl HLX.out ?_) | (refine wpList_load_row rfl 28 (.tmp 8) rfl D rfl 28 (spA s7 (some ⟨g, 0, none⟩) cap) (0, 0) _ SP7 Try.underlying28 rfl HSX.out ?_))
        refine HM7.mono ?_
        rintro e w8 ⟨v, rfl, O8, K8⟩
        obtain ⟨ao8, cap8, hv, -⟩ := O8.shape
        simp only [List.length_nil] at hv
        subst hv
        have I8 : LS w B C l s a ca w8 := ⟨I7.LK.kept K8, I7.SK.kept K8, grown_trans I7.up K8⟩
        clear I7 LK7 SP7 HSX HLX HM7 O8 K8 HST
        go_wp2
        go_roundw
        case rel => exact ⟨3, by omega, by go_num, I8⟩
        case measure => simp [intOf]
      · have c1 := hS6.eight.2.2.2.2.2.1
        have f1 := T6.free 5
        have I7 : TI w B C D F g cap l s a ca (tL 3 l) (tS 3 s) (w6.setCell ⟨D, 5, none⟩ (.int .u32 (bits .or .u32 (s.seq : Int) 16777216))) := TI.set (s'' := tS 3 s) I6 5 (.int .u32 (bits .or .u32 (s.seq : Int) 16777216)) (by rw [turn3 HF.out]; rfl)
        clear I6 T6 F6 hS6
        go_upto_region 27 with fail
        generalize w6.setCell ⟨D, 5, none⟩ (.int .u32 (bits .or .u32 (s.seq : Int) 16777216)) = w7 at *
        have HSX : Hid ((Try.prog.info? 28).map (·.size) = some (spA (tS 3 s) (some ⟨g, 0, none⟩) cap).size) := spA_size (tS_ok HOK.out HF.out 3) _ _
        have HM7 := HTN.out 3 g cap w7 (by omega) (tS_ok HOK.out HF.out 3) I7.dt
        rw [show tE 3 = 80 from rfl] at HM7
        have LK7 := I7.lk
        have SP7 := I7.sp
        generalize hl7 : tL 3 l = l7 at *
        generalize hs7 : tS 3 s = s7 at *
        have HLX : Hid ((Try.prog.info? 23).map (·.size) = some (lkA l7).size) := size23
        clear c1 f1
        go_wp2_with (first | (refine wpList_load_row rfl 23 (.tmp 9) rfl F rfl 23 (lkA l7) (0, 0) _ LK7 Try.underlying23 rfl HLX.out ?_) | (refine wpList_load_row rfl 28 (.tmp 8) rfl D rfl 28 (spA s7 (some ⟨g, 0, none⟩) cap) (0, 0) _ SP7 Try.underlying28 rfl HSX.out ?_))
        refine HM7.mono ?_
        rintro e w8 ⟨v, rfl, O8, K8⟩
        obtain ⟨ao8, cap8, hv, -⟩ := O8.shape
        simp only [List.length_nil] at hv
        subst hv
        have I8 : LS w B C l s a ca w8 := ⟨I7.LK.kept K8, I7.SK.kept K8, grown_trans I7.up K8⟩
        clear I7 LK7 SP7 HSX HLX HM7 O8 K8 HST
        go_wp2
        go_roundw
        case rel => exact ⟨4, by omega, by go_num, I8⟩
        case measure => simp [intOf]
      · have c1 := hS6.four.2.1
        have f1 := T6.free 41
        have I7 : TI w B C D F g cap l s a ca (tL 4 l) (tS 4 s) (w6.setCell ⟨D, 41, none⟩ (.int .u32 70000)) := TI.set (s'' := tS 4 s) I6 41 (.int .u32 70000) (spL_set41 HOK.out _ _ 70000)
        clear I6 T6 F6 hS6
        go_upto_region 27 with fail
        generalize w6.setCell ⟨D, 41, none⟩ (.int .u32 70000) = w7 at *
        have HSX : Hid ((Try.prog.info? 28).map (·.size) = some (spA (tS 4 s) (some ⟨g, 0, none⟩) cap).size) := spA_size (tS_ok HOK.out HF.out 4) _ _
        have HM7 := HTN.out 4 g cap w7 (by omega) (tS_ok HOK.out HF.out 4) I7.dt
        rw [show tE 4 = 80 from rfl] at HM7
        have LK7 := I7.lk
        have SP7 := I7.sp
        generalize hl7 : tL 4 l = l7 at *
        generalize hs7 : tS 4 s = s7 at *
        have HLX : Hid ((Try.prog.info? 23).map (·.size) = some (lkA l7).size) := size23
        clear c1 f1
        go_wp2_with (first | (refine wpList_load_row rfl 23 (.tmp 9) rfl F rfl 23 (lkA l7) (0, 0) _ LK7 Try.underlying23 rfl HLX.out ?_) | (refine wpList_load_row rfl 28 (.tmp 8) rfl D rfl 28 (spA s7 (some ⟨g, 0, none⟩) cap) (0, 0) _ SP7 Try.underlying28 rfl HSX.out ?_))
        refine HM7.mono ?_
        rintro e w8 ⟨v, rfl, O8, K8⟩
        obtain ⟨ao8, cap8, hv, -⟩ := O8.shape
        simp only [List.length_nil] at hv
        subst hv
        have I8 : LS w B C l s a ca w8 := ⟨I7.LK.kept K8, I7.SK.kept K8, grown_trans I7.up K8⟩
        clear I7 LK7 SP7 HSX HLX HM7 O8 K8 HST
        go_wp2
        go_roundw
        case rel => exact ⟨5, by omega, by go_num, I8⟩
        case measure => simp [intOf]
      · have c1 : w6.cell? ⟨F, 2, none⟩ = some (.int .i64 l.mp) := F6.cell 2
        have f1 := F6.free 2
        have I7 : TI w B C D F g cap l s a ca (tL 5 l) (tS 5 s) (w6.setCell ⟨F, 2, none⟩ (.int .i64 3)) := TI.setL (l'' := tL 5 l) I6 2 (.int .i64 3) rfl
        clear I6 T6 F6 hS6
        go_upto_region 27 with fail
        generalize w6.setCell ⟨F, 2, none⟩ (.int .i64 3) = w7 at *
        have HSX : Hid ((Try.prog.info? 28).map (·.size) = some (spA (tS 5 s) (some ⟨g, 0, none⟩) cap).size) := spA_size (tS_ok HOK.out HF.out 5) _ _
        have HM7 := HTN.out 5 g cap w7 (by omega) (tS_ok HOK.out HF.out 5) I7.dt
        rw [show tE 5 = 70 from rfl] at HM7
        have LK7 := I7.lk
        have SP7 := I7.sp
        generalize hl7 : tL 5 l = l7 at *
        generalize hs7 : tS 5 s = s7 at *
        have HLX : Hid ((Try.prog.info? 23).map (·.size) = some (lkA l7).size) := size23
        clear c1 f1
        go_wp2_with (first | (refine wpList_load_row rfl 23 (.tmp 9) rfl F rfl 23 (lkA l7) (0, 0) _ LK7 Try.underlying23 rfl HLX.out ?_) | (refine wpList_load_row rfl 28 (.tmp 8) rfl D rfl 28 (spA s7 (some ⟨g, 0, none⟩) cap) (0, 0) _ SP7 Try.underlying28 rfl HSX.out ?_))
        refine HM7.mono ?_
        rintro e w8 ⟨v, rfl, O8, K8⟩
        obtain ⟨ao8, cap8, hv, -⟩ := O8.shape
        simp only [List.length_nil] at hv
        subst hv
        have I8 : LS w B C l s a ca w8 := ⟨I7.LK.kept K8, I7.SK.kept K8, grown_trans I7.up K8⟩
        clear I7 LK7 SP7 HSX HLX HM7 O8 K8 HST
        go_wp2
        go_roundw
        case rel => exact ⟨6, by omega, by go_num, I8⟩
        case measure => simp [intOf]
      · have c1 := hS6.eight.2.1
        have f1 := T6.free 1
        have c2 : w6.cell? ⟨F, 0, none⟩ = some (.bool l.acfc) := F6.cell 0
        have f2 := F6.free 0
        have I7 : TI w B C D F g cap l s a ca (tL 6 l) (tS 6 s) ((w6.setCell ⟨D, 1, none⟩ (.bool false)).setCell ⟨F, 0, none⟩ (.bool false)) := TI.setL (l'' := tL 6 l) (TI.set (s'' := tS 6 s) I6 1 (.bool false) rfl) 0 (.bool false) rfl
        clear I6 T6 F6 hS6
        go_upto_region 27 with fail
        generalize (w6.setCell ⟨D, 1, none⟩ (.bool false)).setCell ⟨F, 0, none⟩ (.bool false) = w7 at *
        have HSX : Hid ((Try.prog.info? 28).map (·.size) = some (spA (tS 6 s) (some ⟨g, 0, none⟩) cap).size) := spA_size (tS_ok HOK.out HF.out 6) _ _
        have HM7 := HTN.out 6 g cap w7 (by omega) (tS_ok HOK.out HF.out 6) I7.dt
        rw [show tE 6 = 80 from rfl] at HM7
        have LK7 := I7.lk
        have SP7 := I7.sp
        generalize hl7 : tL 6 l = l7 at *
        generalize hs7 : tS 6 s = s7 at *
        have HLX : Hid ((Try.prog.info? 23).map (·.size) = some (lkA l7).size) := size23
        clear c1 f1 c2 f2
        go_wp2_with (first | (refine wpList_load_row rfl 23 (.tmp 9) rfl F rfl 23 (lkA l7) (0, 0) _ LK7 Try.underlying23 rfl HLX.out ?_) | (refine wpList_load_row rfl 28 (.tmp 8) rfl D rfl 28 (spA s7 (some ⟨g, 0, none⟩) cap) (0, 0) _ SP7 Try.underlying28 rfl HSX.out ?_))
        refine HM7.mono ?_
        rintro e w8 ⟨v, rfl, O8, K8⟩
        obtain ⟨ao8, cap8, hv, -⟩ := O8.shape
        simp only [List.length_nil] at hv
        subst hv
        have I8 : LS w B C l s a ca w8 := ⟨I7.LK.kept K8, I7.SK.kept K8, grown_trans I7.up K8⟩
        clear I7 LK7 SP7 HSX HLX HM7 O8 K8 HST
        go_wp2
        go_roundw
        case rel => exact ⟨7, by omega, by go_num, I8⟩
        case measure => simp [intOf]
      · have c1 := hS6.eight.2.2.2.2.2.2.2
        have f1 := T6.free 7
        have I7 : TI w B C D F g cap l s a ca (tL 7 l) (tS 7 s) (w6.setCell ⟨D, 7, none⟩ (.int .i64 (-1))) := TI.set (s'' := tS 7 s) I6 7 (.int .i64 (-1)) (rfl)
        clear I6 T6 F6 hS6
        go_upto_region 27 with fail
        generalize w6.setCell ⟨D, 7, none⟩ (.int .i64 (-1)) = w7 at *
        have HSX : Hid ((Try.prog.info? 28).map (·.size) = some (spA (tS 7 s) (some ⟨g, 0, none⟩) cap).size) := spA_size (tS_ok HOK.out HF.out 7) _ _
        have HM7 := HTN.out 7 g cap w7 (by omega) (tS_ok HOK.out HF.out 7) I7.dt
        rw [show tE 7 = 80 from rfl] at HM7
        have LK7 := I7.lk
        have SP7 := I7.sp
        generalize hl7 : tL 7 l = l7 at *
        generalize hs7 : tS 7 s = s7 at *
        have HLX : Hid ((Try.prog.info? 23).map (·.size) = some (lkA l7).size) := size23
        clear c1 f1
        go_wp2_with (first | (refine wpList_load_row rfl 23 (.tmp 9) rfl F rfl 23 (lkA l7) (0, 0) _ LK7 Try.underlying23 rfl HLX.out ?_) | (refine wpList_load_row rfl 28 (.tmp 8) rfl D rfl 28 (spA s7 (some ⟨g, 0, none⟩) cap) (0, 0) _ SP7 Try.underlying28 rfl HSX.out ?_))
        refine HM7.mono ?_
        rintro e w8 ⟨v, rfl, O8, K8⟩
        obtain ⟨ao8, cap8, hv, -⟩ := O8.shape
        simp only [List.length_nil] at hv
        subst hv
        have I8 : LS w B C l s a ca w8 := ⟨I7.LK.kept K8, I7.SK.kept K8, grown_trans I7.up K8⟩
        clear I7 LK7 SP7 HSX HLX HM7 O8 K8 HST
        go_wp2
        go_roundw
        case rel => exact ⟨8, by omega, by go_num, I8⟩
        case measure => simp [intOf]

set_option maxRecDepth 100000 in
theorem lifted (os : Os) (started : os.Started) (H : Type) (enc : TypeId × Value → H) :
    ReturnsInHanded {} Try.checked os 7 .any (Rows.forgeRefusesSpec.pre6 enc Try.prog Try.f7 Rows.forgeRefusesRow.domain false) (Rows.forgeRefusesSpec.post enc Try.prog Try.f7 false true false false) := by
  refine returnsInHanded_of_change_sized (C := Try.checked) own started (by kernel_rfl) Try.func7
    (ChangeSpec.witness6 (enc := enc) (C := Try.checked) false ⟨#[], #[.agg #[.bool false, .bool false, .int .i64 0], .agg #[.bool false, .bool false, .bool false, .bool false, .bool false, .int .u32 0, .int .u32 0, .int .i64 0, .int .u8 0, .int .u8 0, .int .u8 0, .int .u8 0, .int .u8 0, .int .u8 0, .int .u8 0, .int .u8 0, .int .u8 0, .int .u8 0, .int .u8 0, .int .u8 0, .int .u8 0, .int .u8 0, .int .u8 0, .int .u8 0, .int .u8 0, .int .u8 0, .int .u8 0, .int .u8 0, .int .u8 0, .int .u8 0, .int .u8 0, .int .u8 0, .int .u8 0, .int .u8 0, .int .u8 0, .int .u8 0, .int .u8 0, .int .u8 0, .int .u8 0, .int .u8 0, .bool false, .int .u32 0, .int .u32 0, .slice none 0 0]], []⟩ 8 (by kernel_rfl) (by kernel_rfl) (by kernel_rfl) (by kernel_rfl)) ?_
  intro W base args ds gs before hval0 hW hcnd hsz0 _
  have hsz : (DataW.weightsEach Try.prog (Try.f7.params.toList ++ Rows.forgeRefusesSpec.plain.varTypes Try.prog) (ds ++ gs)).all (· ≤ reachBytes) = true := hsz0
  have hval : ∀ (j : Nat) t v, Try.f7.params[j]? = some t → args[j]? = some v → Value.okWide Try.prog W .any base t v := hval0
  have hW' := hW
  obtain ⟨p, q, hA0, hV, rfl, hfz, hnd⟩ := hW
  have hA : DataW.TrodAll enc Try.prog W 0 (fun _ => true) true Try.f7.params.toList args.toList ds p := hA0
  rw [Try.params7] at hA hval hsz
  obtain ⟨v0, vs0, d0, ds0, p0, q0, hargs, rfl, rfl, h0, r0⟩ := trodAll_cons hA
  obtain ⟨v1, vs1, d1, ds1, p1, q1, rfl, rfl, rfl, h1, r1⟩ := trodAll_cons r0
  obtain ⟨rfl, rfl, rfl⟩ := trodAll_nil r1
  obtain rfl : args = #[v0, v1] := by cases args; simp_all
  obtain ⟨rfl, rfl⟩ := trodVars_none hV
  have k0 := h0
  have lt0 : ∀ x ∈ p0, x.block < W.heap.size := by obtain ⟨m, hm⟩ := k0; exact DataW.trod_lt m _ _ _ hm
  obtain ⟨x0, rfl⟩ := open_link h0
  have k1 := h1
  have lt1 : ∀ x ∈ p1, x.block < W.heap.size := by obtain ⟨m, hm⟩ := k1; exact DataW.trod_lt m _ _ _ hm
  obtain ⟨s1, a1, cap1, rfl, hok1, hcells1, hnil1, hcp1, parts1, e1, rfl, hpp1, hdt1⟩ := open_spec h1
  have hlen1 := sized_spec hsz (j := 1) rfl rfl hpp1 hdt1
  clear hA0 hval0
  refine (walk x0 s1 a1 cap1 W hok1 hcells1 hnil1 hcp1 hlen1).mono fun e W' ⟨he, hg⟩ => ?_
  subst he
  have bel : Below W.heap.size W W' := (Below.refl _ _).grown hg (Nat.le_refl _) (by simp)
  exact ⟨_, rfl, _, _, _, [], _, [], hW', trodAll_mk1 (shut_bool Try.underlying4 _), (trodAll_cons_mk (Below.trod laidOut (by kernel_rfl) (of_decide_eq_true (by kernel_rfl)) k0 bel lt0) (trodAll_cons_mk (Below.trod laidOut (by kernel_rfl) (of_decide_eq_true (by kernel_rfl)) k1 bel lt1) trodAll_mk0)), rfl, bel.frame _, fun h => by cases h⟩

theorem over : Rows.ForgeRefusesSaid :=
  OpenClaim.holds_of_wide 7 Try.f7 rfl rfl rfl rfl rfl rfl rfl ⟨rfl, rfl, rfl, rfl, rfl⟩ rfl rfl rfl rfl rfl (by kernel_rfl) Try.func7 (by kernel_rfl)
    (of_decide_eq_true (by kernel_rfl)) (by unfold Func.isWrapper; first | (rw [if_pos (by decide +kernel)]; kernel_rfl) | (rw [if_neg (by decide +kernel)]; exact ⟨rfl, rfl⟩))
    (fun os started H enc _ => lifted os started H enc)

end forgeRefuses

theorem forgeRefuses_holds : Rows.ForgeRefusesSaid := forgeRefuses.over
#print axioms forgeRefuses_holds

end Go.Proofs.Ytfjjmeanmlimoaa
