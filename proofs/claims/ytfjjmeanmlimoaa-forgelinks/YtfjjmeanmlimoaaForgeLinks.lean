/-
  For every spec (its data's capacity at most 2^47 - 4096 bytes, as the form itself says of each argument) riddlelaw8.ForgeLinks returns true and leaves what was there as it was: no condition of ours.
-/
import Derived.Test.YtfjjmeanmlimoaaOpenS
import Derived.Test.YtfjjmeanmlimoaaForgeL
import Derived.Test.YtfjjmeanmlimoaaForgeX
import Derived.Test.YtfjjmeanmlimoaaForgeY
import Derived.Deep.DeepCutAuto
namespace Go.Proofs.Ytfjjmeanmlimoaa
open Go.ChangeShapes Go.WideShapes Go.ChangeAt Go.RowKit
open Go.ChangeMaps (open_string shut_string)
set_option maxRecDepth 100000
namespace forgeLinks

set_option maxRecDepth 100000 in
set_option maxHeartbeats 4000000 in
theorem walk (s : Sp) (a : Option Addr) (ca : Nat) (w : World) (ok : s.ok) (ha : Cells w a s.data) (hc0 : a = none → ca = 0) (_hcp : s.data.length ≤ ca) (hn0 : s.data.length ≤ 140737488351232) :
    Calls Try.prog 6 #[.agg (spA s a ca)] w fun e w' => e = .returned (.bool true) ∧ w.grownBy w' none := by
  obtain ⟨s1, hs1⟩ : ∃ t : Sp, { s with plain := true } = t := ⟨_, rfl⟩
  obtain ⟨s2, hs2⟩ : ∃ t : Sp, { s with plain := false } = t := ⟨_, rfl⟩
  have ok1 : s1.ok := by rw [← hs1]; exact ⟨ok.src, ok.dst, ok.seq, ok.proto, ok.frm, ok.til⟩
  have ok2 : s2.ok := by rw [← hs2]; exact ⟨ok.src, ok.dst, ok.seq, ok.proto, ok.frm, ok.til⟩
  have hd1 : s1.data = s.data := by rw [← hs1]
  have hd2 : s2.data = s1.data := by rw [← hs2, hd1]
  have hpr : s1.proto = s.proto := by rw [← hs1]
  have hn : s1.data.length ≤ 140737488351232 := by rw [hd1]; exact hn0
  have H : Hid (Cells w a s1.data) := by
    show Cells w a s1.data
    rw [hd1]; exact ha
  obtain ⟨R, hR⟩ : ∃ R, exV [] (makeX lk0 s1) = R := ⟨_, rfl⟩
  obtain ⟨E, hE⟩ : ∃ E, exE (makeX lk0 s1) = E := ⟨_, rfl⟩
  have hRl : R.length ≤ 65535 := by rw [← hR]; exact made_len lk0 s1
  have HM0 : Hid (∀ (g cap : Nat) (W : World), Cells W (some ⟨g, 0, none⟩) s1.data → Calls Try.prog 10 #[.agg #[.bool false, .bool false, .int .i64 0], .agg (spA s1 (some ⟨g, 0, none⟩) cap)] W fun e w' => ∃ v, e = .returned (.tuple #[v, .int .i64 E]) ∧ Owns w' W.heap.size v R ∧ W.grownBy w' none) := fun g cap W h => by
    have k := make_any lk0 s1 (some ⟨g, 0, none⟩) cap W ok1 h (by simp) (by omega)
    rw [hR, hE] at k
    exact k
  have HLN : Hid (E = 0 → s1.proto ≠ 61 → ∀ k : Lk, 0 ≤ k.mp ∧ k.mp ≤ 2 → (∀ (g cap : Nat) (W : World), Cells W (some ⟨g, 0, none⟩) s1.data → Calls Try.prog 10 #[.agg (lkA k), .agg (spA s1 (some ⟨g, 0, none⟩) cap)] W fun e w' => ∃ v, e = .returned (.tuple #[v, .int .i64 0]) ∧ Owns w' W.heap.size v R ∧ W.grownBy w' none)
      ∧ ∃ Y : List UInt8, Y.length + lessV k s1 = R.length ∧ ∀ (g cap : Nat) (W : World), Cells W (some ⟨g, 0, none⟩) s1.data → Calls Try.prog 10 #[.agg (lkA k), .agg (spA s2 (some ⟨g, 0, none⟩) cap)] W fun e w' => ∃ v, e = .returned (.tuple #[v, .int .i64 0]) ∧ Owns w' W.heap.size v Y ∧ W.grownBy w' none) := fun h0 h61 k hk => by
    have hmk : makeX lk0 { s with plain := true } = .ok R := by
      rw [hs1]
      cases hm : makeX lk0 s1 with
      | error er =>
        have := make_err hm
        rw [hm] at hE
        have h1 : er = E := hE
        rw [h1, h0] at this
        cases this
      | ok b =>
        rw [hm] at hR
        have h1 : b = R := hR
        rw [h1]
    obtain ⟨h1, Y, h2, h3⟩ := links_same hmk (by rw [← hpr]; exact h61) k hk
    rw [hs1] at h1
    rw [hs2] at h2
    refine ⟨fun g cap W h => ?_, Y, ?_, fun g cap W h => ?_⟩
    · have q := make_any k s1 (some ⟨g, 0, none⟩) cap W ok1 h (by simp) (by omega)
      rw [h1] at q
      exact q
    · unfold lessV at h3 ⊢
      rw [hpr]
      exact h3
    · have q := make_any k s2 (some ⟨g, 0, none⟩) cap W ok2 (by rw [hd2]; exact h) (by simp) (by rw [hd2]; omega)
      rw [h2] at q
      exact q
  have HER : Hid (E = 0 ∨ (E != 0) = true) := by
    show _ ∨ _
    by_cases h : E = 0
    · exact .inl h
    · exact .inr (by rw [bne_iff_ne]; exact h)
  have S0 := VAt.alloc w 28 (spA s a ca)
  have c0 := (show SAt (w.alloc (.cells (spA s a ca) 28)) w.heap.size s a ca from ⟨S0, ok⟩).eight.1
  have f0 := S0.free 0
  have hset : (spA s a ca).setIfInBounds 0 (.bool true) = spA s1 a ca := by
    rw [spA, List.setIfInBounds_toArray, show (spL s a ca).set 0 (.bool true) = spL s1 a ca by rw [← hs1]; rfl]
    rfl
  have SK := VAt.alloc w 28 (spA s1 a ca)
  have G1 := World.grownBy_alloc w (.cells (spA s1 a ca) 28) none
  have HSS : Hid ((Try.prog.info? 28).map (·.size) = some (spA s1 a ca).size) := spA_size ok1 a ca
  have HOK : Hid s1.ok := ok1
  have HSZ : Hid (∀ (b : Option Addr) (cb : Nat), (spL s1 b cb).set 0 (.bool false) = spL s2 b cb) := fun b cb => by rw [← hs1, ← hs2]; rfl
  have HOK2 : Hid s2.ok := ok2
  clear hR hE S0 ha ok hs1 hs2 hd1 hd2 hpr hn0 ok1 ok2
  go_enter Try.func6, Try.ntmps6
  go_upto_region 2 with fail

  clear c0 f0 hset
  generalize w.alloc (.cells (spA s1 a ca) 28) = w1 at *
  obtain ⟨C, hC⟩ : ∃ C, w.heap.size = C := ⟨_, rfl⟩
  rw [hC] at SK ⊢
  clear hC
  go_wp2_with (refine wpList_load_row rfl 28 (.tmp 1) rfl C rfl 28 (spA s1 a ca) (0, 0) _ SK Try.underlying28 rfl HSS.out ?_)
  refine (lend8_any s1 a ca _ HOK.out (H.out.keptNone G1) hc0 hn).mono ?_
  rintro e w2 ⟨g, cap, rfl, L2, K2⟩
  obtain ⟨g', cap', e', -, -, -, -, hown⟩ := L2
  obtain ⟨rfl, rfl⟩ : g = g' ∧ cap = cap' := by simpa using e'
  clear e'
  have C2 := (cells_front hown).1
  clear hown
  go_wp2_with fail
  refine (HM0.out g cap _ C2).mono ?_
  rintro e w3 ⟨v3, rfl, O3, K3⟩
  obtain ⟨ao, co, rfl, CR, -⟩ := O3.shape
  have SK3 := SK.kept (grown_trans K2 K3)
  have G3 := grown_trans G1 (grown_trans K2 K3)
  have c6 := (show SAt w3 C s1 a ca from ⟨SK3, HOK.out⟩).eight.2.2.2.2.2.2.1
  clear C2 K2 K3 O3 SK G1 HM0
  rcases HER.out with h1 | hz
  case inr =>
    clear SK3 CR HLN HER
    go_wp2_with fail
    refine (awake8_any _).mono ?_
    rintro e w4 ⟨rfl, K4⟩
    have G4 := grown_trans G3 K4
    clear K4 G3
    go_wp2
    go_ret
    exact ⟨rfl, G4⟩
  subst h1
  by_cases h61 : s1.proto = 61
  · have hz : ((s1.proto : Int) == 61) = true := by rw [h61]; rfl
    clear SK3 CR HLN HER h61
    go_wp2_with fail
    refine (awake8_any _).mono ?_
    rintro e w4 ⟨rfl, K4⟩
    have G4 := grown_trans G3 K4
    clear K4 G3
    go_wp2
    go_ret
    exact ⟨rfl, G4⟩
  have hz : ((s1.proto : Int) == 61) = false := by rw [beq_eq_false_iff_ne]; omega
  have HLM := HLN.out rfl h61
  have HL : Hid (∀ k : Lk, 0 ≤ k.mp ∧ k.mp ≤ 2 → (∀ (g cap : Nat) (W : World), Cells W (some ⟨g, 0, none⟩) s1.data → Calls Try.prog 10 #[.agg (lkA k), .agg (spA s1 (some ⟨g, 0, none⟩) cap)] W fun e w' => ∃ v, e = .returned (.tuple #[v, .int .i64 0]) ∧ Owns w' W.heap.size v R ∧ W.grownBy w' none)
      ∧ ∃ Y : List UInt8, Y.length + lessV k s1 = R.length ∧ ∀ (g cap : Nat) (W : World), Cells W (some ⟨g, 0, none⟩) s1.data → Calls Try.prog 10 #[.agg (lkA k), .agg (spA s2 (some ⟨g, 0, none⟩) cap)] W fun e w' => ∃ v, e = .returned (.tuple #[v, .int .i64 0]) ∧ Owns w' W.heap.size v Y ∧ W.grownBy w' none) := HLM
  clear HLM HLN HER h61
  go_wp2
  go_loopw [5] (fun i wr => ∃ j : Nat, j ≤ 12 ∧ i = .int .i64 j ∧ VAt wr C 28 (spA s1 a ca) ∧ Cells wr ao R ∧ w.grownBy wr none) (fun i _ => 12 - (intOf i).toNat)
  case atStart => exact ⟨0, Nat.zero_le _, rfl, SK3, CR, G3⟩
  case round =>
    clear SK3 CR G3 c6 hz
    obtain ⟨j, hj, rfl, SK, CR, G3⟩ := hrel
    by_cases hlt : j < 12
    case neg =>
      obtain rfl : j = 12 := by omega
      clear SK CR HL
      go_wp2_with fail
      refine (awake8_any _).mono ?_
      rintro e w4 ⟨rfl, K4⟩
      have G4 := grown_trans G3 K4
      clear K4 G3
      go_wp2
      go_ret
      exact ⟨rfl, G4⟩
    have hl : (j : Int) < 12 := by omega
    go_upto_region 9 with fail
    obtain ⟨l, e0, e1, e2⟩ : ∃ l : Lk, ((j : Int) % 2 == 1) = l.acfc ∧ ((j : Int) / 2 % 2 == 1) = l.pfc ∧ (j : Int) / 4 = l.mp := ⟨⟨_, _, _⟩, rfl, rfl, rfl⟩
    have hmp : 0 ≤ l.mp ∧ l.mp ≤ 2 := by omega
    rw [e0, e1, e2]
    clear e0 e1 e2
    obtain ⟨HMK0, Y, hY, HY0⟩ := HL.out l hmp
    have HMK : Hid (∀ (g cap : Nat) (W : World), Cells W (some ⟨g, 0, none⟩) s1.data → Calls Try.prog 10 #[.agg (lkA l), .agg (spA s1 (some ⟨g, 0, none⟩) cap)] W fun e w' => ∃ v, e = .returned (.tuple #[v, .int .i64 0]) ∧ Owns w' W.heap.size v R ∧ W.grownBy w' none) := HMK0
    have HY : Hid (∀ (g cap : Nat) (W : World), Cells W (some ⟨g, 0, none⟩) s1.data → Calls Try.prog 10 #[.agg (lkA l), .agg (spA s2 (some ⟨g, 0, none⟩) cap)] W fun e w' => ∃ v, e = .returned (.tuple #[v, .int .i64 0]) ∧ Owns w' W.heap.size v Y ∧ W.grownBy w' none) := HY0
    have L0 : VAt (wr.alloc (.cells #[.bool l.acfc, .bool l.pfc, .int .i64 l.mp] 23)) wr.heap.size 23 (lkA l) := VAt.alloc wr 23 (lkA l)
    have K1 := World.grownBy_alloc wr (.cells #[.bool l.acfc, .bool l.pfc, .int .i64 l.mp] 23) none
    have SK1 := SK.kept K1
    have CR1 := CR.keptNone K1
    have G1 := grown_trans G3 K1
    generalize wr.alloc (.cells #[.bool l.acfc, .bool l.pfc, .int .i64 l.mp] 23) = w1 at *
    generalize wr.heap.size = B at *
    clear K1 SK CR G3 wr HMK0 HY0
    have HLS : Hid ((Try.prog.info? 23).map (·.size) = some (lkA l).size) := size23
    have B0 : LS w1 B C l s1 a ca w1 := ⟨L0, SK1, World.grownBy.refl _ _⟩
    clear L0 SK1
    refine wp_region_held_drew (S := fun W => LS w1 B C l s1 a ca W) (by kernel_rfl) (ls_drew B0) (fun hHeld => ?_)
    refine wpAnyH_take (i := 0) (v := .agg (lkA l)) rfl (by kernel_rfl) (by kernel_rfl) (by kernel_rfl) (fun _ _ _ h => h) (yieldsIf_load_row (by rfl) _ _ rfl B rfl 23 (lkA l) _ (fun W hW => hW.1) Try.underlying23 rfl HLS.out) hHeld ?_
    try simp only [Act.put, List.getElem_toArray, List.getElem_cons_zero, List.setIfInBounds_toArray, List.set_cons_zero, List.set_cons_succ]
    refine wpAnyH_take (i := 1) (v := .agg (spA s1 a ca)) rfl (by kernel_rfl) (by kernel_rfl) (by kernel_rfl) (fun _ _ _ h => h) (yieldsIf_load_row (by rfl) _ _ rfl C rfl 28 (spA s1 a ca) _ (fun W hW => hW.2.1) Try.underlying28 rfl HSS.out) hHeld ?_
    try simp only [Act.put, List.getElem_toArray, List.getElem_cons_zero, List.getElem_cons_succ, List.setIfInBounds_toArray, List.set_cons_zero, List.set_cons_succ]
    refine wpAnyH_ready (rs := [2]) (by kernel_rfl) (by simp) (AllReadyH.cons rfl (fun K hK => ?_) AllReadyH.nil)
    go_simp
    refine (lend8_any s1 a ca _ HOK.out (H.out.keptNone (grown_trans G1 hHeld.2.2)) hc0 hn).mono ?_
    rintro e w4 ⟨g0, cap0, rfl, Lw4, Kw4⟩
    obtain ⟨g', cap', e', -, -, -, -, hownw4⟩ := Lw4
    obtain ⟨rfl, rfl⟩ : g0 = g' ∧ cap0 = cap' := by simpa using e'
    clear e'
    have Cw4 := (cells_front hownw4).1
    go_wp2_with fail
    refine hK.out _ _ (ls_call Kw4 hHeld) (fun hHeld => ?_)
    clear hK K hownw4 Kw4
    try simp only [Act.put, List.getElem_toArray, List.getElem_cons_zero, List.getElem_cons_succ, List.setIfInBounds_toArray, List.set_cons_zero, List.set_cons_succ]
    refine wpAnyH_ready (rs := [3]) (by kernel_rfl) (by simp) (AllReadyH.cons rfl (fun K hK => ?_) AllReadyH.nil)
    go_simp
    refine (HMK.out g0 cap0 _ Cw4).mono ?_
    rintro e w5 ⟨x, rfl, Ow5, Kw5⟩
    go_wp2_with fail
    refine hK.out _ _ (ls_call Kw5 hHeld) (fun hHeld => ?_)
    clear hK K Cw4
    try simp only [Act.put, List.getElem_toArray, List.getElem_cons_zero, List.getElem_cons_succ, List.setIfInBounds_toArray, List.set_cons_zero, List.set_cons_succ]
    refine wpAnyH_take (i := 4) (v := .tuple #[x, .int .i64 0]) rfl (by kernel_rfl) (by kernel_rfl) (by kernel_rfl) (fun _ _ _ h => h) (Or.inl ⟨by rfl, fun W hW => ?_⟩) hHeld ?_
    · clear hW
      go_simp
    try simp only [Act.put, List.getElem_toArray, List.getElem_cons_zero, List.getElem_cons_succ, List.setIfInBounds_toArray, List.set_cons_zero, List.set_cons_succ]
    refine wpAnyH_take (i := 5) (v := x) rfl (by kernel_rfl) (by kernel_rfl) (by kernel_rfl) (fun _ _ _ h => h) (Or.inl ⟨by rfl, fun W hW => ?_⟩) hHeld ?_
    · clear hW
      go_simp
    try simp only [Act.put, List.getElem_toArray, List.getElem_cons_zero, List.getElem_cons_succ, List.setIfInBounds_toArray, List.set_cons_zero, List.set_cons_succ]
    refine wpAnyH_take (i := 6) (v := .int .i64 0) rfl (by kernel_rfl) (by kernel_rfl) (by kernel_rfl) (fun _ _ _ h => h) (Or.inl ⟨by rfl, fun W hW => ?_⟩) hHeld ?_
    · clear hW
      go_simp
    try simp only [Act.put, List.getElem_toArray, List.getElem_cons_zero, List.getElem_cons_succ, List.setIfInBounds_toArray, List.set_cons_zero, List.set_cons_succ]
    refine wpAnyH_take (i := 7) (v := x) rfl (by kernel_rfl) (by kernel_rfl) (by kernel_rfl) (fun _ _ _ h => h) (Or.inl ⟨by rfl, fun W hW => ?_⟩) hHeld ?_
    · clear hW
      go_simp
    try simp only [Act.put, List.getElem_toArray, List.getElem_cons_zero, List.getElem_cons_succ, List.setIfInBounds_toArray, List.set_cons_zero, List.set_cons_succ]
    refine wpAnyH_take (i := 8) (v := .int .i64 0) rfl (by kernel_rfl) (by kernel_rfl) (by kernel_rfl) (fun _ _ _ h => h) (Or.inl ⟨by rfl, fun W hW => ?_⟩) hHeld ?_
    · clear hW
      go_simp
    try simp only [Act.put, List.getElem_toArray, List.getElem_cons_zero, List.getElem_cons_succ, List.setIfInBounds_toArray, List.set_cons_zero, List.set_cons_succ]
    refine wpAnyH_done (by kernel_rfl) ?_ _
    obtain ⟨LK, SK, K5⟩ := hHeld
    have G5 := grown_trans G1 K5
    have CR5 := CR1.keptNone K5
    obtain ⟨aox, cox, rfl, CX, -⟩ := Ow5.shape
    clear B0 K5 G1 CR1 Ow5 Kw5 HMK
    go_wp2_with fail
    refine (same_any aox ao cox co _ _ CX CR5 (by omega)).mono ?_
    rintro e w6 ⟨rfl, n6, rfl⟩
    have K6 := grown_drewN w5 n6 none
    have LK6 := LK.kept K6
    have SK6 := SK.kept K6
    have CR6 := CR5.keptNone K6
    have G6 := grown_trans G5 K6
    generalize w5.drewN n6 = w6 at *
    clear CX K6 LK SK CR5 G5
    go_wp2_with (refine wpList_load_row rfl 28 (.tmp 1) rfl C rfl 28 (spA s1 a ca) (0, 0) _ SK6 Try.underlying28 rfl HSS.out ?_)
    refine (lend8_any s1 a ca _ HOK.out (H.out.keptNone G6) hc0 hn).mono ?_
    rintro e w7 ⟨g1, cap1, rfl, L7, K7⟩
    obtain ⟨g', cap', e', -, -, -, hg7, hown⟩ := L7
    obtain ⟨rfl, rfl⟩ : g1 = g' ∧ cap1 = cap' := by simpa using e'
    clear e'
    have HST : Hid ((Try.prog.info? 28).map (·.size) = some (spA s1 (some ⟨g1, 0, none⟩) cap1).size) := spA_size HOK.out _ _
    have hzs : zS.size = (spA s1 (some ⟨g1, 0, none⟩) cap1).size := by rw [zS_size, spA, List.size_toArray, spL_len HOK.out]
    have Z7 := VAt.alloc w7 28 zS
    have T8 := VAt.alloc w7 28 (spA s1 (some ⟨g1, 0, none⟩) cap1)
    have KA := World.grownBy_alloc w7 (.cells (spA s1 (some ⟨g1, 0, none⟩) cap1) 28) none
    have K8 := grown_trans K7 KA
    have C8 := (cells_front hown).1.keptNone KA
    have LK8 := LK6.kept K8
    have SK8 := SK6.kept K8
    have CR8 := CR6.keptNone K8
    have G8 := grown_trans G6 K8
    have hB8 := Nat.lt_of_lt_of_le LK6.lt K7.size
    have hC8 := Nat.lt_of_lt_of_le SK6.lt K7.size
    have hw8 := Nat.le_trans G6.size K7.size
    have hR8 : ∀ ad, ao = some ad → R ≠ [] → ad.block < w7.heap.size := fun ad had hne => Nat.lt_of_lt_of_le (CR6.under ad had hne) K7.size
    clear hown K7 KA K8 LK6 SK6 CR6 G6
    go_upto_region 13 with (refine wpList_store_row rfl 28 (.tmp 9) (.tmp 59) rfl w7.heap.size (spA s1 (some ⟨g1, 0, none⟩) cap1) rfl rfl 28 _ Z7 HST.out hzs (spA_all _ _ _) ?_)
    rw [World.setRow_alloc_new]
    generalize w7.alloc (.cells (spA s1 (some ⟨g1, 0, none⟩) cap1) 28) = w8 at *
    generalize w7.heap.size = D at *
    clear Z7 hzs
    have c0 := (show SAt w8 D s1 (some ⟨g1, 0, none⟩) cap1 from ⟨T8, HOK.out⟩).eight.1
    have f0 := T8.free 0
    have KS : w8.grownBy (w8.setCell ⟨D, 0, none⟩ (.bool false)) (some D) := grown_set1 _ _ _
    have T9 : VAt (w8.setCell ⟨D, 0, none⟩ (.bool false)) D 28 (spA s2 (some ⟨g1, 0, none⟩) cap1) := by
      have k := T8.set 0 (.bool false)
      rw [spA, List.setIfInBounds_toArray, HSZ.out] at k
      exact k
    have C9 := C8.keptUp D (by intro ad had; obtain rfl := Option.some.inj had; exact hg7) KS (by intro k hk; obtain rfl := Option.some.inj hk; exact Nat.le_refl _)
    have LK9 := LK8.grown KS (by simp; omega)
    have SK9 := SK8.grown KS (by simp; omega)
    have CR9 := CR8.kept KS (fun ad had hne e => by have := hR8 ad had hne; have := Option.some.inj e; omega)
    have G9 := grown_trans_new G8 KS (by intro k hk; obtain rfl := Option.some.inj hk; exact hw8)
    clear KS T8 C8 LK8 SK8 CR8 G8 hR8 HST
    go_upto_region 14 with fail
    clear c0 f0
    generalize w8.setCell ⟨D, 0, none⟩ (.bool false) = w9 at *
    have HST : Hid ((Try.prog.info? 28).map (·.size) = some (spA s2 (some ⟨g1, 0, none⟩) cap1).size) := spA_size HOK2.out _ _
    go_wp2_with (first | (refine wpList_load_row rfl 23 (.tmp 6) rfl B rfl 23 (lkA l) (0, 0) _ LK9 Try.underlying23 rfl HLS.out ?_) | (refine wpList_load_row rfl 28 (.tmp 9) rfl D rfl 28 (spA s2 (some ⟨g1, 0, none⟩) cap1) (0, 0) _ T9 Try.underlying28 rfl HST.out ?_))
    refine (HY.out g1 cap1 _ C9).mono ?_
    rintro e w10 ⟨v10, rfl, O10, K10⟩
    obtain ⟨ao10, co10, rfl, -, -⟩ := O10.shape
    have LK10 := LK9.kept K10
    have SK10 := SK9.kept K10
    have CR10 := CR9.keptNone K10
    have G10 := grown_trans G9 K10
    have p1 : w10.cell? ⟨B, 1, none⟩ = some (.bool l.pfc) := LK10.cell 1
    have p6 := (show SAt w10 C s1 a ca from ⟨SK10, HOK.out⟩).eight.2.2.2.2.2.2.1
    clear LK9 SK9 CR9 G9 K10 O10 T9 C9 HST HY LK10
    cases hp : l.pfc with
    | false =>
      rw [hp] at p1
      rw [lessV, if_neg (by rw [hp]; simp)] at hY
      have hz : ((Y.length : Int) != (R.length : Int)) = false := by rw [bne_eq_false_iff_eq]; omega
      go_wp2
      go_roundw
      case rel => exact ⟨j + 1, by omega, by go_num, SK10, CR10, G10⟩
      case measure => simp [intOf]; omega
    | true =>
      rw [hp] at p1
      by_cases h256 : s1.proto < 256
      · have hd : decide ((s1.proto : Int) < 256) = true := decide_eq_true (by omega)
        rw [lessV, if_pos ⟨hp, h256⟩] at hY
        have hr0 : (1 : Int) ≤ (R.length : Int) := by omega
        have hz : ((Y.length : Int) != (R.length : Int) - 1) = false := by rw [bne_eq_false_iff_eq]; omega
        go_wp2
        go_roundw
        case rel => exact ⟨j + 1, by omega, by go_num, SK10, CR10, G10⟩
        case measure => simp [intOf]; omega
      · have hd : decide ((s1.proto : Int) < 256) = false := decide_eq_false (by omega)
        rw [lessV, if_neg (by rintro ⟨_, q⟩; exact h256 q)] at hY
        have hz : ((Y.length : Int) != (R.length : Int)) = false := by rw [bne_eq_false_iff_eq]; omega
        go_wp2
        go_roundw
        case rel => exact ⟨j + 1, by omega, by go_num, SK10, CR10, G10⟩
        case measure => simp [intOf]; omega

set_option maxRecDepth 100000 in
theorem lifted (os : Os) (started : os.Started) (H : Type) (enc : TypeId × Value → H) :
    ReturnsInHanded {} Try.checked os 6 .any (Rows.forgeLinksSpec.pre6 enc Try.prog Try.f6 Rows.forgeLinksRow.domain false) (Rows.forgeLinksSpec.post enc Try.prog Try.f6 false true false false) := by
  refine returnsInHanded_of_change_sized (C := Try.checked) own started (by kernel_rfl) Try.func6
    (ChangeSpec.witness6 (enc := enc) (C := Try.checked) false ⟨#[], #[.agg #[.bool false, .bool false, .bool false, .bool false, .bool false, .int .u32 0, .int .u32 0, .int .i64 0, .int .u8 0, .int .u8 0, .int .u8 0, .int .u8 0, .int .u8 0, .int .u8 0, .int .u8 0, .int .u8 0, .int .u8 0, .int .u8 0, .int .u8 0, .int .u8 0, .int .u8 0, .int .u8 0, .int .u8 0, .int .u8 0, .int .u8 0, .int .u8 0, .int .u8 0, .int .u8 0, .int .u8 0, .int .u8 0, .int .u8 0, .int .u8 0, .int .u8 0, .int .u8 0, .int .u8 0, .int .u8 0, .int .u8 0, .int .u8 0, .int .u8 0, .int .u8 0, .bool false, .int .u32 0, .int .u32 0, .slice none 0 0]], []⟩ 8 (by kernel_rfl) (by kernel_rfl) (by kernel_rfl) (by kernel_rfl)) ?_
  intro W base args ds gs before hval0 hW hcnd hsz0 _
  have hsz : (DataW.weightsEach Try.prog (Try.f6.params.toList ++ Rows.forgeLinksSpec.plain.varTypes Try.prog) (ds ++ gs)).all (· ≤ reachBytes) = true := hsz0
  have hval : ∀ (j : Nat) t v, Try.f6.params[j]? = some t → args[j]? = some v → Value.okWide Try.prog W .any base t v := hval0
  have hW' := hW
  obtain ⟨p, q, hA0, hV, rfl, hfz, hnd⟩ := hW
  have hA : DataW.TrodAll enc Try.prog W 0 (fun _ => true) true Try.f6.params.toList args.toList ds p := hA0
  rw [Try.params6] at hA hval hsz
  obtain ⟨v0, vs0, d0, ds0, p0, q0, hargs, rfl, rfl, h0, r0⟩ := trodAll_cons hA
  obtain ⟨rfl, rfl, rfl⟩ := trodAll_nil r0
  obtain rfl : args = #[v0] := by cases args; simp_all
  obtain ⟨rfl, rfl⟩ := trodVars_none hV
  have k0 := h0
  have lt0 : ∀ x ∈ p0, x.block < W.heap.size := by obtain ⟨m, hm⟩ := k0; exact DataW.trod_lt m _ _ _ hm
  obtain ⟨s0, a0, cap0, rfl, hok0, hcells0, hnil0, hcp0, parts0, e0, rfl, hpp0, hdt0⟩ := open_spec h0
  have hlen0 := sized_spec hsz (j := 0) rfl rfl hpp0 hdt0
  clear hA0 hval0
  refine (walk s0 a0 cap0 W hok0 hcells0 hnil0 hcp0 hlen0).mono fun e W' ⟨he, hg⟩ => ?_
  subst he
  have bel : Below W.heap.size W W' := (Below.refl _ _).grown hg (Nat.le_refl _) (by simp)
  exact ⟨_, rfl, _, _, _, [], _, [], hW', trodAll_mk1 (shut_bool Try.underlying4 _), (trodAll_cons_mk (Below.trod laidOut (by kernel_rfl) (of_decide_eq_true (by kernel_rfl)) k0 bel lt0) trodAll_mk0), rfl, bel.frame _, fun h => by cases h⟩

theorem over : Rows.ForgeLinksSaid :=
  OpenClaim.holds_of_wide 6 Try.f6 rfl rfl rfl rfl rfl rfl rfl ⟨rfl, rfl, rfl, rfl, rfl⟩ rfl rfl rfl rfl rfl (by kernel_rfl) Try.func6 (by kernel_rfl)
    (of_decide_eq_true (by kernel_rfl)) (by unfold Func.isWrapper; first | (rw [if_pos (by decide +kernel)]; kernel_rfl) | (rw [if_neg (by decide +kernel)]; exact ⟨rfl, rfl⟩))
    (fun os started H enc _ => lifted os started H enc)

end forgeLinks

theorem forgeLinks_holds : Rows.ForgeLinksSaid := forgeLinks.over
#print axioms forgeLinks_holds

end Go.Proofs.Ytfjjmeanmlimoaa
