/-
  For every list of bytes (of at most 2^47 - 4096 bytes of room, as the form itself says of each argument), every int and every uint32 riddlelaw9.BundlePieces returns true and leaves what was there as it was: no condition of ours.
-/
import Derived.Test.YtgfiadljjlajaaaBundleP
import Derived.Test.YtgfiadljjlajaaaBundleQ
import Derived.Test.YtgfiadljjlajaaaHand
import Derived.Test.YtgfiadljjlajaaaFrameC
import Derived.Test.YtgfiadljjlajaaaLow
import Derived.Test.YtgfiadljjlajaaaOpen
namespace Go.Proofs.Ytgfiadljjlajaaa
open Go.ChangeShapes Go.WideShapes Go.ChangeAt Go.RowKit
open Go.ChangeMaps (open_string shut_string)
set_option maxRecDepth 100000
namespace bundlePieces

set_option maxRecDepth 100000 in
set_option maxHeartbeats 8000000 in
theorem walk (a : Option Addr) (ca : Nat) (b : List UInt8) (x : Int) (f : Nat) (w : World) (ha : Cells w a b) (hc0 : a = none → ca = 0) (hn : b.length ≤ 140737488351232) (hf : f ≤ 4294967295) :
    Calls Try.prog 8 #[.slice a b.length ca, .int .i64 x, .int .u32 (f : Int)] w fun e w' => e = .returned (.bool true) ∧ w.grownBy w' none := by
  obtain ⟨i0, hi, hz0, hz1, hz2⟩ := info_parts info5
  have H : Hid (Cells w a b) := ha
  have HLS : Hid ((Try.prog.info? 23).map (·.size) = some (lkA k10).size) := size23
  have HVS : Hid ((Try.prog.info? 53).map (·.size) = some 9) := size53
  have LK := VAt.alloc w 23 (lkA k10)
  have GL := World.grownBy_alloc w (.cells (lkA k10) 23) none
  obtain ⟨sz, hsz⟩ : ∃ sz, 1 + lowV x % 300 = sz := ⟨_, rfl⟩
  obtain ⟨lo, hlo⟩ : ∃ lo, lowV x = lo := ⟨_, rfl⟩
  have hlo2 : lo < 9223372036854775808 := by rw [← hlo]; exact lowV_lt x
  rw [hlo] at hsz
  have hl1 : ((lo : Int)).tmod 300 = ((lo % 300 : Nat) : Int) := by rw [Int.tmod_eq_emod_of_nonneg (by omega)]; omega
  have hszb : 1 ≤ sz ∧ sz ≤ 300 := by omega
  have CLW : Hid (∀ W : World, Calls Try.prog 23 #[.int .i64 x] W fun e w' => e = .returned (.int .i64 (lo : Int)) ∧ W = w') := fun W => by
    have k := low_any x W
    rw [hlo] at k
    exact k
  clear ha hlo
  go_enter Try.func8, Try.ntmps8
  go_wp2_with fail
  refine (CLW.out _).mono ?_
  rintro e w1 ⟨rfl, rfl⟩
  clear CLW
  have hsz2 : (1 : Int) + (lo : Int) % 300 = (sz : Int) := by omega
  go_upto_region 3 with fail
  rw [show w.alloc (.cells #[.bool false, .bool false, .int .i64 2] 23) = w.alloc (.cells (lkA k10) 23) from rfl]
  generalize w.alloc (.cells (lkA k10) 23) = w1 at *
  obtain ⟨L, hL⟩ : ∃ L, w.heap.size = L := ⟨_, rfl⟩
  have HLw : Hid (w.heap.size = L) := hL
  rw [hL] at LK ⊢
  have O1 := owns_lit w1 w1.heap.size (Nat.le_refl _) [192, 33] (by unfold maxLen; simp)
  have KA := World.grownBy_alloc w1 (.cells #[.int .u8 192, .int .u8 33] 5) none
  clear hL hl1 hsz hsz2 hlo2
  go_wp2_with (at_builtin; refine wpList_append_rd rfl (.tmp 21) (.tmp 22) 24 rfl i0 Try.underlying24 hi hz0 hz1 hz2 w1.heap.size _ [192, 33] rfl ?q1 a ca b rfl hc0 ?q2 ?q3 ?q4 ?q5)
  case q1 => exact O1
  case q2 => exact (H.out.keptNone GL).keptNone KA
  case q3 => simp only [List.length_cons, List.length_nil]; omega
  case q4 => exact KA.size
  case q5 =>
  intro v2 w2 O2 KB
  have K2 : w1.grownBy w2 none := grown_trans_new KA KB (fun y hy => (O1.lt y hy).1)
  have G2 := grown_trans GL K2
  have LK2 := LK.kept K2
  obtain ⟨a2, k2, rfl, C2, z2, -⟩ := O2.items
  rw [show (192 :: 33 :: b).length = b.length + 2 from rfl]
  have HC2 : Hid (Cells w2 a2 (192 :: 33 :: b)) := C2
  clear O1 KA KB O2 K2 GL LK C2
  by_cases hg : b.length + 2 ≤ 4000 ∧ 2 ≤ sz
  case neg =>
    have hcase : decide ((4000 : Int) < (b.length : Int) + 2) = true ∨ (decide ((4000 : Int) < (b.length : Int) + 2) = false ∧ decide ((sz : Int) < 2) = true) := by
      by_cases h1 : 4000 < b.length + 2
      · exact .inl (decide_eq_true (by omega))
      · exact .inr ⟨decide_eq_false (by omega), decide_eq_true (by omega)⟩
    rcases hcase with h1 | ⟨h1, h2⟩
    all_goals
      go_wp2_with fail
      refine (awake9_any _).mono ?_
      rintro e w3 ⟨rfl, K3'⟩
      go_wp2
      go_ret
      exact ⟨rfl, grown_trans G2 K3'⟩
  obtain ⟨g1, g2⟩ := hg
  have h1 : decide ((4000 : Int) < (b.length : Int) + 2) = false := decide_eq_false (by omega)
  have h2 : decide ((sz : Int) < 2) = false := decide_eq_false (by omega)
  obtain ⟨fr, hfr⟩ : ∃ fr, f % 16777216 = fr := ⟨_, rfl⟩
  have hfr1 : (f : Int) % 16777216 = (fr : Int) := by omega
  have hfr2 : (f : Int).tmod 16777216 = (fr : Int) := by rw [Int.tmod_eq_emod_of_nonneg (by omega)]; exact hfr1
  have hfrl : fr < 16777216 := by omega
  have HSP : Hid (splitX k10 (192 :: 33 :: b) (sz : Int) fr = .ok (splitL k10 (192 :: 33 :: b) sz fr)) := by
    show splitX _ _ _ _ = _
    unfold splitX
    rw [if_neg (by decide), if_neg (by rw [show spV k10 = 16777216 from rfl]; omega), if_neg (by simp only [List.length_cons]; omega), if_neg (by simp only [List.length_cons]; omega), Int.toNat_natCast]
  have hcl : (192 :: 33 :: b).length = b.length + 2 := rfl
  go_upto_region 6 with fail
  have HCPA : Hid (∀ W : World, w2.grownBy W none → Calls Try.prog 13 #[.slice a2 (b.length + 2) k2] W fun e w' => ∃ v, e = .returned v ∧ Owns w' W.heap.size v (192 :: 33 :: b) ∧ W.grownBy w' none) := fun W K => copy_any a2 k2 _ W (HC2.out.keptNone K) z2 (by rw [hcl]; omega)
  have HSPL : Hid (∀ (W : World) (ao : Option Addr) (k : Nat), Cells W ao (192 :: 33 :: b) → (ao = none → k = 0) → b.length + 2 ≤ k → Calls Try.prog 11 #[.agg #[.bool false, .bool false, .int .i64 2], .slice ao (b.length + 2) k, .int .i64 (sz : Int), .int .u32 (fr : Int)] W fun e w' => ∃ v, e = .returned (.tuple #[v, .int .i64 0]) ∧ LL w' W.heap.size v (splitL k10 (192 :: 33 :: b) sz fr) ∧ W.grownBy w' none) := fun W ao k h1 h2 h3 => by
    have q := split_any k10 ao k (192 :: 33 :: b) (sz : Int) fr W h1 h2 h3 (by rw [hcl]; omega)
    rw [HSP.out] at q
    exact q
  refine wp_region_held_drew (S := fun W => VAt W L 23 (lkA k10) ∧ w2.grownBy W none) (by kernel_rfl) (⟨LK2.kept (grown_drewN w2 1 none), grown_drewN w2 1 none⟩) (fun hHeld => ?_)
  refine wpAnyH_take (i := 0) (v := .agg (lkA k10)) rfl (by kernel_rfl) (by kernel_rfl) (by kernel_rfl) (fun _ _ _ h => h) (yieldsIf_load_row (by rfl) _ _ rfl L rfl 23 (lkA k10) _ (fun W hW => hW.1) Try.underlying23 rfl HLS.out) hHeld ?_
  try simp only [Act.put, List.getElem_toArray, List.getElem_cons_zero, List.setIfInBounds_toArray, List.set_cons_zero, List.set_cons_succ]
  refine wpAnyH_take (i := 1) (v := .slice a2 (b.length + 2) k2) rfl (by kernel_rfl) (by kernel_rfl) (by kernel_rfl) (fun _ _ _ h => h) (Or.inl ⟨by rfl, fun W hW => ?_⟩) hHeld ?_
  · clear hW
    go_simp
  try simp only [Act.put, List.getElem_toArray, List.getElem_cons_zero, List.getElem_cons_succ, List.setIfInBounds_toArray, List.set_cons_zero, List.set_cons_succ]
  refine wpAnyH_take (i := 3) (v := .int .i64 (sz : Int)) rfl (by kernel_rfl) (by kernel_rfl) (by kernel_rfl) (fun _ _ _ h => h) (Or.inl ⟨by rfl, fun W hW => ?_⟩) hHeld ?_
  · clear hW
    go_simp
  try simp only [Act.put, List.getElem_toArray, List.getElem_cons_zero, List.getElem_cons_succ, List.setIfInBounds_toArray, List.set_cons_zero, List.set_cons_succ]
  refine wpAnyH_take (i := 4) (v := .int .u32 (f : Int)) rfl (by kernel_rfl) (by kernel_rfl) (by kernel_rfl) (fun _ _ _ h => h) (Or.inl ⟨by rfl, fun W hW => ?_⟩) hHeld ?_
  · clear hW
    go_simp
  try simp only [Act.put, List.getElem_toArray, List.getElem_cons_zero, List.getElem_cons_succ, List.setIfInBounds_toArray, List.set_cons_zero, List.set_cons_succ]
  refine wpAnyH_take (i := 5) (v := .int .u32 (fr : Int)) rfl (by kernel_rfl) (by kernel_rfl) (by kernel_rfl) (fun _ _ _ h => h) (Or.inl ⟨by rfl, fun W hW => ?_⟩) hHeld ?_
  · clear hW
    go_simp
  try simp only [Act.put, List.getElem_toArray, List.getElem_cons_zero, List.getElem_cons_succ, List.setIfInBounds_toArray, List.set_cons_zero, List.set_cons_succ]
  refine wpAnyH_ready (rs := [2]) (by kernel_rfl) (by simp) (AllReadyH.cons rfl (fun K hK => ?_) AllReadyH.nil)
  go_simp
  refine (HCPA.out _ hHeld.2).mono ?_
  rintro e v1 ⟨y, rfl, O3, K1⟩
  obtain ⟨ao3, ca3, rfl, C3, z3, r3⟩ := O3.items
  rw [hcl] at r3 ⊢
  clear O3
  go_wp2_with fail
  refine hK.out _ _ (⟨hHeld.1.kept K1, grown_trans hHeld.2 K1⟩) (fun hHeld => ?_)
  clear hK K
  try simp only [Act.put, List.getElem_toArray, List.getElem_cons_zero, List.getElem_cons_succ, List.setIfInBounds_toArray, List.set_cons_zero, List.set_cons_succ]
  refine wpAnyH_ready (rs := [6]) (by kernel_rfl) (by simp) (AllReadyH.cons rfl (fun K hK => ?_) AllReadyH.nil)
  go_simp
  refine (HSPL.out _ ao3 ca3 C3 z3 r3).mono ?_
  rintro e v2 ⟨v, rfl, LV, K2⟩
  go_wp2_with fail
  refine hK.out _ _ (⟨hHeld.1.kept K2, grown_trans hHeld.2 K2⟩) (fun hHeld => ?_)
  clear hK K
  try simp only [Act.put, List.getElem_toArray, List.getElem_cons_zero, List.getElem_cons_succ, List.setIfInBounds_toArray, List.set_cons_zero, List.set_cons_succ]
  refine wpAnyH_take (i := 7) (v := .tuple #[v, .int .i64 0]) rfl (by kernel_rfl) (by kernel_rfl) (by kernel_rfl) (fun _ _ _ h => h) (Or.inl ⟨by rfl, fun W hW => ?_⟩) hHeld ?_
  · clear hW
    go_simp
  try simp only [Act.put, List.getElem_toArray, List.getElem_cons_zero, List.getElem_cons_succ, List.setIfInBounds_toArray, List.set_cons_zero, List.set_cons_succ]
  refine wpAnyH_take (i := 8) (v := v) rfl (by kernel_rfl) (by kernel_rfl) (by kernel_rfl) (fun _ _ _ h => h) (Or.inl ⟨by rfl, fun W hW => ?_⟩) hHeld ?_
  · clear hW
    go_simp
  try simp only [Act.put, List.getElem_toArray, List.getElem_cons_zero, List.getElem_cons_succ, List.setIfInBounds_toArray, List.set_cons_zero, List.set_cons_succ]
  refine wpAnyH_take (i := 9) (v := .int .i64 0) rfl (by kernel_rfl) (by kernel_rfl) (by kernel_rfl) (fun _ _ _ h => h) (Or.inl ⟨by rfl, fun W hW => ?_⟩) hHeld ?_
  · clear hW
    go_simp
  try simp only [Act.put, List.getElem_toArray, List.getElem_cons_zero, List.getElem_cons_succ, List.setIfInBounds_toArray, List.set_cons_zero, List.set_cons_succ]
  refine wpAnyH_take (i := 10) (v := v) rfl (by kernel_rfl) (by kernel_rfl) (by kernel_rfl) (fun _ _ _ h => h) (Or.inl ⟨by rfl, fun W hW => ?_⟩) hHeld ?_
  · clear hW
    go_simp
  try simp only [Act.put, List.getElem_toArray, List.getElem_cons_zero, List.getElem_cons_succ, List.setIfInBounds_toArray, List.set_cons_zero, List.set_cons_succ]
  refine wpAnyH_take (i := 11) (v := .int .i64 0) rfl (by kernel_rfl) (by kernel_rfl) (by kernel_rfl) (fun _ _ _ h => h) (Or.inl ⟨by rfl, fun W hW => ?_⟩) hHeld ?_
  · clear hW
    go_simp
  try simp only [Act.put, List.getElem_toArray, List.getElem_cons_zero, List.getElem_cons_succ, List.setIfInBounds_toArray, List.set_cons_zero, List.set_cons_succ]
  refine wpAnyH_done (by kernel_rfl) ?_ _
  have G4 := grown_trans G2 hHeld.2
  have LK4 := hHeld.1
  obtain ⟨vs, LV⟩ := LV
  obtain ⟨n, hnn⟩ : ∃ n, cntV (b.length + 2) sz = n := ⟨_, rfl⟩
  have hn1 : 1 ≤ n := by rw [← hnn]; exact cnt_pos _ _ (by omega)
  have hn2 : n ≤ 5000 := by
    rw [← hnn]
    by_cases h : 5001 ≤ cntV (b.length + 2) sz
    · have := cnt_lt (n := b.length + 2) (most := sz) (i := 4999) (by omega) (by omega)
      have : 5000 * 1 ≤ 5000 * sz := Nat.mul_le_mul_left _ (by omega)
      omega
    · omega
  have hLL : (splitL k10 (192 :: 33 :: b) sz fr).length = n := by rw [splitL, List.length_map, List.length_range, hcl, hnn]
  obtain ⟨gg, cap, hv⟩ : ∃ g cap, v = .slice (some ⟨g, 0, none⟩) n cap := by
    obtain ⟨g, cap, -, -, hv, -⟩ := LV.item (i := 0) (by omega)
    rw [hLL] at hv
    exact ⟨g, cap, hv⟩
  subst hv
  have HIT : Hid (∀ i, i < n → ∃ ao ca, v2.cell? ⟨gg, i, none⟩ = some (.slice ao (pcV k10 (192 :: 33 :: b) sz fr i).length ca) ∧ Cells v2 ao (pcV k10 (192 :: 33 :: b) sz fr i) ∧ (ao = none → ca = 0)) := by
    intro i hi
    obtain ⟨g', cap', ao, ca, hv, hc, -, C, O⟩ := LV.item (i := i) (by omega)
    rw [hLL] at hv
    simp only [Value.slice.injEq, Option.some.injEq, Addr.mk.injEq, and_true, true_and] at hv
    obtain ⟨rfl, rfl⟩ := hv
    have e : (splitL k10 (192 :: 33 :: b) sz fr).getD i [] = pcV k10 (192 :: 33 :: b) sz fr i := by
      unfold splitL
      rw [List.getD_eq_getElem?_getD, List.getElem?_map, List.getElem?_range (by rw [hcl, hnn]; exact hi)]
      rfl
    rw [e] at hc C O
    obtain ⟨p1, q1, r1, -, -, -, u1, -⟩ := cv_of_row O
    simp only [Value.slice.injEq] at r1
    obtain ⟨rfl, -, rfl⟩ := r1
    exact ⟨ao, ca, hc, C, u1⟩
  have HLP : Hid (∀ i, i < n → ∃ u : Vw, lookX k10 (pcV k10 (192 :: 33 :: b) sz fr i) = .ok u ∧ u.proto = (if i = 0 then 49185 else 61) ∧ u.multi = true ∧ u.beg = decide (i = 0) ∧ u.fin = decide (i + 1 = n) ∧ u.seq = (fr + i) % 16777216) := by
    intro i hi
    obtain ⟨pos, hp⟩ := look_piece b sz fr i g2 (by omega)
    rw [hnn] at hp
    exact ⟨_, hp, rfl, rfl, rfl, rfl, rfl⟩
  have HPB : Hid (∀ i, (pcV k10 (192 :: 33 :: b) sz fr i).length ≤ 400) := by
    intro i
    have e1 := pc_len k10 (192 :: 33 :: b) sz fr i
    have e2 := chunk_len (192 :: 33 :: b) sz i
    have e5 : szV k10 = 4 := rfl
    omega
  clear LV hLL hHeld HSPL HCPA HSP C3 K1 K2 LK2 G2 z3 r3
  go_wp2
  have HL4 : Hid (VAt v2 L 23 (lkA k10)) := LK4
  clear LK4
  generalize hpcs : pcV k10 (192 :: 33 :: b) sz fr = pcs at *
  clear hpcs
  go_loopw [12] (fun x wr => ∃ i : Nat, i ≤ n ∧ x = .int .i64 i ∧ v2.grownBy wr none) (fun x _ => n - (intOf x).toNat)
  case atStart => exact ⟨0, Nat.zero_le _, rfl, World.grownBy.refl _ _⟩
  case round =>
    obtain ⟨i, hi', rfl, K⟩ := hrel
    by_cases hlt : i < n
    · obtain ⟨ao, ca1, ci0, C0, zz⟩ := HIT.out i hlt
      obtain ⟨u, hu, u1, u2, u3, u4, u5⟩ := HLP.out i hlt
      have HLr : Hid (VAt wr L 23 (lkA k10)) := HL4.out.kept K
      have ci := K.cell ci0 (by simp)
      obtain ⟨pc, hpc⟩ : ∃ pc, pcs i = pc := ⟨_, rfl⟩
      have hpb := HPB.out i
      rw [hpc] at ci C0 hu hpb
      obtain ⟨PN, hPN⟩ : ∃ PN, pc.length = PN := ⟨_, rfl⟩
      rw [hPN] at ci hpb
      have HPL : Hid (pc.length = PN) := hPN
      have HCP : Hid (∀ W : World, wr.grownBy W none → Calls Try.prog 13 #[.slice ao PN ca1] W fun e w' => ∃ v, e = .returned v ∧ Owns w' W.heap.size v pc ∧ W.grownBy w' none) := fun W KW => by
        have q := copy_any ao ca1 pc W (C0.keptNone (grown_trans K KW)) zz (by rw [hPN]; omega)
        rw [hPN] at q
        exact q
      have HLK : Hid (∀ (a5 : Option Addr) (k5 : Nat) (W : World), Cells W a5 pc → Calls Try.prog 24 #[.agg (lkA k10), .slice a5 PN k5] W fun e w' => e = .returned (.tuple #[.agg (vwA u), .int .i64 0]) ∧ W.grownBy w' none) := fun a5 k5 W h => by
        have q := look_any k10 a5 k5 pc W h (by rw [hPN]; omega)
        rw [hu, hPN] at q
        exact q
      have hli : (i : Int) < (n : Int) := by omega
      have hi0 : (0 : Int) ≤ (i : Int) := by omega
      have HUU : Hid (u.proto = (if i = 0 then 49185 else 61) ∧ u.multi = true ∧ u.beg = decide (i = 0) ∧ u.fin = decide (i + 1 = n) ∧ u.seq = (fr + i) % 16777216) := ⟨u1, u2, u3, u4, u5⟩
      clear ci0 C0 hu u1 u2 u3 u4 u5 hPN hpc
      generalize hgg : gg = g at *
      go_upto_region 12 with fail
      go_cut [13, 14] from 50 to 59 (fun s e wx => ∃ V, s = .pointer (some ⟨V, 0, none⟩) ∧ e = .int .i64 0 ∧ VAt wx V 53 (vwA u) ∧ wr.grownBy wx none)
      case first =>
        refine wp_region_held_drew (S := fun W => VAt W L 23 (lkA k10) ∧ W.cell? ⟨g, i, none⟩ = some (.slice ao PN ca1) ∧ wr.grownBy W none) (by kernel_rfl) (⟨HLr.out.kept (grown_drewN wr 1 none), (grown_drewN wr 1 none).cell ci (by simp), grown_drewN wr 1 none⟩) (fun hHeld => ?_)
        refine wpAnyH_take (i := 0) (v := .agg (lkA k10)) rfl (by kernel_rfl) (by kernel_rfl) (by kernel_rfl) (fun _ _ _ h => h) (yieldsIf_load_row (by rfl) _ _ rfl L rfl 23 (lkA k10) _ (fun W hW => hW.1) Try.underlying23 rfl HLS.out) hHeld ?_
        try simp only [Act.put, List.getElem_toArray, List.getElem_cons_zero, List.setIfInBounds_toArray, List.set_cons_zero, List.set_cons_succ]
        refine wpAnyH_take (i := 1) (v := .slice (some ⟨g, 0, none⟩) n cap) rfl (by kernel_rfl) (by kernel_rfl) (by kernel_rfl) (fun _ _ _ h => h) (Or.inl ⟨by rfl, fun W hW => ?_⟩) hHeld ?_
        · clear hW
          go_simp
        try simp only [Act.put, List.getElem_toArray, List.getElem_cons_zero, List.getElem_cons_succ, List.setIfInBounds_toArray, List.set_cons_zero, List.set_cons_succ]
        refine wpAnyH_take (i := 2) (v := .int .i64 (i : Int)) rfl (by kernel_rfl) (by kernel_rfl) (by kernel_rfl) (fun _ _ _ h => h) (Or.inl ⟨by rfl, fun W hW => ?_⟩) hHeld ?_
        · clear hW
          go_simp
        try simp only [Act.put, List.getElem_toArray, List.getElem_cons_zero, List.getElem_cons_succ, List.setIfInBounds_toArray, List.set_cons_zero, List.set_cons_succ]
        refine wpAnyH_take (i := 3) (v := .pointer (some ⟨g, i, none⟩)) rfl (by kernel_rfl) (by kernel_rfl) (by kernel_rfl) (fun _ _ _ h => h) (Or.inl ⟨by rfl, fun W hW => ?_⟩) hHeld ?_
        · clear hW
          go_simp
        try simp only [Act.put, List.getElem_toArray, List.getElem_cons_zero, List.getElem_cons_succ, List.setIfInBounds_toArray, List.set_cons_zero, List.set_cons_succ]
        refine wpAnyH_take (i := 4) (v := .slice ao PN ca1) rfl (by kernel_rfl) (by kernel_rfl) (by kernel_rfl) (fun _ _ _ h => h) (Or.inl ⟨by rfl, fun W hW => ?_⟩) hHeld ?_
        · have c := hW.2.1
          clear hW
          go_simp
        try simp only [Act.put, List.getElem_toArray, List.getElem_cons_zero, List.getElem_cons_succ, List.setIfInBounds_toArray, List.set_cons_zero, List.set_cons_succ]
        refine wpAnyH_ready (rs := [5, 10]) (by kernel_rfl) (by simp) (AllReadyH.cons rfl (fun K hK => ?_) (AllReadyH.cons rfl (fun K hK => ?_) AllReadyH.nil))
        · go_simp
          refine (HCP.out _ hHeld.2.2).mono ?_
          rintro e v1 ⟨y, rfl, O, K1⟩
          obtain ⟨a5, k5, rfl, C5, z5, -⟩ := O.items
          rw [HPL.out]
          have HC5 : Hid (Cells v1 a5 pc) := C5
          clear O C5
          go_wp2_with fail
          refine hK.out _ _ (⟨hHeld.1.kept K1, K1.cell hHeld.2.1 (by simp), grown_trans hHeld.2.2 K1⟩) (fun hHeld => ?_)
          clear hK K
          try simp only [Act.put, List.getElem_toArray, List.getElem_cons_zero, List.getElem_cons_succ, List.setIfInBounds_toArray, List.set_cons_zero, List.set_cons_succ]
          refine wpAnyH_ready (rs := [6, 10]) (by kernel_rfl) (by simp) (AllReadyH.cons rfl (fun K hK => ?_) (AllReadyH.cons rfl (fun K hK => ?_) AllReadyH.nil))
          · go_simp
            refine (HLK.out a5 k5 _ HC5.out).mono ?_
            rintro e v2 ⟨rfl, K2⟩
            have HC5_ := (show Hid (Cells _ a5 pc) from HC5.out.keptNone K2)
            clear HC5
            have HC5 := HC5_
            clear HC5_
            go_wp2_with fail
            refine hK.out _ _ (⟨hHeld.1.kept K2, K2.cell hHeld.2.1 (by simp), grown_trans hHeld.2.2 K2⟩) (fun hHeld => ?_)
            clear hK K
            try simp only [Act.put, List.getElem_toArray, List.getElem_cons_zero, List.getElem_cons_succ, List.setIfInBounds_toArray, List.set_cons_zero, List.set_cons_succ]
            refine wpAnyH_take (i := 7) (v := .tuple #[.agg (vwA u), .int .i64 0]) rfl (by kernel_rfl) (by kernel_rfl) (by kernel_rfl) (fun _ _ _ h => h) (Or.inl ⟨by rfl, fun W hW => ?_⟩) hHeld ?_
            · clear hW
              go_simp
            try simp only [Act.put, List.getElem_toArray, List.getElem_cons_zero, List.getElem_cons_succ, List.setIfInBounds_toArray, List.set_cons_zero, List.set_cons_succ]
            refine wpAnyH_take (i := 8) (v := .agg (vwA u)) rfl (by kernel_rfl) (by kernel_rfl) (by kernel_rfl) (fun _ _ _ h => h) (Or.inl ⟨by rfl, fun W hW => ?_⟩) hHeld ?_
            · clear hW
              go_simp
            try simp only [Act.put, List.getElem_toArray, List.getElem_cons_zero, List.getElem_cons_succ, List.setIfInBounds_toArray, List.set_cons_zero, List.set_cons_succ]
            refine wpAnyH_take (i := 9) (v := .int .i64 0) rfl (by kernel_rfl) (by kernel_rfl) (by kernel_rfl) (fun _ _ _ h => h) (Or.inl ⟨by rfl, fun W hW => ?_⟩) hHeld ?_
            · clear hW
              go_simp
            try simp only [Act.put, List.getElem_toArray, List.getElem_cons_zero, List.getElem_cons_succ, List.setIfInBounds_toArray, List.set_cons_zero, List.set_cons_succ]
            refine wpAnyH_ready (rs := [10]) (by kernel_rfl) (by simp) (AllReadyH.cons rfl (fun K hK => ?_) AllReadyH.nil)
            refine step_alloc (by rfl) 53 (by rfl) (vwA Vw.zero) (alloc_view) ?_
            intro V v3 AV K3 hbV
            have hVw : wr.heap.size ≤ V := Nat.le_trans hHeld.2.2.size hbV
            have HC5_ := (show Hid (Cells _ a5 pc) from HC5.out.keptNone K3)
            clear HC5
            have HC5 := HC5_
            clear HC5_
            refine hK.out _ _ (⟨hHeld.1.kept K3, K3.cell hHeld.2.1 (by simp), grown_trans hHeld.2.2 K3⟩) (fun hHeld => ?_)
            clear hK K
            try simp only [Act.put, List.getElem_toArray, List.getElem_cons_zero, List.getElem_cons_succ, List.setIfInBounds_toArray, List.set_cons_zero, List.set_cons_succ]
            refine wpAnyH_ready (rs := [11]) (by kernel_rfl) (by simp) (AllReadyH.cons rfl (fun K hK => ?_) AllReadyH.nil)
            rw [if_pos (by rfl)]
            refine wp_store_row 53 (.tmp 13) (.tmp 58) rfl V (vwA u) rfl rfl 53 _ AV (HVS.out) rfl (vwA_all _) ?_
            have KS := vgrown_setRow (World.grownBy.refl v3 (some V)) V (vwA u) (.inl rfl)
            have hLV : some V ≠ some L := by have := HLr.out.lt; simp only [ne_eq, Option.some.injEq]; omega
            have hgV : V ≠ g := by have := World.block_lt_of_cell? wr _ ci; simp only at this; omega
            refine hK.out _ _ ⟨hHeld.1.grown KS hLV, KS.cell hHeld.2.1 (by simp only [ne_eq, Option.some.injEq]; omega), vgrown_setRow hHeld.2.2 V _ (.inr hVw)⟩ (fun hHeld => ?_)
            clear hK K
            try simp only [Act.put, List.getElem_toArray, List.getElem_cons_zero, List.getElem_cons_succ]
            refine wpAnyH_take (i := 12) (v := .int .i64 0) rfl (by kernel_rfl) (by kernel_rfl) (by kernel_rfl) (fun _ _ _ h => h) (Or.inl ⟨by rfl, fun W hW => ?_⟩) hHeld ?_
            · clear hW
              go_simp
            try simp only [Act.put, List.getElem_toArray, List.getElem_cons_zero, List.getElem_cons_succ, List.setIfInBounds_toArray, List.set_cons_zero, List.set_cons_succ]
            refine wpAnyH_done (by kernel_rfl) ?_ _
            have AV2 := AV.setRow (vwA u)
            have GF := hHeld.2.2
            clear AV hHeld
            have HFIN : Hid (VAt (v3.setRow V (vwA u)) V 53 (vwA u) ∧ wr.grownBy (v3.setRow V (vwA u)) none) := ⟨AV2, GF⟩
            go_wp2
            go_meet
            exact ⟨V, rfl, rfl, HFIN.out⟩
          · refine step_alloc (by rfl) 53 (by rfl) (vwA Vw.zero) (alloc_view) ?_
            intro V v4 AV K4 hbV
            have hVw : wr.heap.size ≤ V := Nat.le_trans hHeld.2.2.size hbV
            have HC5_ := (show Hid (Cells _ a5 pc) from HC5.out.keptNone K4)
            clear HC5
            have HC5 := HC5_
            clear HC5_
            refine hK.out _ _ (⟨hHeld.1.kept K4, K4.cell hHeld.2.1 (by simp), grown_trans hHeld.2.2 K4⟩) (fun hHeld => ?_)
            clear hK K
            try simp only [Act.put, List.getElem_toArray, List.getElem_cons_zero, List.getElem_cons_succ, List.setIfInBounds_toArray, List.set_cons_zero, List.set_cons_succ]
            refine wpAnyH_ready (rs := [6]) (by kernel_rfl) (by simp) (AllReadyH.cons rfl (fun K hK => ?_) AllReadyH.nil)
            go_simp
            refine (HLK.out a5 k5 _ HC5.out).mono ?_
            rintro e v5 ⟨rfl, K5⟩
            have HC5_ := (show Hid (Cells _ a5 pc) from HC5.out.keptNone K5)
            clear HC5
            have HC5 := HC5_
            clear HC5_
            have AV_ := AV.kept K5
            clear AV
            have AV := AV_
            clear AV_
            go_wp2_with fail
            refine hK.out _ _ (⟨hHeld.1.kept K5, K5.cell hHeld.2.1 (by simp), grown_trans hHeld.2.2 K5⟩) (fun hHeld => ?_)
            clear hK K
            try simp only [Act.put, List.getElem_toArray, List.getElem_cons_zero, List.getElem_cons_succ, List.setIfInBounds_toArray, List.set_cons_zero, List.set_cons_succ]
            refine wpAnyH_take (i := 7) (v := .tuple #[.agg (vwA u), .int .i64 0]) rfl (by kernel_rfl) (by kernel_rfl) (by kernel_rfl) (fun _ _ _ h => h) (Or.inl ⟨by rfl, fun W hW => ?_⟩) hHeld ?_
            · clear hW
              go_simp
            try simp only [Act.put, List.getElem_toArray, List.getElem_cons_zero, List.getElem_cons_succ, List.setIfInBounds_toArray, List.set_cons_zero, List.set_cons_succ]
            refine wpAnyH_take (i := 8) (v := .agg (vwA u)) rfl (by kernel_rfl) (by kernel_rfl) (by kernel_rfl) (fun _ _ _ h => h) (Or.inl ⟨by rfl, fun W hW => ?_⟩) hHeld ?_
            · clear hW
              go_simp
            try simp only [Act.put, List.getElem_toArray, List.getElem_cons_zero, List.getElem_cons_succ, List.setIfInBounds_toArray, List.set_cons_zero, List.set_cons_succ]
            refine wpAnyH_take (i := 9) (v := .int .i64 0) rfl (by kernel_rfl) (by kernel_rfl) (by kernel_rfl) (fun _ _ _ h => h) (Or.inl ⟨by rfl, fun W hW => ?_⟩) hHeld ?_
            · clear hW
              go_simp
            try simp only [Act.put, List.getElem_toArray, List.getElem_cons_zero, List.getElem_cons_succ, List.setIfInBounds_toArray, List.set_cons_zero, List.set_cons_succ]
            refine wpAnyH_ready (rs := [11]) (by kernel_rfl) (by simp) (AllReadyH.cons rfl (fun K hK => ?_) AllReadyH.nil)
            rw [if_pos (by rfl)]
            refine wp_store_row 53 (.tmp 13) (.tmp 58) rfl V (vwA u) rfl rfl 53 _ AV (HVS.out) rfl (vwA_all _) ?_
            have KS := vgrown_setRow (World.grownBy.refl v5 (some V)) V (vwA u) (.inl rfl)
            have hLV : some V ≠ some L := by have := HLr.out.lt; simp only [ne_eq, Option.some.injEq]; omega
            have hgV : V ≠ g := by have := World.block_lt_of_cell? wr _ ci; simp only at this; omega
            refine hK.out _ _ ⟨hHeld.1.grown KS hLV, KS.cell hHeld.2.1 (by simp only [ne_eq, Option.some.injEq]; omega), vgrown_setRow hHeld.2.2 V _ (.inr hVw)⟩ (fun hHeld => ?_)
            clear hK K
            try simp only [Act.put, List.getElem_toArray, List.getElem_cons_zero, List.getElem_cons_succ]
            refine wpAnyH_take (i := 12) (v := .int .i64 0) rfl (by kernel_rfl) (by kernel_rfl) (by kernel_rfl) (fun _ _ _ h => h) (Or.inl ⟨by rfl, fun W hW => ?_⟩) hHeld ?_
            · clear hW
              go_simp
            try simp only [Act.put, List.getElem_toArray, List.getElem_cons_zero, List.getElem_cons_succ, List.setIfInBounds_toArray, List.set_cons_zero, List.set_cons_succ]
            refine wpAnyH_done (by kernel_rfl) ?_ _
            have AV2 := AV.setRow (vwA u)
            have GF := hHeld.2.2
            clear AV hHeld
            have HFIN : Hid (VAt (v5.setRow V (vwA u)) V 53 (vwA u) ∧ wr.grownBy (v5.setRow V (vwA u)) none) := ⟨AV2, GF⟩
            go_wp2
            go_meet
            exact ⟨V, rfl, rfl, HFIN.out⟩
        · refine step_alloc (by rfl) 53 (by rfl) (vwA Vw.zero) (alloc_view) ?_
          intro V v6 AV K6 hbV
          have hVw : wr.heap.size ≤ V := Nat.le_trans hHeld.2.2.size hbV
          refine hK.out _ _ (⟨hHeld.1.kept K6, K6.cell hHeld.2.1 (by simp), grown_trans hHeld.2.2 K6⟩) (fun hHeld => ?_)
          clear hK K
          try simp only [Act.put, List.getElem_toArray, List.getElem_cons_zero, List.getElem_cons_succ, List.setIfInBounds_toArray, List.set_cons_zero, List.set_cons_succ]
          refine wpAnyH_ready (rs := [5]) (by kernel_rfl) (by simp) (AllReadyH.cons rfl (fun K hK => ?_) AllReadyH.nil)
          go_simp
          refine (HCP.out _ hHeld.2.2).mono ?_
          rintro e v7 ⟨y, rfl, O, K7⟩
          obtain ⟨a5, k5, rfl, C5, z5, -⟩ := O.items
          rw [HPL.out]
          have HC5 : Hid (Cells v7 a5 pc) := C5
          clear O C5
          have AV_ := AV.kept K7
          clear AV
          have AV := AV_
          clear AV_
          go_wp2_with fail
          refine hK.out _ _ (⟨hHeld.1.kept K7, K7.cell hHeld.2.1 (by simp), grown_trans hHeld.2.2 K7⟩) (fun hHeld => ?_)
          clear hK K
          try simp only [Act.put, List.getElem_toArray, List.getElem_cons_zero, List.getElem_cons_succ, List.setIfInBounds_toArray, List.set_cons_zero, List.set_cons_succ]
          refine wpAnyH_ready (rs := [6]) (by kernel_rfl) (by simp) (AllReadyH.cons rfl (fun K hK => ?_) AllReadyH.nil)
          go_simp
          refine (HLK.out a5 k5 _ HC5.out).mono ?_
          rintro e v8 ⟨rfl, K8⟩
          have AV_ := AV.kept K8
          clear AV
          have AV := AV_
          clear AV_
          have HC5_ := (show Hid (Cells _ a5 pc) from HC5.out.keptNone K8)
          clear HC5
          have HC5 := HC5_
          clear HC5_
          go_wp2_with fail
          refine hK.out _ _ (⟨hHeld.1.kept K8, K8.cell hHeld.2.1 (by simp), grown_trans hHeld.2.2 K8⟩) (fun hHeld => ?_)
          clear hK K
          try simp only [Act.put, List.getElem_toArray, List.getElem_cons_zero, List.getElem_cons_succ, List.setIfInBounds_toArray, List.set_cons_zero, List.set_cons_succ]
          refine wpAnyH_take (i := 7) (v := .tuple #[.agg (vwA u), .int .i64 0]) rfl (by kernel_rfl) (by kernel_rfl) (by kernel_rfl) (fun _ _ _ h => h) (Or.inl ⟨by rfl, fun W hW => ?_⟩) hHeld ?_
          · clear hW
            go_simp
          try simp only [Act.put, List.getElem_toArray, List.getElem_cons_zero, List.getElem_cons_succ, List.setIfInBounds_toArray, List.set_cons_zero, List.set_cons_succ]
          refine wpAnyH_take (i := 8) (v := .agg (vwA u)) rfl (by kernel_rfl) (by kernel_rfl) (by kernel_rfl) (fun _ _ _ h => h) (Or.inl ⟨by rfl, fun W hW => ?_⟩) hHeld ?_
          · clear hW
            go_simp
          try simp only [Act.put, List.getElem_toArray, List.getElem_cons_zero, List.getElem_cons_succ, List.setIfInBounds_toArray, List.set_cons_zero, List.set_cons_succ]
          refine wpAnyH_take (i := 9) (v := .int .i64 0) rfl (by kernel_rfl) (by kernel_rfl) (by kernel_rfl) (fun _ _ _ h => h) (Or.inl ⟨by rfl, fun W hW => ?_⟩) hHeld ?_
          · clear hW
            go_simp
          try simp only [Act.put, List.getElem_toArray, List.getElem_cons_zero, List.getElem_cons_succ, List.setIfInBounds_toArray, List.set_cons_zero, List.set_cons_succ]
          refine wpAnyH_ready (rs := [11]) (by kernel_rfl) (by simp) (AllReadyH.cons rfl (fun K hK => ?_) AllReadyH.nil)
          rw [if_pos (by rfl)]
          refine wp_store_row 53 (.tmp 13) (.tmp 58) rfl V (vwA u) rfl rfl 53 _ AV (HVS.out) rfl (vwA_all _) ?_
          have KS := vgrown_setRow (World.grownBy.refl v8 (some V)) V (vwA u) (.inl rfl)
          have hLV : some V ≠ some L := by have := HLr.out.lt; simp only [ne_eq, Option.some.injEq]; omega
          have hgV : V ≠ g := by have := World.block_lt_of_cell? wr _ ci; simp only at this; omega
          refine hK.out _ _ ⟨hHeld.1.grown KS hLV, KS.cell hHeld.2.1 (by simp only [ne_eq, Option.some.injEq]; omega), vgrown_setRow hHeld.2.2 V _ (.inr hVw)⟩ (fun hHeld => ?_)
          clear hK K
          try simp only [Act.put, List.getElem_toArray, List.getElem_cons_zero, List.getElem_cons_succ]
          refine wpAnyH_take (i := 12) (v := .int .i64 0) rfl (by kernel_rfl) (by kernel_rfl) (by kernel_rfl) (fun _ _ _ h => h) (Or.inl ⟨by rfl, fun W hW => ?_⟩) hHeld ?_
          · clear hW
            go_simp
          try simp only [Act.put, List.getElem_toArray, List.getElem_cons_zero, List.getElem_cons_succ, List.setIfInBounds_toArray, List.set_cons_zero, List.set_cons_succ]
          refine wpAnyH_done (by kernel_rfl) ?_ _
          have AV2 := AV.setRow (vwA u)
          have GF := hHeld.2.2
          clear AV hHeld
          have HFIN : Hid (VAt (v8.setRow V (vwA u)) V 53 (vwA u) ∧ wr.grownBy (v8.setRow V (vwA u)) none) := ⟨AV2, GF⟩
          go_wp2
          go_meet
          exact ⟨V, rfl, rfl, HFIN.out⟩
      case rest =>
      obtain ⟨V, rfl, rfl, VA, K5⟩ := hcut
      obtain ⟨q1, q2, q3, q4, q5⟩ := HUU.out
      have c0 : wc.cell? ⟨V, 0, none⟩ = some (.int .u32 (u.proto : Int)) := VA.cell 0
      have c1 : wc.cell? ⟨V, 1, none⟩ = some (.bool u.multi) := VA.cell 1
      have c2 : wc.cell? ⟨V, 2, none⟩ = some (.bool u.beg) := VA.cell 2
      have c3 : wc.cell? ⟨V, 3, none⟩ = some (.bool u.fin) := VA.cell 3
      have c4 : wc.cell? ⟨V, 4, none⟩ = some (.int .u32 (u.seq : Int)) := VA.cell 4
      obtain ⟨sq, hsq⟩ : ∃ sq, (fr + i) % 16777216 = sq := ⟨_, rfl⟩
      have hw2 : IntKind.u32.wrap ((fr : Int) + (i : Int)) = (fr : Int) + (i : Int) := by rw [IntKind.wrap_u32]; omega
      have hw1 : IntKind.u32.wrap (i : Int) = (i : Int) := by rw [IntKind.wrap_u32]; omega
      have hw3 : ((fr : Int) + (i : Int)) % 16777216 = (sq : Int) := by omega
      have hw4 : ((fr : Int) + (i : Int)).tmod 16777216 = (sq : Int) := by rw [Int.tmod_eq_emod_of_nonneg (by omega)]; exact hw3
      rw [q5, hsq] at c4
      rw [q2] at c1
      have K6 := grown_trans K K5
      have hm1 : IntKind.i64.wrap ((n : Int) - 1) = (n : Int) - 1 := by rw [IntKind.wrap_i64]; omega
      have h00 : ((0 : Int) != 0) = false := rfl
      have hss : ((sq : Int) != (sq : Int)) = false := by simp
      clear VA K5 hsq HUU HCP HLK HPL HLr ci
      by_cases hi0' : i = 0
      · rw [q1, if_pos hi0'] at c0
        rw [q3, decide_eq_true hi0'] at c2
        subst hi0'
        rw [show ((0 : Nat) : Int) = 0 from rfl] at *
        by_cases hil : 0 + 1 = n
        · rw [q4, decide_eq_true hil] at c3
          obtain rfl : n = 1 := by omega
          rw [show ((1 : Nat) : Int) = 1 from rfl] at *
          clear q1 q2 q3 q4 q5 hil
          go_wp2
          go_roundw
          case rel => exact ⟨1, by omega, rfl, K6⟩
          case measure => simp [intOf]
        · have e1 : ((0 : Int) == (n : Int) - 1) = false := by rw [beq_eq_false_iff_ne]; omega
          rw [q4, decide_eq_false hil] at c3
          clear q1 q2 q3 q4 q5
          go_wp2
          go_roundw
          case rel => exact ⟨1, by omega, rfl, K6⟩
          case measure => simp [intOf]; omega
      · have e0 : ((i : Int) == 0) = false := by rw [beq_eq_false_iff_ne]; omega
        rw [q1, if_neg hi0'] at c0
        rw [q3, decide_eq_false hi0'] at c2
        by_cases hil : i + 1 = n
        · have e1 : ((i : Int) == (n : Int) - 1) = true := by rw [beq_iff_eq]; omega
          rw [q4, decide_eq_true hil] at c3
          clear q1 q2 q3 q4 q5 hil
          go_wp2
          go_roundw
          case rel => exact ⟨i + 1, by omega, by go_num, K6⟩
          case measure => simp [intOf]; omega
        · have e1 : ((i : Int) == (n : Int) - 1) = false := by rw [beq_eq_false_iff_ne]; omega
          rw [q4, decide_eq_false hil] at c3
          clear q1 q2 q3 q4 q5
          go_wp2
          go_roundw
          case rel => exact ⟨i + 1, by omega, by go_num, K6⟩
          case measure => simp [intOf]; omega
    · obtain rfl : i = n := by omega
      have GF := grown_trans G4 K
      have hpos : decide ((0 : Int) < (i : Int)) = true := decide_eq_true (by omega)
      clear HIT HLP HPB
      go_wp2_with fail
      refine (awake9_any _).mono ?_
      rintro e wz ⟨rfl, KZ⟩
      go_wp2
      go_ret
      exact ⟨rfl, grown_trans GF KZ⟩

set_option maxRecDepth 100000 in
theorem lifted (os : Os) (started : os.Started) (H : Type) (enc : TypeId × Value → H) :
    ReturnsInHanded {} Try.checked os 8 .any (Rows.bundlePiecesSpec.pre6 enc Try.prog Try.f8 Rows.bundlePiecesRow.domain false) (Rows.bundlePiecesSpec.post enc Try.prog Try.f8 false true false false) := by
  refine returnsInHanded_of_change_sized (C := Try.checked) own started (by kernel_rfl) Try.func8
    (ChangeSpec.witness6 (enc := enc) (C := Try.checked) false ⟨#[], #[.slice none 0 0, .int .i64 0, .int .u32 0], []⟩ 8 (by kernel_rfl) (by kernel_rfl) (by kernel_rfl) (by kernel_rfl)) ?_
  intro W base args ds gs before hval0 hW hcnd hsz0 _
  have hsz : (DataW.weightsEach Try.prog (Try.f8.params.toList ++ Rows.bundlePiecesSpec.plain.varTypes Try.prog) (ds ++ gs)).all (· ≤ reachBytes) = true := hsz0
  have hval : ∀ (j : Nat) t v, Try.f8.params[j]? = some t → args[j]? = some v → Value.okWide Try.prog W .any base t v := hval0
  have hW' := hW
  obtain ⟨p, q, hA0, hV, rfl, hfz, hnd⟩ := hW
  have hA : DataW.TrodAll enc Try.prog W 0 (fun _ => true) true Try.f8.params.toList args.toList ds p := hA0
  rw [Try.params8] at hA hval hsz
  obtain ⟨v0, vs0, d0, ds0, p0, q0, hargs, rfl, rfl, h0, r0⟩ := trodAll_cons hA
  obtain ⟨v1, vs1, d1, ds1, p1, q1, rfl, rfl, rfl, h1, r1⟩ := trodAll_cons r0
  obtain ⟨v2, vs2, d2, ds2, p2, q2, rfl, rfl, rfl, h2, r2⟩ := trodAll_cons r1
  obtain ⟨rfl, rfl, rfl⟩ := trodAll_nil r2
  obtain rfl : args = #[v0, v1, v2] := by cases args; simp_all
  obtain ⟨rfl, rfl⟩ := trodVars_none hV
  obtain ⟨a0, len0, cap0, rfl⟩ := okWide_slice Try.underlying24 (hval 0 24 v0 rfl rfl)
  have k0 := h0
  have lt0 : ∀ x ∈ p0, x.block < W.heap.size := by obtain ⟨m, hm⟩ := k0; exact DataW.trod_lt m _ _ _ hm
  obtain ⟨xs0, rfl, hcells0, hnil0, hdat0⟩ := open_bytes Try.underlying24 Try.underlying5 (by kernel_rfl) h0
  obtain ⟨x1, rfl, rfl, rfl, w1⟩ := open_int Try.underlying3 (hval 1 3 v1 rfl rfl) h1
  obtain ⟨y2, rfl, rfl, rfl, w2⟩ := open_int Try.underlying25 (hval 2 25 v2 rfl rfl) h2
  have bd2 := bounds_u32 w2
  obtain ⟨x2, rfl⟩ := Int.eq_ofNat_of_zero_le bd2.1
  have hv2 : x2 ≤ 4294967295 := by omega
  have hlen0 : xs0.length * 1 ≤ 140737488351232 := by
    rcases hdat0 with ⟨_, rfl⟩ | ⟨elems, spare, rfl, hle⟩
    · simp
    · have := sized_slice hsz (j := 0) (t := 24) (e := 5) rfl rfl Try.underlying24
      rw [bytes5] at this
      unfold reachBytes at this
      omega
  clear hA0 hval0
  refine (walk a0 cap0 xs0 x1 x2 W hcells0 hnil0 (by omega) hv2).mono fun e W' ⟨he, hg⟩ => ?_
  subst he
  have bel : Below W.heap.size W W' := (Below.refl _ _).grown hg (Nat.le_refl _) (by simp)
  exact ⟨_, rfl, _, _, _, [], _, [], hW', trodAll_mk1 (shut_bool Try.underlying4 _), (trodAll_cons_mk (Below.trod laidOut (by kernel_rfl) (of_decide_eq_true (by kernel_rfl)) k0 bel lt0) (trodAll_cons_mk (shut_int Try.underlying3 w1) (trodAll_cons_mk (shut_int Try.underlying25 w2) trodAll_mk0))), rfl, bel.frame _, fun h => by cases h⟩

theorem over : Rows.BundlePiecesSaid :=
  OpenClaim.holds_of_wide 8 Try.f8 rfl rfl rfl rfl rfl rfl rfl ⟨rfl, rfl, rfl, rfl, rfl⟩ rfl rfl rfl rfl rfl (by kernel_rfl) Try.func8 (by kernel_rfl)
    (of_decide_eq_true (by kernel_rfl)) (by unfold Func.isWrapper; first | (rw [if_pos (by decide +kernel)]; kernel_rfl) | (rw [if_neg (by decide +kernel)]; exact ⟨rfl, rfl⟩))
    (fun os started H enc _ => lifted os started H enc)

end bundlePieces

theorem bundlePieces_holds : Rows.BundlePiecesSaid := bundlePieces.over
#print axioms bundlePieces_holds

end Go.Proofs.Ytgfiadljjlajaaa
