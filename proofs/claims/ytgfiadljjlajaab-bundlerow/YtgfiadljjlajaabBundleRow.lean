/-
  For every list of lists of bytes (each of at most 2^47 - 4096 bytes of room, as the form itself says of each argument), every int, every uint32 and every bool riddlelaw9.BundleRow returns true and leaves what was there as it was: no condition of ours.
-/
import Derived.Test.YtgfiadljjlajaabBundleX
import Derived.Test.YtgfiadljjlajaabHand
import Derived.Test.YtgfiadljjlajaabLow
import Derived.Test.YtgfiadljjlajaabOpenLL
namespace Go.Proofs.Ytgfiadljjlajaab
open Go.ChangeShapes Go.WideShapes Go.ChangeAt Go.RowKit
open Go.ChangeMaps (open_string shut_string)
set_option maxRecDepth 100000
namespace bundleRow

set_option maxRecDepth 100000 in
set_option maxHeartbeats 8000000 in
theorem walkF (a : Option Addr) (ca : Nat) (qs : List Part) (x : Int) (f : Nat) (w : World) (ha : CV w a (qs.map Part.v)) (hc0 : a = none → ca = 0) (hq : ∀ p ∈ qs, p.ok w ∧ p.bs.length ≤ p.cap) (hn : qs.length * 24 ≤ 140737488351232) (hp : ∀ p ∈ qs, p.bs.length ≤ 140737488351232) (hf : f ≤ 4294967295) :
    Calls Try.prog 3 #[.slice a qs.length ca, .int .i64 x, .int .u32 (f : Int), .bool false] w fun e w' => e = .returned (.bool true) ∧ w.grownBy w' none := by
  have H : Hid (CV w a (qs.map Part.v)) := ha
  have HQ : Hid (∀ p ∈ qs, p.ok w ∧ p.bs.length ≤ p.cap) := hq
  have HP : Hid (∀ p ∈ qs, p.bs.length ≤ 140737488351232) := hp
  have HLS : Hid ((Try.prog.info? 25).map (·.size) = some (lkA (⟨false, false, 1⟩ : Lk)).size) := size25
  have LK := VAt.alloc w 25 #[.bool false, .bool false, .int .i64 1]
  have GL := World.grownBy_alloc w (.cells #[.bool false, .bool false, .int .i64 1] 25) none
  obtain ⟨sz, hsz⟩ : ∃ sz, 1 + lowV x % 50 = sz := ⟨_, rfl⟩
  obtain ⟨lo, hlo⟩ : ∃ lo, lowV x = lo := ⟨_, rfl⟩
  have hlo2 : lo < 9223372036854775808 := by rw [← hlo]; exact lowV_lt x
  rw [hlo] at hsz
  have hl1 : ((lo : Int)).tmod 50 = ((lo % 50 : Nat) : Int) := by rw [Int.tmod_eq_emod_of_nonneg (by omega)]; omega
  have hszb : 1 ≤ sz ∧ sz ≤ 50 := by omega
  have hsz2 : (1 : Int) + (lo : Int) % 50 = (sz : Int) := by omega
  have CLW : Hid (∀ W : World, Calls Try.prog 4 #[.int .i64 x] W fun e w' => e = .returned (.int .i64 (lo : Int)) ∧ W = w') := fun W => by
    have q := low_any x W
    rw [hlo] at q
    exact q
  obtain ⟨fr, hfr⟩ : ∃ fr, f % 4096 = fr := ⟨_, rfl⟩
  have hfr1 : (f : Int) % 4096 = (fr : Int) := by omega
  have hfr2 : (f : Int).tmod 4096 = (fr : Int) := by rw [Int.tmod_eq_emod_of_nonneg (by omega)]; exact hfr1
  have hfrl : fr < 4096 := by omega
  have hspv : spV (⟨false, false, 1⟩ : Lk) = 4096 := rfl
  have hszv : szV (⟨false, false, 1⟩ : Lk) = 2 := rfl
  have HNW : Hid (∀ W : World, Calls Try.prog 5 #[.agg (lkA (⟨false, false, 1⟩ : Lk)), .int .u32 (fr : Int)] W fun e w' => ∃ p, e = .returned (.tuple #[p, .int .i64 0]) ∧ BW W p (⟨false, false, 1⟩ : Lk) ⟨fr, false, []⟩ 0 0 w' ∧ W.grownBy w' none) := fun W => by
    refine (new_ok (⟨false, false, 1⟩ : Lk) fr ⟨fr, false, []⟩ W ?_).mono ?_
    · unfold newX
      rw [if_neg (by decide), if_neg (by rw [hspv]; exact Nat.not_le.2 hfrl)]
    · rintro e w' ⟨p, S, rfl, B, K⟩
      exact ⟨p, rfl, BW.new B K, K⟩
  clear ha hq hp hlo hfr
  go_enter Try.func3, Try.ntmps3
  go_upto_region 3 with fail
  generalize w.alloc (.cells #[.bool false, .bool false, .int .i64 1] 25) = w1 at *
  obtain ⟨L, hL⟩ : ∃ L, w.heap.size = L := ⟨_, rfl⟩
  have HLw : Hid (w.heap.size = L) := hL
  rw [hL] at LK ⊢
  clear hL
  have G2 := GL
  have LK2 : VAt w1 L 25 (lkA (⟨false, false, 1⟩ : Lk)) := LK
  generalize hw12 : w1 = w2 at *
  clear LK GL hw12
  go_wp2_with fail
  refine (CLW.out _).mono ?_
  rintro e w3 ⟨rfl, rfl⟩
  clear CLW
  go_upto_region 8 with fail
  clear hl1 hsz hsz2 hlo2 hfr1 hfr2
  go_wp2_with (refine wpList_load_row rfl 25 (.tmp 9) rfl L rfl 25 (lkA (⟨false, false, 1⟩ : Lk)) (0, 0) _ LK2 Try.underlying25 rfl HLS.out ?_)
  refine (HNW.out _).mono ?_
  rintro e w4 ⟨p, rfl, UB, -⟩
  obtain ⟨ad, rfl⟩ := UB.ptr
  have HL2 : Hid (VAt w2 L 25 (lkA (⟨false, false, 1⟩ : Lk))) := LK2
  have G2' : Hid (w.grownBy w2 none) := G2
  clear LK2 HNW G2
  go_wp2
  go_loopw [12, 15] (fun s x wr => ∃ (i sq : Nat), i ≤ qs.length ∧ s = .int .u32 sq ∧ x = .int .i64 i ∧ sq < 4096 ∧ BW w2 (.pointer (some ad)) (⟨false, false, 1⟩ : Lk) ⟨sq, false, []⟩ 0 0 wr) (fun _ x _ => qs.length - (intOf x).toNat)
  case atStart => exact ⟨0, fr, Nat.zero_le _, rfl, rfl, hfrl, UB⟩
  case round =>
    clear UB
    obtain ⟨wo, rfl⟩ : ∃ wo : World, wo = wr := ⟨_, rfl⟩
    obtain ⟨i, sq, hi', rfl, rfl, hsq, UW⟩ := hrel
    have K := UW.up
    have GW := grown_trans G2'.out K
    by_cases hlt : i < qs.length
    · obtain ⟨bb, o, rfl, hcell⟩ := H.out.parts hlt
      have ci0 := hcell i hlt
      have ci := GW.cell ci0 (by simp)
      obtain ⟨pp, hpp⟩ : ∃ pp, qs[i] = pp := ⟨_, rfl⟩
      have hmem : pp ∈ qs := by rw [← hpp]; exact List.getElem_mem hlt
      obtain ⟨hok, hcap⟩ := HQ.out pp hmem
      have hbl := HP.out pp hmem
      rw [hpp] at ci
      obtain ⟨PN, hPN⟩ : ∃ PN, pp.bs.length = PN := ⟨_, rfl⟩
      rw [hPN] at ci hbl hcap
      have HPN : Hid (pp.bs.length = PN) := hPN
      have HOKP : Hid (pp.ok wo) := hok.kept GW
      have LKr : Hid (VAt wo L 25 (lkA (⟨false, false, 1⟩ : Lk))) := HL2.out.kept K
      have hli : (i : Int) < (qs.length : Int) := by omega
      have hi0 : (0 : Int) ≤ (i : Int) := by omega
      rw [hpp, hPN] at ci0
      have HCI : Hid (w.cell? ⟨bb, o + i, none⟩ = some (.slice pp.ao PN pp.cap)) := ci0
      have HOK0 : Hid (pp.ok w) := hok
      clear ci0 hcell hpp hok hPN
      by_cases hbig : 60 * sz < PN
      case pos =>
        have h1 : (60 : Int) * (sz : Int) < (PN : Int) := by omega
        go_wp2_with fail
        refine (awake9_any _).mono ?_
        rintro e wz ⟨rfl, KZ⟩
        go_wp2
        go_ret
        exact ⟨rfl, grown_trans GW KZ⟩
      have h1 : ¬ (60 : Int) * (sz : Int) < (PN : Int) := by omega
      have HSP : Hid (splitX (⟨false, false, 1⟩ : Lk) pp.bs (sz : Int) sq = .ok (splitL (⟨false, false, 1⟩ : Lk) pp.bs sz sq)) := by
        show splitX _ _ _ _ = _
        unfold splitX
        rw [if_neg (by decide), if_neg (by rw [hspv]; omega), if_neg (by rw [HPN.out]; omega), if_neg (by rw [HPN.out]; omega), Int.toNat_natCast]
      obtain ⟨n, hnn⟩ : ∃ n, cntV pp.bs.length sz = n := ⟨_, rfl⟩
      have hn1 : 1 ≤ n := by rw [← hnn]; exact cnt_pos _ _ (by omega)
      have hn2 : n ≤ 4096 := by rw [← hnn]; exact cnt_many (by omega) (by rw [HPN.out]; omega)
      have HCPA : Hid (∀ W : World, wo.grownBy W none → Calls Try.prog 8 #[.slice pp.ao PN pp.cap] W fun e w' => ∃ v, e = .returned v ∧ Owns w' W.heap.size v pp.bs ∧ W.grownBy w' none) := fun W KW => by
        have q := copy_any pp.ao pp.cap pp.bs W (HOKP.out.1.keptNone KW) HOKP.out.2 (by rw [HPN.out]; omega)
        rw [HPN.out] at q
        exact q
      have HSPL : Hid (∀ (W : World) (ao : Option Addr) (q : Nat), Cells W ao pp.bs → (ao = none → q = 0) → PN ≤ q → Calls Try.prog 7 #[.agg (lkA (⟨false, false, 1⟩ : Lk)), .slice ao PN q, .int .i64 (sz : Int), .int .u32 (sq : Int)] W fun e w' => ∃ v, e = .returned (.tuple #[v, .int .i64 0]) ∧ LL w' W.heap.size v (splitL (⟨false, false, 1⟩ : Lk) pp.bs sz sq) ∧ W.grownBy w' none) := fun W ao q h1 h2 h3 => by
        have r := split_any (⟨false, false, 1⟩ : Lk) ao q pp.bs (sz : Int) sq W h1 h2 (by rw [HPN.out]; exact h3) (by rw [HPN.out]; omega)
        rw [HSP.out, HPN.out] at r
        exact r
      go_upto_region 16 with fail
      refine wp_region_held_drew (S := fun W => VAt W L 25 (lkA (⟨false, false, 1⟩ : Lk)) ∧ W.cell? ⟨bb, o + i, none⟩ = some (.slice pp.ao PN pp.cap) ∧ wo.grownBy W none) (by kernel_rfl) (⟨LKr.out.kept (grown_drewN wo 1 none), (grown_drewN wo 1 none).cell ci (by simp), grown_drewN wo 1 none⟩) (fun hHeld => ?_)
      refine wpAnyH_take (i := 0) (v := .agg (lkA (⟨false, false, 1⟩ : Lk))) rfl (by kernel_rfl) (by kernel_rfl) (by kernel_rfl) (fun _ _ _ h => h) (yieldsIf_load_row (by rfl) _ _ rfl L rfl 25 (lkA (⟨false, false, 1⟩ : Lk)) _ (fun W hW => hW.1) Try.underlying25 rfl HLS.out) hHeld ?_
      try simp only [Act.put, List.getElem_toArray, List.getElem_cons_zero, List.setIfInBounds_toArray, List.set_cons_zero, List.set_cons_succ]
      refine wpAnyH_take (i := 1) (v := .slice (some ⟨bb, o, none⟩) qs.length ca) rfl (by kernel_rfl) (by kernel_rfl) (by kernel_rfl) (fun _ _ _ h => h) (Or.inl ⟨by rfl, fun W hW => ?_⟩) hHeld ?_
      · clear hW
        go_simp
      try simp only [Act.put, List.getElem_toArray, List.getElem_cons_zero, List.getElem_cons_succ, List.setIfInBounds_toArray, List.set_cons_zero, List.set_cons_succ]
      refine wpAnyH_take (i := 2) (v := .int .i64 (i : Int)) rfl (by kernel_rfl) (by kernel_rfl) (by kernel_rfl) (fun _ _ _ h => h) (Or.inl ⟨by rfl, fun W hW => ?_⟩) hHeld ?_
      · clear hW
        go_simp
      try simp only [Act.put, List.getElem_toArray, List.getElem_cons_zero, List.getElem_cons_succ, List.setIfInBounds_toArray, List.set_cons_zero, List.set_cons_succ]
      refine wpAnyH_take (i := 3) (v := .pointer (some ⟨bb, o + i, none⟩)) rfl (by kernel_rfl) (by kernel_rfl) (by kernel_rfl) (fun _ _ _ h => h) (Or.inl ⟨by rfl, fun W hW => ?_⟩) hHeld ?_
      · clear hW
        go_simp
      try simp only [Act.put, List.getElem_toArray, List.getElem_cons_zero, List.getElem_cons_succ, List.setIfInBounds_toArray, List.set_cons_zero, List.set_cons_succ]
      refine wpAnyH_take (i := 4) (v := .slice pp.ao PN pp.cap) rfl (by kernel_rfl) (by kernel_rfl) (by kernel_rfl) (fun _ _ _ h => h) (Or.inl ⟨by rfl, fun W hW => ?_⟩) hHeld ?_
      · have c := hW.2.1
        clear hW
        go_simp
      try simp only [Act.put, List.getElem_toArray, List.getElem_cons_zero, List.getElem_cons_succ, List.setIfInBounds_toArray, List.set_cons_zero, List.set_cons_succ]
      refine wpAnyH_take (i := 6) (v := .int .i64 (sz : Int)) rfl (by kernel_rfl) (by kernel_rfl) (by kernel_rfl) (fun _ _ _ h => h) (Or.inl ⟨by rfl, fun W hW => ?_⟩) hHeld ?_
      · clear hW
        go_simp
      try simp only [Act.put, List.getElem_toArray, List.getElem_cons_zero, List.getElem_cons_succ, List.setIfInBounds_toArray, List.set_cons_zero, List.set_cons_succ]
      refine wpAnyH_take (i := 7) (v := .int .u32 (sq : Int)) rfl (by kernel_rfl) (by kernel_rfl) (by kernel_rfl) (fun _ _ _ h => h) (Or.inl ⟨by rfl, fun W hW => ?_⟩) hHeld ?_
      · clear hW
        go_simp
      try simp only [Act.put, List.getElem_toArray, List.getElem_cons_zero, List.getElem_cons_succ, List.setIfInBounds_toArray, List.set_cons_zero, List.set_cons_succ]
      refine wpAnyH_ready (rs := [5]) (by kernel_rfl) (by simp) (AllReadyH.cons rfl (fun K hK => ?_) AllReadyH.nil)
      go_simp
      refine (HCPA.out _ hHeld.2.2).mono ?_
      rintro e v1 ⟨y, rfl, O3, K1⟩
      obtain ⟨ao3, ca3, rfl, C3, z3, r3⟩ := O3.items
      rw [HPN.out] at r3 ⊢
      clear O3
      go_wp2_with fail
      refine hK.out _ _ (⟨hHeld.1.kept K1, K1.cell hHeld.2.1 (by simp), grown_trans hHeld.2.2 K1⟩) (fun hHeld => ?_)
      clear hK K
      try simp only [Act.put, List.getElem_toArray, List.getElem_cons_zero, List.getElem_cons_succ, List.setIfInBounds_toArray, List.set_cons_zero, List.set_cons_succ]
      refine wpAnyH_ready (rs := [8]) (by kernel_rfl) (by simp) (AllReadyH.cons rfl (fun K hK => ?_) AllReadyH.nil)
      go_simp
      refine (HSPL.out _ ao3 ca3 C3 z3 r3).mono ?_
      rintro e v2 ⟨vl, rfl, LV, K2⟩
      go_wp2_with fail
      refine hK.out _ _ (⟨hHeld.1.kept K2, K2.cell hHeld.2.1 (by simp), grown_trans hHeld.2.2 K2⟩) (fun hHeld => ?_)
      clear hK K
      try simp only [Act.put, List.getElem_toArray, List.getElem_cons_zero, List.getElem_cons_succ, List.setIfInBounds_toArray, List.set_cons_zero, List.set_cons_succ]
      refine wpAnyH_take (i := 9) (v := .tuple #[vl, .int .i64 0]) rfl (by kernel_rfl) (by kernel_rfl) (by kernel_rfl) (fun _ _ _ h => h) (Or.inl ⟨by rfl, fun W hW => ?_⟩) hHeld ?_
      · clear hW
        go_simp
      try simp only [Act.put, List.getElem_toArray, List.getElem_cons_zero, List.getElem_cons_succ, List.setIfInBounds_toArray, List.set_cons_zero, List.set_cons_succ]
      refine wpAnyH_take (i := 10) (v := vl) rfl (by kernel_rfl) (by kernel_rfl) (by kernel_rfl) (fun _ _ _ h => h) (Or.inl ⟨by rfl, fun W hW => ?_⟩) hHeld ?_
      · clear hW
        go_simp
      try simp only [Act.put, List.getElem_toArray, List.getElem_cons_zero, List.getElem_cons_succ, List.setIfInBounds_toArray, List.set_cons_zero, List.set_cons_succ]
      refine wpAnyH_take (i := 11) (v := .int .i64 0) rfl (by kernel_rfl) (by kernel_rfl) (by kernel_rfl) (fun _ _ _ h => h) (Or.inl ⟨by rfl, fun W hW => ?_⟩) hHeld ?_
      · clear hW
        go_simp
      try simp only [Act.put, List.getElem_toArray, List.getElem_cons_zero, List.getElem_cons_succ, List.setIfInBounds_toArray, List.set_cons_zero, List.set_cons_succ]
      refine wpAnyH_take (i := 12) (v := vl) rfl (by kernel_rfl) (by kernel_rfl) (by kernel_rfl) (fun _ _ _ h => h) (Or.inl ⟨by rfl, fun W hW => ?_⟩) hHeld ?_
      · clear hW
        go_simp
      try simp only [Act.put, List.getElem_toArray, List.getElem_cons_zero, List.getElem_cons_succ, List.setIfInBounds_toArray, List.set_cons_zero, List.set_cons_succ]
      refine wpAnyH_take (i := 13) (v := .int .i64 0) rfl (by kernel_rfl) (by kernel_rfl) (by kernel_rfl) (fun _ _ _ h => h) (Or.inl ⟨by rfl, fun W hW => ?_⟩) hHeld ?_
      · clear hW
        go_simp
      try simp only [Act.put, List.getElem_toArray, List.getElem_cons_zero, List.getElem_cons_succ, List.setIfInBounds_toArray, List.set_cons_zero, List.set_cons_succ]
      refine wpAnyH_done (by kernel_rfl) ?_ _
      obtain ⟨vs, LV⟩ := LV
      have UR : BW w2 (.pointer (some ad)) (⟨false, false, 1⟩ : Lk) ⟨sq, false, []⟩ wo.heap.size v2.heap.size v2 := UW.range hHeld.2.2
      have hvw : wo.heap.size ≤ v1.heap.size := (grown_trans (grown_drewN wo 1 none) K1).size
      have HLen : Hid ((splitL (⟨false, false, 1⟩ : Lk) pp.bs sz sq).length = n) := split_len hnn
      obtain ⟨g, cap, rfl, -⟩ := LV.pieces hnn hn1
      have HB9 : Hid ((∀ y, (Value.slice (some ⟨g, 0, none⟩) n cap).ownBlock = some y → wo.heap.size ≤ y ∧ y < v2.heap.size) ∧ ∀ j, j < n → ∀ y, (vs.getD j undef).ownBlock = some y → wo.heap.size ≤ y ∧ y < v2.heap.size) := by
        refine ⟨fun y hy => ?_, fun j hj y hy => ?_⟩
        · have := LV.1.lt y hy
          omega
        · have := World.ownsRow.lt (LV.2.2.1 j (by rw [HLen.out]; exact hj)) y hy
          omega
      have HFR : Hid (∀ (j : Nat) (u : Bs), j < n → (j = 0 ∨ u = rowS (⟨false, false, 1⟩ : Lk) pp.bs sz sq j) → feedX (⟨false, false, 1⟩ : Lk) u (pcV (⟨false, false, 1⟩ : Lk) pp.bs sz sq j) = .ok (rowS (⟨false, false, 1⟩ : Lk) pp.bs sz sq (j + 1), if j + 1 = n then pp.bs else [], decide (j + 1 = n))) := by
        intro j u hj hu
        have q := feed_row (⟨false, false, 1⟩ : Lk) u pp.bs sz sq j (by simp) (by omega) (by omega) (by rw [HPN.out]; omega) (by rw [hnn]; exact hj) hu
        rw [hnn] at q
        exact q
      have HRL : Hid (rowS (⟨false, false, 1⟩ : Lk) pp.bs sz sq n = ⟨(sq + n) % 4096, false, []⟩) := by
        show rowS _ _ _ _ _ = _
        unfold rowS
        rw [if_neg (by rw [hnn]; omega), hspv]
      have HPB : Hid (∀ j, (pcV (⟨false, false, 1⟩ : Lk) pp.bs sz sq j).length ≤ 100) := by
        intro j
        have e1 := pc_len (⟨false, false, 1⟩ : Lk) pp.bs sz sq j
        have e2 := chunk_len pp.bs sz j
        omega
      have HGT : Hid (∀ j, j < n → (splitL (⟨false, false, 1⟩ : Lk) pp.bs sz sq).getD j [] = pcV (⟨false, false, 1⟩ : Lk) pp.bs sz sq j) := fun j hj => split_get hnn hj
      clear HSPL HCPA HSP C3 K1 K2 z3 r3 hHeld UW hvw
      have hzn : ((n : Int) == 0) = false := by rw [beq_eq_false_iff_ne]; omega
      generalize hpcs : pcV (⟨false, false, 1⟩ : Lk) pp.bs sz sq = pcs at *
      generalize hrow : rowS (⟨false, false, 1⟩ : Lk) pp.bs sz sq = row at *
      generalize hspl : splitL (⟨false, false, 1⟩ : Lk) pp.bs sz sq = spl at *
      clear hpcs hrow hspl
      go_wp2
      go_loopw [18] (fun x wy => ∃ (j : Nat) (u : Bs), j ≤ n ∧ x = .int .i64 j ∧ Hid (j = 0 ∨ u = row j) ∧ BW w2 (.pointer (some ad)) (⟨false, false, 1⟩ : Lk) u wo.heap.size v2.heap.size wy ∧ Hid (LLv wy v1.heap.size (.slice (some ⟨g, 0, none⟩) n cap) vs spl ∧ v2.heap.size ≤ wy.heap.size)) (fun x _ => n - (intOf x).toNat)
      case atStart => exact ⟨0, _, Nat.zero_le _, rfl, .inl rfl, UR, ⟨LV, Nat.le_refl _⟩⟩
      case round =>
        clear UR LV
        obtain ⟨j, u, hj', rfl, HU, UY, HLL⟩ := hrel
        have GY := grown_trans G2'.out UY.up
        by_cases hjl : j < n
        · obtain ⟨g', cap', ao, cao, hv, cj, hvj, CJ, OJ⟩ := HLL.out.1.item (i := j) (by rw [HLen.out]; exact hjl)
          rw [HLen.out] at hv
          simp only [Value.slice.injEq, Option.some.injEq, Addr.mk.injEq, and_true, true_and] at hv
          obtain ⟨rfl, rfl⟩ := hv
          rw [HGT.out j hjl] at cj CJ OJ hvj
          have hfe := HFR.out j u hjl HU.out
          have hpl := HPB.out j
          generalize pcs j = pc at *
          obtain ⟨ao', cao', he, -, zj, rj⟩ := OJ.items
          simp only [Value.slice.injEq, true_and] at he
          obtain ⟨rfl, rfl⟩ := he
          have hrg : ∀ ad', ao = some ad' → pc ≠ [] → wo.heap.size ≤ ad'.block ∧ ad'.block < v2.heap.size := fun ad' had _ => by
            obtain ⟨ao2, cap2, e2, -, -, -, -, ob⟩ := OJ.shape
            simp only [Value.slice.injEq, true_and] at e2
            obtain ⟨rfl, rfl⟩ := e2
            refine HB9.out.2 j hjl _ ?_
            rw [hvj, ob, had]
            rfl
          have HFD : Hid (Calls Try.prog 9 #[.pointer (some ad), .slice ao pc.length cao] wr fun e w' => ∃ x, e = .returned (.tuple #[x, .bool (decide (j + 1 = n)), .int .i64 0]) ∧ Owns w' wr.heap.size x (if j + 1 = n then pp.bs else []) ∧ BW w2 (.pointer (some ad)) (⟨false, false, 1⟩ : Lk) (row (j + 1)) wo.heap.size v2.heap.size w' ∧ Rest w2 wo.heap.size v2.heap.size wr w') := UY.feedp_ok ao cao pc CJ zj rj (by omega) HLL.out.2 hrg hfe
          have hlj : (j : Int) < (n : Int) := by omega
          have hj0 : (0 : Int) ≤ (j : Int) := by omega
          generalize pc.length = PJ at *
          clear CJ OJ hfe hrg zj rj UY hvj
          go_wp2_with fail
          refine HFD.out.mono ?_
          rintro e w8 ⟨x8, rfl, O8, U8, RS⟩
          have HL8 : Hid (LLv w8 v1.heap.size (.slice (some ⟨g, 0, none⟩) n cap) vs spl ∧ v2.heap.size ≤ w8.heap.size) := ⟨HLL.out.1.avoid RS (fun y hy hs => by have := HB9.out.1 y hy; omega) (fun q hq y hy hs => by have := HB9.out.2 q (by rw [← HLen.out]; exact hq) y hy; omega), Nat.le_trans HLL.out.2 RS.size⟩
          have G8 := grown_trans G2'.out U8.up
          have HO8 : Hid (Owns w8 wr.heap.size x8 (if j + 1 = n then pp.bs else [])) := O8
          have hz7 : IntKind.i64.wrap ((n : Int) - 1) = (n : Int) - 1 := by rw [IntKind.wrap_i64]; omega
          clear O8 RS HFD HLL cj GY
          by_cases hil : j + 1 = n
          · have HO9 := HO8.out
            rw [if_pos hil] at HO9
            obtain ⟨ao8, ca8, rfl, C8, -, -⟩ := HO9.items
            have D8 := HOK0.out.1.keptNone G8
            have ci8 := G8.cell HCI.out (by simp)
            have HSM : Hid (Calls Try.prog 10 #[.slice ao8 PN ca8, .slice pp.ao PN pp.cap] w8 fun e w' => e = .returned (.bool true) ∧ w8.grownBy w' none) := by
              have q := same_any ao8 pp.ao ca8 pp.cap pp.bs w8 C8 D8 (by rw [HPN.out]; omega)
              rw [HPN.out] at q
              refine q.mono ?_
              rintro e w' ⟨rfl, n', rfl⟩
              exact ⟨rfl, grown_drewN w8 n' none⟩
            rw [decide_eq_true hil, HPN.out]
            have hel : ((j : Int) == (n : Int) - 1) = true := by rw [beq_iff_eq]; omega
            have HIL : Hid (j + 1 = n) := hil
            clear HO8 HO9 C8 D8 hil
            go_wp2_with fail
            refine HSM.out.mono ?_
            rintro e w10 ⟨rfl, K10⟩
            have U10 := U8.kept K10
            have HL10 : Hid (LLv w10 v1.heap.size (.slice (some ⟨g, 0, none⟩) n cap) vs spl ∧ v2.heap.size ≤ w10.heap.size) := ⟨HL8.out.1.keptNone K10, Nat.le_trans HL8.out.2 K10.size⟩
            clear U8 HL8 HSM ci8 K10
            go_wp2
            go_roundw
            case rel => exact ⟨j + 1, row (j + 1), by omega, by go_num, .inr rfl, U10, HL10⟩
            case measure => simp [intOf]; omega
          · have HO9 := HO8.out
            rw [if_neg hil] at HO9
            obtain ⟨ao8, ca8, rfl, -, -, -⟩ := HO9.items
            rw [decide_eq_false hil, show ([] : List UInt8).length = 0 from rfl]
            have hel : ((j : Int) == (n : Int) - 1) = false := by rw [beq_eq_false_iff_ne]; omega
            clear HO8 HO9
            go_wp2
            go_roundw
            case rel => exact ⟨j + 1, row (j + 1), by omega, by go_num, .inr rfl, U8, HL8⟩
            case measure => simp [intOf]; omega
        · obtain rfl : j = n := by omega
          have hun : u = ⟨(sq + j) % 4096, false, []⟩ := by
            rcases HU.out with h | h
            · omega
            · rw [h, HRL.out]
          subst hun
          obtain ⟨nq, hnq⟩ : ∃ nq, (sq + j) % 4096 = nq := ⟨_, rfl⟩
          rw [hnq] at UY
          have hnql : nq < 4096 := by rw [← hnq]; exact Nat.mod_lt _ (by decide)
          have UF := UY.free
          have hz1 : IntKind.u32.wrap (j : Int) = (j : Int) := by rw [IntKind.wrap_u32]; omega
          have hz2 : IntKind.u32.wrap ((sq : Int) + (j : Int)) = (sq : Int) + (j : Int) := by rw [IntKind.wrap_u32]; omega
          have hz4 : ((sq : Int) + (j : Int)) % 4096 = (nq : Int) := by omega
          have hz5 : ((sq : Int) + (j : Int)).tmod 4096 = (nq : Int) := by rw [Int.tmod_eq_emod_of_nonneg (by omega)]; exact hz4
          clear hnq UY HU HLL HFR HB9 HRL HPB HGT HLen
          go_wp2
          go_roundw
          case rel => exact ⟨i + 1, nq, by omega, rfl, by go_num, hnql, UF⟩
          case measure => simp [intOf]; omega
    · obtain rfl : i = qs.length := by omega
      have hss : ((sq : Int) == (sq : Int)) = true := by simp
      go_wp2_with fail
      refine UW.waits.mono ?_
      rintro e w7 ⟨rfl, -, K7⟩
      have G7 := grown_trans GW K7
      rw [show (([] : List UInt8).length : Int) = 0 from rfl]
      clear UW
      go_wp2_with fail
      refine (awake9_any _).mono ?_
      rintro e wz ⟨rfl, KZ⟩
      go_wp2
      go_ret
      exact ⟨rfl, grown_trans G7 KZ⟩

set_option maxRecDepth 100000 in
set_option maxHeartbeats 8000000 in
theorem walkT (a : Option Addr) (ca : Nat) (qs : List Part) (x : Int) (f : Nat) (w : World) (ha : CV w a (qs.map Part.v)) (hc0 : a = none → ca = 0) (hq : ∀ p ∈ qs, p.ok w ∧ p.bs.length ≤ p.cap) (hn : qs.length * 24 ≤ 140737488351232) (hp : ∀ p ∈ qs, p.bs.length ≤ 140737488351232) (hf : f ≤ 4294967295) :
    Calls Try.prog 3 #[.slice a qs.length ca, .int .i64 x, .int .u32 (f : Int), .bool true] w fun e w' => e = .returned (.bool true) ∧ w.grownBy w' none := by
  have H : Hid (CV w a (qs.map Part.v)) := ha
  have HQ : Hid (∀ p ∈ qs, p.ok w ∧ p.bs.length ≤ p.cap) := hq
  have HP : Hid (∀ p ∈ qs, p.bs.length ≤ 140737488351232) := hp
  have HLS : Hid ((Try.prog.info? 25).map (·.size) = some (lkA (⟨false, false, 2⟩ : Lk)).size) := size25
  have LK := VAt.alloc w 25 #[.bool false, .bool false, .int .i64 1]
  have GL := World.grownBy_alloc w (.cells #[.bool false, .bool false, .int .i64 1] 25) none
  obtain ⟨sz, hsz⟩ : ∃ sz, 1 + lowV x % 50 = sz := ⟨_, rfl⟩
  obtain ⟨lo, hlo⟩ : ∃ lo, lowV x = lo := ⟨_, rfl⟩
  have hlo2 : lo < 9223372036854775808 := by rw [← hlo]; exact lowV_lt x
  rw [hlo] at hsz
  have hl1 : ((lo : Int)).tmod 50 = ((lo % 50 : Nat) : Int) := by rw [Int.tmod_eq_emod_of_nonneg (by omega)]; omega
  have hszb : 1 ≤ sz ∧ sz ≤ 50 := by omega
  have hsz2 : (1 : Int) + (lo : Int) % 50 = (sz : Int) := by omega
  have CLW : Hid (∀ W : World, Calls Try.prog 4 #[.int .i64 x] W fun e w' => e = .returned (.int .i64 (lo : Int)) ∧ W = w') := fun W => by
    have q := low_any x W
    rw [hlo] at q
    exact q
  obtain ⟨fr, hfr⟩ : ∃ fr, f % 16777216 = fr := ⟨_, rfl⟩
  have hfr1 : (f : Int) % 16777216 = (fr : Int) := by omega
  have hfr2 : (f : Int).tmod 16777216 = (fr : Int) := by rw [Int.tmod_eq_emod_of_nonneg (by omega)]; exact hfr1
  have hfrl : fr < 16777216 := by omega
  have hspv : spV (⟨false, false, 2⟩ : Lk) = 16777216 := rfl
  have hszv : szV (⟨false, false, 2⟩ : Lk) = 4 := rfl
  have HNW : Hid (∀ W : World, Calls Try.prog 5 #[.agg (lkA (⟨false, false, 2⟩ : Lk)), .int .u32 (fr : Int)] W fun e w' => ∃ p, e = .returned (.tuple #[p, .int .i64 0]) ∧ BW W p (⟨false, false, 2⟩ : Lk) ⟨fr, false, []⟩ 0 0 w' ∧ W.grownBy w' none) := fun W => by
    refine (new_ok (⟨false, false, 2⟩ : Lk) fr ⟨fr, false, []⟩ W ?_).mono ?_
    · unfold newX
      rw [if_neg (by decide), if_neg (by rw [hspv]; exact Nat.not_le.2 hfrl)]
    · rintro e w' ⟨p, S, rfl, B, K⟩
      exact ⟨p, rfl, BW.new B K, K⟩
  clear ha hq hp hlo hfr
  go_enter Try.func3, Try.ntmps3
  go_upto_region 3 with fail
  generalize w.alloc (.cells #[.bool false, .bool false, .int .i64 1] 25) = w1 at *
  obtain ⟨L, hL⟩ : ∃ L, w.heap.size = L := ⟨_, rfl⟩
  have HLw : Hid (w.heap.size = L) := hL
  rw [hL] at LK ⊢
  clear hL
  have c2 : w1.cell? ⟨L, 2, none⟩ = some (.int .i64 1) := LK.cell 2
  have f2 := LK.free 2
  have LK2 : VAt (w1.setCell ⟨L, 2, none⟩ (.int .i64 2)) L 25 (lkA (⟨false, false, 2⟩ : Lk)) := LK.set 2 (.int .i64 2)
  have G2 : w.grownBy (w1.setCell ⟨L, 2, none⟩ (.int .i64 2)) none := grown_setCell GL _ _ (.inr (Nat.le_of_eq HLw.out))
  go_upto_region 5 with fail
  generalize w1.setCell ⟨L, 2, none⟩ (.int .i64 2) = w2 at *
  clear LK GL c2 f2
  go_wp2_with fail
  refine (CLW.out _).mono ?_
  rintro e w3 ⟨rfl, rfl⟩
  clear CLW
  go_upto_region 8 with fail
  clear hl1 hsz hsz2 hlo2 hfr1 hfr2
  go_wp2_with (refine wpList_load_row rfl 25 (.tmp 9) rfl L rfl 25 (lkA (⟨false, false, 2⟩ : Lk)) (0, 0) _ LK2 Try.underlying25 rfl HLS.out ?_)
  refine (HNW.out _).mono ?_
  rintro e w4 ⟨p, rfl, UB, -⟩
  obtain ⟨ad, rfl⟩ := UB.ptr
  have HL2 : Hid (VAt w2 L 25 (lkA (⟨false, false, 2⟩ : Lk))) := LK2
  have G2' : Hid (w.grownBy w2 none) := G2
  clear LK2 HNW G2
  go_wp2
  go_loopw [12, 15] (fun s x wr => ∃ (i sq : Nat), i ≤ qs.length ∧ s = .int .u32 sq ∧ x = .int .i64 i ∧ sq < 16777216 ∧ BW w2 (.pointer (some ad)) (⟨false, false, 2⟩ : Lk) ⟨sq, false, []⟩ 0 0 wr) (fun _ x _ => qs.length - (intOf x).toNat)
  case atStart => exact ⟨0, fr, Nat.zero_le _, rfl, rfl, hfrl, UB⟩
  case round =>
    clear UB
    obtain ⟨wo, rfl⟩ : ∃ wo : World, wo = wr := ⟨_, rfl⟩
    obtain ⟨i, sq, hi', rfl, rfl, hsq, UW⟩ := hrel
    have K := UW.up
    have GW := grown_trans G2'.out K
    by_cases hlt : i < qs.length
    · obtain ⟨bb, o, rfl, hcell⟩ := H.out.parts hlt
      have ci0 := hcell i hlt
      have ci := GW.cell ci0 (by simp)
      obtain ⟨pp, hpp⟩ : ∃ pp, qs[i] = pp := ⟨_, rfl⟩
      have hmem : pp ∈ qs := by rw [← hpp]; exact List.getElem_mem hlt
      obtain ⟨hok, hcap⟩ := HQ.out pp hmem
      have hbl := HP.out pp hmem
      rw [hpp] at ci
      obtain ⟨PN, hPN⟩ : ∃ PN, pp.bs.length = PN := ⟨_, rfl⟩
      rw [hPN] at ci hbl hcap
      have HPN : Hid (pp.bs.length = PN) := hPN
      have HOKP : Hid (pp.ok wo) := hok.kept GW
      have LKr : Hid (VAt wo L 25 (lkA (⟨false, false, 2⟩ : Lk))) := HL2.out.kept K
      have hli : (i : Int) < (qs.length : Int) := by omega
      have hi0 : (0 : Int) ≤ (i : Int) := by omega
      rw [hpp, hPN] at ci0
      have HCI : Hid (w.cell? ⟨bb, o + i, none⟩ = some (.slice pp.ao PN pp.cap)) := ci0
      have HOK0 : Hid (pp.ok w) := hok
      clear ci0 hcell hpp hok hPN
      by_cases hbig : 60 * sz < PN
      case pos =>
        have h1 : (60 : Int) * (sz : Int) < (PN : Int) := by omega
        go_wp2_with fail
        refine (awake9_any _).mono ?_
        rintro e wz ⟨rfl, KZ⟩
        go_wp2
        go_ret
        exact ⟨rfl, grown_trans GW KZ⟩
      have h1 : ¬ (60 : Int) * (sz : Int) < (PN : Int) := by omega
      have HSP : Hid (splitX (⟨false, false, 2⟩ : Lk) pp.bs (sz : Int) sq = .ok (splitL (⟨false, false, 2⟩ : Lk) pp.bs sz sq)) := by
        show splitX _ _ _ _ = _
        unfold splitX
        rw [if_neg (by decide), if_neg (by rw [hspv]; omega), if_neg (by rw [HPN.out]; omega), if_neg (by rw [HPN.out]; omega), Int.toNat_natCast]
      obtain ⟨n, hnn⟩ : ∃ n, cntV pp.bs.length sz = n := ⟨_, rfl⟩
      have hn1 : 1 ≤ n := by rw [← hnn]; exact cnt_pos _ _ (by omega)
      have hn2 : n ≤ 4096 := by rw [← hnn]; exact cnt_many (by omega) (by rw [HPN.out]; omega)
      have HCPA : Hid (∀ W : World, wo.grownBy W none → Calls Try.prog 8 #[.slice pp.ao PN pp.cap] W fun e w' => ∃ v, e = .returned v ∧ Owns w' W.heap.size v pp.bs ∧ W.grownBy w' none) := fun W KW => by
        have q := copy_any pp.ao pp.cap pp.bs W (HOKP.out.1.keptNone KW) HOKP.out.2 (by rw [HPN.out]; omega)
        rw [HPN.out] at q
        exact q
      have HSPL : Hid (∀ (W : World) (ao : Option Addr) (q : Nat), Cells W ao pp.bs → (ao = none → q = 0) → PN ≤ q → Calls Try.prog 7 #[.agg (lkA (⟨false, false, 2⟩ : Lk)), .slice ao PN q, .int .i64 (sz : Int), .int .u32 (sq : Int)] W fun e w' => ∃ v, e = .returned (.tuple #[v, .int .i64 0]) ∧ LL w' W.heap.size v (splitL (⟨false, false, 2⟩ : Lk) pp.bs sz sq) ∧ W.grownBy w' none) := fun W ao q h1 h2 h3 => by
        have r := split_any (⟨false, false, 2⟩ : Lk) ao q pp.bs (sz : Int) sq W h1 h2 (by rw [HPN.out]; exact h3) (by rw [HPN.out]; omega)
        rw [HSP.out, HPN.out] at r
        exact r
      go_upto_region 16 with fail
      refine wp_region_held_drew (S := fun W => VAt W L 25 (lkA (⟨false, false, 2⟩ : Lk)) ∧ W.cell? ⟨bb, o + i, none⟩ = some (.slice pp.ao PN pp.cap) ∧ wo.grownBy W none) (by kernel_rfl) (⟨LKr.out.kept (grown_drewN wo 1 none), (grown_drewN wo 1 none).cell ci (by simp), grown_drewN wo 1 none⟩) (fun hHeld => ?_)
      refine wpAnyH_take (i := 0) (v := .agg (lkA (⟨false, false, 2⟩ : Lk))) rfl (by kernel_rfl) (by kernel_rfl) (by kernel_rfl) (fun _ _ _ h => h) (yieldsIf_load_row (by rfl) _ _ rfl L rfl 25 (lkA (⟨false, false, 2⟩ : Lk)) _ (fun W hW => hW.1) Try.underlying25 rfl HLS.out) hHeld ?_
      try simp only [Act.put, List.getElem_toArray, List.getElem_cons_zero, List.setIfInBounds_toArray, List.set_cons_zero, List.set_cons_succ]
      refine wpAnyH_take (i := 1) (v := .slice (some ⟨bb, o, none⟩) qs.length ca) rfl (by kernel_rfl) (by kernel_rfl) (by kernel_rfl) (fun _ _ _ h => h) (Or.inl ⟨by rfl, fun W hW => ?_⟩) hHeld ?_
      · clear hW
        go_simp
      try simp only [Act.put, List.getElem_toArray, List.getElem_cons_zero, List.getElem_cons_succ, List.setIfInBounds_toArray, List.set_cons_zero, List.set_cons_succ]
      refine wpAnyH_take (i := 2) (v := .int .i64 (i : Int)) rfl (by kernel_rfl) (by kernel_rfl) (by kernel_rfl) (fun _ _ _ h => h) (Or.inl ⟨by rfl, fun W hW => ?_⟩) hHeld ?_
      · clear hW
        go_simp
      try simp only [Act.put, List.getElem_toArray, List.getElem_cons_zero, List.getElem_cons_succ, List.setIfInBounds_toArray, List.set_cons_zero, List.set_cons_succ]
      refine wpAnyH_take (i := 3) (v := .pointer (some ⟨bb, o + i, none⟩)) rfl (by kernel_rfl) (by kernel_rfl) (by kernel_rfl) (fun _ _ _ h => h) (Or.inl ⟨by rfl, fun W hW => ?_⟩) hHeld ?_
      · clear hW
        go_simp
      try simp only [Act.put, List.getElem_toArray, List.getElem_cons_zero, List.getElem_cons_succ, List.setIfInBounds_toArray, List.set_cons_zero, List.set_cons_succ]
      refine wpAnyH_take (i := 4) (v := .slice pp.ao PN pp.cap) rfl (by kernel_rfl) (by kernel_rfl) (by kernel_rfl) (fun _ _ _ h => h) (Or.inl ⟨by rfl, fun W hW => ?_⟩) hHeld ?_
      · have c := hW.2.1
        clear hW
        go_simp
      try simp only [Act.put, List.getElem_toArray, List.getElem_cons_zero, List.getElem_cons_succ, List.setIfInBounds_toArray, List.set_cons_zero, List.set_cons_succ]
      refine wpAnyH_take (i := 6) (v := .int .i64 (sz : Int)) rfl (by kernel_rfl) (by kernel_rfl) (by kernel_rfl) (fun _ _ _ h => h) (Or.inl ⟨by rfl, fun W hW => ?_⟩) hHeld ?_
      · clear hW
        go_simp
      try simp only [Act.put, List.getElem_toArray, List.getElem_cons_zero, List.getElem_cons_succ, List.setIfInBounds_toArray, List.set_cons_zero, List.set_cons_succ]
      refine wpAnyH_take (i := 7) (v := .int .u32 (sq : Int)) rfl (by kernel_rfl) (by kernel_rfl) (by kernel_rfl) (fun _ _ _ h => h) (Or.inl ⟨by rfl, fun W hW => ?_⟩) hHeld ?_
      · clear hW
        go_simp
      try simp only [Act.put, List.getElem_toArray, List.getElem_cons_zero, List.getElem_cons_succ, List.setIfInBounds_toArray, List.set_cons_zero, List.set_cons_succ]
      refine wpAnyH_ready (rs := [5]) (by kernel_rfl) (by simp) (AllReadyH.cons rfl (fun K hK => ?_) AllReadyH.nil)
      go_simp
      refine (HCPA.out _ hHeld.2.2).mono ?_
      rintro e v1 ⟨y, rfl, O3, K1⟩
      obtain ⟨ao3, ca3, rfl, C3, z3, r3⟩ := O3.items
      rw [HPN.out] at r3 ⊢
      clear O3
      go_wp2_with fail
      refine hK.out _ _ (⟨hHeld.1.kept K1, K1.cell hHeld.2.1 (by simp), grown_trans hHeld.2.2 K1⟩) (fun hHeld => ?_)
      clear hK K
      try simp only [Act.put, List.getElem_toArray, List.getElem_cons_zero, List.getElem_cons_succ, List.setIfInBounds_toArray, List.set_cons_zero, List.set_cons_succ]
      refine wpAnyH_ready (rs := [8]) (by kernel_rfl) (by simp) (AllReadyH.cons rfl (fun K hK => ?_) AllReadyH.nil)
      go_simp
      refine (HSPL.out _ ao3 ca3 C3 z3 r3).mono ?_
      rintro e v2 ⟨vl, rfl, LV, K2⟩
      go_wp2_with fail
      refine hK.out _ _ (⟨hHeld.1.kept K2, K2.cell hHeld.2.1 (by simp), grown_trans hHeld.2.2 K2⟩) (fun hHeld => ?_)
      clear hK K
      try simp only [Act.put, List.getElem_toArray, List.getElem_cons_zero, List.getElem_cons_succ, List.setIfInBounds_toArray, List.set_cons_zero, List.set_cons_succ]
      refine wpAnyH_take (i := 9) (v := .tuple #[vl, .int .i64 0]) rfl (by kernel_rfl) (by kernel_rfl) (by kernel_rfl) (fun _ _ _ h => h) (Or.inl ⟨by rfl, fun W hW => ?_⟩) hHeld ?_
      · clear hW
        go_simp
      try simp only [Act.put, List.getElem_toArray, List.getElem_cons_zero, List.getElem_cons_succ, List.setIfInBounds_toArray, List.set_cons_zero, List.set_cons_succ]
      refine wpAnyH_take (i := 10) (v := vl) rfl (by kernel_rfl) (by kernel_rfl) (by kernel_rfl) (fun _ _ _ h => h) (Or.inl ⟨by rfl, fun W hW => ?_⟩) hHeld ?_
      · clear hW
        go_simp
      try simp only [Act.put, List.getElem_toArray, List.getElem_cons_zero, List.getElem_cons_succ, List.setIfInBounds_toArray, List.set_cons_zero, List.set_cons_succ]
      refine wpAnyH_take (i := 11) (v := .int .i64 0) rfl (by kernel_rfl) (by kernel_rfl) (by kernel_rfl) (fun _ _ _ h => h) (Or.inl ⟨by rfl, fun W hW => ?_⟩) hHeld ?_
      · clear hW
        go_simp
      try simp only [Act.put, List.getElem_toArray, List.getElem_cons_zero, List.getElem_cons_succ, List.setIfInBounds_toArray, List.set_cons_zero, List.set_cons_succ]
      refine wpAnyH_take (i := 12) (v := vl) rfl (by kernel_rfl) (by kernel_rfl) (by kernel_rfl) (fun _ _ _ h => h) (Or.inl ⟨by rfl, fun W hW => ?_⟩) hHeld ?_
      · clear hW
        go_simp
      try simp only [Act.put, List.getElem_toArray, List.getElem_cons_zero, List.getElem_cons_succ, List.setIfInBounds_toArray, List.set_cons_zero, List.set_cons_succ]
      refine wpAnyH_take (i := 13) (v := .int .i64 0) rfl (by kernel_rfl) (by kernel_rfl) (by kernel_rfl) (fun _ _ _ h => h) (Or.inl ⟨by rfl, fun W hW => ?_⟩) hHeld ?_
      · clear hW
        go_simp
      try simp only [Act.put, List.getElem_toArray, List.getElem_cons_zero, List.getElem_cons_succ, List.setIfInBounds_toArray, List.set_cons_zero, List.set_cons_succ]
      refine wpAnyH_done (by kernel_rfl) ?_ _
      obtain ⟨vs, LV⟩ := LV
      have UR : BW w2 (.pointer (some ad)) (⟨false, false, 2⟩ : Lk) ⟨sq, false, []⟩ wo.heap.size v2.heap.size v2 := UW.range hHeld.2.2
      have hvw : wo.heap.size ≤ v1.heap.size := (grown_trans (grown_drewN wo 1 none) K1).size
      have HLen : Hid ((splitL (⟨false, false, 2⟩ : Lk) pp.bs sz sq).length = n) := split_len hnn
      obtain ⟨g, cap, rfl, -⟩ := LV.pieces hnn hn1
      have HB9 : Hid ((∀ y, (Value.slice (some ⟨g, 0, none⟩) n cap).ownBlock = some y → wo.heap.size ≤ y ∧ y < v2.heap.size) ∧ ∀ j, j < n → ∀ y, (vs.getD j undef).ownBlock = some y → wo.heap.size ≤ y ∧ y < v2.heap.size) := by
        refine ⟨fun y hy => ?_, fun j hj y hy => ?_⟩
        · have := LV.1.lt y hy
          omega
        · have := World.ownsRow.lt (LV.2.2.1 j (by rw [HLen.out]; exact hj)) y hy
          omega
      have HFR : Hid (∀ (j : Nat) (u : Bs), j < n → (j = 0 ∨ u = rowS (⟨false, false, 2⟩ : Lk) pp.bs sz sq j) → feedX (⟨false, false, 2⟩ : Lk) u (pcV (⟨false, false, 2⟩ : Lk) pp.bs sz sq j) = .ok (rowS (⟨false, false, 2⟩ : Lk) pp.bs sz sq (j + 1), if j + 1 = n then pp.bs else [], decide (j + 1 = n))) := by
        intro j u hj hu
        have q := feed_row (⟨false, false, 2⟩ : Lk) u pp.bs sz sq j (by simp) (by omega) (by omega) (by rw [HPN.out]; omega) (by rw [hnn]; exact hj) hu
        rw [hnn] at q
        exact q
      have HRL : Hid (rowS (⟨false, false, 2⟩ : Lk) pp.bs sz sq n = ⟨(sq + n) % 16777216, false, []⟩) := by
        show rowS _ _ _ _ _ = _
        unfold rowS
        rw [if_neg (by rw [hnn]; omega), hspv]
      have HPB : Hid (∀ j, (pcV (⟨false, false, 2⟩ : Lk) pp.bs sz sq j).length ≤ 100) := by
        intro j
        have e1 := pc_len (⟨false, false, 2⟩ : Lk) pp.bs sz sq j
        have e2 := chunk_len pp.bs sz j
        omega
      have HGT : Hid (∀ j, j < n → (splitL (⟨false, false, 2⟩ : Lk) pp.bs sz sq).getD j [] = pcV (⟨false, false, 2⟩ : Lk) pp.bs sz sq j) := fun j hj => split_get hnn hj
      clear HSPL HCPA HSP C3 K1 K2 z3 r3 hHeld UW hvw
      have hzn : ((n : Int) == 0) = false := by rw [beq_eq_false_iff_ne]; omega
      generalize hpcs : pcV (⟨false, false, 2⟩ : Lk) pp.bs sz sq = pcs at *
      generalize hrow : rowS (⟨false, false, 2⟩ : Lk) pp.bs sz sq = row at *
      generalize hspl : splitL (⟨false, false, 2⟩ : Lk) pp.bs sz sq = spl at *
      clear hpcs hrow hspl
      go_wp2
      go_loopw [18] (fun x wy => ∃ (j : Nat) (u : Bs), j ≤ n ∧ x = .int .i64 j ∧ Hid (j = 0 ∨ u = row j) ∧ BW w2 (.pointer (some ad)) (⟨false, false, 2⟩ : Lk) u wo.heap.size v2.heap.size wy ∧ Hid (LLv wy v1.heap.size (.slice (some ⟨g, 0, none⟩) n cap) vs spl ∧ v2.heap.size ≤ wy.heap.size)) (fun x _ => n - (intOf x).toNat)
      case atStart => exact ⟨0, _, Nat.zero_le _, rfl, .inl rfl, UR, ⟨LV, Nat.le_refl _⟩⟩
      case round =>
        clear UR LV
        obtain ⟨j, u, hj', rfl, HU, UY, HLL⟩ := hrel
        have GY := grown_trans G2'.out UY.up
        by_cases hjl : j < n
        · obtain ⟨g', cap', ao, cao, hv, cj, hvj, CJ, OJ⟩ := HLL.out.1.item (i := j) (by rw [HLen.out]; exact hjl)
          rw [HLen.out] at hv
          simp only [Value.slice.injEq, Option.some.injEq, Addr.mk.injEq, and_true, true_and] at hv
          obtain ⟨rfl, rfl⟩ := hv
          rw [HGT.out j hjl] at cj CJ OJ hvj
          have hfe := HFR.out j u hjl HU.out
          have hpl := HPB.out j
          generalize pcs j = pc at *
          obtain ⟨ao', cao', he, -, zj, rj⟩ := OJ.items
          simp only [Value.slice.injEq, true_and] at he
          obtain ⟨rfl, rfl⟩ := he
          have hrg : ∀ ad', ao = some ad' → pc ≠ [] → wo.heap.size ≤ ad'.block ∧ ad'.block < v2.heap.size := fun ad' had _ => by
            obtain ⟨ao2, cap2, e2, -, -, -, -, ob⟩ := OJ.shape
            simp only [Value.slice.injEq, true_and] at e2
            obtain ⟨rfl, rfl⟩ := e2
            refine HB9.out.2 j hjl _ ?_
            rw [hvj, ob, had]
            rfl
          have HFD : Hid (Calls Try.prog 9 #[.pointer (some ad), .slice ao pc.length cao] wr fun e w' => ∃ x, e = .returned (.tuple #[x, .bool (decide (j + 1 = n)), .int .i64 0]) ∧ Owns w' wr.heap.size x (if j + 1 = n then pp.bs else []) ∧ BW w2 (.pointer (some ad)) (⟨false, false, 2⟩ : Lk) (row (j + 1)) wo.heap.size v2.heap.size w' ∧ Rest w2 wo.heap.size v2.heap.size wr w') := UY.feedp_ok ao cao pc CJ zj rj (by omega) HLL.out.2 hrg hfe
          have hlj : (j : Int) < (n : Int) := by omega
          have hj0 : (0 : Int) ≤ (j : Int) := by omega
          generalize pc.length = PJ at *
          clear CJ OJ hfe hrg zj rj UY hvj
          go_wp2_with fail
          refine HFD.out.mono ?_
          rintro e w8 ⟨x8, rfl, O8, U8, RS⟩
          have HL8 : Hid (LLv w8 v1.heap.size (.slice (some ⟨g, 0, none⟩) n cap) vs spl ∧ v2.heap.size ≤ w8.heap.size) := ⟨HLL.out.1.avoid RS (fun y hy hs => by have := HB9.out.1 y hy; omega) (fun q hq y hy hs => by have := HB9.out.2 q (by rw [← HLen.out]; exact hq) y hy; omega), Nat.le_trans HLL.out.2 RS.size⟩
          have G8 := grown_trans G2'.out U8.up
          have HO8 : Hid (Owns w8 wr.heap.size x8 (if j + 1 = n then pp.bs else [])) := O8
          have hz7 : IntKind.i64.wrap ((n : Int) - 1) = (n : Int) - 1 := by rw [IntKind.wrap_i64]; omega
          clear O8 RS HFD HLL cj GY
          by_cases hil : j + 1 = n
          · have HO9 := HO8.out
            rw [if_pos hil] at HO9
            obtain ⟨ao8, ca8, rfl, C8, -, -⟩ := HO9.items
            have D8 := HOK0.out.1.keptNone G8
            have ci8 := G8.cell HCI.out (by simp)
            have HSM : Hid (Calls Try.prog 10 #[.slice ao8 PN ca8, .slice pp.ao PN pp.cap] w8 fun e w' => e = .returned (.bool true) ∧ w8.grownBy w' none) := by
              have q := same_any ao8 pp.ao ca8 pp.cap pp.bs w8 C8 D8 (by rw [HPN.out]; omega)
              rw [HPN.out] at q
              refine q.mono ?_
              rintro e w' ⟨rfl, n', rfl⟩
              exact ⟨rfl, grown_drewN w8 n' none⟩
            rw [decide_eq_true hil, HPN.out]
            have hel : ((j : Int) == (n : Int) - 1) = true := by rw [beq_iff_eq]; omega
            have HIL : Hid (j + 1 = n) := hil
            clear HO8 HO9 C8 D8 hil
            go_wp2_with fail
            refine HSM.out.mono ?_
            rintro e w10 ⟨rfl, K10⟩
            have U10 := U8.kept K10
            have HL10 : Hid (LLv w10 v1.heap.size (.slice (some ⟨g, 0, none⟩) n cap) vs spl ∧ v2.heap.size ≤ w10.heap.size) := ⟨HL8.out.1.keptNone K10, Nat.le_trans HL8.out.2 K10.size⟩
            clear U8 HL8 HSM ci8 K10
            go_wp2
            go_roundw
            case rel => exact ⟨j + 1, row (j + 1), by omega, by go_num, .inr rfl, U10, HL10⟩
            case measure => simp [intOf]; omega
          · have HO9 := HO8.out
            rw [if_neg hil] at HO9
            obtain ⟨ao8, ca8, rfl, -, -, -⟩ := HO9.items
            rw [decide_eq_false hil, show ([] : List UInt8).length = 0 from rfl]
            have hel : ((j : Int) == (n : Int) - 1) = false := by rw [beq_eq_false_iff_ne]; omega
            clear HO8 HO9
            go_wp2
            go_roundw
            case rel => exact ⟨j + 1, row (j + 1), by omega, by go_num, .inr rfl, U8, HL8⟩
            case measure => simp [intOf]; omega
        · obtain rfl : j = n := by omega
          have hun : u = ⟨(sq + j) % 16777216, false, []⟩ := by
            rcases HU.out with h | h
            · omega
            · rw [h, HRL.out]
          subst hun
          obtain ⟨nq, hnq⟩ : ∃ nq, (sq + j) % 16777216 = nq := ⟨_, rfl⟩
          rw [hnq] at UY
          have hnql : nq < 16777216 := by rw [← hnq]; exact Nat.mod_lt _ (by decide)
          have UF := UY.free
          have hz1 : IntKind.u32.wrap (j : Int) = (j : Int) := by rw [IntKind.wrap_u32]; omega
          have hz2 : IntKind.u32.wrap ((sq : Int) + (j : Int)) = (sq : Int) + (j : Int) := by rw [IntKind.wrap_u32]; omega
          have hz4 : ((sq : Int) + (j : Int)) % 16777216 = (nq : Int) := by omega
          have hz5 : ((sq : Int) + (j : Int)).tmod 16777216 = (nq : Int) := by rw [Int.tmod_eq_emod_of_nonneg (by omega)]; exact hz4
          clear hnq UY HU HLL HFR HB9 HRL HPB HGT HLen
          go_wp2
          go_roundw
          case rel => exact ⟨i + 1, nq, by omega, rfl, by go_num, hnql, UF⟩
          case measure => simp [intOf]; omega
    · obtain rfl : i = qs.length := by omega
      have hss : ((sq : Int) == (sq : Int)) = true := by simp
      go_wp2_with fail
      refine UW.waits.mono ?_
      rintro e w7 ⟨rfl, -, K7⟩
      have G7 := grown_trans GW K7
      rw [show (([] : List UInt8).length : Int) = 0 from rfl]
      clear UW
      go_wp2_with fail
      refine (awake9_any _).mono ?_
      rintro e wz ⟨rfl, KZ⟩
      go_wp2
      go_ret
      exact ⟨rfl, grown_trans G7 KZ⟩

theorem walk (a : Option Addr) (ca : Nat) (qs : List Part) (x : Int) (f : Nat) (long : Bool) (w : World) (ha : CV w a (qs.map Part.v)) (hc0 : a = none → ca = 0) (hq : ∀ p ∈ qs, p.ok w ∧ p.bs.length ≤ p.cap) (hn : qs.length * 24 ≤ 140737488351232) (hp : ∀ p ∈ qs, p.bs.length ≤ 140737488351232) (hf : f ≤ 4294967295) :
    Calls Try.prog 3 #[.slice a qs.length ca, .int .i64 x, .int .u32 (f : Int), .bool long] w fun e w' => e = .returned (.bool true) ∧ w.grownBy w' none := by
  cases long with
  | false => exact walkF a ca qs x f w ha hc0 hq hn hp hf
  | true => exact walkT a ca qs x f w ha hc0 hq hn hp hf

set_option maxRecDepth 100000 in
theorem lifted (os : Os) (started : os.Started) (H : Type) (enc : TypeId × Value → H) :
    ReturnsInHanded {} Try.checked os 3 .any (Rows.bundleRowSpec.pre6 enc Try.prog Try.f3 Rows.bundleRowRow.domain false) (Rows.bundleRowSpec.post enc Try.prog Try.f3 false true false false) := by
  refine returnsInHanded_of_change_sized (C := Try.checked) own started (by kernel_rfl) Try.func3
    (ChangeSpec.witness6 (enc := enc) (C := Try.checked) false ⟨#[], #[.slice none 0 0, .int .i64 0, .int .u32 0, .bool false], []⟩ 8 (by kernel_rfl) (by kernel_rfl) (by kernel_rfl) (by kernel_rfl)) ?_
  intro W base args ds gs before hval0 hW hcnd hsz0 _
  have hsz : (DataW.weightsEach Try.prog (Try.f3.params.toList ++ Rows.bundleRowSpec.plain.varTypes Try.prog) (ds ++ gs)).all (· ≤ reachBytes) = true := hsz0
  have hval : ∀ (j : Nat) t v, Try.f3.params[j]? = some t → args[j]? = some v → Value.okWide Try.prog W .any base t v := hval0
  have hW' := hW
  obtain ⟨p, q, hA0, hV, rfl, hfz, hnd⟩ := hW
  have hA : DataW.TrodAll enc Try.prog W 0 (fun _ => true) true Try.f3.params.toList args.toList ds p := hA0
  rw [Try.params3] at hA hval hsz
  obtain ⟨v0, vs0, d0, ds0, p0, q0, hargs, rfl, rfl, h0, r0⟩ := trodAll_cons hA
  obtain ⟨v1, vs1, d1, ds1, p1, q1, rfl, rfl, rfl, h1, r1⟩ := trodAll_cons r0
  obtain ⟨v2, vs2, d2, ds2, p2, q2, rfl, rfl, rfl, h2, r2⟩ := trodAll_cons r1
  obtain ⟨v3, vs3, d3, ds3, p3, q3, rfl, rfl, rfl, h3, r3⟩ := trodAll_cons r2
  obtain ⟨rfl, rfl, rfl⟩ := trodAll_nil r3
  obtain rfl : args = #[v0, v1, v2, v3] := by cases args; simp_all
  obtain ⟨rfl, rfl⟩ := trodVars_none hV
  obtain ⟨a0, len0, cap0, rfl⟩ := okWide_slice Try.underlying22 (hval 0 22 v0 rfl rfl)
  have k0 := h0
  have lt0 : ∀ x ∈ p0, x.block < W.heap.size := by obtain ⟨m, hm⟩ := k0; exact DataW.trod_lt m _ _ _ hm
  obtain ⟨qs0, rfl, hcv0, hnil0, hqs0, hdat0⟩ := open_lists h0
  have hlen0 := sized_lists hsz (j := 0) rfl rfl hdat0
  obtain ⟨x1, rfl, rfl, rfl, w1⟩ := open_int Try.underlying3 (hval 1 3 v1 rfl rfl) h1
  obtain ⟨y2, rfl, rfl, rfl, w2⟩ := open_int Try.underlying23 (hval 2 23 v2 rfl rfl) h2
  have bd2 := bounds_u32 w2
  obtain ⟨x2, rfl⟩ := Int.eq_ofNat_of_zero_le bd2.1
  have hv2 : x2 ≤ 4294967295 := by omega
  obtain ⟨x3, rfl, rfl, rfl⟩ := open_bool Try.underlying4 (hval 3 4 v3 rfl rfl) h3
  clear hA0 hval0
  refine (walk a0 cap0 qs0 x1 x2 x3 W hcv0 hnil0 hqs0 hlen0.1 hlen0.2 hv2).mono fun e W' ⟨he, hg⟩ => ?_
  subst he
  have bel : Below W.heap.size W W' := (Below.refl _ _).grown hg (Nat.le_refl _) (by simp)
  exact ⟨_, rfl, _, _, _, [], _, [], hW', trodAll_mk1 (shut_bool Try.underlying4 _), (trodAll_cons_mk (Below.trod laidOut (by kernel_rfl) (of_decide_eq_true (by kernel_rfl)) k0 bel lt0) (trodAll_cons_mk (shut_int Try.underlying3 w1) (trodAll_cons_mk (shut_int Try.underlying23 w2) (trodAll_cons_mk (shut_bool Try.underlying4 x3) trodAll_mk0)))), rfl, bel.frame _, fun h => by cases h⟩

theorem over : Rows.BundleRowSaid :=
  OpenClaim.holds_of_wide 3 Try.f3 rfl rfl rfl rfl rfl rfl rfl ⟨rfl, rfl, rfl, rfl, rfl⟩ rfl rfl rfl rfl rfl (by kernel_rfl) Try.func3 (by kernel_rfl)
    (of_decide_eq_true (by kernel_rfl)) (by unfold Func.isWrapper; first | (rw [if_pos (by decide +kernel)]; kernel_rfl) | (rw [if_neg (by decide +kernel)]; exact ⟨rfl, rfl⟩))
    (fun os started H enc _ => lifted os started H enc)

end bundleRow

theorem bundleRow_holds : Rows.BundleRowSaid := bundleRow.over
#print axioms bundleRow_holds

end Go.Proofs.Ytgfiadljjlajaab
