/-
  For every list of lists of bytes, every int, every uint32 and every list of ints, as far as what is read is of bulk at most 1048576, riddlelaw9.BundleLost returns true and leaves what was there as it was: no other condition.
-/
import Derived.Test.YtkjofgnmjfngeaaLotBundleLost24
import Derived.Test.YtkjofgnmjfngeaaLotBundleLost13
import Derived.BigQuiet
namespace Go.Proofs.Ytkjofgnmjfngeaa
open Go.ChangeShapes Go.WideShapes Go.ChangeAt Go.RowKit
open Go.ChangeMaps (open_string shut_string)
set_option maxRecDepth 100000
namespace bundleLost

theorem sum_len (qs : List Part) : qs.length ≤ (qs.map fun p => p.bs.length + 1).sum := by
  induction qs with
  | nil => simp
  | cons p r ih =>
    simp only [List.length_cons, List.map_cons, List.sum_cons]
    omega
theorem ls_get {qs : List Part} {i : Nat} (hi : i < qs.length) : (qs.map Part.bs).getD i [] = qs[i].bs := by
  rw [List.getD_eq_getElem?_getD, List.getElem?_map, List.getElem?_eq_getElem hi]
  rfl
theorem row_cell {w : World} {base n : Nat} {v : Value} {O : List Int} (h : w.ownsRow base 3 1 v n (O.map (Value.int .i64))) (hn : O.length = n) (h0 : 0 < n) : ∃ g cap, v = .slice (some ⟨g, 0, none⟩) n cap ∧ ∀ k z, O[k]? = some z → w.cell? ⟨g, k, none⟩ = some (.int .i64 z) := by
  have hr := h
  rcases h.2 with ⟨-, h1⟩ | ⟨g, cap, cur, hv, -⟩
  · omega
  · refine ⟨g, cap, hv, fun k z hk => ?_⟩
    rw [hv] at hr
    have hlt : k < O.length := (List.getElem?_eq_some_iff.1 hk).1
    have hc := hr.cellAt k (by omega)
    rw [hc, List.getElem?_map, hk]
    rfl

set_option maxRecDepth 100000 in
set_option maxHeartbeats 16000000 in
theorem walk (a : Option Addr) (ca : Nat) (qs : List Part) (x : Int) (f : Nat) (az : Option Addr) (cz : Nat) (zs : List Int) (w : World) (ha : CV w a (qs.map Part.v)) (_hc0 : a = none → ca = 0) (hq : ∀ p ∈ qs, p.ok w ∧ p.bs.length ≤ p.cap) (hbk : (qs.map fun p => p.bs.length + 1).sum ≤ 1048576) (hf : f ≤ 4294967295) (hz : CV w az (zs.map (Value.int .i64))) (_ho0 : az = none → cz = 0) (hzl : zs.length ≤ 1048576) :
    Calls Try.prog 3 #[.slice a qs.length ca, .int .i64 x, .int .u32 (f : Int), .slice az zs.length cz] w fun e w' => e = .returned (.bool true) ∧ w.grownBy w' none := by
  have H : Hid (CV w a (qs.map Part.v)) := ha
  have HZ : Hid (CV w az (zs.map (Value.int .i64))) := hz
  have HQ : Hid (∀ p ∈ qs, p.ok w ∧ p.bs.length ≤ p.cap) := hq
  have hn : qs.length ≤ 1048576 := Nat.le_trans (sum_len qs) hbk
  have HLS : Hid ((Try.prog.info? 26).map (·.size) = some (lkA (⟨false, false, 1⟩ : Lk)).size) := size26
  have LK := VAt.alloc w 26 #[.bool false, .bool false, .int .i64 1]
  have GL := World.grownBy_alloc w (.cells #[.bool false, .bool false, .int .i64 1] 26) none
  obtain ⟨sz, hsz⟩ : ∃ sz, 1 + lowV x % 50 = sz := ⟨_, rfl⟩
  obtain ⟨lo, hlo⟩ : ∃ lo, lowV x = lo := ⟨_, rfl⟩
  have hlo2 : lo < 9223372036854775808 := by rw [← hlo]; exact lowV_lt x
  rw [hlo] at hsz
  have hl1 : ((lo : Int)).tmod 50 = ((lo % 50 : Nat) : Int) := by rw [Int.tmod_eq_emod_of_nonneg (by omega)]; omega
  have hszb : 1 ≤ sz ∧ sz ≤ 50 := by omega
  have hsz2 : (1 : Int) + (lo : Int) % 50 = (sz : Int) := by omega
  have CLW : Hid (∀ W : World, Calls Try.prog 4 #[.int .i64 x] W fun e w' => e = .returned (.int .i64 (lo : Int)) ∧ W = w') := fun W => by
    have q := low_any x W
    rw [hlo] at q
    exact q
  obtain ⟨fr, hfr⟩ : ∃ fr, f % 4096 = fr := ⟨_, rfl⟩
  have hfr1 : (f : Int) % 4096 = (fr : Int) := by omega
  have hfr2 : (f : Int).tmod 4096 = (fr : Int) := by rw [Int.tmod_eq_emod_of_nonneg (by omega)]; exact hfr1
  have hfrl : fr < 4096 := by omega
  have hspv : spV (⟨false, false, 1⟩ : Lk) = 4096 := rfl
  have hszv : szV (⟨false, false, 1⟩ : Lk) = 2 := rfl
  obtain ⟨ls, hls⟩ : ∃ ls, qs.map Part.bs = ls := ⟨_, rfl⟩
  have HLN : Hid (ls.length = qs.length) := by show ls.length = qs.length; rw [← hls]; simp
  have HLSV : Hid (ls.length = qs.length ∧ ∀ i (hi : i < qs.length), ls.getD i [] = qs[i].bs) := ⟨by rw [← hls]; simp, fun i hi => by rw [← hls]; exact ls_get hi⟩
  have HOB : Hid (∀ i, i ≤ ls.length → offV ls sz i ≤ 1048576) := fun i _ => by
    have q := off_bulk ls sz i hszb.1
    have e : (ls.map fun b => b.length + 1).sum = (qs.map fun p => p.bs.length + 1).sum := by rw [← hls, List.map_map]; rfl
    omega
  have HNW : Hid (∀ W : World, Calls Try.prog 8 #[.agg (lkA (⟨false, false, 1⟩ : Lk)), .int .u32 (fr : Int)] W fun e w' => ∃ p, e = .returned (.tuple #[p, .int .i64 0]) ∧ BW W p (⟨false, false, 1⟩ : Lk) ⟨fr, false, []⟩ 0 0 w' ∧ W.grownBy w' none) := fun W => by
    refine (new_ok (⟨false, false, 1⟩ : Lk) fr ⟨fr, false, []⟩ W ?_).mono ?_
    · unfold newX
      rw [if_neg (by decide), if_neg (by rw [hspv]; exact Nat.not_le.2 hfrl)]
    · rintro e w' ⟨p, S, rfl, B, K⟩
      exact ⟨p, rfl, BW.new B K, K⟩
  clear ha hq hz hlo hfr hbk hls
  go_enter Try.func3, Try.ntmps3
  go_upto_region 2 with fail
  generalize w.alloc (.cells #[.bool false, .bool false, .int .i64 1] 26) = w2 at *
  obtain ⟨L, hL⟩ : ∃ L, w.heap.size = L := ⟨_, rfl⟩
  have HLw : Hid (w.heap.size = L) := hL
  rw [hL] at LK ⊢
  clear hL
  go_wp2_with fail
  refine (CLW.out _).mono ?_
  rintro e w3 ⟨rfl, rfl⟩
  clear CLW
  go_upto_region 4 with fail
  clear hl1 hsz hsz2 hlo2
  have HL2 : Hid (VAt w2 L 26 (lkA (⟨false, false, 1⟩ : Lk))) := LK
  have G2' : Hid (w.grownBy w2 none) := GL
  clear LK GL
  go_upto_region 7 with fail
  go_loopw [11, 12, 13, 14] (fun s vp vo x wr => ∃ (i : Nat) (vs : List Value), i ≤ qs.length ∧ s = .int .u32 (((fr + offV ls sz i) % 4096 : Nat) : Int) ∧ x = .int .i64 i ∧ Hid (LLv wr w2.heap.size vp vs (pcsV (⟨false, false, 1⟩ : Lk) ls sz fr i) ∧ wr.ownsRow w2.heap.size 3 1 vo (ofsV ls sz i).length ((ofsV ls sz i).map (Value.int .i64)) ∧ w2.grownBy wr none ∧ ∀ k, k < i → (ls.getD k []).length ≤ 3000)) (fun _ _ _ x _ => qs.length - (intOf x).toNat)
  case atStart => exact ⟨0, [], Nat.zero_le _, by simp [offV]; omega, rfl, ⟨LLv.nil _ _, World.ownsRow_nil _ _ _ _, World.grownBy.refl _ _, fun k hk => absurd hk (by omega)⟩⟩
  case round =>
    obtain ⟨wo, rfl⟩ : ∃ wo : World, wo = wr := ⟨_, rfl⟩
    obtain ⟨i, vs0, hi', rfl, rfl, HI⟩ := hrel
    obtain ⟨sq, hsq⟩ : ∃ sq, (fr + offV ls sz i) % 4096 = sq := ⟨_, rfl⟩
    have HSQ : Hid ((fr + offV ls sz i) % 4096 = sq) := hsq
    have hsql : sq < 4096 := by rw [← hsq]; exact Nat.mod_lt _ (by decide)
    rw [hsq]
    clear hsq
    have GW := grown_trans G2'.out HI.out.2.2.1
    by_cases hlt : i < qs.length
    · obtain ⟨bb, o, rfl, hcell⟩ := H.out.parts hlt
      have ci0 := hcell i hlt
      have ci := GW.cell ci0 (by simp)
      obtain ⟨pp, hpp⟩ : ∃ pp, qs[i] = pp := ⟨_, rfl⟩
      have hmem : pp ∈ qs := by rw [← hpp]; exact List.getElem_mem hlt
      obtain ⟨hok, hcap⟩ := HQ.out pp hmem
      have HLG : Hid (ls.getD i [] = pp.bs) := by rw [← hpp]; exact HLSV.out.2 i hlt
      rw [hpp] at ci
      obtain ⟨PN, hPN⟩ : ∃ PN, pp.bs.length = PN := ⟨_, rfl⟩
      rw [hPN] at ci hcap
      have HPN : Hid (pp.bs.length = PN) := hPN
      have HOKP : Hid (pp.ok wo) := hok.kept GW
      have LKr : Hid (VAt wo L 26 (lkA (⟨false, false, 1⟩ : Lk))) := HL2.out.kept HI.out.2.2.1
      have hli : (i : Int) < (qs.length : Int) := by omega
      have hi0 : (0 : Int) ≤ (i : Int) := by omega
      clear ci0 hcell hpp hok hPN
      by_cases hbig : 60 * sz < PN
      case pos =>
        have h1 : (60 : Int) * (sz : Int) < (PN : Int) := by omega
        clear HI
        go_wp2_with fail
        refine (awake9_any _).mono ?_
        rintro e wz ⟨rfl, KZ⟩
        go_wp2
        go_ret
        exact ⟨rfl, grown_trans GW KZ⟩
      have h1 : ¬ (60 : Int) * (sz : Int) < (PN : Int) := by omega
      have HSP : Hid (splitX (⟨false, false, 1⟩ : Lk) pp.bs (sz : Int) sq = .ok (splitL (⟨false, false, 1⟩ : Lk) pp.bs sz sq)) := by
        show splitX _ _ _ _ = _
        unfold splitX
        rw [if_neg (by decide), if_neg (by rw [hspv]; omega), if_neg (by rw [HPN.out]; omega), if_neg (by rw [HPN.out]; omega), Int.toNat_natCast]
      obtain ⟨n, hnn⟩ : ∃ n, cntV pp.bs.length sz = n := ⟨_, rfl⟩
      have hn1 : 1 ≤ n := by rw [← hnn]; exact cnt_pos _ _ (by omega)
      have hn2 : n ≤ 4096 := by rw [← hnn]; exact cnt_many (by omega) (by rw [HPN.out]; omega)
      have HCPA : Hid (∀ W : World, wo.grownBy W none → Calls Try.prog 7 #[.slice pp.ao PN pp.cap] W fun e w' => ∃ v, e = .returned v ∧ Owns w' W.heap.size v pp.bs ∧ W.grownBy w' none) := fun W KW => by
        have q := copy_any pp.ao pp.cap pp.bs W (HOKP.out.1.keptNone KW) HOKP.out.2 (by rw [HPN.out]; omega)
        rw [HPN.out] at q
        exact q
      have HSPL : Hid (∀ (W : World) (ao : Option Addr) (q : Nat), Cells W ao pp.bs → (ao = none → q = 0) → PN ≤ q → Calls Try.prog 6 #[.agg (lkA (⟨false, false, 1⟩ : Lk)), .slice ao PN q, .int .i64 (sz : Int), .int .u32 (sq : Int)] W fun e w' => ∃ v, e = .returned (.tuple #[v, .int .i64 0]) ∧ LL w' W.heap.size v (splitL (⟨false, false, 1⟩ : Lk) pp.bs sz sq) ∧ W.grownBy w' none) := fun W ao q h1 h2 h3 => by
        have r := split_any (⟨false, false, 1⟩ : Lk) ao q pp.bs (sz : Int) sq W h1 h2 (by rw [HPN.out]; exact h3) (by rw [HPN.out]; omega)
        rw [HSP.out, HPN.out] at r
        exact r
      clear HLSV
      go_upto_region 11 with fail
      refine wp_region_held_drew (S := fun W => VAt W L 26 (lkA (⟨false, false, 1⟩ : Lk)) ∧ W.cell? ⟨bb, o + i, none⟩ = some (.slice pp.ao PN pp.cap) ∧ wo.grownBy W none) (by kernel_rfl) (⟨LKr.out.kept (grown_drewN wo 1 none), (grown_drewN wo 1 none).cell ci (by simp), grown_drewN wo 1 none⟩) (fun hHeld => ?_)
      refine wpAnyH_take (i := 0) (v := .agg (lkA (⟨false, false, 1⟩ : Lk))) rfl (by kernel_rfl) (by kernel_rfl) (by kernel_rfl) (fun _ _ _ h => h) (yieldsIf_load_row (by rfl) _ _ rfl L rfl 26 (lkA (⟨false, false, 1⟩ : Lk)) _ (fun W hW => hW.1) Try.underlying26 rfl HLS.out) hHeld ?_
      try simp only [Act.put, List.getElem_toArray, List.getElem_cons_zero, List.setIfInBounds_toArray, List.set_cons_zero, List.set_cons_succ]
      refine wpAnyH_take (i := 1) (v := .slice (some ⟨bb, o, none⟩) qs.length ca) rfl (by kernel_rfl) (by kernel_rfl) (by kernel_rfl) (fun _ _ _ h => h) (Or.inl ⟨by rfl, fun W hW => ?_⟩) hHeld ?_
      · clear hW
        go_simp
      try simp only [Act.put, List.getElem_toArray, List.getElem_cons_zero, List.getElem_cons_succ, List.setIfInBounds_toArray, List.set_cons_zero, List.set_cons_succ]
      refine wpAnyH_take (i := 2) (v := .int .i64 (i : Int)) rfl (by kernel_rfl) (by kernel_rfl) (by kernel_rfl) (fun _ _ _ h => h) (Or.inl ⟨by rfl, fun W hW => ?_⟩) hHeld ?_
      · clear hW
        go_simp
      try simp only [Act.put, List.getElem_toArray, List.getElem_cons_zero, List.getElem_cons_succ, List.setIfInBounds_toArray, List.set_cons_zero, List.set_cons_succ]
      refine wpAnyH_take (i := 3) (v := .pointer (some ⟨bb, o + i, none⟩)) rfl (by kernel_rfl) (by kernel_rfl) (by kernel_rfl) (fun _ _ _ h => h) (Or.inl ⟨by rfl, fun W hW => ?_⟩) hHeld ?_
      · clear hW
        go_simp
      try simp only [Act.put, List.getElem_toArray, List.getElem_cons_zero, List.getElem_cons_succ, List.setIfInBounds_toArray, List.set_cons_zero, List.set_cons_succ]
      refine wpAnyH_take (i := 4) (v := .slice pp.ao PN pp.cap) rfl (by kernel_rfl) (by kernel_rfl) (by kernel_rfl) (fun _ _ _ h => h) (Or.inl ⟨by rfl, fun W hW => ?_⟩) hHeld ?_
      · have c := hW.2.1
        clear hW
        go_simp
      try simp only [Act.put, List.getElem_toArray, List.getElem_cons_zero, List.getElem_cons_succ, List.setIfInBounds_toArray, List.set_cons_zero, List.set_cons_succ]
      refine wpAnyH_take (i := 6) (v := .int .i64 (sz : Int)) rfl (by kernel_rfl) (by kernel_rfl) (by kernel_rfl) (fun _ _ _ h => h) (Or.inl ⟨by rfl, fun W hW => ?_⟩) hHeld ?_
      · clear hW
        go_simp
      try simp only [Act.put, List.getElem_toArray, List.getElem_cons_zero, List.getElem_cons_succ, List.setIfInBounds_toArray, List.set_cons_zero, List.set_cons_succ]
      refine wpAnyH_take (i := 7) (v := .int .u32 (sq : Int)) rfl (by kernel_rfl) (by kernel_rfl) (by kernel_rfl) (fun _ _ _ h => h) (Or.inl ⟨by rfl, fun W hW => ?_⟩) hHeld ?_
      · clear hW
        go_simp
      try simp only [Act.put, List.getElem_toArray, List.getElem_cons_zero, List.getElem_cons_succ, List.setIfInBounds_toArray, List.set_cons_zero, List.set_cons_succ]
      refine wpAnyH_ready (rs := [5]) (by kernel_rfl) (by simp) (AllReadyH.cons rfl (fun K hK => ?_) AllReadyH.nil)
      go_simp
      refine (HCPA.out _ hHeld.2.2).mono ?_
      rintro e v1 ⟨y, rfl, O3, K1⟩
      obtain ⟨ao3, ca3, rfl, C3, z3, r3⟩ := O3.items
      rw [HPN.out] at r3 ⊢
      clear O3
      go_wp2_with fail
      refine hK.out _ _ (⟨hHeld.1.kept K1, K1.cell hHeld.2.1 (by simp), grown_trans hHeld.2.2 K1⟩) (fun hHeld => ?_)
      clear hK K
      try simp only [Act.put, List.getElem_toArray, List.getElem_cons_zero, List.getElem_cons_succ, List.setIfInBounds_toArray, List.set_cons_zero, List.set_cons_succ]
      refine wpAnyH_ready (rs := [8]) (by kernel_rfl) (by simp) (AllReadyH.cons rfl (fun K hK => ?_) AllReadyH.nil)
      go_simp
      refine (HSPL.out _ ao3 ca3 C3 z3 r3).mono ?_
      rintro e v2 ⟨vl, rfl, LV, K2⟩
      go_wp2_with fail
      refine hK.out _ _ (⟨hHeld.1.kept K2, K2.cell hHeld.2.1 (by simp), grown_trans hHeld.2.2 K2⟩) (fun hHeld => ?_)
      clear hK K
      try simp only [Act.put, List.getElem_toArray, List.getElem_cons_zero, List.getElem_cons_succ, List.setIfInBounds_toArray, List.set_cons_zero, List.set_cons_succ]
      refine wpAnyH_take (i := 9) (v := .tuple #[vl, .int .i64 0]) rfl (by kernel_rfl) (by kernel_rfl) (by kernel_rfl) (fun _ _ _ h => h) (Or.inl ⟨by rfl, fun W hW => ?_⟩) hHeld ?_
      · clear hW
        go_simp
      try simp only [Act.put, List.getElem_toArray, List.getElem_cons_zero, List.getElem_cons_succ, List.setIfInBounds_toArray, List.set_cons_zero, List.set_cons_succ]
      refine wpAnyH_take (i := 10) (v := vl) rfl (by kernel_rfl) (by kernel_rfl) (by kernel_rfl) (fun _ _ _ h => h) (Or.inl ⟨by rfl, fun W hW => ?_⟩) hHeld ?_
      · clear hW
        go_simp
      try simp only [Act.put, List.getElem_toArray, List.getElem_cons_zero, List.getElem_cons_succ, List.setIfInBounds_toArray, List.set_cons_zero, List.set_cons_succ]
      refine wpAnyH_take (i := 11) (v := .int .i64 0) rfl (by kernel_rfl) (by kernel_rfl) (by kernel_rfl) (fun _ _ _ h => h) (Or.inl ⟨by rfl, fun W hW => ?_⟩) hHeld ?_
      · clear hW
        go_simp
      try simp only [Act.put, List.getElem_toArray, List.getElem_cons_zero, List.getElem_cons_succ, List.setIfInBounds_toArray, List.set_cons_zero, List.set_cons_succ]
      refine wpAnyH_take (i := 12) (v := vl) rfl (by kernel_rfl) (by kernel_rfl) (by kernel_rfl) (fun _ _ _ h => h) (Or.inl ⟨by rfl, fun W hW => ?_⟩) hHeld ?_
      · clear hW
        go_simp
      try simp only [Act.put, List.getElem_toArray, List.getElem_cons_zero, List.getElem_cons_succ, List.setIfInBounds_toArray, List.set_cons_zero, List.set_cons_succ]
      refine wpAnyH_take (i := 13) (v := .int .i64 0) rfl (by kernel_rfl) (by kernel_rfl) (by kernel_rfl) (fun _ _ _ h => h) (Or.inl ⟨by rfl, fun W hW => ?_⟩) hHeld ?_
      · clear hW
        go_simp
      try simp only [Act.put, List.getElem_toArray, List.getElem_cons_zero, List.getElem_cons_succ, List.setIfInBounds_toArray, List.set_cons_zero, List.set_cons_succ]
      refine wpAnyH_done (by kernel_rfl) ?_ _
      obtain ⟨vsp, LV⟩ := LV
      have hvw : w2.heap.size ≤ v1.heap.size := by
        have q1 := HI.out.2.2.1.size
        have q2 := (grown_trans (grown_drewN wo 1 none) K1).size
        omega
      have hvo : wo.heap.size ≤ v1.heap.size := (grown_trans (grown_drewN wo 1 none) K1).size
      have HLen : Hid ((splitL (⟨false, false, 1⟩ : Lk) pp.bs sz sq).length = n) := split_len hnn
      obtain ⟨g, cap, rfl, -⟩ := LV.pieces hnn hn1
      obtain ⟨LA, LB, LG, LQ⟩ := HI.out
      obtain ⟨P0, hP0⟩ : ∃ P0, pcsV (⟨false, false, 1⟩ : Lk) ls sz fr i = P0 := ⟨_, rfl⟩
      obtain ⟨O0, hO0⟩ : ∃ O0, ofsV ls sz i = O0 := ⟨_, rfl⟩
      obtain ⟨spl, hspl⟩ : ∃ spl, splitL (⟨false, false, 1⟩ : Lk) pp.bs sz sq = spl := ⟨_, rfl⟩
      rw [hP0] at LA
      rw [hO0] at LB
      rw [hspl] at LV HLen
      have hKo := hHeld.2.2
      have HS : Hid (POs w2 wo.heap.size v2.heap.size v1.heap.size (.slice (some ⟨g, 0, none⟩) n cap) vs0 vsp P0 spl) := by
        refine ⟨hvw, fun k hk y hy => (below_all LA).2 k hk y hy, LA.2.1, fun y hy => ?_, fun k hk y hy => ?_⟩
        · have := LV.1.lt y hy
          omega
        · have := World.ownsRow.lt (LV.2.2.1 k hk) y hy
          omega
      have HP : Hid (PO w2 wo.heap.size v2.heap.size v1.heap.size u12 u13 (.slice (some ⟨g, 0, none⟩) n cap) vs0 vsp P0 spl O0 0 v2) := ⟨by simpa using LA.keptNone hKo, owns_keptNone LB hKo, LV, grown_trans LG hKo, fun y hy => .inl (LA.1.lt y hy).2, Nat.le_refl _⟩
      have HNX : Hid (P0 ++ spl = pcsV (⟨false, false, 1⟩ : Lk) ls sz fr (i + 1) ∧ O0 ++ List.replicate n (i : Int) = ofsV ls sz (i + 1) ∧ offV ls sz (i + 1) = offV ls sz i + n ∧ P0.length = offV ls sz i ∧ O0.length = offV ls sz i ∧ i + 1 ≤ ls.length) := by
        have hil : i < ls.length := by rw [HLN.out]; exact hlt
        refine ⟨?_, ?_, ?_, ?_, ?_, hil⟩
        · rw [pcsV, hP0, HLG.out, HSQ.out, hspl]
        · rw [ofsV, hO0, HLG.out, hnn]
        · rw [off_next ls sz i hil, HLG.out, hnn]
        · rw [← hP0]; exact pcs_len _ _ _ _ _ (by omega)
        · rw [← hO0]; exact ofs_len _ _ _ (by omega)
      have HLQ : Hid (∀ k, k < i + 1 → (ls.getD k []).length ≤ 3000) := fun k hk => by
        by_cases he : k = i
        · subst he
          rw [HLG.out, HPN.out]
          omega
        · exact LQ k (by omega)
      clear HSPL HCPA HSP C3 K1 K2 z3 r3 hHeld hvw hvo LA LB LG LQ LV HI hP0 hO0 hspl hKo
      have hzn : ((n : Int) == 0) = false := by rw [beq_eq_false_iff_ne]; omega
      go_upto_region 15 with fail
      go_loopw [12, 13, 17] (fun vp vo x wy => ∃ j : Nat, j ≤ n ∧ x = .int .i64 j ∧ Hid (PO w2 wo.heap.size v2.heap.size v1.heap.size vp vo (.slice (some ⟨g, 0, none⟩) n cap) vs0 vsp P0 spl (O0 ++ List.replicate j (i : Int)) j wy)) (fun _ _ x _ => n - (intOf x).toNat)
      case atStart => exact ⟨0, Nat.zero_le _, rfl, by rw [List.replicate_zero, List.append_nil]; exact HP⟩
      case round =>
        clear HP
        obtain ⟨j, hj', rfl, HPJ⟩ := hrel
        by_cases hjl : j < n
        · have PJ := HPJ.out
          obtain ⟨g', cap', aj, cj, hv, cc, hvj, -, OJ⟩ := PJ.c.item (i := j) (by rw [HLen.out]; exact hjl)
          rw [HLen.out] at hv
          simp only [Value.slice.injEq, Option.some.injEq, Addr.mk.injEq, and_true, true_and] at hv
          obtain ⟨rfl, rfl⟩ := hv
          have hlj : (j : Int) < (n : Int) := by omega
          have hj0 : (0 : Int) ≤ (j : Int) := by omega
          generalize (spl.getD j []).length = PL at *
          have HVJ : Hid (vsp.getD j undef = .slice aj PL cj) := hvj
          have KB := World.grownBy_alloc wr (.cells #[.slice aj PL cj] 28) none
          have HPB : Hid (PO w2 wo.heap.size v2.heap.size v1.heap.size u12 u13 (.slice (some ⟨g, 0, none⟩) n cap) vs0 vsp P0 spl (O0 ++ List.replicate j (i : Int)) j (wr.alloc (.cells #[.slice aj PL cj] 28))) := PJ.non KB
          have HVL : Hid ((vs0 ++ vsp.take j).length = offV ls sz i + j ∧ offV ls sz i + j + 1 ≤ 1048576) := by
            have e1 : (vs0 ++ vsp.take j).length = P0.length + min j spl.length := by rw [PJ.a.2.1, List.length_append, List.length_take]
            have e2 := HNX.out.2.2.2.1
            have e3 := HOB.out (i + 1) HNX.out.2.2.2.2.2
            have e4 := HNX.out.2.2.1
            rw [HLen.out, e2] at e1
            exact ⟨by omega, by omega⟩
          obtain ⟨i1, ji, jz0, jz1, jz2⟩ := info_parts infoS28
          obtain ⟨i2, ki, kz0, kz1, kz2⟩ := info_parts infoI3
          obtain ⟨VJ, hVJ⟩ : ∃ VJ, vs0 ++ vsp.take j = VJ := ⟨_, rfl⟩
          have HVV : Hid (vs0 ++ vsp.take j = VJ) := hVJ
          rw [hVJ] at HVL
          obtain ⟨OJJ, hOJJ⟩ : ∃ OJJ, O0 ++ List.replicate j (i : Int) = OJJ := ⟨_, rfl⟩
          have HOJ : Hid (O0 ++ List.replicate j (i : Int) = OJJ) := hOJJ
          rw [hOJJ] at HPB
          clear PJ KB OJ HPJ hvj hVJ hOJJ
          go_wp2_with (at_builtin; refine wpList_append_own_at _ rfl (.tmp 73) (.tmp 78) 22 rfl w2.heap.size 28 i1 (.slice none 0 0) 1 24 Try.underlying22 ji jz0 jz1 jz2 rfl (by decide) u12 VJ.length VJ rfl ?r1 ⟨wr.heap.size, 0, none⟩ 1 1 [.slice aj PL cj] rfl rfl (cell_one_new _ _ _) (by simp [Value.oneCell']) ?r3 ?r4 ?r5 ?r6)
          case r1 => rw [← HVV.out]; exact HPB.out.a.1
          case r3 => have := HVL.out; unfold maxLen; omega
          case r4 => have := HVL.out; omega
          case r5 => exact HPB.out.d.size
          case r6 =>
            intro v8 w8 O8 K8 _ L8
            rw [← HVJ.out, ← HVV.out] at O8
            have P8 := HPB.out.push HS.out (by rw [HLen.out]; exact hjl) O8 K8 (by simpa using L8) (by decide) (by decide)
            have KC := World.grownBy_alloc w8 (.cells #[.int .i64 (i : Int)] 3) none
            have HPC : Hid (PO w2 wo.heap.size v2.heap.size v1.heap.size v8 u13 (.slice (some ⟨g, 0, none⟩) n cap) vs0 vsp P0 spl OJJ (j + 1) (w8.alloc (.cells #[.int .i64 (i : Int)] 3))) := P8.non KC
            have HOL : Hid (OJJ.length = offV ls sz i + j) := by
              show OJJ.length = offV ls sz i + j
              rw [← HOJ.out, List.length_append, List.length_replicate, HNX.out.2.2.2.2.1]
            clear O8 K8 L8 P8 KC HPB cc
            go_wp2_with (at_builtin; refine wpList_append_own_at _ rfl (.tmp 80) (.tmp 82) 24 rfl w2.heap.size 3 i2 (.int .i64 0) 1 8 Try.underlying24 ki kz0 kz1 kz2 rfl (by decide) u13 OJJ.length (OJJ.map (Value.int .i64)) rfl ?s1 ⟨w8.heap.size, 0, none⟩ 1 1 [.int .i64 (i : Int)] rfl rfl (cell_one_new _ _ _) (by simp [Value.oneCell']) ?s3 ?s4 ?s5 ?s6)
            case s1 => exact HPC.out.b
            case s3 => have := HVL.out; have := HOL.out; unfold maxLen; omega
            case s4 => have := HVL.out; have := HOL.out; omega
            case s5 => exact HPC.out.d.size
            case s6 =>
              intro v9 w9 O9 K9 _ _
              have P9 := HPC.out.tell O9 K9 (by decide) (by decide)
              rw [← HOJ.out, show O0 ++ List.replicate j (i : Int) ++ [(i : Int)] = O0 ++ List.replicate (j + 1) (i : Int) by rw [List.append_assoc, List.replicate_succ']] at P9
              have HP9 : Hid (PO w2 wo.heap.size v2.heap.size v1.heap.size v8 v9 (.slice (some ⟨g, 0, none⟩) n cap) vs0 vsp P0 spl (O0 ++ List.replicate (j + 1) (i : Int)) (j + 1) w9) := P9
              clear O9 K9 P9 HPC
              go_wp2
              go_roundw
              case rel => exact ⟨j + 1, by omega, by go_num, HP9⟩
              case measure => simp [intOf]; omega
        · obtain rfl : j = n := by omega
          have HI2 : Hid (LLv wr w2.heap.size u12 (vs0 ++ vsp) (pcsV (⟨false, false, 1⟩ : Lk) ls sz fr (i + 1)) ∧ wr.ownsRow w2.heap.size 3 1 u13 (ofsV ls sz (i + 1)).length ((ofsV ls sz (i + 1)).map (Value.int .i64)) ∧ w2.grownBy wr none ∧ ∀ k, k < i + 1 → (ls.getD k []).length ≤ 3000) := by
            have PJ := HPJ.out
            have hA := PJ.a
            have hl2 := PJ.c.2.1
            rw [List.take_of_length_le (by rw [hl2, HLen.out]; exact Nat.le_refl _), List.take_of_length_le (by rw [HLen.out]; exact Nat.le_refl _), HNX.out.1] at hA
            have hB := PJ.b
            rw [HNX.out.2.1] at hB
            exact ⟨hA, hB, PJ.d, HLQ.out⟩
          obtain ⟨nq, hnq⟩ : ∃ nq, (sq + j) % 4096 = nq := ⟨_, rfl⟩
          have hnq2 : (fr + offV ls sz (i + 1)) % 4096 = nq := by
            have := HNX.out.2.2.1
            have := HSQ.out
            omega
          have HNQ : Hid ((fr + offV ls sz (i + 1)) % 4096 = nq) := hnq2
          have hz1 : IntKind.u32.wrap (j : Int) = (j : Int) := by rw [IntKind.wrap_u32]; omega
          have hz2 : IntKind.u32.wrap ((sq : Int) + (j : Int)) = (sq : Int) + (j : Int) := by rw [IntKind.wrap_u32]; omega
          have hz4 : ((sq : Int) + (j : Int)) % 4096 = (nq : Int) := by omega
          have hz5 : ((sq : Int) + (j : Int)).tmod 4096 = (nq : Int) := by rw [Int.tmod_eq_emod_of_nonneg (by omega)]; exact hz4
          clear hnq hnq2 HPJ HS HNX HLQ HLen HSQ
          go_wp2
          go_roundw
          case rel => exact ⟨i + 1, vs0 ++ vsp, by omega, by rw [HNQ.out], by go_num, HI2⟩
          case measure => simp [intOf]; omega
    · obtain rfl : i = qs.length := by omega
      obtain ⟨LA, LB, LG, LQ⟩ := HI.out
      clear HI
      have hql : qs.length = ls.length := HLN.out.symm
      obtain ⟨N, hN⟩ : ∃ N, offV ls sz ls.length = N := ⟨_, rfl⟩
      have hPL : (pcsV (⟨false, false, 1⟩ : Lk) ls sz fr qs.length).length = N := by rw [hql, ← hN]; exact pcs_len _ _ _ _ _ (Nat.le_refl _)
      have hOL : (ofsV ls sz qs.length).length = N := by rw [hql, ← hN]; exact ofs_len _ _ _ (Nat.le_refl _)
      have HN : Hid (offV ls sz ls.length = N ∧ ∀ k, k < qs.length → (ls.getD k []).length ≤ 3000) := ⟨hN, LQ⟩
      have hvl : vs0.length = N := by rw [LA.2.1, hPL]
      obtain ⟨PP, hPP⟩ : ∃ PP, pcsV (⟨false, false, 1⟩ : Lk) ls sz fr qs.length = PP := ⟨_, rfl⟩
      obtain ⟨OO, hOO⟩ : ∃ OO, ofsV ls sz qs.length = OO := ⟨_, rfl⟩
      rw [hPP] at LA hPL
      rw [hOO] at LB hOL
      have HPG : Hid (∀ i j, i < qs.length → j < cntV (ls.getD i []).length sz → PP.getD (offV ls sz i + j) [] = pcV (⟨false, false, 1⟩ : Lk) (ls.getD i []) sz ((fr + offV ls sz i) % 4096) j) := fun i j hi hj => by rw [← hPP]; exact pcs_get _ _ _ _ _ (by omega) i j hi hj
      have HOG : Hid (∀ i j, i < qs.length → j < cntV (ls.getD i []).length sz → OO[offV ls sz i + j]? = some (i : Int)) := fun i j hi hj => by rw [← hOO]; exact ofs_get _ _ _ (by omega) i j hi hj
      have HOF : Hid (∀ k, k < N → ∃ i j, i < qs.length ∧ j < cntV (ls.getD i []).length sz ∧ k = offV ls sz i + j) := fun k hk => by rw [← hN] at hk; obtain ⟨i, j, q1, q2, q3⟩ := off_find ls sz ls.length (Nat.le_refl _) k hk; exact ⟨i, j, by omega, q2, q3⟩
      have LKo : VAt wo L 26 (lkA (⟨false, false, 1⟩ : Lk)) := HL2.out.kept LG
      clear LQ hN hPP hOO LG HSQ hi' hlt
      have hnlt : ¬ (qs.length : Int) < (qs.length : Int) := by omega
      have HGW : Hid (w.grownBy wo none) := GW
      have HLA : Hid (LLv wo w2.heap.size u12 vs0 PP ∧ wo.ownsRow w2.heap.size 3 1 u13 OO.length (OO.map (Value.int .i64))) := ⟨LA, LB⟩
      rcases LA.1.2 with ⟨rfl, -⟩ | ⟨gp, cp, cur, rfl, -⟩
      · clear LA LB HLA LKo
        go_wp2_with fail
        refine (awake9_any _).mono ?_
        rintro e wz ⟨rfl, KZ⟩
        go_wp2
        go_ret
        exact ⟨rfl, grown_trans HGW.out KZ⟩
      rw [hvl] at HLA ⊢
      by_cases hN0 : N = 0
      · subst hN0
        clear LA LB HLA LKo
        go_wp2_with fail
        refine (awake9_any _).mono ?_
        rintro e wz ⟨rfl, KZ⟩
        go_wp2
        go_ret
        exact ⟨rfl, grown_trans HGW.out KZ⟩
      have hN1 : ((N : Int) == 0) = false := by rw [beq_eq_false_iff_ne]; omega
      by_cases hN2 : 4096 < N
      · have hN3 : (4096 : Int) < (N : Int) := by omega
        clear LA LB HLA LKo
        go_wp2_with fail
        refine (awake9_any _).mono ?_
        rintro e wz ⟨rfl, KZ⟩
        go_wp2
        go_ret
        exact ⟨rfl, grown_trans HGW.out KZ⟩
      have hN3 : ¬ (4096 : Int) < (N : Int) := by omega
      obtain ⟨go, co, rfl, -⟩ := row_cell LB rfl (by omega)
      rw [hOL] at HLA ⊢
      clear LA LB
      go_wp2_with (refine wpList_load_row rfl 26 (.tmp 9) rfl L rfl 26 (lkA (⟨false, false, 1⟩ : Lk)) (0, 0) _ LKo Try.underlying26 rfl HLS.out ?_)
      refine (HNW.out _).mono ?_
      rintro e w4 ⟨p, rfl, UB, -⟩
      obtain ⟨ad, rfl⟩ := UB.ptr
      have HUB : Hid (BW wo (.pointer (some ad)) (⟨false, false, 1⟩ : Lk) ⟨fr, false, []⟩ 0 0 w4) := UB
      clear UB HNW LKo
      go_upto_region 26 with fail
      go_loopw [20] (fun x wr => ∃ (k : Nat) (u : Bs), k ≤ zs.length ∧ x = .int .i64 k ∧ Hid (LostI ls sz fr u ∧ BW wo (.pointer (some ad)) (⟨false, false, 1⟩ : Lk) u 0 0 wr)) (fun x _ => zs.length - (intOf x).toNat)
      case atStart => exact ⟨0, _, Nat.zero_le _, rfl, ⟨⟨fun _ => rfl, fun e => by cases e⟩, HUB.out⟩⟩
      case round =>
        clear HUB
        obtain ⟨k, u, hk', rfl, HU⟩ := hrel
        by_cases hkl : k < zs.length
        · obtain ⟨bz, oz, rfl, hcz⟩ := HZ.out.addr (k := k) (by simpa using hkl)
          have cz0 := hcz k (by simpa using hkl)
          rw [List.getElem_map] at cz0
          obtain ⟨z, hz⟩ : ∃ z, zs[k] = z := ⟨_, rfl⟩
          rw [hz] at cz0
          have GR := grown_trans HGW.out HU.out.2.up
          have cz1 := GR.cell cz0 (by simp)
          obtain ⟨lz, hlz⟩ : ∃ lz, lowV z = lz := ⟨_, rfl⟩
          have hlz2 : lz < 9223372036854775808 := by rw [← hlz]; exact lowV_lt z
          have CLZ := low_any z wr
          rw [hlz] at CLZ
          obtain ⟨at', hat⟩ : ∃ at', lz % N = at' := ⟨_, rfl⟩
          have hatl : at' < N := by rw [← hat]; exact Nat.mod_lt _ (by omega)
          have hm1 : (lz : Int) % (N : Int) = (at' : Int) := by rw [← hat]; simp
          have hm2 : (lz : Int).tmod (N : Int) = (at' : Int) := by rw [Int.tmod_eq_emod_of_nonneg (by omega)]; exact hm1
          have hN4 : ¬ (N : Int) = 0 := by omega
          have hkz : (k : Int) < (zs.length : Int) := by omega
          have hk0 : (0 : Int) ≤ (k : Int) := by omega
          clear hcz cz0 hz hlz hat
          obtain ⟨i, j, hi, hj, haij⟩ := HOF.out at' hatl
          have LAr := HLA.out.1.keptNone HU.out.2.up
          obtain ⟨g', cap', ap, cpp, hv, cpc, -, CPC, OPC⟩ := LAr.item (i := at') (by rw [hPL]; exact hatl)
          rw [hPL] at hv
          simp only [Value.slice.injEq, Option.some.injEq, Addr.mk.injEq, and_true, true_and] at hv
          obtain ⟨rfl, rfl⟩ := hv
          have hpg := HPG.out i j hi hj
          rw [← haij] at hpg
          rw [hpg] at cpc CPC OPC
          have hlen3 := HN.out.2 i hi
          obtain ⟨u', out, d, hfeed, HL', hdt⟩ := lost_feed (⟨false, false, 1⟩ : Lk) u ls sz fr i j hspv (by decide) hszb.1 (by omega) (by rw [HN.out.1]; omega) (by omega) (by omega) hj HU.out.1
          have hpcl : (pcV (⟨false, false, 1⟩ : Lk) (ls.getD i []) sz ((fr + offV ls sz i) % 4096) j).length ≤ 100 := by
            have e1 := pc_len (⟨false, false, 1⟩ : Lk) (ls.getD i []) sz ((fr + offV ls sz i) % 4096) j
            have e2 := chunk_len (ls.getD i []) sz j
            omega
          generalize pcV (⟨false, false, 1⟩ : Lk) (ls.getD i []) sz ((fr + offV ls sz i) % 4096) j = pc at *
          obtain ⟨ap2, cpp2, he, -, zpc, -⟩ := OPC.items
          simp only [Value.slice.injEq, true_and] at he
          obtain ⟨rfl, rfl⟩ := he
          have CCP := copy_any ap cpp pc wr CPC zpc (by omega)
          have HHL : Hid (LostI ls sz fr u') := HL'
          have HFE : Hid (feedX (⟨false, false, 1⟩ : Lk) u pc = .ok (u', out, d)) := hfeed
          have HDT : Hid (d = true → j + 1 = cntV (ls.getD i []).length sz ∧ out = ls.getD i []) := hdt
          have HIJ : Hid (at' = offV ls sz i + j ∧ j < cntV (ls.getD i []).length sz ∧ i < qs.length) := ⟨haij, hj, hi⟩
          have hat0 : (0 : Int) ≤ (at' : Int) := by omega
          have hat1 : (at' : Int) < (N : Int) := by omega
          clear CPC OPC zpc HL' hfeed hdt haij hj hpg LAr GR hlen3
          go_wp2_with fail
          refine CLZ.mono ?_
          rintro e w5 ⟨rfl, rfl⟩
          clear CLZ cz1
          go_wp2_with fail
          refine CCP.mono ?_
          rintro e w6 ⟨y6, rfl, O6, K6⟩
          have FD := HU.out.2.feed_ok K6 O6 (by omega) HFE.out
          clear CCP O6 K6 cpc HU HFE hm1 hm2
          go_wp2_with fail
          refine FD.mono ?_
          rintro e w8 ⟨x8, rfl, O8, U8⟩
          have G8 := grown_trans HGW.out U8.up
          have HOC : Hid (∀ kk zz, OO[kk]? = some zz → w8.cell? ⟨go, kk, none⟩ = some (.int .i64 zz)) := by
            have LB8 := owns_keptNone HLA.out.2 U8.up
            obtain ⟨g2, c2, e2, q2⟩ := row_cell LB8 hOL (by omega)
            simp only [Value.slice.injEq, Option.some.injEq, Addr.mk.injEq, and_true, true_and] at e2
            obtain ⟨rfl, rfl⟩ := e2
            exact q2
          have HU8 : Hid (BW wo (.pointer (some ad)) (⟨false, false, 1⟩ : Lk) u' 0 0 w8) := U8
          have HO8 : Hid (Owns w8 w6.heap.size x8 out) := O8
          have HG8 : Hid (w.grownBy w8 none) := G8
          clear FD U8 O8 G8
          obtain ⟨lst, hlst⟩ : ∃ lst, decide (j + 1 = cntV (ls.getD i []).length sz) = lst := ⟨_, rfl⟩
          have HLT : Hid (decide (j + 1 = cntV (ls.getD i []).length sz) = lst) := hlst
          clear hlst
          go_upto_region 30 with fail
          go_cut [25] from 137 to 153 (fun t wx => t = .bool lst ∧ ∃ m, wx = w8.drewN m)
          case first =>
            obtain ⟨hij, hj, hi⟩ := HIJ.out
            have hnx := off_next ls sz i (by omega)
            have hmo := off_mono ls sz (i + 1) ls.length (by omega) (Nat.le_refl _)
            rw [HN.out.1] at hmo
            have hw1 : IntKind.i64.wrap ((N : Int) - 1) = (N : Int) - 1 := by rw [IntKind.wrap_i64]; omega
            have hw2 : IntKind.i64.wrap ((at' : Int) + 1) = (at' : Int) + 1 := by rw [IntKind.wrap_i64]; omega
            by_cases hend : at' + 1 = N
            · have hel : ((at' : Int) == (N : Int) - 1) = true := by rw [beq_iff_eq]; omega
              have hlt : lst = true := by rw [← HLT.out]; exact decide_eq_true (by omega)
              have HLE : Hid (lst = true) := hlt
              clear hij hj hi hnx hmo hlt HOC
              go_quiet (fail)
              go_wp2
              go_meet
              exact ⟨by rw [HLE.out], _, rfl⟩
            · have hel : ((at' : Int) == (N : Int) - 1) = false := by rw [beq_eq_false_iff_ne]; omega
              have q1 := HOG.out i j hi hj
              rw [← hij] at q1
              have c1 := HOC.out at' _ q1
              have hb1 : (at' : Int) + 1 < (N : Int) := by omega
              have hb2 : (0 : Int) ≤ (at' : Int) + 1 := by omega
              by_cases hl : j + 1 = cntV (ls.getD i []).length sz
              · have hi1 : i + 1 < qs.length := by
                  apply Classical.byContradiction
                  intro hc
                  have : i + 1 = ls.length := by omega
                  rw [this, HN.out.1] at hnx
                  omega
                have q2 := HOG.out (i + 1) 0 hi1 (cnt_pos _ _ hszb.1)
                rw [show offV ls sz (i + 1) + 0 = at' + 1 by omega] at q2
                have c2 := HOC.out (at' + 1) _ q2
                have hne : (((i + 1 : Nat) : Int) != (i : Int)) = true := by rw [bne_iff_ne]; omega
                have hlt : lst = true := by rw [← HLT.out]; exact decide_eq_true hl
                have HLE : Hid (lst = true) := hlt
                generalize ((i + 1 : Nat) : Int) = i9 at *
                clear hij hj hi hnx hmo hlt HOC q1 q2 hl hi1
                go_quiet (fail)
                go_wp2
                go_meet
                exact ⟨by rw [HLE.out], _, rfl⟩
              · have q2 := HOG.out i (j + 1) hi (by omega)
                rw [show offV ls sz i + (j + 1) = at' + 1 by omega] at q2
                have c2 := HOC.out (at' + 1) _ q2
                have hne : ((i : Int) != (i : Int)) = false := by simp
                have hlt : lst = false := by rw [← HLT.out]; exact decide_eq_false hl
                have HLE : Hid (lst = false) := hlt
                clear hij hj hi hnx hmo hlt HOC q1 q2 hl
                go_quiet (fail)
                go_wp2
                go_meet
                exact ⟨by rw [HLE.out], _, rfl⟩
          case rest =>
            obtain ⟨rfl, m8, rfl⟩ := hcut
            have K9 := grown_drewN w8 m8 none
            have HU9 : Hid (BW wo (.pointer (some ad)) (⟨false, false, 1⟩ : Lk) u' 0 0 (w8.drewN m8)) := HU8.out.kept K9
            have G9 := grown_trans HG8.out K9
            have O9 : Owns (w8.drewN m8) w6.heap.size x8 out := owns_keptNone HO8.out K9
            have HOC9 : Hid (∀ kk zz, OO[kk]? = some zz → (w8.drewN m8).cell? ⟨go, kk, none⟩ = some (.int .i64 zz)) := fun kk zz h => K9.cell (HOC.out kk zz h) (by simp)
            clear HU8 HG8 HO8 HOC K9
            generalize w8.drewN m8 = w9 at *
            cases d with
            | false =>
              clear O9 HOC9
              go_wp2
              go_roundw
              case rel => exact ⟨k + 1, u', by omega, by go_num, ⟨HHL.out, HU9.out⟩⟩
              case measure => simp [intOf]; omega
            | true =>
              obtain ⟨hl, rfl⟩ := HDT.out rfl
              have hlt : lst = true := by rw [← HLT.out]; exact decide_eq_true hl
              subst hlt
              obtain ⟨hij, hj, hi⟩ := HIJ.out
              have q1 := HOG.out i j hi hj
              rw [← hij] at q1
              have c1 := HOC9.out at' _ q1
              obtain ⟨bb, o, rfl, hcell⟩ := H.out.parts hi
              have c2 := G9.cell (hcell i hi) (by simp)
              obtain ⟨pp, hpp⟩ : ∃ pp, qs[i] = pp := ⟨_, rfl⟩
              have hmem : pp ∈ qs := by rw [← hpp]; exact List.getElem_mem hi
              obtain ⟨hok, -⟩ := HQ.out pp hmem
              have hlg : ls.getD i [] = pp.bs := by rw [← hpp]; exact HLSV.out.2 i hi
              have hl3 := HN.out.2 i hi
              rw [hpp] at c2
              rw [hlg] at O9 hl3
              obtain ⟨ax, cx, rfl, CX, -, -⟩ := O9.items
              have SM := same_any ax pp.ao cx pp.cap pp.bs w9 CX (hok.1.keptNone G9) (by omega)
              generalize pp.bs.length = PN at *
              have hii : (i : Int) < (qs.length : Int) := by omega
              have hi0 : (0 : Int) ≤ (i : Int) := by omega
              clear O9 CX hcell hok hmem hlg hij hj hpp hi q1 hl HOC9
              go_wp2_with fail
              refine SM.mono ?_
              rintro e w10 ⟨rfl, m10, rfl⟩
              have HU10 : Hid (BW wo (.pointer (some ad)) (⟨false, false, 1⟩ : Lk) u' 0 0 (w9.drewN m10)) := HU9.out.kept (grown_drewN w9 m10 none)
              clear SM c1 c2
              generalize w9.drewN m10 = w10 at *
              go_wp2
              go_roundw
              case rel => exact ⟨k + 1, u', by omega, by go_num, ⟨HHL.out, HU10.out⟩⟩
              case measure => simp [intOf]; omega
        · obtain rfl : k = zs.length := by omega
          have G := grown_trans HGW.out HU.out.2.up
          clear HU
          go_wp2_with fail
          refine (awake9_any _).mono ?_
          rintro e wz ⟨rfl, KZ⟩
          go_wp2
          go_ret
          exact ⟨rfl, grown_trans G KZ⟩

set_option maxRecDepth 100000 in
theorem lifted (os : Os) (started : os.Started) (H : Type) (enc : TypeId × Value → H) (F : Stop.Interp) :
    ReturnsInHanded {} Try.checked os 3 .any ((Rows.OpenSpec.upto Rows.bundleLostSpec).pre6 enc Try.prog Try.f3 Rows.bundleLostUptoRow.domain false) (((Rows.OpenSpec.upto Rows.bundleLostSpec).at F).post enc Try.prog Try.f3 false true false false) := by
  refine returnsInHanded_of_cond (C := Try.checked) (s := (Rows.OpenSpec.upto Rows.bundleLostSpec)) (k := Rows.uptoSmall) rfl own started (by kernel_rfl) Try.func3
    (OpenSpec.witness (enc := enc) (C := Try.checked) (s := (Rows.OpenSpec.upto Rows.bundleLostSpec)) (k := Rows.uptoSmall) rfl false ⟨#[], #[.slice none 0 0, .int .i64 0, .int .u32 0, .slice none 0 0], []⟩ 8 (by kernel_rfl) (by kernel_rfl) (by kernel_rfl)
      (x := ([.nil, .lit (.int .i64 0), .lit (.int .u32 0), .nil], [], [])) (by kernel_rfl) rfl (by kernel_rfl)) ?_
  intro W base args ds gs before hval0 hW _ hk0 _
  have hval : ∀ (j : Nat) t v, Try.f3.params[j]? = some t → args[j]? = some v → Value.okWide Try.prog W .any base t v := hval0
  have hW' := hW
  obtain ⟨p, q, hA0, hV, rfl, hfz, hnd⟩ := hW
  have hA : DataW.TrodAll enc Try.prog W 0 (fun _ => true) true Try.f3.params.toList args.toList ds p := hA0
  rw [Try.params3] at hA hval
  obtain ⟨v0, vs0, d0, ds0, p0, q0, hargs, rfl, rfl, h0, r0⟩ := trodAll_cons hA
  obtain ⟨v1, vs1, d1, ds1, p1, q1, rfl, rfl, rfl, h1, r1⟩ := trodAll_cons r0
  obtain ⟨v2, vs2, d2, ds2, p2, q2, rfl, rfl, rfl, h2, r2⟩ := trodAll_cons r1
  obtain ⟨v3, vs3, d3, ds3, p3, q3, rfl, rfl, rfl, h3, r3⟩ := trodAll_cons r2
  obtain ⟨rfl, rfl, rfl⟩ := trodAll_nil r3
  obtain rfl : args = #[v0, v1, v2, v3] := by cases args; simp_all
  obtain ⟨rfl, rfl⟩ := trodVars_none hV
  obtain ⟨a0, len0, cap0, rfl⟩ := okWide_slice Try.underlying22 (hval 0 22 v0 rfl rfl)
  have k0 := h0
  have lt0 : ∀ x ∈ p0, x.block < W.heap.size := by obtain ⟨m, hm⟩ := k0; exact DataW.trod_lt m _ _ _ hm
  obtain ⟨qs0, rfl, hcv0, hnil0, hqs0, hdat0⟩ := open_listsU h0
  obtain ⟨x1, rfl, rfl, rfl, w1⟩ := open_int Try.underlying3 (hval 1 3 v1 rfl rfl) h1
  obtain ⟨y2, rfl, rfl, rfl, w2⟩ := open_int Try.underlying23 (hval 2 23 v2 rfl rfl) h2
  have bd2 := bounds_u32 w2
  obtain ⟨x2, rfl⟩ := Int.eq_ofNat_of_zero_le bd2.1
  have hv2 : x2 ≤ 4294967295 := by omega
  obtain ⟨a3, len3, cap3, rfl⟩ := okWide_slice Try.underlying24 (hval 3 24 v3 rfl rfl)
  have k3 := h3
  have lt3 : ∀ x ∈ p3, x.block < W.heap.size := by obtain ⟨m, hm⟩ := k3; exact DataW.trod_lt m _ _ _ hm
  obtain ⟨zs3, rfl, hcv3, hnil3, hdat3⟩ := open_intl Try.underlying24 Try.underlying3 (by kernel_rfl) h3
  simp only [List.append_nil] at hW' hk0
  have hk : Rows.uptoBulkAll ([d0, .lit (.int .i64 x1), .lit (.int .u32 (x2 : Int)), d3] : List (DataW H)) ≤ 1048576 := of_decide_eq_true hk0
  simp only [Rows.uptoBulkAll] at hk
  have hlen0 : (qs0.map fun p => p.bs.length + 1).sum ≤ 1048576 := by
    have := bulk_lists hdat0
    omega
  have hlen3 : zs3.length ≤ 1048576 := by
    rcases hdat3 with ⟨_, rfl⟩ | ⟨elems, spare, rfl, hle⟩
    · simp
    · have := bulk_slice elems spare
      omega
  clear hA0 hval0
  refine (walk a0 cap0 qs0 x1 x2 a3 cap3 zs3 W hcv0 hnil0 hqs0 hlen0 hv2 hcv3 hnil3 hlen3).mono fun e W' ⟨he, hg⟩ => ?_
  subst he
  have bel : Below W.heap.size W W' := (Below.refl _ _).grown hg (Nat.le_refl _) (by simp)
  exact ⟨_, rfl, _, _, _, [], _, [], hW', trodAll_mk1 (shut_bool Try.underlying4 _), (trodAll_cons_mk (Below.trod laidOut (by kernel_rfl) (of_decide_eq_true (by kernel_rfl)) k0 bel lt0) (trodAll_cons_mk (shut_int Try.underlying3 w1) (trodAll_cons_mk (shut_int Try.underlying23 w2) (trodAll_cons_mk (Below.trod laidOut (by kernel_rfl) (of_decide_eq_true (by kernel_rfl)) k3 bel lt3) trodAll_mk0)))), rfl, bel.frame _, fun h => by cases h⟩

theorem over : Rows.BundleLostUptoSaid :=
  OpenClaim.holds_of_cond 3 Try.f3 rfl rfl rfl rfl rfl rfl rfl ⟨rfl, rfl, rfl, rfl, rfl⟩ rfl rfl rfl rfl rfl (by kernel_rfl) Try.func3 (by kernel_rfl)
    (of_decide_eq_true (by kernel_rfl)) (by unfold Func.isWrapper; first | (rw [if_pos (by decide +kernel)]; kernel_rfl) | (rw [if_neg (by decide +kernel)]; exact ⟨rfl, rfl⟩))
    (fun os started H enc _ F => lifted os started H enc F)

end bundleLost

theorem bundleLostUpto_holds : Rows.BundleLostUptoSaid := bundleLost.over
#print axioms bundleLostUpto_holds

end Go.Proofs.Ytkjofgnmjfngeaa
