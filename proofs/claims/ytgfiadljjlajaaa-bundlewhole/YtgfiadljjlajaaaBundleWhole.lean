/-
  For every bool, every two lists of bytes (each of at most 2^47 - 4096 bytes of room, as the form itself says of each argument), every int and every uint32 riddlelaw9.BundleWhole returns true and leaves what was there as it was: no condition of ours.
-/
import Derived.Test.YtgfiadljjlajaaaBundleP
import Derived.Test.YtgfiadljjlajaaaHand
import Derived.Test.YtgfiadljjlajaaaLow
import Derived.Test.YtgfiadljjlajaaaOpen
namespace Go.Proofs.Ytgfiadljjlajaaa
open Go.ChangeShapes Go.WideShapes Go.ChangeAt Go.RowKit
open Go.ChangeMaps (open_string shut_string)
set_option maxRecDepth 100000
namespace bundleWhole

theorem wr_sub (fr S : Nat) (h : fr < S) (hS : S ≤ 16777216) : IntKind.u32.wrap ((fr : Int) + (S : Int) - 1) = (fr : Int) + ((S - 1 : Nat) : Int) := by
  rw [IntKind.wrap_u32]
  omega
theorem wr_add (fr S : Nat) (h : fr < S) (hS : S ≤ 16777216) : IntKind.u32.wrap ((fr : Int) + (S : Int)) = (fr : Int) + (S : Int) := by
  rw [IntKind.wrap_u32]
  omega

set_option maxRecDepth 100000 in
set_option maxHeartbeats 8000000 in
theorem walkF (a : Option Addr) (ca : Nat) (b : List UInt8) (x : Int) (f : Nat) (c : Option Addr) (cc : Nat) (ah : List UInt8) (w : World) (ha : Cells w a b) (hc0 : a = none → ca = 0) (hn : b.length ≤ 140737488351232) (hf : f ≤ 4294967295) (hc : Cells w c ah) (hd0 : c = none → cc = 0) (hm : ah.length ≤ 140737488351232) :
    Calls Try.prog 5 #[.bool false, .slice a b.length ca, .int .i64 x, .int .u32 (f : Int), .slice c ah.length cc] w fun e w' => e = .returned (.bool true) ∧ w.grownBy w' none := by
  have H : Hid (Cells w a b) := ha
  have HAH : Hid (Cells w c ah) := hc
  have HLS : Hid ((Try.prog.info? 23).map (·.size) = some (lkA (⟨false, false, 1⟩ : Lk)).size) := size23
  have LK := VAt.alloc w 23 #[.bool false, .bool false, .int .i64 1]
  have GL := World.grownBy_alloc w (.cells #[.bool false, .bool false, .int .i64 1] 23) none
  obtain ⟨sz, hsz⟩ : ∃ sz, 1 + lowV x % 4000 = sz := ⟨_, rfl⟩
  obtain ⟨lo, hlo⟩ : ∃ lo, lowV x = lo := ⟨_, rfl⟩
  have hlo2 : lo < 9223372036854775808 := by rw [← hlo]; exact lowV_lt x
  rw [hlo] at hsz
  have hl1 : ((lo : Int)).tmod 4000 = ((lo % 4000 : Nat) : Int) := by rw [Int.tmod_eq_emod_of_nonneg (by omega)]; omega
  have hszb : 1 ≤ sz ∧ sz ≤ 4000 := by omega
  have hsz2 : (1 : Int) + (lo : Int) % 4000 = (sz : Int) := by omega
  have CLW : Hid (∀ W : World, Calls Try.prog 23 #[.int .i64 x] W fun e w' => e = .returned (.int .i64 (lo : Int)) ∧ W = w') := fun W => by
    have q := low_any x W
    rw [hlo] at q
    exact q
  clear ha hc hlo
  go_enter Try.func5, Try.ntmps5
  go_upto_region 3 with fail
  generalize w.alloc (.cells #[.bool false, .bool false, .int .i64 1] 23) = w1 at *
  obtain ⟨L, hL⟩ : ∃ L, w.heap.size = L := ⟨_, rfl⟩
  have HLw : Hid (w.heap.size = L) := hL
  rw [hL] at LK ⊢
  clear hL
  have G2 := GL
  have LK2 : VAt w1 L 23 (lkA (⟨false, false, 1⟩ : Lk)) := LK
  generalize hw12 : w1 = w2 at *
  clear LK GL hw12
  go_wp2_with fail
  refine (CLW.out _).mono ?_
  rintro e w3 ⟨rfl, rfl⟩
  clear CLW
  go_upto_region 8 with fail
  clear hl1 hsz hsz2 hlo2
  by_cases hg : b.length ≤ 4096 * sz ∧ b.length ≤ 65535
  case neg =>
    have hcase : decide ((4096 : Int) * (sz : Int) < (b.length : Int)) = true ∨ (decide ((4096 : Int) * (sz : Int) < (b.length : Int)) = false ∧ decide ((65535 : Int) < (b.length : Int)) = true) := by
      by_cases h1 : 4096 * sz < b.length
      · exact .inl (decide_eq_true (by omega))
      · exact .inr ⟨decide_eq_false (by omega), decide_eq_true (by omega)⟩
    rcases hcase with h1 | ⟨h1, h2⟩
    all_goals
      go_wp2_with fail
      refine (awake9_any _).mono ?_
      rintro e w3 ⟨rfl, K3'⟩
      go_wp2
      go_ret
      exact ⟨rfl, grown_trans G2 K3'⟩
  obtain ⟨g1, g2⟩ := hg
  have h1 : decide ((4096 : Int) * (sz : Int) < (b.length : Int)) = false := decide_eq_false (by omega)
  have h2 : decide ((65535 : Int) < (b.length : Int)) = false := decide_eq_false (by omega)
  obtain ⟨fr, hfr⟩ : ∃ fr, f % 4096 = fr := ⟨_, rfl⟩
  have hfr1 : (f : Int) % 4096 = (fr : Int) := by omega
  have hfr2 : (f : Int).tmod 4096 = (fr : Int) := by rw [Int.tmod_eq_emod_of_nonneg (by omega)]; exact hfr1
  have hfrl : fr < 4096 := by omega
  have hspv : spV (⟨false, false, 1⟩ : Lk) = 4096 := rfl
  have hszv : szV (⟨false, false, 1⟩ : Lk) = 2 := rfl
  have HSP : Hid (splitX (⟨false, false, 1⟩ : Lk) b (sz : Int) fr = .ok (splitL (⟨false, false, 1⟩ : Lk) b sz fr)) := by
    show splitX _ _ _ _ = _
    unfold splitX
    rw [if_neg (by decide), if_neg (by rw [hspv]; omega), if_neg (by omega), if_neg (by omega), Int.toNat_natCast]
  obtain ⟨n, hnn⟩ : ∃ n, cntV b.length sz = n := ⟨_, rfl⟩
  have hn1 : 1 ≤ n := by rw [← hnn]; exact cnt_pos _ _ (by omega)
  have hn2 : n ≤ 4096 := by rw [← hnn]; exact cnt_many (by omega) g1
  have HCPA : Hid (∀ W : World, w2.grownBy W none → Calls Try.prog 13 #[.slice a b.length ca] W fun e w' => ∃ v, e = .returned v ∧ Owns w' W.heap.size v b ∧ W.grownBy w' none) := fun W K => copy_any a ca _ W (H.out.keptNone (grown_trans G2 K)) hc0 (by omega)
  have HSPL : Hid (∀ (W : World) (ao : Option Addr) (q : Nat), Cells W ao b → (ao = none → q = 0) → b.length ≤ q → Calls Try.prog 11 #[.agg (lkA (⟨false, false, 1⟩ : Lk)), .slice ao b.length q, .int .i64 (sz : Int), .int .u32 (fr : Int)] W fun e w' => ∃ v, e = .returned (.tuple #[v, .int .i64 0]) ∧ LL w' W.heap.size v (splitL (⟨false, false, 1⟩ : Lk) b sz fr) ∧ W.grownBy w' none) := fun W ao q h1 h2 h3 => by
    have r := split_any (⟨false, false, 1⟩ : Lk) ao q b (sz : Int) fr W h1 h2 h3 (by omega)
    rw [HSP.out] at r
    exact r
  go_upto_region 11 with fail
  refine wp_region_held_drew (S := fun W => VAt W L 23 (lkA (⟨false, false, 1⟩ : Lk)) ∧ w2.grownBy W none) (by kernel_rfl) (⟨LK2.kept (grown_drewN w2 1 none), grown_drewN w2 1 none⟩) (fun hHeld => ?_)
  refine wpAnyH_take (i := 0) (v := .agg (lkA (⟨false, false, 1⟩ : Lk))) rfl (by kernel_rfl) (by kernel_rfl) (by kernel_rfl) (fun _ _ _ h => h) (yieldsIf_load_row (by rfl) _ _ rfl L rfl 23 (lkA (⟨false, false, 1⟩ : Lk)) _ (fun W hW => hW.1) Try.underlying23 rfl HLS.out) hHeld ?_
  try simp only [Act.put, List.getElem_toArray, List.getElem_cons_zero, List.setIfInBounds_toArray, List.set_cons_zero, List.set_cons_succ]
  refine wpAnyH_take (i := 1) (v := .slice a b.length ca) rfl (by kernel_rfl) (by kernel_rfl) (by kernel_rfl) (fun _ _ _ h => h) (Or.inl ⟨by rfl, fun W hW => ?_⟩) hHeld ?_
  · clear hW
    go_simp
  try simp only [Act.put, List.getElem_toArray, List.getElem_cons_zero, List.getElem_cons_succ, List.setIfInBounds_toArray, List.set_cons_zero, List.set_cons_succ]
  refine wpAnyH_take (i := 3) (v := .int .i64 (sz : Int)) rfl (by kernel_rfl) (by kernel_rfl) (by kernel_rfl) (fun _ _ _ h => h) (Or.inl ⟨by rfl, fun W hW => ?_⟩) hHeld ?_
  · clear hW
    go_simp
  try simp only [Act.put, List.getElem_toArray, List.getElem_cons_zero, List.getElem_cons_succ, List.setIfInBounds_toArray, List.set_cons_zero, List.set_cons_succ]
  refine wpAnyH_take (i := 4) (v := .int .u32 (fr : Int)) rfl (by kernel_rfl) (by kernel_rfl) (by kernel_rfl) (fun _ _ _ h => h) (Or.inl ⟨by rfl, fun W hW => ?_⟩) hHeld ?_
  · clear hW
    go_simp
  try simp only [Act.put, List.getElem_toArray, List.getElem_cons_zero, List.getElem_cons_succ, List.setIfInBounds_toArray, List.set_cons_zero, List.set_cons_succ]
  refine wpAnyH_ready (rs := [2]) (by kernel_rfl) (by simp) (AllReadyH.cons rfl (fun K hK => ?_) AllReadyH.nil)
  go_simp
  refine (HCPA.out _ hHeld.2).mono ?_
  rintro e v1 ⟨y, rfl, O3, K1⟩
  obtain ⟨ao3, ca3, rfl, C3, z3, r3⟩ := O3.items
  clear O3
  go_wp2_with fail
  refine hK.out _ _ (⟨hHeld.1.kept K1, grown_trans hHeld.2 K1⟩) (fun hHeld => ?_)
  clear hK K
  try simp only [Act.put, List.getElem_toArray, List.getElem_cons_zero, List.getElem_cons_succ, List.setIfInBounds_toArray, List.set_cons_zero, List.set_cons_succ]
  refine wpAnyH_ready (rs := [5]) (by kernel_rfl) (by simp) (AllReadyH.cons rfl (fun K hK => ?_) AllReadyH.nil)
  go_simp
  refine (HSPL.out _ ao3 ca3 C3 z3 r3).mono ?_
  rintro e v2 ⟨v, rfl, LV, K2⟩
  go_wp2_with fail
  refine hK.out _ _ (⟨hHeld.1.kept K2, grown_trans hHeld.2 K2⟩) (fun hHeld => ?_)
  clear hK K
  try simp only [Act.put, List.getElem_toArray, List.getElem_cons_zero, List.getElem_cons_succ, List.setIfInBounds_toArray, List.set_cons_zero, List.set_cons_succ]
  refine wpAnyH_take (i := 6) (v := .tuple #[v, .int .i64 0]) rfl (by kernel_rfl) (by kernel_rfl) (by kernel_rfl) (fun _ _ _ h => h) (Or.inl ⟨by rfl, fun W hW => ?_⟩) hHeld ?_
  · clear hW
    go_simp
  try simp only [Act.put, List.getElem_toArray, List.getElem_cons_zero, List.getElem_cons_succ, List.setIfInBounds_toArray, List.set_cons_zero, List.set_cons_succ]
  refine wpAnyH_take (i := 7) (v := v) rfl (by kernel_rfl) (by kernel_rfl) (by kernel_rfl) (fun _ _ _ h => h) (Or.inl ⟨by rfl, fun W hW => ?_⟩) hHeld ?_
  · clear hW
    go_simp
  try simp only [Act.put, List.getElem_toArray, List.getElem_cons_zero, List.getElem_cons_succ, List.setIfInBounds_toArray, List.set_cons_zero, List.set_cons_succ]
  refine wpAnyH_take (i := 8) (v := .int .i64 0) rfl (by kernel_rfl) (by kernel_rfl) (by kernel_rfl) (fun _ _ _ h => h) (Or.inl ⟨by rfl, fun W hW => ?_⟩) hHeld ?_
  · clear hW
    go_simp
  try simp only [Act.put, List.getElem_toArray, List.getElem_cons_zero, List.getElem_cons_succ, List.setIfInBounds_toArray, List.set_cons_zero, List.set_cons_succ]
  refine wpAnyH_take (i := 9) (v := v) rfl (by kernel_rfl) (by kernel_rfl) (by kernel_rfl) (fun _ _ _ h => h) (Or.inl ⟨by rfl, fun W hW => ?_⟩) hHeld ?_
  · clear hW
    go_simp
  try simp only [Act.put, List.getElem_toArray, List.getElem_cons_zero, List.getElem_cons_succ, List.setIfInBounds_toArray, List.set_cons_zero, List.set_cons_succ]
  refine wpAnyH_take (i := 10) (v := .int .i64 0) rfl (by kernel_rfl) (by kernel_rfl) (by kernel_rfl) (fun _ _ _ h => h) (Or.inl ⟨by rfl, fun W hW => ?_⟩) hHeld ?_
  · clear hW
    go_simp
  try simp only [Act.put, List.getElem_toArray, List.getElem_cons_zero, List.getElem_cons_succ, List.setIfInBounds_toArray, List.set_cons_zero, List.set_cons_succ]
  refine wpAnyH_done (by kernel_rfl) ?_ _
  have G4 := grown_trans G2 hHeld.2
  have LK4 : Hid (VAt v2 L 23 (lkA (⟨false, false, 1⟩ : Lk))) := hHeld.1
  obtain ⟨vs, LV⟩ := LV
  obtain ⟨g, cap, rfl, hit⟩ := LV.pieces hnn hn1
  have HIT : Hid (∀ i, i < n → ∃ ao ca, v2.cell? ⟨g, i, none⟩ = some (.slice ao (pcV (⟨false, false, 1⟩ : Lk) b sz fr i).length ca) ∧ Cells v2 ao (pcV (⟨false, false, 1⟩ : Lk) b sz fr i) ∧ (ao = none → ca = 0)) := hit
  have HPB : Hid (∀ i, 6 ≤ (pcV (⟨false, false, 1⟩ : Lk) b sz fr i).length ∧ (pcV (⟨false, false, 1⟩ : Lk) b sz fr i).length ≤ 6 + sz) := by
    intro i
    have e1 := pc_len (⟨false, false, 1⟩ : Lk) b sz fr i
    have e2 := chunk_len b sz i
    omega
  have HFR : Hid (∀ (i : Nat) (u : Bs), i < n → (i = 0 ∨ u = rowS (⟨false, false, 1⟩ : Lk) b sz fr i) → feedX (⟨false, false, 1⟩ : Lk) u (pcV (⟨false, false, 1⟩ : Lk) b sz fr i) = .ok (rowS (⟨false, false, 1⟩ : Lk) b sz fr (i + 1), if i + 1 = n then b else [], decide (i + 1 = n))) := by
    intro i u hi hu
    have q := feed_row (⟨false, false, 1⟩ : Lk) u b sz fr i (by simp) (by omega) (by omega) g2 (by rw [hnn]; exact hi) hu
    rw [hnn] at q
    exact q
  have HRN : Hid (∀ i, (rowS (⟨false, false, 1⟩ : Lk) b sz fr i).nxt = (fr + i) % 4096) := by
    intro i
    unfold rowS
    rw [hspv]
    split <;> rfl
  obtain ⟨nx, hnx⟩ : ∃ nx, (fr + 4095) % 4096 = nx := ⟨_, rfl⟩
  have hx1 : ((fr : Int) + 4095) % 4096 = (nx : Int) := by omega
  have hx2 : ((fr : Int) + 4095).tmod 4096 = (nx : Int) := by rw [Int.tmod_eq_emod_of_nonneg (by omega)]; exact hx1
  have hx3 : IntKind.u32.wrap ((fr : Int) + 4096) = (fr : Int) + 4096 := wr_add fr 4096 hfrl (by decide)
  have hx4 : IntKind.u32.wrap ((fr : Int) + 4096 - 1) = (fr : Int) + 4095 := wr_sub fr 4096 hfrl (by decide)
  have hnxl : nx < 4096 := by rw [← hnx]; exact Nat.mod_lt _ (by decide)
  have HNW : Hid (∀ W : World, Calls Try.prog 19 #[.agg (lkA (⟨false, false, 1⟩ : Lk)), .int .u32 (nx : Int)] W fun e w' => ∃ p, e = .returned (.tuple #[p, .int .i64 0]) ∧ BW W p (⟨false, false, 1⟩ : Lk) ⟨nx, false, []⟩ 0 0 w' ∧ W.grownBy w' none) := fun W => by
    refine (new_ok (⟨false, false, 1⟩ : Lk) nx ⟨nx, false, []⟩ W ?_).mono ?_
    · unfold newX
      rw [if_neg (by decide), if_neg (by rw [hspv]; exact Nat.not_le.2 hnxl)]
    · rintro e w' ⟨p, S, rfl, B, K⟩
      exact ⟨p, rfl, BW.new B K, K⟩
  clear LV hit HSPL HCPA HSP C3 K1 K2 LK2 z3 r3 hHeld hnx
  go_upto_region 12 with fail
  refine wp_region_held_drew (S := fun W => VAt W L 23 (lkA (⟨false, false, 1⟩ : Lk)) ∧ v2.grownBy W none) (by kernel_rfl) (⟨LK4.out.kept (grown_drewN v2 1 none), grown_drewN v2 1 none⟩) (fun hHeld => ?_)
  refine wpAnyH_take (i := 0) (v := .agg (lkA (⟨false, false, 1⟩ : Lk))) rfl (by kernel_rfl) (by kernel_rfl) (by kernel_rfl) (fun _ _ _ h => h) (yieldsIf_load_row (by rfl) _ _ rfl L rfl 23 (lkA (⟨false, false, 1⟩ : Lk)) _ (fun W hW => hW.1) Try.underlying23 rfl HLS.out) hHeld ?_
  try simp only [Act.put, List.getElem_toArray, List.getElem_cons_zero, List.setIfInBounds_toArray, List.set_cons_zero, List.set_cons_succ]
  refine wpAnyH_take (i := 1) (v := .int .u32 (fr : Int)) rfl (by kernel_rfl) (by kernel_rfl) (by kernel_rfl) (fun _ _ _ h => h) (Or.inl ⟨by rfl, fun W hW => ?_⟩) hHeld ?_
  · clear hW
    go_simp
  try simp only [Act.put, List.getElem_toArray, List.getElem_cons_zero, List.getElem_cons_succ, List.setIfInBounds_toArray, List.set_cons_zero, List.set_cons_succ]
  refine wpAnyH_take (i := 2) (v := .int .u32 4096) rfl (by kernel_rfl) (by kernel_rfl) (by kernel_rfl) (fun _ _ _ h => h) (Or.inl ⟨by rfl, fun W hW => ?_⟩) hHeld ?_
  · clear hW
    go_simp
  try simp only [Act.put, List.getElem_toArray, List.getElem_cons_zero, List.getElem_cons_succ, List.setIfInBounds_toArray, List.set_cons_zero, List.set_cons_succ]
  refine wpAnyH_take (i := 3) (v := .int .u32 ((fr : Int) + 4096)) rfl (by kernel_rfl) (by kernel_rfl) (by kernel_rfl) (fun _ _ _ h => h) (Or.inl ⟨by rfl, fun W hW => ?_⟩) hHeld ?_
  · clear hW
    go_simp
  try simp only [Act.put, List.getElem_toArray, List.getElem_cons_zero, List.getElem_cons_succ, List.setIfInBounds_toArray, List.set_cons_zero, List.set_cons_succ]
  refine wpAnyH_take (i := 4) (v := .int .u32 ((fr : Int) + 4095)) rfl (by kernel_rfl) (by kernel_rfl) (by kernel_rfl) (fun _ _ _ h => h) (Or.inl ⟨by rfl, fun W hW => ?_⟩) hHeld ?_
  · clear hW
    go_simp
  try simp only [Act.put, List.getElem_toArray, List.getElem_cons_zero, List.getElem_cons_succ, List.setIfInBounds_toArray, List.set_cons_zero, List.set_cons_succ]
  refine wpAnyH_take (i := 5) (v := .int .u32 4096) rfl (by kernel_rfl) (by kernel_rfl) (by kernel_rfl) (fun _ _ _ h => h) (Or.inl ⟨by rfl, fun W hW => ?_⟩) hHeld ?_
  · clear hW
    go_simp
  try simp only [Act.put, List.getElem_toArray, List.getElem_cons_zero, List.getElem_cons_succ, List.setIfInBounds_toArray, List.set_cons_zero, List.set_cons_succ]
  refine wpAnyH_take (i := 6) (v := .int .u32 (nx : Int)) rfl (by kernel_rfl) (by kernel_rfl) (by kernel_rfl) (fun _ _ _ h => h) (Or.inl ⟨by rfl, fun W hW => ?_⟩) hHeld ?_
  · clear hW
    go_simp
  try simp only [Act.put, List.getElem_toArray, List.getElem_cons_zero, List.getElem_cons_succ, List.setIfInBounds_toArray, List.set_cons_zero, List.set_cons_succ]
  refine wpAnyH_ready (rs := [7]) (by kernel_rfl) (by simp) (AllReadyH.cons rfl (fun K hK => ?_) AllReadyH.nil)
  go_simp
  refine (HNW.out _).mono ?_
  rintro e v11 ⟨p, rfl, BU, K11⟩
  obtain ⟨ad, rfl⟩ := BU.ptr
  go_wp2_with fail
  refine hK.out _ _ (⟨hHeld.1.kept K11, grown_trans hHeld.2 K11⟩) (fun hHeld => ?_)
  clear hK K
  try simp only [Act.put, List.getElem_toArray, List.getElem_cons_zero, List.getElem_cons_succ, List.setIfInBounds_toArray, List.set_cons_zero, List.set_cons_succ]
  refine wpAnyH_take (i := 8) (v := .tuple #[.pointer (some ad), .int .i64 0]) rfl (by kernel_rfl) (by kernel_rfl) (by kernel_rfl) (fun _ _ _ h => h) (Or.inl ⟨by rfl, fun W hW => ?_⟩) hHeld ?_
  · clear hW
    go_simp
  try simp only [Act.put, List.getElem_toArray, List.getElem_cons_zero, List.getElem_cons_succ, List.setIfInBounds_toArray, List.set_cons_zero, List.set_cons_succ]
  refine wpAnyH_take (i := 9) (v := .pointer (some ad)) rfl (by kernel_rfl) (by kernel_rfl) (by kernel_rfl) (fun _ _ _ h => h) (Or.inl ⟨by rfl, fun W hW => ?_⟩) hHeld ?_
  · clear hW
    go_simp
  try simp only [Act.put, List.getElem_toArray, List.getElem_cons_zero, List.getElem_cons_succ, List.setIfInBounds_toArray, List.set_cons_zero, List.set_cons_succ]
  refine wpAnyH_take (i := 10) (v := .int .i64 0) rfl (by kernel_rfl) (by kernel_rfl) (by kernel_rfl) (fun _ _ _ h => h) (Or.inl ⟨by rfl, fun W hW => ?_⟩) hHeld ?_
  · clear hW
    go_simp
  try simp only [Act.put, List.getElem_toArray, List.getElem_cons_zero, List.getElem_cons_succ, List.setIfInBounds_toArray, List.set_cons_zero, List.set_cons_succ]
  refine wpAnyH_take (i := 11) (v := .pointer (some ad)) rfl (by kernel_rfl) (by kernel_rfl) (by kernel_rfl) (fun _ _ _ h => h) (Or.inl ⟨by rfl, fun W hW => ?_⟩) hHeld ?_
  · clear hW
    go_simp
  try simp only [Act.put, List.getElem_toArray, List.getElem_cons_zero, List.getElem_cons_succ, List.setIfInBounds_toArray, List.set_cons_zero, List.set_cons_succ]
  refine wpAnyH_take (i := 12) (v := .int .i64 0) rfl (by kernel_rfl) (by kernel_rfl) (by kernel_rfl) (fun _ _ _ h => h) (Or.inl ⟨by rfl, fun W hW => ?_⟩) hHeld ?_
  · clear hW
    go_simp
  try simp only [Act.put, List.getElem_toArray, List.getElem_cons_zero, List.getElem_cons_succ, List.setIfInBounds_toArray, List.set_cons_zero, List.set_cons_succ]
  refine wpAnyH_done (by kernel_rfl) ?_ _
  have UB := BU
  have G5 : w.grownBy v2.drew none := grown_trans G4 (grown_drewN v2 1 none)
  have HIT5 : Hid (∀ i, i < n → ∃ ao ca, v2.drew.cell? ⟨g, i, none⟩ = some (.slice ao (pcV (⟨false, false, 1⟩ : Lk) b sz fr i).length ca) ∧ Cells v2.drew ao (pcV (⟨false, false, 1⟩ : Lk) b sz fr i) ∧ (ao = none → ca = 0)) := fun i hi => by
    obtain ⟨ao, ca, h1, h2, h3⟩ := HIT.out i hi
    exact ⟨ao, ca, (grown_drewN v2 1 none).cell h1 (by simp), h2.keptNone (grown_drewN v2 1 none), h3⟩
  clear BU hHeld HNW K11 LK4 HIT G4
  generalize v2.drew = vN at *
  obtain ⟨D, hD⟩ : ∃ D, (b.length + sz - 1) / sz = D := ⟨_, rfl⟩
  have hnD : n = max 1 D := by rw [← hnn, cnt_max (by omega), hD]
  have hy0 : ((sz : Int) == 0) = false := by rw [beq_eq_false_iff_ne]; omega
  have hy1 : ((b.length : Int) + (sz : Int) - 1) / (sz : Int) = (D : Int) := by
    rw [← hD, show (b.length : Int) + (sz : Int) - 1 = ((b.length + sz - 1 : Nat) : Int) by omega]
    exact (Int.natCast_ediv _ _).symm
  have hy2 : ((b.length : Int) + (sz : Int) - 1).tdiv (sz : Int) = (D : Int) := by rw [Int.tdiv_eq_ediv_of_nonneg (by omega)]; exact hy1
  have hD2 : D ≤ 4096 := by omega
  have HND : Hid (n = max 1 D) := hnD
  clear hD hnD
  have hmx : (if (1 : Int) < (D : Int) then (D : Int) else 1) = (n : Int) := by
    have := HND.out
    split <;> omega
  have hne : ((n : Int) != (n : Int)) = false := by simp
  go_upto_region 15 with fail
  clear hmx hne hy0 hy1 hy2 hx1 hx2 hx3 hx4
  have DA := HAH.out.keptNone (grown_trans G5 UB.up)
  go_wp2_with fail
  refine (copy_any c cc _ _ DA hd0 (by omega)).mono ?_
  rintro e w5 ⟨y5, rfl, O5, K5⟩
  clear DA
  go_wp2_with fail
  refine (UB.feed K5 O5 (by omega)).mono ?_
  rintro e w6 ⟨x6, rfl, -, U6⟩
  generalize (exV ((⟨nx, false, []⟩ : Bs), ([] : List UInt8), false) (feedX (⟨false, false, 1⟩ : Lk) ⟨nx, false, []⟩ ah)) = r6 at *
  generalize exE (feedX (⟨false, false, 1⟩ : Lk) ⟨nx, false, []⟩ ah) = e6 at *
  obtain ⟨u6, r6a, r6b⟩ := r6
  simp only at U6 ⊢
  clear UB K5 O5
  generalize hpcs : pcV (⟨false, false, 1⟩ : Lk) b sz fr = pcs at *
  generalize hrow : rowS (⟨false, false, 1⟩ : Lk) b sz fr = row at *
  clear hpcs hrow
  go_wp2
  go_loopw [20] (fun x wr => ∃ (i : Nat) (u : Bs), i ≤ n ∧ x = .int .i64 i ∧ Hid (i = 0 ∨ u = row i) ∧ BW vN (.pointer (some ad)) (⟨false, false, 1⟩ : Lk) u 0 0 wr) (fun x _ => n - (intOf x).toNat)
  case atStart => exact ⟨0, u6, Nat.zero_le _, rfl, .inl rfl, U6⟩
  case round =>
    clear U6
    obtain ⟨i, u, hi', rfl, HU, UW⟩ := hrel
    have K := UW.up
    by_cases hlt : i < n
    · obtain ⟨ao, ca1, ci0, C0, zz⟩ := HIT5.out i hlt
      have hfe := HFR.out i u hlt HU.out
      have hrn := HRN.out (i + 1)
      have ci := K.cell ci0 (by simp)
      have D0 := C0.keptNone K
      have hpb := HPB.out i
      obtain ⟨pc, hpc⟩ : ∃ pc, pcs i = pc := ⟨_, rfl⟩
      obtain ⟨u', hu'⟩ : ∃ u', row (i + 1) = u' := ⟨_, rfl⟩
      rw [hu'] at hfe hrn
      rw [hpc] at ci D0 hfe hpb
      have HU' : Hid (row (i + 1) = u') := hu'
      obtain ⟨PN, hPN⟩ : ∃ PN, pc.length = PN := ⟨_, rfl⟩
      rw [hPN] at ci hpb
      have HPL : Hid (pc.length = PN) := hPN
      have HFE : Hid (feedX (⟨false, false, 1⟩ : Lk) u pc = .ok (u', if i + 1 = n then b else [], decide (i + 1 = n))) := hfe
      have hp1 : decide ((PN : Int) < 6) = false := decide_eq_false (by omega)
      have hp2 : decide ((6 : Int) + (sz : Int) < (PN : Int)) = false := decide_eq_false (by omega)
      have hp3 : IntKind.i64.wrap ((6 : Int) + (sz : Int)) = (6 : Int) + (sz : Int) := by rw [IntKind.wrap_i64]; omega
      have hli : (i : Int) < (n : Int) := by omega
      have hi0 : (0 : Int) ≤ (i : Int) := by omega
      clear ci0 C0 hfe hpc hu' HU
      have HCP : Hid (Calls Try.prog 13 #[.slice ao PN ca1] wr fun e w' => ∃ v, e = .returned v ∧ Owns w' wr.heap.size v pc ∧ wr.grownBy w' none) := by
        have q := copy_any ao ca1 pc wr D0 zz (by rw [hPN]; omega)
        rw [hPN] at q
        exact q
      clear D0 hPN
      go_wp2_with fail
      refine HCP.out.mono ?_
      rintro e w7 ⟨y7, rfl, O7, K7⟩
      clear HCP
      go_wp2_with fail
      refine (UW.feed_ok K7 O7 (by rw [HPL.out]; omega) HFE.out).mono ?_
      rintro e w8 ⟨x8, rfl, O8, U8⟩
      clear UW K7 O7 ci hp1 hp2 hp3
      have HO8 : Hid (Owns w8 w7.heap.size x8 (if i + 1 = n then b else [])) := O8
      clear O8
      go_wp2_with fail
      refine U8.waits.mono ?_
      rintro e w9 ⟨rfl, U9, K9⟩
      obtain ⟨nq, hnq⟩ : ∃ nq, (fr + (i + 1)) % 4096 = nq := ⟨_, rfl⟩
      rw [hrn, hnq]
      have hz1 : IntKind.u32.wrap (i : Int) = (i : Int) := by rw [IntKind.wrap_u32]; omega
      have hz2 : IntKind.u32.wrap ((fr : Int) + (i : Int)) = (fr : Int) + (i : Int) := by rw [IntKind.wrap_u32]; omega
      have hz3 : IntKind.u32.wrap ((fr : Int) + (i : Int) + 1) = (fr : Int) + (i : Int) + 1 := by rw [IntKind.wrap_u32]; omega
      have hz4 : ((fr : Int) + (i : Int) + 1) % 4096 = (nq : Int) := by omega
      have hz5 : ((fr : Int) + (i : Int) + 1).tmod 4096 = (nq : Int) := by rw [Int.tmod_eq_emod_of_nonneg (by omega)]; exact hz4
      have hz6 : ((nq : Int) != (nq : Int)) = false := by simp
      have hz7 : IntKind.i64.wrap ((n : Int) - 1) = (n : Int) - 1 := by rw [IntKind.wrap_i64]; omega
      clear hnq hrn U8
      by_cases hil : i + 1 = n
      · have HO9 := HO8.out
        rw [if_pos hil] at HO9
        obtain ⟨ao8, ca8, rfl, C8, -, -⟩ := HO9.items
        rw [decide_eq_true hil]
        have hel : ((i : Int) == (n : Int) - 1) = true := by rw [beq_iff_eq]; omega
        have C9 := C8.keptNone K9
        have D9 := H.out.keptNone (grown_trans G5 U9.up)
        have HIL : Hid (i + 1 = n) := hil
        clear HO8 HO9 C8 hil
        go_wp2_with fail
        refine (same_any ao8 a ca8 ca b _ C9 D9 (by omega)).mono ?_
        rintro e w10 ⟨rfl, n10, rfl⟩
        have U10 := U9.kept (grown_drewN w9 n10 none)
        clear C9 D9 U9
        go_wp2
        go_roundw
        case rel => exact ⟨i + 1, u', by omega, by go_num, .inr HU'.out.symm, U10⟩
        case measure => simp [intOf]; omega
      · have HO9 := HO8.out
        rw [if_neg hil] at HO9
        obtain ⟨ao8, ca8, rfl, -, -, -⟩ := HO9.items
        rw [decide_eq_false hil, show ([] : List UInt8).length = 0 from rfl]
        have hel : ((i : Int) == (n : Int) - 1) = false := by rw [beq_eq_false_iff_ne]; omega
        clear HO8 HO9
        go_wp2
        go_roundw
        case rel => exact ⟨i + 1, u', by omega, by go_num, .inr HU'.out.symm, U9⟩
        case measure => simp [intOf]; omega
    · obtain rfl : i = n := by omega
      have GF := grown_trans G5 K
      clear HIT5 HFR HPB HU UW
      go_wp2_with fail
      refine (awake9_any _).mono ?_
      rintro e wz ⟨rfl, KZ⟩
      go_wp2
      go_ret
      exact ⟨rfl, grown_trans GF KZ⟩

set_option maxRecDepth 100000 in
set_option maxHeartbeats 8000000 in
theorem walkT (a : Option Addr) (ca : Nat) (b : List UInt8) (x : Int) (f : Nat) (c : Option Addr) (cc : Nat) (ah : List UInt8) (w : World) (ha : Cells w a b) (hc0 : a = none → ca = 0) (hn : b.length ≤ 140737488351232) (hf : f ≤ 4294967295) (hc : Cells w c ah) (hd0 : c = none → cc = 0) (hm : ah.length ≤ 140737488351232) :
    Calls Try.prog 5 #[.bool true, .slice a b.length ca, .int .i64 x, .int .u32 (f : Int), .slice c ah.length cc] w fun e w' => e = .returned (.bool true) ∧ w.grownBy w' none := by
  have H : Hid (Cells w a b) := ha
  have HAH : Hid (Cells w c ah) := hc
  have HLS : Hid ((Try.prog.info? 23).map (·.size) = some (lkA (⟨false, false, 2⟩ : Lk)).size) := size23
  have LK := VAt.alloc w 23 #[.bool false, .bool false, .int .i64 1]
  have GL := World.grownBy_alloc w (.cells #[.bool false, .bool false, .int .i64 1] 23) none
  obtain ⟨sz, hsz⟩ : ∃ sz, 1 + lowV x % 4000 = sz := ⟨_, rfl⟩
  obtain ⟨lo, hlo⟩ : ∃ lo, lowV x = lo := ⟨_, rfl⟩
  have hlo2 : lo < 9223372036854775808 := by rw [← hlo]; exact lowV_lt x
  rw [hlo] at hsz
  have hl1 : ((lo : Int)).tmod 4000 = ((lo % 4000 : Nat) : Int) := by rw [Int.tmod_eq_emod_of_nonneg (by omega)]; omega
  have hszb : 1 ≤ sz ∧ sz ≤ 4000 := by omega
  have hsz2 : (1 : Int) + (lo : Int) % 4000 = (sz : Int) := by omega
  have CLW : Hid (∀ W : World, Calls Try.prog 23 #[.int .i64 x] W fun e w' => e = .returned (.int .i64 (lo : Int)) ∧ W = w') := fun W => by
    have q := low_any x W
    rw [hlo] at q
    exact q
  clear ha hc hlo
  go_enter Try.func5, Try.ntmps5
  go_upto_region 3 with fail
  generalize w.alloc (.cells #[.bool false, .bool false, .int .i64 1] 23) = w1 at *
  obtain ⟨L, hL⟩ : ∃ L, w.heap.size = L := ⟨_, rfl⟩
  have HLw : Hid (w.heap.size = L) := hL
  rw [hL] at LK ⊢
  clear hL
  have c2 : w1.cell? ⟨L, 2, none⟩ = some (.int .i64 1) := LK.cell 2
  have f2 := LK.free 2
  have LK2 : VAt (w1.setCell ⟨L, 2, none⟩ (.int .i64 2)) L 23 (lkA (⟨false, false, 2⟩ : Lk)) := LK.set 2 (.int .i64 2)
  have G2 : w.grownBy (w1.setCell ⟨L, 2, none⟩ (.int .i64 2)) none := grown_setCell GL _ _ (.inr (Nat.le_of_eq HLw.out))
  go_upto_region 5 with fail
  generalize w1.setCell ⟨L, 2, none⟩ (.int .i64 2) = w2 at *
  clear LK GL c2 f2
  go_wp2_with fail
  refine (CLW.out _).mono ?_
  rintro e w3 ⟨rfl, rfl⟩
  clear CLW
  go_upto_region 8 with fail
  clear hl1 hsz hsz2 hlo2
  by_cases hg : b.length ≤ 4096 * sz ∧ b.length ≤ 65535
  case neg =>
    have hcase : decide ((4096 : Int) * (sz : Int) < (b.length : Int)) = true ∨ (decide ((4096 : Int) * (sz : Int) < (b.length : Int)) = false ∧ decide ((65535 : Int) < (b.length : Int)) = true) := by
      by_cases h1 : 4096 * sz < b.length
      · exact .inl (decide_eq_true (by omega))
      · exact .inr ⟨decide_eq_false (by omega), decide_eq_true (by omega)⟩
    rcases hcase with h1 | ⟨h1, h2⟩
    all_goals
      go_wp2_with fail
      refine (awake9_any _).mono ?_
      rintro e w3 ⟨rfl, K3'⟩
      go_wp2
      go_ret
      exact ⟨rfl, grown_trans G2 K3'⟩
  obtain ⟨g1, g2⟩ := hg
  have h1 : decide ((4096 : Int) * (sz : Int) < (b.length : Int)) = false := decide_eq_false (by omega)
  have h2 : decide ((65535 : Int) < (b.length : Int)) = false := decide_eq_false (by omega)
  obtain ⟨fr, hfr⟩ : ∃ fr, f % 16777216 = fr := ⟨_, rfl⟩
  have hfr1 : (f : Int) % 16777216 = (fr : Int) := by omega
  have hfr2 : (f : Int).tmod 16777216 = (fr : Int) := by rw [Int.tmod_eq_emod_of_nonneg (by omega)]; exact hfr1
  have hfrl : fr < 16777216 := by omega
  have hspv : spV (⟨false, false, 2⟩ : Lk) = 16777216 := rfl
  have hszv : szV (⟨false, false, 2⟩ : Lk) = 4 := rfl
  have HSP : Hid (splitX (⟨false, false, 2⟩ : Lk) b (sz : Int) fr = .ok (splitL (⟨false, false, 2⟩ : Lk) b sz fr)) := by
    show splitX _ _ _ _ = _
    unfold splitX
    rw [if_neg (by decide), if_neg (by rw [hspv]; omega), if_neg (by omega), if_neg (by omega), Int.toNat_natCast]
  obtain ⟨n, hnn⟩ : ∃ n, cntV b.length sz = n := ⟨_, rfl⟩
  have hn1 : 1 ≤ n := by rw [← hnn]; exact cnt_pos _ _ (by omega)
  have hn2 : n ≤ 4096 := by rw [← hnn]; exact cnt_many (by omega) g1
  have HCPA : Hid (∀ W : World, w2.grownBy W none → Calls Try.prog 13 #[.slice a b.length ca] W fun e w' => ∃ v, e = .returned v ∧ Owns w' W.heap.size v b ∧ W.grownBy w' none) := fun W K => copy_any a ca _ W (H.out.keptNone (grown_trans G2 K)) hc0 (by omega)
  have HSPL : Hid (∀ (W : World) (ao : Option Addr) (q : Nat), Cells W ao b → (ao = none → q = 0) → b.length ≤ q → Calls Try.prog 11 #[.agg (lkA (⟨false, false, 2⟩ : Lk)), .slice ao b.length q, .int .i64 (sz : Int), .int .u32 (fr : Int)] W fun e w' => ∃ v, e = .returned (.tuple #[v, .int .i64 0]) ∧ LL w' W.heap.size v (splitL (⟨false, false, 2⟩ : Lk) b sz fr) ∧ W.grownBy w' none) := fun W ao q h1 h2 h3 => by
    have r := split_any (⟨false, false, 2⟩ : Lk) ao q b (sz : Int) fr W h1 h2 h3 (by omega)
    rw [HSP.out] at r
    exact r
  go_upto_region 11 with fail
  refine wp_region_held_drew (S := fun W => VAt W L 23 (lkA (⟨false, false, 2⟩ : Lk)) ∧ w2.grownBy W none) (by kernel_rfl) (⟨LK2.kept (grown_drewN w2 1 none), grown_drewN w2 1 none⟩) (fun hHeld => ?_)
  refine wpAnyH_take (i := 0) (v := .agg (lkA (⟨false, false, 2⟩ : Lk))) rfl (by kernel_rfl) (by kernel_rfl) (by kernel_rfl) (fun _ _ _ h => h) (yieldsIf_load_row (by rfl) _ _ rfl L rfl 23 (lkA (⟨false, false, 2⟩ : Lk)) _ (fun W hW => hW.1) Try.underlying23 rfl HLS.out) hHeld ?_
  try simp only [Act.put, List.getElem_toArray, List.getElem_cons_zero, List.setIfInBounds_toArray, List.set_cons_zero, List.set_cons_succ]
  refine wpAnyH_take (i := 1) (v := .slice a b.length ca) rfl (by kernel_rfl) (by kernel_rfl) (by kernel_rfl) (fun _ _ _ h => h) (Or.inl ⟨by rfl, fun W hW => ?_⟩) hHeld ?_
  · clear hW
    go_simp
  try simp only [Act.put, List.getElem_toArray, List.getElem_cons_zero, List.getElem_cons_succ, List.setIfInBounds_toArray, List.set_cons_zero, List.set_cons_succ]
  refine wpAnyH_take (i := 3) (v := .int .i64 (sz : Int)) rfl (by kernel_rfl) (by kernel_rfl) (by kernel_rfl) (fun _ _ _ h => h) (Or.inl ⟨by rfl, fun W hW => ?_⟩) hHeld ?_
  · clear hW
    go_simp
  try simp only [Act.put, List.getElem_toArray, List.getElem_cons_zero, List.getElem_cons_succ, List.setIfInBounds_toArray, List.set_cons_zero, List.set_cons_succ]
  refine wpAnyH_take (i := 4) (v := .int .u32 (fr : Int)) rfl (by kernel_rfl) (by kernel_rfl) (by kernel_rfl) (fun _ _ _ h => h) (Or.inl ⟨by rfl, fun W hW => ?_⟩) hHeld ?_
  · clear hW
    go_simp
  try simp only [Act.put, List.getElem_toArray, List.getElem_cons_zero, List.getElem_cons_succ, List.setIfInBounds_toArray, List.set_cons_zero, List.set_cons_succ]
  refine wpAnyH_ready (rs := [2]) (by kernel_rfl) (by simp) (AllReadyH.cons rfl (fun K hK => ?_) AllReadyH.nil)
  go_simp
  refine (HCPA.out _ hHeld.2).mono ?_
  rintro e v1 ⟨y, rfl, O3, K1⟩
  obtain ⟨ao3, ca3, rfl, C3, z3, r3⟩ := O3.items
  clear O3
  go_wp2_with fail
  refine hK.out _ _ (⟨hHeld.1.kept K1, grown_trans hHeld.2 K1⟩) (fun hHeld => ?_)
  clear hK K
  try simp only [Act.put, List.getElem_toArray, List.getElem_cons_zero, List.getElem_cons_succ, List.setIfInBounds_toArray, List.set_cons_zero, List.set_cons_succ]
  refine wpAnyH_ready (rs := [5]) (by kernel_rfl) (by simp) (AllReadyH.cons rfl (fun K hK => ?_) AllReadyH.nil)
  go_simp
  refine (HSPL.out _ ao3 ca3 C3 z3 r3).mono ?_
  rintro e v2 ⟨v, rfl, LV, K2⟩
  go_wp2_with fail
  refine hK.out _ _ (⟨hHeld.1.kept K2, grown_trans hHeld.2 K2⟩) (fun hHeld => ?_)
  clear hK K
  try simp only [Act.put, List.getElem_toArray, List.getElem_cons_zero, List.getElem_cons_succ, List.setIfInBounds_toArray, List.set_cons_zero, List.set_cons_succ]
  refine wpAnyH_take (i := 6) (v := .tuple #[v, .int .i64 0]) rfl (by kernel_rfl) (by kernel_rfl) (by kernel_rfl) (fun _ _ _ h => h) (Or.inl ⟨by rfl, fun W hW => ?_⟩) hHeld ?_
  · clear hW
    go_simp
  try simp only [Act.put, List.getElem_toArray, List.getElem_cons_zero, List.getElem_cons_succ, List.setIfInBounds_toArray, List.set_cons_zero, List.set_cons_succ]
  refine wpAnyH_take (i := 7) (v := v) rfl (by kernel_rfl) (by kernel_rfl) (by kernel_rfl) (fun _ _ _ h => h) (Or.inl ⟨by rfl, fun W hW => ?_⟩) hHeld ?_
  · clear hW
    go_simp
  try simp only [Act.put, List.getElem_toArray, List.getElem_cons_zero, List.getElem_cons_succ, List.setIfInBounds_toArray, List.set_cons_zero, List.set_cons_succ]
  refine wpAnyH_take (i := 8) (v := .int .i64 0) rfl (by kernel_rfl) (by kernel_rfl) (by kernel_rfl) (fun _ _ _ h => h) (Or.inl ⟨by rfl, fun W hW => ?_⟩) hHeld ?_
  · clear hW
    go_simp
  try simp only [Act.put, List.getElem_toArray, List.getElem_cons_zero, List.getElem_cons_succ, List.setIfInBounds_toArray, List.set_cons_zero, List.set_cons_succ]
  refine wpAnyH_take (i := 9) (v := v) rfl (by kernel_rfl) (by kernel_rfl) (by kernel_rfl) (fun _ _ _ h => h) (Or.inl ⟨by rfl, fun W hW => ?_⟩) hHeld ?_
  · clear hW
    go_simp
  try simp only [Act.put, List.getElem_toArray, List.getElem_cons_zero, List.getElem_cons_succ, List.setIfInBounds_toArray, List.set_cons_zero, List.set_cons_succ]
  refine wpAnyH_take (i := 10) (v := .int .i64 0) rfl (by kernel_rfl) (by kernel_rfl) (by kernel_rfl) (fun _ _ _ h => h) (Or.inl ⟨by rfl, fun W hW => ?_⟩) hHeld ?_
  · clear hW
    go_simp
  try simp only [Act.put, List.getElem_toArray, List.getElem_cons_zero, List.getElem_cons_succ, List.setIfInBounds_toArray, List.set_cons_zero, List.set_cons_succ]
  refine wpAnyH_done (by kernel_rfl) ?_ _
  have G4 := grown_trans G2 hHeld.2
  have LK4 : Hid (VAt v2 L 23 (lkA (⟨false, false, 2⟩ : Lk))) := hHeld.1
  obtain ⟨vs, LV⟩ := LV
  obtain ⟨g, cap, rfl, hit⟩ := LV.pieces hnn hn1
  have HIT : Hid (∀ i, i < n → ∃ ao ca, v2.cell? ⟨g, i, none⟩ = some (.slice ao (pcV (⟨false, false, 2⟩ : Lk) b sz fr i).length ca) ∧ Cells v2 ao (pcV (⟨false, false, 2⟩ : Lk) b sz fr i) ∧ (ao = none → ca = 0)) := hit
  have HPB : Hid (∀ i, 8 ≤ (pcV (⟨false, false, 2⟩ : Lk) b sz fr i).length ∧ (pcV (⟨false, false, 2⟩ : Lk) b sz fr i).length ≤ 8 + sz) := by
    intro i
    have e1 := pc_len (⟨false, false, 2⟩ : Lk) b sz fr i
    have e2 := chunk_len b sz i
    omega
  have HFR : Hid (∀ (i : Nat) (u : Bs), i < n → (i = 0 ∨ u = rowS (⟨false, false, 2⟩ : Lk) b sz fr i) → feedX (⟨false, false, 2⟩ : Lk) u (pcV (⟨false, false, 2⟩ : Lk) b sz fr i) = .ok (rowS (⟨false, false, 2⟩ : Lk) b sz fr (i + 1), if i + 1 = n then b else [], decide (i + 1 = n))) := by
    intro i u hi hu
    have q := feed_row (⟨false, false, 2⟩ : Lk) u b sz fr i (by simp) (by omega) (by omega) g2 (by rw [hnn]; exact hi) hu
    rw [hnn] at q
    exact q
  have HRN : Hid (∀ i, (rowS (⟨false, false, 2⟩ : Lk) b sz fr i).nxt = (fr + i) % 16777216) := by
    intro i
    unfold rowS
    rw [hspv]
    split <;> rfl
  obtain ⟨nx, hnx⟩ : ∃ nx, (fr + 16777215) % 16777216 = nx := ⟨_, rfl⟩
  have hx1 : ((fr : Int) + 16777215) % 16777216 = (nx : Int) := by omega
  have hx2 : ((fr : Int) + 16777215).tmod 16777216 = (nx : Int) := by rw [Int.tmod_eq_emod_of_nonneg (by omega)]; exact hx1
  have hx3 : IntKind.u32.wrap ((fr : Int) + 16777216) = (fr : Int) + 16777216 := wr_add fr 16777216 hfrl (by decide)
  have hx4 : IntKind.u32.wrap ((fr : Int) + 16777216 - 1) = (fr : Int) + 16777215 := wr_sub fr 16777216 hfrl (by decide)
  have hnxl : nx < 16777216 := by rw [← hnx]; exact Nat.mod_lt _ (by decide)
  have HNW : Hid (∀ W : World, Calls Try.prog 19 #[.agg (lkA (⟨false, false, 2⟩ : Lk)), .int .u32 (nx : Int)] W fun e w' => ∃ p, e = .returned (.tuple #[p, .int .i64 0]) ∧ BW W p (⟨false, false, 2⟩ : Lk) ⟨nx, false, []⟩ 0 0 w' ∧ W.grownBy w' none) := fun W => by
    refine (new_ok (⟨false, false, 2⟩ : Lk) nx ⟨nx, false, []⟩ W ?_).mono ?_
    · unfold newX
      rw [if_neg (by decide), if_neg (by rw [hspv]; exact Nat.not_le.2 hnxl)]
    · rintro e w' ⟨p, S, rfl, B, K⟩
      exact ⟨p, rfl, BW.new B K, K⟩
  clear LV hit HSPL HCPA HSP C3 K1 K2 LK2 z3 r3 hHeld hnx
  go_upto_region 12 with fail
  refine wp_region_held_drew (S := fun W => VAt W L 23 (lkA (⟨false, false, 2⟩ : Lk)) ∧ v2.grownBy W none) (by kernel_rfl) (⟨LK4.out.kept (grown_drewN v2 1 none), grown_drewN v2 1 none⟩) (fun hHeld => ?_)
  refine wpAnyH_take (i := 0) (v := .agg (lkA (⟨false, false, 2⟩ : Lk))) rfl (by kernel_rfl) (by kernel_rfl) (by kernel_rfl) (fun _ _ _ h => h) (yieldsIf_load_row (by rfl) _ _ rfl L rfl 23 (lkA (⟨false, false, 2⟩ : Lk)) _ (fun W hW => hW.1) Try.underlying23 rfl HLS.out) hHeld ?_
  try simp only [Act.put, List.getElem_toArray, List.getElem_cons_zero, List.setIfInBounds_toArray, List.set_cons_zero, List.set_cons_succ]
  refine wpAnyH_take (i := 1) (v := .int .u32 (fr : Int)) rfl (by kernel_rfl) (by kernel_rfl) (by kernel_rfl) (fun _ _ _ h => h) (Or.inl ⟨by rfl, fun W hW => ?_⟩) hHeld ?_
  · clear hW
    go_simp
  try simp only [Act.put, List.getElem_toArray, List.getElem_cons_zero, List.getElem_cons_succ, List.setIfInBounds_toArray, List.set_cons_zero, List.set_cons_succ]
  refine wpAnyH_take (i := 2) (v := .int .u32 16777216) rfl (by kernel_rfl) (by kernel_rfl) (by kernel_rfl) (fun _ _ _ h => h) (Or.inl ⟨by rfl, fun W hW => ?_⟩) hHeld ?_
  · clear hW
    go_simp
  try simp only [Act.put, List.getElem_toArray, List.getElem_cons_zero, List.getElem_cons_succ, List.setIfInBounds_toArray, List.set_cons_zero, List.set_cons_succ]
  refine wpAnyH_take (i := 3) (v := .int .u32 ((fr : Int) + 16777216)) rfl (by kernel_rfl) (by kernel_rfl) (by kernel_rfl) (fun _ _ _ h => h) (Or.inl ⟨by rfl, fun W hW => ?_⟩) hHeld ?_
  · clear hW
    go_simp
  try simp only [Act.put, List.getElem_toArray, List.getElem_cons_zero, List.getElem_cons_succ, List.setIfInBounds_toArray, List.set_cons_zero, List.set_cons_succ]
  refine wpAnyH_take (i := 4) (v := .int .u32 ((fr : Int) + 16777215)) rfl (by kernel_rfl) (by kernel_rfl) (by kernel_rfl) (fun _ _ _ h => h) (Or.inl ⟨by rfl, fun W hW => ?_⟩) hHeld ?_
  · clear hW
    go_simp
  try simp only [Act.put, List.getElem_toArray, List.getElem_cons_zero, List.getElem_cons_succ, List.setIfInBounds_toArray, List.set_cons_zero, List.set_cons_succ]
  refine wpAnyH_take (i := 5) (v := .int .u32 16777216) rfl (by kernel_rfl) (by kernel_rfl) (by kernel_rfl) (fun _ _ _ h => h) (Or.inl ⟨by rfl, fun W hW => ?_⟩) hHeld ?_
  · clear hW
    go_simp
  try simp only [Act.put, List.getElem_toArray, List.getElem_cons_zero, List.getElem_cons_succ, List.setIfInBounds_toArray, List.set_cons_zero, List.set_cons_succ]
  refine wpAnyH_take (i := 6) (v := .int .u32 (nx : Int)) rfl (by kernel_rfl) (by kernel_rfl) (by kernel_rfl) (fun _ _ _ h => h) (Or.inl ⟨by rfl, fun W hW => ?_⟩) hHeld ?_
  · clear hW
    go_simp
  try simp only [Act.put, List.getElem_toArray, List.getElem_cons_zero, List.getElem_cons_succ, List.setIfInBounds_toArray, List.set_cons_zero, List.set_cons_succ]
  refine wpAnyH_ready (rs := [7]) (by kernel_rfl) (by simp) (AllReadyH.cons rfl (fun K hK => ?_) AllReadyH.nil)
  go_simp
  refine (HNW.out _).mono ?_
  rintro e v11 ⟨p, rfl, BU, K11⟩
  obtain ⟨ad, rfl⟩ := BU.ptr
  go_wp2_with fail
  refine hK.out _ _ (⟨hHeld.1.kept K11, grown_trans hHeld.2 K11⟩) (fun hHeld => ?_)
  clear hK K
  try simp only [Act.put, List.getElem_toArray, List.getElem_cons_zero, List.getElem_cons_succ, List.setIfInBounds_toArray, List.set_cons_zero, List.set_cons_succ]
  refine wpAnyH_take (i := 8) (v := .tuple #[.pointer (some ad), .int .i64 0]) rfl (by kernel_rfl) (by kernel_rfl) (by kernel_rfl) (fun _ _ _ h => h) (Or.inl ⟨by rfl, fun W hW => ?_⟩) hHeld ?_
  · clear hW
    go_simp
  try simp only [Act.put, List.getElem_toArray, List.getElem_cons_zero, List.getElem_cons_succ, List.setIfInBounds_toArray, List.set_cons_zero, List.set_cons_succ]
  refine wpAnyH_take (i := 9) (v := .pointer (some ad)) rfl (by kernel_rfl) (by kernel_rfl) (by kernel_rfl) (fun _ _ _ h => h) (Or.inl ⟨by rfl, fun W hW => ?_⟩) hHeld ?_
  · clear hW
    go_simp
  try simp only [Act.put, List.getElem_toArray, List.getElem_cons_zero, List.getElem_cons_succ, List.setIfInBounds_toArray, List.set_cons_zero, List.set_cons_succ]
  refine wpAnyH_take (i := 10) (v := .int .i64 0) rfl (by kernel_rfl) (by kernel_rfl) (by kernel_rfl) (fun _ _ _ h => h) (Or.inl ⟨by rfl, fun W hW => ?_⟩) hHeld ?_
  · clear hW
    go_simp
  try simp only [Act.put, List.getElem_toArray, List.getElem_cons_zero, List.getElem_cons_succ, List.setIfInBounds_toArray, List.set_cons_zero, List.set_cons_succ]
  refine wpAnyH_take (i := 11) (v := .pointer (some ad)) rfl (by kernel_rfl) (by kernel_rfl) (by kernel_rfl) (fun _ _ _ h => h) (Or.inl ⟨by rfl, fun W hW => ?_⟩) hHeld ?_
  · clear hW
    go_simp
  try simp only [Act.put, List.getElem_toArray, List.getElem_cons_zero, List.getElem_cons_succ, List.setIfInBounds_toArray, List.set_cons_zero, List.set_cons_succ]
  refine wpAnyH_take (i := 12) (v := .int .i64 0) rfl (by kernel_rfl) (by kernel_rfl) (by kernel_rfl) (fun _ _ _ h => h) (Or.inl ⟨by rfl, fun W hW => ?_⟩) hHeld ?_
  · clear hW
    go_simp
  try simp only [Act.put, List.getElem_toArray, List.getElem_cons_zero, List.getElem_cons_succ, List.setIfInBounds_toArray, List.set_cons_zero, List.set_cons_succ]
  refine wpAnyH_done (by kernel_rfl) ?_ _
  have UB := BU
  have G5 : w.grownBy v2.drew none := grown_trans G4 (grown_drewN v2 1 none)
  have HIT5 : Hid (∀ i, i < n → ∃ ao ca, v2.drew.cell? ⟨g, i, none⟩ = some (.slice ao (pcV (⟨false, false, 2⟩ : Lk) b sz fr i).length ca) ∧ Cells v2.drew ao (pcV (⟨false, false, 2⟩ : Lk) b sz fr i) ∧ (ao = none → ca = 0)) := fun i hi => by
    obtain ⟨ao, ca, h1, h2, h3⟩ := HIT.out i hi
    exact ⟨ao, ca, (grown_drewN v2 1 none).cell h1 (by simp), h2.keptNone (grown_drewN v2 1 none), h3⟩
  clear BU hHeld HNW K11 LK4 HIT G4
  generalize v2.drew = vN at *
  obtain ⟨D, hD⟩ : ∃ D, (b.length + sz - 1) / sz = D := ⟨_, rfl⟩
  have hnD : n = max 1 D := by rw [← hnn, cnt_max (by omega), hD]
  have hy0 : ((sz : Int) == 0) = false := by rw [beq_eq_false_iff_ne]; omega
  have hy1 : ((b.length : Int) + (sz : Int) - 1) / (sz : Int) = (D : Int) := by
    rw [← hD, show (b.length : Int) + (sz : Int) - 1 = ((b.length + sz - 1 : Nat) : Int) by omega]
    exact (Int.natCast_ediv _ _).symm
  have hy2 : ((b.length : Int) + (sz : Int) - 1).tdiv (sz : Int) = (D : Int) := by rw [Int.tdiv_eq_ediv_of_nonneg (by omega)]; exact hy1
  have hD2 : D ≤ 4096 := by omega
  have HND : Hid (n = max 1 D) := hnD
  clear hD hnD
  have hmx : (if (1 : Int) < (D : Int) then (D : Int) else 1) = (n : Int) := by
    have := HND.out
    split <;> omega
  have hne : ((n : Int) != (n : Int)) = false := by simp
  go_upto_region 15 with fail
  clear hmx hne hy0 hy1 hy2 hx1 hx2 hx3 hx4
  have DA := HAH.out.keptNone (grown_trans G5 UB.up)
  go_wp2_with fail
  refine (copy_any c cc _ _ DA hd0 (by omega)).mono ?_
  rintro e w5 ⟨y5, rfl, O5, K5⟩
  clear DA
  go_wp2_with fail
  refine (UB.feed K5 O5 (by omega)).mono ?_
  rintro e w6 ⟨x6, rfl, -, U6⟩
  generalize (exV ((⟨nx, false, []⟩ : Bs), ([] : List UInt8), false) (feedX (⟨false, false, 2⟩ : Lk) ⟨nx, false, []⟩ ah)) = r6 at *
  generalize exE (feedX (⟨false, false, 2⟩ : Lk) ⟨nx, false, []⟩ ah) = e6 at *
  obtain ⟨u6, r6a, r6b⟩ := r6
  simp only at U6 ⊢
  clear UB K5 O5
  generalize hpcs : pcV (⟨false, false, 2⟩ : Lk) b sz fr = pcs at *
  generalize hrow : rowS (⟨false, false, 2⟩ : Lk) b sz fr = row at *
  clear hpcs hrow
  go_wp2
  go_loopw [20] (fun x wr => ∃ (i : Nat) (u : Bs), i ≤ n ∧ x = .int .i64 i ∧ Hid (i = 0 ∨ u = row i) ∧ BW vN (.pointer (some ad)) (⟨false, false, 2⟩ : Lk) u 0 0 wr) (fun x _ => n - (intOf x).toNat)
  case atStart => exact ⟨0, u6, Nat.zero_le _, rfl, .inl rfl, U6⟩
  case round =>
    clear U6
    obtain ⟨i, u, hi', rfl, HU, UW⟩ := hrel
    have K := UW.up
    by_cases hlt : i < n
    · obtain ⟨ao, ca1, ci0, C0, zz⟩ := HIT5.out i hlt
      have hfe := HFR.out i u hlt HU.out
      have hrn := HRN.out (i + 1)
      have ci := K.cell ci0 (by simp)
      have D0 := C0.keptNone K
      have hpb := HPB.out i
      obtain ⟨pc, hpc⟩ : ∃ pc, pcs i = pc := ⟨_, rfl⟩
      obtain ⟨u', hu'⟩ : ∃ u', row (i + 1) = u' := ⟨_, rfl⟩
      rw [hu'] at hfe hrn
      rw [hpc] at ci D0 hfe hpb
      have HU' : Hid (row (i + 1) = u') := hu'
      obtain ⟨PN, hPN⟩ : ∃ PN, pc.length = PN := ⟨_, rfl⟩
      rw [hPN] at ci hpb
      have HPL : Hid (pc.length = PN) := hPN
      have HFE : Hid (feedX (⟨false, false, 2⟩ : Lk) u pc = .ok (u', if i + 1 = n then b else [], decide (i + 1 = n))) := hfe
      have hp1 : decide ((PN : Int) < 8) = false := decide_eq_false (by omega)
      have hp2 : decide ((8 : Int) + (sz : Int) < (PN : Int)) = false := decide_eq_false (by omega)
      have hp3 : IntKind.i64.wrap ((8 : Int) + (sz : Int)) = (8 : Int) + (sz : Int) := by rw [IntKind.wrap_i64]; omega
      have hli : (i : Int) < (n : Int) := by omega
      have hi0 : (0 : Int) ≤ (i : Int) := by omega
      clear ci0 C0 hfe hpc hu' HU
      have HCP : Hid (Calls Try.prog 13 #[.slice ao PN ca1] wr fun e w' => ∃ v, e = .returned v ∧ Owns w' wr.heap.size v pc ∧ wr.grownBy w' none) := by
        have q := copy_any ao ca1 pc wr D0 zz (by rw [hPN]; omega)
        rw [hPN] at q
        exact q
      clear D0 hPN
      go_wp2_with fail
      refine HCP.out.mono ?_
      rintro e w7 ⟨y7, rfl, O7, K7⟩
      clear HCP
      go_wp2_with fail
      refine (UW.feed_ok K7 O7 (by rw [HPL.out]; omega) HFE.out).mono ?_
      rintro e w8 ⟨x8, rfl, O8, U8⟩
      clear UW K7 O7 ci hp1 hp2 hp3
      have HO8 : Hid (Owns w8 w7.heap.size x8 (if i + 1 = n then b else [])) := O8
      clear O8
      go_wp2_with fail
      refine U8.waits.mono ?_
      rintro e w9 ⟨rfl, U9, K9⟩
      obtain ⟨nq, hnq⟩ : ∃ nq, (fr + (i + 1)) % 16777216 = nq := ⟨_, rfl⟩
      rw [hrn, hnq]
      have hz1 : IntKind.u32.wrap (i : Int) = (i : Int) := by rw [IntKind.wrap_u32]; omega
      have hz2 : IntKind.u32.wrap ((fr : Int) + (i : Int)) = (fr : Int) + (i : Int) := by rw [IntKind.wrap_u32]; omega
      have hz3 : IntKind.u32.wrap ((fr : Int) + (i : Int) + 1) = (fr : Int) + (i : Int) + 1 := by rw [IntKind.wrap_u32]; omega
      have hz4 : ((fr : Int) + (i : Int) + 1) % 16777216 = (nq : Int) := by omega
      have hz5 : ((fr : Int) + (i : Int) + 1).tmod 16777216 = (nq : Int) := by rw [Int.tmod_eq_emod_of_nonneg (by omega)]; exact hz4
      have hz6 : ((nq : Int) != (nq : Int)) = false := by simp
      have hz7 : IntKind.i64.wrap ((n : Int) - 1) = (n : Int) - 1 := by rw [IntKind.wrap_i64]; omega
      clear hnq hrn U8
      by_cases hil : i + 1 = n
      · have HO9 := HO8.out
        rw [if_pos hil] at HO9
        obtain ⟨ao8, ca8, rfl, C8, -, -⟩ := HO9.items
        rw [decide_eq_true hil]
        have hel : ((i : Int) == (n : Int) - 1) = true := by rw [beq_iff_eq]; omega
        have C9 := C8.keptNone K9
        have D9 := H.out.keptNone (grown_trans G5 U9.up)
        have HIL : Hid (i + 1 = n) := hil
        clear HO8 HO9 C8 hil
        go_wp2_with fail
        refine (same_any ao8 a ca8 ca b _ C9 D9 (by omega)).mono ?_
        rintro e w10 ⟨rfl, n10, rfl⟩
        have U10 := U9.kept (grown_drewN w9 n10 none)
        clear C9 D9 U9
        go_wp2
        go_roundw
        case rel => exact ⟨i + 1, u', by omega, by go_num, .inr HU'.out.symm, U10⟩
        case measure => simp [intOf]; omega
      · have HO9 := HO8.out
        rw [if_neg hil] at HO9
        obtain ⟨ao8, ca8, rfl, -, -, -⟩ := HO9.items
        rw [decide_eq_false hil, show ([] : List UInt8).length = 0 from rfl]
        have hel : ((i : Int) == (n : Int) - 1) = false := by rw [beq_eq_false_iff_ne]; omega
        clear HO8 HO9
        go_wp2
        go_roundw
        case rel => exact ⟨i + 1, u', by omega, by go_num, .inr HU'.out.symm, U9⟩
        case measure => simp [intOf]; omega
    · obtain rfl : i = n := by omega
      have GF := grown_trans G5 K
      clear HIT5 HFR HPB HU UW
      go_wp2_with fail
      refine (awake9_any _).mono ?_
      rintro e wz ⟨rfl, KZ⟩
      go_wp2
      go_ret
      exact ⟨rfl, grown_trans GF KZ⟩

theorem walk (long : Bool) (a : Option Addr) (ca : Nat) (b : List UInt8) (x : Int) (f : Nat) (c : Option Addr) (cc : Nat) (ah : List UInt8) (w : World) (ha : Cells w a b) (hc0 : a = none → ca = 0) (hn : b.length ≤ 140737488351232) (hf : f ≤ 4294967295) (hc : Cells w c ah) (hd0 : c = none → cc = 0) (hm : ah.length ≤ 140737488351232) :
    Calls Try.prog 5 #[.bool long, .slice a b.length ca, .int .i64 x, .int .u32 (f : Int), .slice c ah.length cc] w fun e w' => e = .returned (.bool true) ∧ w.grownBy w' none := by
  cases long with
  | false => exact walkF a ca b x f c cc ah w ha hc0 hn hf hc hd0 hm
  | true => exact walkT a ca b x f c cc ah w ha hc0 hn hf hc hd0 hm

set_option maxRecDepth 100000 in
theorem lifted (os : Os) (started : os.Started) (H : Type) (enc : TypeId × Value → H) :
    ReturnsInHanded {} Try.checked os 5 .any (Rows.bundleWholeSpec.pre6 enc Try.prog Try.f5 Rows.bundleWholeRow.domain false) (Rows.bundleWholeSpec.post enc Try.prog Try.f5 false true false false) := by
  refine returnsInHanded_of_change_sized (C := Try.checked) own started (by kernel_rfl) Try.func5
    (ChangeSpec.witness6 (enc := enc) (C := Try.checked) false ⟨#[], #[.bool false, .slice none 0 0, .int .i64 0, .int .u32 0, .slice none 0 0], []⟩ 8 (by kernel_rfl) (by kernel_rfl) (by kernel_rfl) (by kernel_rfl)) ?_
  intro W base args ds gs before hval0 hW hcnd hsz0 _
  have hsz : (DataW.weightsEach Try.prog (Try.f5.params.toList ++ Rows.bundleWholeSpec.plain.varTypes Try.prog) (ds ++ gs)).all (· ≤ reachBytes) = true := hsz0
  have hval : ∀ (j : Nat) t v, Try.f5.params[j]? = some t → args[j]? = some v → Value.okWide Try.prog W .any base t v := hval0
  have hW' := hW
  obtain ⟨p, q, hA0, hV, rfl, hfz, hnd⟩ := hW
  have hA : DataW.TrodAll enc Try.prog W 0 (fun _ => true) true Try.f5.params.toList args.toList ds p := hA0
  rw [Try.params5] at hA hval hsz
  obtain ⟨v0, vs0, d0, ds0, p0, q0, hargs, rfl, rfl, h0, r0⟩ := trodAll_cons hA
  obtain ⟨v1, vs1, d1, ds1, p1, q1, rfl, rfl, rfl, h1, r1⟩ := trodAll_cons r0
  obtain ⟨v2, vs2, d2, ds2, p2, q2, rfl, rfl, rfl, h2, r2⟩ := trodAll_cons r1
  obtain ⟨v3, vs3, d3, ds3, p3, q3, rfl, rfl, rfl, h3, r3⟩ := trodAll_cons r2
  obtain ⟨v4, vs4, d4, ds4, p4, q4, rfl, rfl, rfl, h4, r4⟩ := trodAll_cons r3
  obtain ⟨rfl, rfl, rfl⟩ := trodAll_nil r4
  obtain rfl : args = #[v0, v1, v2, v3, v4] := by cases args; simp_all
  obtain ⟨rfl, rfl⟩ := trodVars_none hV
  obtain ⟨x0, rfl, rfl, rfl⟩ := open_bool Try.underlying4 (hval 0 4 v0 rfl rfl) h0
  obtain ⟨a1, len1, cap1, rfl⟩ := okWide_slice Try.underlying24 (hval 1 24 v1 rfl rfl)
  have k1 := h1
  have lt1 : ∀ x ∈ p1, x.block < W.heap.size := by obtain ⟨m, hm⟩ := k1; exact DataW.trod_lt m _ _ _ hm
  obtain ⟨xs1, rfl, hcells1, hnil1, hdat1⟩ := open_bytes Try.underlying24 Try.underlying5 (by kernel_rfl) h1
  obtain ⟨x2, rfl, rfl, rfl, w2⟩ := open_int Try.underlying3 (hval 2 3 v2 rfl rfl) h2
  obtain ⟨y3, rfl, rfl, rfl, w3⟩ := open_int Try.underlying25 (hval 3 25 v3 rfl rfl) h3
  have bd3 := bounds_u32 w3
  obtain ⟨x3, rfl⟩ := Int.eq_ofNat_of_zero_le bd3.1
  have hv3 : x3 ≤ 4294967295 := by omega
  obtain ⟨a4, len4, cap4, rfl⟩ := okWide_slice Try.underlying24 (hval 4 24 v4 rfl rfl)
  have k4 := h4
  have lt4 : ∀ x ∈ p4, x.block < W.heap.size := by obtain ⟨m, hm⟩ := k4; exact DataW.trod_lt m _ _ _ hm
  obtain ⟨xs4, rfl, hcells4, hnil4, hdat4⟩ := open_bytes Try.underlying24 Try.underlying5 (by kernel_rfl) h4
  have hlen1 : xs1.length * 1 ≤ 140737488351232 := by
    rcases hdat1 with ⟨_, rfl⟩ | ⟨elems, spare, rfl, hle⟩
    · simp
    · have := sized_slice hsz (j := 1) (t := 24) (e := 5) rfl rfl Try.underlying24
      rw [bytes5] at this
      unfold reachBytes at this
      omega
  have hlen4 : xs4.length * 1 ≤ 140737488351232 := by
    rcases hdat4 with ⟨_, rfl⟩ | ⟨elems, spare, rfl, hle⟩
    · simp
    · have := sized_slice hsz (j := 4) (t := 24) (e := 5) rfl rfl Try.underlying24
      rw [bytes5] at this
      unfold reachBytes at this
      omega
  clear hA0 hval0
  refine (walk x0 a1 cap1 xs1 x2 x3 a4 cap4 xs4 W hcells1 hnil1 (by omega) hv3 hcells4 hnil4 (by omega)).mono fun e W' ⟨he, hg⟩ => ?_
  subst he
  have bel : Below W.heap.size W W' := (Below.refl _ _).grown hg (Nat.le_refl _) (by simp)
  exact ⟨_, rfl, _, _, _, [], _, [], hW', trodAll_mk1 (shut_bool Try.underlying4 _), (trodAll_cons_mk (shut_bool Try.underlying4 x0) (trodAll_cons_mk (Below.trod laidOut (by kernel_rfl) (of_decide_eq_true (by kernel_rfl)) k1 bel lt1) (trodAll_cons_mk (shut_int Try.underlying3 w2) (trodAll_cons_mk (shut_int Try.underlying25 w3) (trodAll_cons_mk (Below.trod laidOut (by kernel_rfl) (of_decide_eq_true (by kernel_rfl)) k4 bel lt4) trodAll_mk0))))), rfl, bel.frame _, fun h => by cases h⟩

theorem over : Rows.BundleWholeSaid :=
  OpenClaim.holds_of_wide 5 Try.f5 rfl rfl rfl rfl rfl rfl rfl ⟨rfl, rfl, rfl, rfl, rfl⟩ rfl rfl rfl rfl rfl (by kernel_rfl) Try.func5 (by kernel_rfl)
    (of_decide_eq_true (by kernel_rfl)) (by unfold Func.isWrapper; first | (rw [if_pos (by decide +kernel)]; kernel_rfl) | (rw [if_neg (by decide +kernel)]; exact ⟨rfl, rfl⟩))
    (fun os started H enc _ => lifted os started H enc)

end bundleWhole

theorem bundleWhole_holds : Rows.BundleWholeSaid := bundleWhole.over
#print axioms bundleWhole_holds

end Go.Proofs.Ytgfiadljjlajaaa
