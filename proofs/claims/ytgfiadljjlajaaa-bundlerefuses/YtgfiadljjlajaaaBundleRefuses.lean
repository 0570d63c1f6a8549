/-
  For every two lists of bytes (each of at most 2^47 - 4096 bytes of room, as the form itself says of each argument) riddlelaw9.BundleRefuses returns true and leaves what was there as it was: no condition of ours.
-/
import Derived.Test.YtgfiadljjlajaaaBundleP
import Derived.Test.YtgfiadljjlajaaaOpen
namespace Go.Proofs.Ytgfiadljjlajaaa
open Go.ChangeShapes Go.WideShapes Go.ChangeAt Go.RowKit
open Go.ChangeMaps (open_string shut_string)
set_option maxRecDepth 100000
namespace bundleRefuses

set_option maxRecDepth 100000 in
set_option maxHeartbeats 4000000 in
theorem walk (a : Option Addr) (ca : Nat) (b : List UInt8) (c : Option Addr) (cc : Nat) (junk : List UInt8) (w : World) (ha : Cells w a b) (hc0 : a = none → ca = 0) (hn : b.length ≤ 140737488351232) (hc : Cells w c junk) (hd0 : c = none → cc = 0) (hm : junk.length ≤ 140737488351232) :
    Calls Try.prog 7 #[.slice a b.length ca, .slice c junk.length cc] w fun e w' => e = .returned (.bool true) ∧ w.grownBy w' none := by
  have H : Hid (Cells w a b) := ha
  have HJ : Hid (Cells w c junk) := hc
  clear ha hc
  by_cases hg : 2 ≤ b.length ∧ b.length ≤ 2000
  case neg =>
    have hcase : decide ((2000 : Int) < (b.length : Int)) = true ∨ (decide ((2000 : Int) < (b.length : Int)) = false ∧ decide ((b.length : Int) < 2) = true) := by
      by_cases h1 : 2000 < b.length
      · exact .inl (decide_eq_true (by omega))
      · exact .inr ⟨decide_eq_false (by omega), decide_eq_true (by omega)⟩
    have GL := World.grownBy_alloc w (.cells #[.bool false, .bool false, .int .i64 1] 23) none
    rcases hcase with h1 | ⟨h1, h2⟩
    all_goals
      go_enter Try.func7, Try.ntmps7
      go_wp2_with fail
      refine (awake9_any _).mono ?_
      rintro e w1 ⟨rfl, K1⟩
      go_wp2
      go_ret
      exact ⟨rfl, grown_trans GL K1⟩
  obtain ⟨g2, g3⟩ := hg
  have h1 : decide ((2000 : Int) < (b.length : Int)) = false := decide_eq_false (by omega)
  have h2 : decide ((b.length : Int) < 2) = false := decide_eq_false (by omega)
  have LK := VAt.alloc w 23 #[.bool false, .bool false, .int .i64 1]
  have GL := World.grownBy_alloc w (.cells #[.bool false, .bool false, .int .i64 1] 23) none
  obtain ⟨most, hmost⟩ : ∃ most, (b.length + 1) / 2 = most := ⟨_, rfl⟩
  have hq2 : ((b.length : Int) + 1) / 2 = (most : Int) := by omega
  have hq : ((b.length : Int) + 1).tdiv 2 = (most : Int) := by rw [Int.tdiv_eq_ediv_of_nonneg (by omega)]; exact hq2
  have hq3 : IntKind.i64.wrap (most : Int) = (most : Int) := by rw [IntKind.wrap_i64]; omega
  have hq' : IntKind.i64.wrap ((b.length : Int) + 1) = (b.length : Int) + 1 := by rw [IntKind.wrap_i64]; omega
  have HS : Hid (splitX k9 b (most : Int) 7 = .ok [pcV k9 b most 7 0, pcV k9 b most 7 1]) := by
    have := split_two g2 g3
    rw [hmost] at this
    exact this
  have HF1 : Hid (feedX k9 ⟨7, false, []⟩ (pcV k9 b most 7 0) = .ok (rowS k9 b most 7 1, [], false)) := by
    have := two_one g2 g3
    rw [hmost] at this
    exact this
  have HF2 : Hid (feedX k9 (rowS k9 b most 7 1) (pcV k9 b most 7 1) = .ok (rowS k9 b most 7 2, b, true)) := by
    have := two_two g2 g3
    rw [hmost] at this
    exact this
  have HPL : Hid ((pcV k9 b most 7 0).length ≤ 5000 ∧ (pcV k9 b most 7 1).length ≤ 5000) := by
    have e1 := pc_len k9 b most 7 0
    have e2 := pc_len k9 b most 7 1
    have e3 := chunk_len b most 0
    have e4 := chunk_len b most 1
    have e5 : szV k9 = 2 := rfl
    exact ⟨by omega, by omega⟩
  go_enter Try.func7, Try.ntmps7
  go_upto_region 4 with fail
  generalize w.alloc (.cells #[.bool false, .bool false, .int .i64 1] 23) = w1 at *
  obtain ⟨L, hL⟩ : ∃ L, w.heap.size = L := ⟨_, rfl⟩
  rw [hL] at LK ⊢
  clear hL hmost
  have B0 : K3 w1 L 1 w1.drew := k3_drew ⟨LK.cell 0, LK.cell 1, LK.cell 2, World.grownBy.refl _ _⟩
  go_region_held3 (fun W => W.cell? ⟨L, 0, none⟩ = some (.bool false) ∧ W.cell? ⟨L, 1, none⟩ = some (.bool false) ∧ W.cell? ⟨L, 2, none⟩ = some (.int .i64 1) ∧ w1.grownBy W none)
    (first | (with_reducible assumption) | exact k3_call K2 (by assumption) | exact k3_call KS (by assumption) | exact B0)
    (first
      | (go_at_call 13; refine (copy_any a ca b _ (H.out.keptNone (grown_trans GL (by exact (by assumption : K3 w1 L 1 _).2.2.2))) hc0 (by omega)).mono ?_; rintro e w2 ⟨y, rfl, O2, K2⟩; obtain ⟨ao2, ca2, rfl, C2, z2, r2⟩ := O2.items)
      | (go_at_call 11; refine (split_any k9 ao2 ca2 b (most : Int) 7 _ C2 z2 r2 (by omega)).mono ?_; rintro e w3 ⟨v, rfl, LV, KS⟩))
  rename_i hH
  rw [HS.out] at LV ⊢
  simp only [exV, exE] at LV ⊢
  obtain ⟨vs, LV⟩ := LV
  have J3 : K3 w1 L 1 w3 := hH
  obtain ⟨g, cap, ao0, ca0, rfl, i0, -, C0, O0⟩ := LV.item (i := 0) (by simp)
  obtain ⟨g', cap', ao1, ca1, hv, i1, -, C1, O1⟩ := LV.item (i := 1) (by simp)
  simp only [List.length_cons, List.length_nil, Value.slice.injEq, Option.some.injEq, Addr.mk.injEq] at hv
  obtain ⟨⟨rfl, -⟩, -, rfl⟩ := hv
  simp only [List.getD_cons_zero, List.getD_cons_succ] at i0 i1 C0 C1 O0 O1
  have hz0 : ao0 = none → ca0 = 0 := by
    obtain ⟨p1, q1, r1, -, -, -, u1, -⟩ := cv_of_row O0
    simp only [Value.slice.injEq] at r1
    obtain ⟨rfl, -, rfl⟩ := r1
    exact u1
  have hz1 : ao1 = none → ca1 = 0 := by
    obtain ⟨p1, q1, r1, -, -, -, u1, -⟩ := cv_of_row O1
    simp only [Value.slice.injEq] at r1
    obtain ⟨rfl, -, rfl⟩ := r1
    exact u1
  have HC0 : Hid (Cells w3 ao0 (pcV k9 b most 7 0) ∧ w3.cell? ⟨g, 0, none⟩ = some (.slice ao0 (pcV k9 b most 7 0).length ca0)) := ⟨C0, i0⟩
  have HC1 : Hid (Cells w3 ao1 (pcV k9 b most 7 1) ∧ w3.cell? ⟨g, 1, none⟩ = some (.slice ao1 (pcV k9 b most 7 1).length ca1)) := ⟨C1, i1⟩
  have G3 := grown_trans GL J3.2.2.2
  obtain ⟨y0, y1, y2, -⟩ := J3
  have CN := new_ok k9 7 _ w3 new_seven
  clear LV O0 O1 C0 C1 i0 i1 hH B0 LK GL C2 O2 K2 KS
  go_wp2_with fail
  refine CN.mono ?_
  rintro e w4 ⟨p, S, rfl, B4, K4⟩
  have U4 : BW w3 p k9 ⟨7, false, []⟩ 0 0 w4 := BW.new B4 K4
  obtain ⟨ad, rfl⟩ := U4.ptr
  have c0 := K4.cell HC0.out.2 (by simp)
  have c1 := K4.cell HC1.out.2 (by simp)
  have D0 := HC0.out.1.keptNone K4
  clear CN B4 K4 y0 y1 y2
  go_wp2_with fail
  refine (copy_any ao0 ca0 _ _ D0 hz0 (by have := HPL.out; omega)).mono ?_
  rintro e w5 ⟨y5, rfl, O5, K5⟩
  clear c0 D0
  go_wp2_with fail
  refine (U4.feed_ok K5 O5 (by have := HPL.out; omega) HF1.out).mono ?_
  rintro e w6 ⟨x6, rfl, -, U6⟩
  clear U4 K5 O5 c1
  go_wp2_with fail
  refine U6.waits.mono ?_
  rintro e w7 ⟨rfl, U7, -⟩
  have D7 := HJ.out.keptNone (grown_trans G3 U7.up)
  clear U6
  obtain ⟨u1, hu1⟩ : ∃ u1, rowS k9 b most 7 1 = u1 := ⟨_, rfl⟩
  rw [hu1] at HF2 U7 ⊢
  clear hu1 HF1
  go_wp2_with fail
  refine (copy_any c cc _ _ D7 hd0 (by omega)).mono ?_
  rintro e w8 ⟨y8, rfl, O8, K8⟩
  clear D7
  rcases except_cases9' (feedX k9 u1 junk) with ⟨er, hx⟩ | ⟨⟨u', r, d⟩, hx⟩
  · have her := feed_err hx
    have her' : (er == 0) = false := by rw [beq_eq_false_iff_ne]; exact bne_iff_ne.1 her
    go_wp2_with fail
    refine (U7.feed_er K8 O8 (by omega) hx).mono ?_
    rintro e w9 ⟨x9, rfl, O9, U9⟩
    obtain ⟨ao9, ca9, rfl, -, -, -⟩ := O9.items
    simp only [List.length_nil]
    clear U7 K8 O8 O9 hx her
    go_wp2_with fail
    refine U9.waits.mono ?_
    rintro e w10 ⟨rfl, U10, -⟩
    have c1 := U10.up.cell HC1.out.2 (by simp)
    have D1 := HC1.out.1.keptNone U10.up
    clear U9
    go_wp2_with fail
    refine (copy_any ao1 ca1 _ _ D1 hz1 (by have := HPL.out; omega)).mono ?_
    rintro e w11 ⟨y11, rfl, O11, K11⟩
    clear c1 D1
    go_wp2_with fail
    refine (U10.feed_ok K11 O11 (by have := HPL.out; omega) HF2.out).mono ?_
    rintro e w12 ⟨x12, rfl, O12, U12⟩
    obtain ⟨ao12, ca12, rfl, C12, -, -⟩ := O12.items
    have G12 := grown_trans G3 U12.up
    have D12 := H.out.keptNone G12
    have e1 : ((u1.nxt : Int) == (u1.nxt : Int)) = true := by simp
    have e2 : ((u1.has.length : Int) == (u1.has.length : Int)) = true := by simp
    clear U10 K11 O11 O12 U12
    go_wp2_with fail
    refine (same_any ao12 a ca12 ca b _ C12 D12 (by omega)).mono ?_
    rintro e w13 ⟨rfl, n13, rfl⟩
    have G13 := grown_trans G12 (grown_drewN w12 n13 none)
    clear C12 D12 G12
    go_wp2_with fail
    refine (awake9_any _).mono ?_
    rintro e w14 ⟨rfl, K14⟩
    have G14 := grown_trans G13 K14
    go_wp2
    go_ret
    exact ⟨rfl, G14⟩
  · go_wp2_with fail
    refine (U7.feed_ok K8 O8 (by omega) hx).mono ?_
    rintro e w9 ⟨x9, rfl, O9, U9⟩
    have G9 := grown_trans G3 U9.up
    clear U7 K8 O8 O9 hx U9
    go_wp2_with fail
    refine (awake9_any _).mono ?_
    rintro e w14 ⟨rfl, K14⟩
    have G14 := grown_trans G9 K14
    go_wp2
    go_ret
    exact ⟨rfl, G14⟩

set_option maxRecDepth 100000 in
theorem lifted (os : Os) (started : os.Started) (H : Type) (enc : TypeId × Value → H) :
    ReturnsInHanded {} Try.checked os 7 .any (Rows.bundleRefusesSpec.pre6 enc Try.prog Try.f7 Rows.bundleRefusesRow.domain false) (Rows.bundleRefusesSpec.post enc Try.prog Try.f7 false true false false) := by
  refine returnsInHanded_of_change_sized (C := Try.checked) own started (by kernel_rfl) Try.func7
    (ChangeSpec.witness6 (enc := enc) (C := Try.checked) false ⟨#[], #[.slice none 0 0, .slice none 0 0], []⟩ 8 (by kernel_rfl) (by kernel_rfl) (by kernel_rfl) (by kernel_rfl)) ?_
  intro W base args ds gs before hval0 hW hcnd hsz0 _
  have hsz : (DataW.weightsEach Try.prog (Try.f7.params.toList ++ Rows.bundleRefusesSpec.plain.varTypes Try.prog) (ds ++ gs)).all (· ≤ reachBytes) = true := hsz0
  have hval : ∀ (j : Nat) t v, Try.f7.params[j]? = some t → args[j]? = some v → Value.okWide Try.prog W .any base t v := hval0
  have hW' := hW
  obtain ⟨p, q, hA0, hV, rfl, hfz, hnd⟩ := hW
  have hA : DataW.TrodAll enc Try.prog W 0 (fun _ => true) true Try.f7.params.toList args.toList ds p := hA0
  rw [Try.params7] at hA hval hsz
  obtain ⟨v0, vs0, d0, ds0, p0, q0, hargs, rfl, rfl, h0, r0⟩ := trodAll_cons hA
  obtain ⟨v1, vs1, d1, ds1, p1, q1, rfl, rfl, rfl, h1, r1⟩ := trodAll_cons r0
  obtain ⟨rfl, rfl, rfl⟩ := trodAll_nil r1
  obtain rfl : args = #[v0, v1] := by cases args; simp_all
  obtain ⟨rfl, rfl⟩ := trodVars_none hV
  obtain ⟨a0, len0, cap0, rfl⟩ := okWide_slice Try.underlying24 (hval 0 24 v0 rfl rfl)
  have k0 := h0
  have lt0 : ∀ x ∈ p0, x.block < W.heap.size := by obtain ⟨m, hm⟩ := k0; exact DataW.trod_lt m _ _ _ hm
  obtain ⟨xs0, rfl, hcells0, hnil0, hdat0⟩ := open_bytes Try.underlying24 Try.underlying5 (by kernel_rfl) h0
  obtain ⟨a1, len1, cap1, rfl⟩ := okWide_slice Try.underlying24 (hval 1 24 v1 rfl rfl)
  have k1 := h1
  have lt1 : ∀ x ∈ p1, x.block < W.heap.size := by obtain ⟨m, hm⟩ := k1; exact DataW.trod_lt m _ _ _ hm
  obtain ⟨xs1, rfl, hcells1, hnil1, hdat1⟩ := open_bytes Try.underlying24 Try.underlying5 (by kernel_rfl) h1
  have hlen0 : xs0.length * 1 ≤ 140737488351232 := by
    rcases hdat0 with ⟨_, rfl⟩ | ⟨elems, spare, rfl, hle⟩
    · simp
    · have := sized_slice hsz (j := 0) (t := 24) (e := 5) rfl rfl Try.underlying24
      rw [bytes5] at this
      unfold reachBytes at this
      omega
  have hlen1 : xs1.length * 1 ≤ 140737488351232 := by
    rcases hdat1 with ⟨_, rfl⟩ | ⟨elems, spare, rfl, hle⟩
    · simp
    · have := sized_slice hsz (j := 1) (t := 24) (e := 5) rfl rfl Try.underlying24
      rw [bytes5] at this
      unfold reachBytes at this
      omega
  clear hA0 hval0
  refine (walk a0 cap0 xs0 a1 cap1 xs1 W hcells0 hnil0 (by omega) hcells1 hnil1 (by omega)).mono fun e W' ⟨he, hg⟩ => ?_
  subst he
  have bel : Below W.heap.size W W' := (Below.refl _ _).grown hg (Nat.le_refl _) (by simp)
  exact ⟨_, rfl, _, _, _, [], _, [], hW', trodAll_mk1 (shut_bool Try.underlying4 _), (trodAll_cons_mk (Below.trod laidOut (by kernel_rfl) (of_decide_eq_true (by kernel_rfl)) k0 bel lt0) (trodAll_cons_mk (Below.trod laidOut (by kernel_rfl) (of_decide_eq_true (by kernel_rfl)) k1 bel lt1) trodAll_mk0)), rfl, bel.frame _, fun h => by cases h⟩

theorem over : Rows.BundleRefusesSaid :=
  OpenClaim.holds_of_wide 7 Try.f7 rfl rfl rfl rfl rfl rfl rfl ⟨rfl, rfl, rfl, rfl, rfl⟩ rfl rfl rfl rfl rfl (by kernel_rfl) Try.func7 (by kernel_rfl)
    (of_decide_eq_true (by kernel_rfl)) (by unfold Func.isWrapper; first | (rw [if_pos (by decide +kernel)]; kernel_rfl) | (rw [if_neg (by decide +kernel)]; exact ⟨rfl, rfl⟩))
    (fun os started H enc _ => lifted os started H enc)

end bundleRefuses

theorem bundleRefuses_holds : Rows.BundleRefusesSaid := bundleRefuses.over
#print axioms bundleRefuses_holds

end Go.Proofs.Ytgfiadljjlajaaa
