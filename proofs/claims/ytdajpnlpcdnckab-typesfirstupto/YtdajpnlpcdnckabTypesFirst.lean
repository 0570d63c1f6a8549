/-
  For every two lists of nodes (of such size as the second form says) riddlelaw12.TypesFirst returns true and leaves what was there as it was: no condition of ours.
-/
import Derived.Test.YtdajpnlpcdnckabLotP26
import Derived.Test.YtdajpnlpcdnckabAwake12
import Derived.Test.YtdajpnlpcdnckabLotP27
namespace Go.Proofs.Ytdajpnlpcdnckab
open Go.ChangeShapes Go.WideShapes Go.ChangeAt Go.RowKit
set_option maxRecDepth 100000
namespace typesFirst

set_option maxRecDepth 100000 in
set_option maxHeartbeats 8000000 in
theorem walk (a : Option Addr) (ca : Nat) (t : List Ng) (b : Option Addr) (cb : Nat) (u : List Ng) (w : World) (hA : CV w a (flatG t)) (ha0 : a = none → ca = 0) (hac : t.length ≤ ca) (hax : ca ≤ maxLen) (hal : t.length ≤ 1048576) (hao : ∀ x ∈ t, x.ok)
    (hB : CV w b (flatG u)) (hb0 : b = none → cb = 0) (_hbc : u.length ≤ cb) (_hbx : cb ≤ maxLen) (hbl : u.length ≤ 1048576) (hbo : ∀ x ∈ u, x.ok) :
    Calls Try.prog 4 #[.slice a t.length ca, .slice b u.length cb] w fun e w' => e = .returned (.bool true) ∧ w.grownBy w' none := by
  have HA : Hid (CV w a (flatG t)) := hA
  have HB : Hid (CV w b (flatG u)) := hB
  have HN : Hid (∀ x ∈ t, x.n ≤ 4294967295) := fun x hx => (hao x hx).1
  have HM : Hid (∀ x ∈ u, x.n ≤ 4294967295) := fun x hx => (hbo x hx).1
  have hca : ca ≤ 9223372036854775807 := by unfold maxLen at hax; omega
  obtain ⟨i0, hi, hz0, hz1, hz2⟩ := info_parts info32
  have HI : Hid (Try.prog.info? 32 = some i0 ∧ i0.zero = some (.agg nd0.cells.toArray) ∧ i0.size = 24 ∧ i0.bytes = 72) := ⟨hi, hz0, hz1, hz2⟩
  have C1 := gcopy_any a ca t w hA ha0 (by omega)
  have HHA0 : Hid (a = none → ca = 0) := ha0
  have HHB0 : Hid (b = none → cb = 0) := hb0
  clear hA hB hao hbo hi hz0 hz1 hz2 ha0 hb0 hax
  obtain ⟨p, e, hpe⟩ : ∃ p e, checkG t = (p, e) := ⟨_, _, rfl⟩
  have HPE : Hid (checkG t = (p, e)) := hpe
  have HCK : Hid (∀ (a1 : Option Addr) (c1 : Nat) (W : World), CV W a1 (flatG t) → Calls Try.prog 5 #[.slice a1 t.length c1] W fun e' w' => e' = .returned (.tuple #[.int .i64 (p : Int), .int .i64 e]) ∧ W.grownBy w' none) := fun a1 c1 W CW => by
    have := check12_any a1 c1 t W CW (by omega) HN.out
    rw [checkR, hpe] at this
    exact this
  clear hpe
  by_cases hq : (e = 0 ∨ e = 126) ∨ t.length ≤ p
  · have hq2 : (e == 0) = true ∨ ((e == 0) = false ∧ (e == 126) = true) ∨ ((e == 0) = false ∧ (e == 126) = false ∧ t.length ≤ p) := by
      by_cases h1 : e = 0
      · left; simpa using h1
      · by_cases h2 : e = 126
        · right; left; exact ⟨by simpa using h1, by simpa using h2⟩
        · right; right; exact ⟨by simpa using h1, by simpa using h2, by omega⟩
    clear hq
    go_enter Try.func4, Try.ntmps4
    go_wp2_with fail
    refine C1.mono ?_
    rintro e1 w1 ⟨v1, rfl, O1, K1⟩
    obtain ⟨a1, c1, rfl, D1, -⟩ := cv_of_row O1
    have CK := HCK.out a1 c1 w1 D1
    clear C1 O1 D1
    go_wp2_with fail
    refine CK.mono ?_
    rintro e2 w2 ⟨rfl, K2⟩
    have G2 := grown_trans K1 K2
    clear CK K1 K2 HCK
    rcases hq2 with h1 | ⟨h1, h2⟩ | ⟨h1, h2, h3⟩
    all_goals
      go_wp2_with fail
      refine (awake12_any _).mono ?_
      rintro e9 w9 ⟨rfl, K9⟩
      go_wp2
      go_ret
      exact ⟨rfl, grown_trans G2 K9⟩
  · have h1 : (e == 0) = false := by rw [beq_eq_false_iff_ne]; omega
    have h2 : (e == 126) = false := by rw [beq_eq_false_iff_ne]; omega
    have h3 : ¬ t.length ≤ p := by omega
    have hpl : p < t.length := by omega
    have HH : Hid (e ≠ 0 ∧ e ≠ 126) := ⟨by omega, by omega⟩
    obtain ⟨b1, o1, rfl, hc⟩ := HA.out.ngs hpl
    have HK0 : Hid (w.cell? ⟨b1, o1 + p * 24, none⟩ = some (.int .i64 t[p].kind)) := by
      have := hc p hpl 0 (.int .i64 t[p].kind) rfl
      rw [Nat.add_zero] at this
      exact this
    have hpi : (p : Int) < (t.length : Int) := by omega
    have z0 : (0 : Int) ≤ (p : Int) := by omega
    clear hq hc
    go_enter Try.func4, Try.ntmps4
    go_wp2_with fail
    refine C1.mono ?_
    rintro e1 w1 ⟨v1, rfl, O1, K1⟩
    obtain ⟨a1, c1, rfl, D1, -⟩ := cv_of_row O1
    have CK := HCK.out a1 c1 w1 D1
    clear C1 O1 D1
    go_wp2_with fail
    refine CK.mono ?_
    rintro e2 w2 ⟨rfl, K2⟩
    have G2 := grown_trans K1 K2
    have k0 := G2.cell HK0.out (by simp)
    clear CK K1 K2 HCK
    by_cases hr : e = 121 ∧ ¬ (t[p].kind = 7 ∨ t[p].kind = 8 ∨ t[p].kind = 9)
    · obtain ⟨rfl, hr2⟩ := hr
      have n7 : (t[p].kind != 7) = true := by rw [bne_iff_ne]; omega
      have n8 : (t[p].kind != 8) = true := by rw [bne_iff_ne]; omega
      have n9 : (t[p].kind != 9) = true := by rw [bne_iff_ne]; omega
      clear hr2 h1 h2 HK0
      generalize t[p].kind = kk at *
      go_wp2_with fail
      refine (awake12_any _).mono ?_
      rintro e9 w9 ⟨rfl, K9⟩
      go_wp2
      go_ret
      exact ⟨rfl, grown_trans G2 K9⟩
    · have HW : Hid (walkG [] 0 t = .error (p, e)) := check_first HPE.out HH.out.1 HH.out.2 hpl (fun h => by
        by_cases h9 : t[p].kind = 7 ∨ t[p].kind = 8 ∨ t[p].kind = 9
        · exact h9
        · exact absurd ⟨h, h9⟩ hr)
      have hr2 : (e == 121) = false ∨ ((e == 121) = true ∧ (t[p].kind != 7) = false) ∨ ((e == 121) = true ∧ (t[p].kind != 7) = true ∧ (t[p].kind != 8) = false) ∨ ((e == 121) = true ∧ (t[p].kind != 7) = true ∧ (t[p].kind != 8) = true ∧ (t[p].kind != 9) = false) := by
        by_cases h5 : e = 121
        · right
          have e5 : (e == 121) = true := by simpa using h5
          by_cases h7 : t[p].kind = 7
          · left; exact ⟨e5, by simpa using h7⟩
          · by_cases h8 : t[p].kind = 8
            · right; left; exact ⟨e5, by simpa using h7, by simpa using h8⟩
            · right; right
              have h9 : t[p].kind = 9 := by
                by_cases h9 : t[p].kind = 9
                · exact h9
                · exact absurd ⟨h5, by omega⟩ hr
              exact ⟨e5, by simpa using h7, by simpa using h8, by simpa using h9⟩
        · left; simpa using h5
      have HC2 : Hid (∀ (a1 : Option Addr) (c1 : Nat) (W : World), CV W a1 (flatG (t ++ u)) → Calls Try.prog 5 #[.slice a1 (t.length + u.length) c1] W fun e' w' => e' = .returned (.tuple #[.int .i64 (p : Int), .int .i64 e]) ∧ W.grownBy w' none) := fun a1 c1 W CW => by
        have := check12_any a1 c1 (t ++ u) W CW (by rw [List.length_append]; omega) (fun x hx => (List.mem_append.1 hx).elim (HN.out x) (HM.out x))
        rw [checkR, checkG_er (walkG_more u HW.out), List.length_append] at this
        exact this
      have HC3 : Hid (∀ (a1 : Option Addr) (c1 : Nat) (W : World), CV W a1 (flatG (t.take (p + 1))) → Calls Try.prog 5 #[.slice a1 (p + 1) c1] W fun e' w' => e' = .returned (.tuple #[.int .i64 (p : Int), .int .i64 e]) ∧ W.grownBy w' none) := fun a1 c1 W CW => by
        have hl : (t.take (p + 1)).length = p + 1 := by rw [List.length_take]; omega
        have := check12_any a1 c1 (t.take (p + 1)) W CW (by rw [hl]; omega) (fun x hx => HN.out x (List.mem_of_mem_take hx))
        have hcut := walkG_cut t [] 0 HW.out
        rw [Nat.sub_zero] at hcut
        rw [checkR, checkG_er hcut, hl] at this
        exact this
      have CC2 := gcopy_any (some ⟨b1, o1, none⟩) ca t w2 (HA.out.keptNone G2) HHA0.out (by omega)
      have HT3 : Hid (∀ W, w.grownBy W none → Calls Try.prog 6 #[.slice (some ⟨b1, o1, none⟩) (p + 1) ca] W fun e w' => ∃ v, e = .returned v ∧ NgOwns w' W.heap.size v (t.take (p + 1)) ∧ W.grownBy w' none) := fun W GW => by
        have hl : (t.take (p + 1)).length = p + 1 := by rw [List.length_take]; omega
        have := gcopy_any (some ⟨b1, o1, none⟩) ca (t.take (p + 1)) W (cv_takeG (HA.out.keptNone GW) (p + 1)) (by simp) (by rw [hl]; omega)
        rw [hl] at this
        exact this
      have HTL : Hid ((t.take (p + 1)).length = p + 1) := by show List.length _ = _; rw [List.length_take]; omega
      have w3 : IntKind.i64.wrap ((p : Int) + 1) = ((p + 1 : Nat) : Int) := by rw [IntKind.wrap_i64]; omega
      have hp1 : ((p + 1 : Nat) : Int) ≤ (ca : Int) := by omega
      have hp2 : ¬ ca < p + 1 := by omega
      have hp3 : (0 : Int) ≤ ((p + 1 : Nat) : Int) := by omega
      obtain ⟨P1, hP1⟩ : ∃ P1, p + 1 = P1 := ⟨_, rfl⟩
      rw [hP1] at HC3 HT3 HTL w3 hp1 hp2 hp3
      have eqp : ((p : Int) == (p : Int)) = true := by simp
      have eqe : (e == e) = true := by simp
      have HLL : Hid (t.length + u.length ≤ maxLen ∧ (t.length + u.length) * 72 ≤ 140737488355328) := by refine ⟨?_, ?_⟩ <;> (try unfold maxLen) <;> omega
      have HGB : Hid (w.grownBy w2 none) := G2
      clear hr HW HPE HK0 HH G2 hP1
      generalize t[p].kind = kk at *
      rcases hr2 with g1 | ⟨g1, g2⟩ | ⟨g1, g2, g3⟩ | ⟨g1, g2, g3, g4⟩
      all_goals
        go_wp2_with fail
        refine CC2.mono ?_
        rintro e3 w3' ⟨v3, rfl, O3, K3⟩
        have G3 := grown_trans HGB.out K3
        go_wp2_with (at_builtin; refine wpList_append_cv rfl (.tmp 59) (.tmp 60) 22 rfl 32 i0 _ 24 72 Try.underlying22 HI.out.1 HI.out.2.1 HI.out.2.2.1 HI.out.2.2.2 rfl (by decide) w2.heap.size _ t.length (flatG t) rfl O3 b u.length cb (flatG u) rfl (flatG_len u) HHB0.out (HB.out.keptNone G3) (flatG_one u) HLL.out.1 HLL.out.2 K3.size ?_; intro v4 w4 O4 K4; rw [← flatG_append] at O4; have G4 := grown_trans_new G3 K4 (fun x hx => Nat.le_trans HGB.out.size (O3.lt x hx).1); obtain ⟨a4, c4, rfl, D4, -⟩ := cv_of_row O4; clear O3 K3 O4 K4 G3)
        refine (HC2.out _ _ _ D4).mono ?_
        rintro e5 w5 ⟨rfl, K5⟩
        have G5 := grown_trans G4 K5
        clear D4 G4 K5
        go_wp2_with fail
        refine (HT3.out _ G5).mono ?_
        rintro e6 w6 ⟨v6, rfl, O6, K6⟩
        have G6 := grown_trans G5 K6
        obtain ⟨a6, c6, rfl, D6, -⟩ := cv_of_row O6
        rw [HTL.out]
        clear O6 K6 G5
        go_wp2_with fail
        refine (HC3.out _ _ _ D6).mono ?_
        rintro e7 w7 ⟨rfl, K7⟩
        have G7 := grown_trans G6 K7
        clear D6 K7 G6
        go_wp2_with fail
        refine (awake12_any _).mono ?_
        rintro e9 w9 ⟨rfl, K9⟩
        go_wp2
        go_ret
        exact ⟨rfl, grown_trans G7 K9⟩

set_option maxRecDepth 100000 in
theorem lifted (os : Os) (started : os.Started) (H : Type) (enc : TypeId × Value → H) (F : Stop.Interp) :
    ReturnsInHanded {} Try.checked os 4 .any ((Rows.OpenSpec.upto Rows.typesFirstSpec).pre6 enc Try.prog Try.f4 Rows.typesFirstUptoRow.domain false) (((Rows.OpenSpec.upto Rows.typesFirstSpec).at F).post enc Try.prog Try.f4 false true false false) := by
  refine returnsInHanded_of_cond (C := Try.checked) (s := (Rows.OpenSpec.upto Rows.typesFirstSpec)) (k := Rows.uptoSmall) rfl own started (by kernel_rfl) Try.func4
    (OpenSpec.witness (enc := enc) (C := Try.checked) (s := (Rows.OpenSpec.upto Rows.typesFirstSpec)) (k := Rows.uptoSmall) rfl false ⟨#[], #[.slice none 0 0, .slice none 0 0], []⟩ 8 (by kernel_rfl) (by kernel_rfl) (by kernel_rfl)
      (x := ([.nil, .nil], [], [])) (by kernel_rfl) rfl (by kernel_rfl)) ?_
  intro W base args ds gs before hval0 hW _ hk0 _
  have hval : ∀ (j : Nat) t v, Try.f4.params[j]? = some t → args[j]? = some v → Value.okWide Try.prog W .any base t v := hval0
  have hW' := hW
  obtain ⟨p, q, hA0, hV, rfl, hfz, hnd⟩ := hW
  have hA : DataW.TrodAll enc Try.prog W 0 (fun _ => true) true Try.f4.params.toList args.toList ds p := hA0
  rw [Try.params4] at hA hval
  obtain ⟨v0, vs0, d0, ds0, p0, q0, hargs, rfl, rfl, h0, r0⟩ := trodAll_cons hA
  obtain ⟨v1, vs1, d1, ds1, p1, q1, rfl, rfl, rfl, h1, r1⟩ := trodAll_cons r0
  obtain ⟨rfl, rfl, rfl⟩ := trodAll_nil r1
  obtain rfl : args = #[v0, v1] := by cases args; simp_all
  obtain ⟨rfl, rfl⟩ := trodVars_none hV
  obtain ⟨a0, len0, cap0, rfl⟩ := okWide_slice Try.underlying22 (hval 0 22 v0 rfl rfl)
  have k0 := h0
  have lt0 : ∀ x ∈ p0, x.block < W.heap.size := by obtain ⟨m, hm⟩ := k0; exact DataW.trod_lt m _ _ _ hm
  obtain ⟨xs0, rfl, hcells0, hnil0, hcp0, hok0, hdat0⟩ := open_nodes h0
  obtain ⟨a1, len1, cap1, rfl⟩ := okWide_slice Try.underlying22 (hval 1 22 v1 rfl rfl)
  have k1 := h1
  have lt1 : ∀ x ∈ p1, x.block < W.heap.size := by obtain ⟨m, hm⟩ := k1; exact DataW.trod_lt m _ _ _ hm
  obtain ⟨xs1, rfl, hcells1, hnil1, hcp1, hok1, hdat1⟩ := open_nodes h1
  simp only [List.append_nil] at hW' hk0
  have hk : Rows.uptoBulkAll ([d0, d1] : List (DataW H)) ≤ 1048576 := of_decide_eq_true hk0
  simp only [Rows.uptoBulkAll] at hk
  have hlen0 : xs0.length ≤ 1048576 := by
    rcases hdat0 with ⟨_, rfl⟩ | ⟨elems, spare, rfl, hle⟩
    · simp
    · have := bulk_slice elems spare
      omega
  have hlen1 : xs1.length ≤ 1048576 := by
    rcases hdat1 with ⟨_, rfl⟩ | ⟨elems, spare, rfl, hle⟩
    · simp
    · have := bulk_slice elems spare
      omega
  clear hA0 hval0
  refine (walk a0 cap0 xs0 a1 cap1 xs1 W hcells0 hnil0 hcp0.1 hcp0.2 (by omega) hok0 hcells1 hnil1 hcp1.1 hcp1.2 (by omega) hok1).mono fun e W' ⟨he, hg⟩ => ?_
  subst he
  have bel : Below W.heap.size W W' := (Below.refl _ _).grown hg (Nat.le_refl _) (by simp)
  exact ⟨_, rfl, _, _, _, [], _, [], hW', trodAll_mk1 (shut_bool Try.underlying4 _), (trodAll_cons_mk (Below.trod laidOut (by kernel_rfl) (of_decide_eq_true (by kernel_rfl)) k0 bel lt0) (trodAll_cons_mk (Below.trod laidOut (by kernel_rfl) (of_decide_eq_true (by kernel_rfl)) k1 bel lt1) trodAll_mk0)), rfl, bel.frame _, fun h => by cases h⟩

theorem over : Rows.TypesFirstUptoSaid :=
  OpenClaim.holds_of_cond 4 Try.f4 rfl rfl rfl rfl rfl rfl rfl ⟨rfl, rfl, rfl, rfl, rfl⟩ rfl rfl rfl rfl rfl (by kernel_rfl) Try.func4 (by kernel_rfl)
    (of_decide_eq_true (by kernel_rfl)) (by unfold Func.isWrapper; first | (rw [if_pos (by decide +kernel)]; kernel_rfl) | (rw [if_neg (by decide +kernel)]; exact ⟨rfl, rfl⟩))
    (fun os started H enc _ F => lifted os started H enc F)

end typesFirst

theorem typesFirstUpto_holds : Rows.TypesFirstUptoSaid := typesFirst.over
#print axioms typesFirstUpto_holds

end Go.Proofs.Ytdajpnlpcdnckab
