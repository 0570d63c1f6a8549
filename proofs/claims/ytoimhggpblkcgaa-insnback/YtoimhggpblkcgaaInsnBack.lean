/-
  For every list of instructions and every list of bytes (each capacity at most 2^47 - 4096 bytes, as the form itself says of each argument) riddlelaw2.InsnBack returns true and leaves what was there as it was: no condition of ours.
-/
import Derived.Test.YtoimhggpblkcgaaOpenI
import Derived.Test.YtoimhggpblkcgaaAwake2
import Derived.Test.YtoimhggpblkcgaaInsnBackP
namespace Go.Proofs.Ytoimhggpblkcgaa
open Go.ChangeShapes Go.WideShapes Go.ChangeAt Go.RowKit
open Go.ChangeMaps (open_string shut_string)
namespace insnBack

theorem dec_odd (xs : List UInt8) (h : xs.length % 8 ≠ 0) : decV xs = [] ∧ decE xs = 20 := by
  have e : decE xs = 20 := by simp [decE, h]
  exact ⟨by simp [decV, e], e⟩

theorem decode_odd (a : Option Addr) (ca : Nat) (xs : List UInt8) (w : World) (ha : Cells w a xs) (hn : xs.length ≤ 140737488355328) (h : xs.length % 8 ≠ 0) :
    Calls Try.prog 24 #[.slice a xs.length ca] w fun e w' => ∃ v, e = .returned (.tuple #[v, .int .i64 20]) ∧ w.grownBy w' none := by
  refine (decode_any a ca xs w ha hn).mono ?_
  rintro e w' ⟨v, rfl, -, G⟩
  rw [(dec_odd xs h).2]
  exact ⟨v, rfl, G⟩

theorem decE_cases (xs : List UInt8) : decE xs = 0 ∨ ((decE xs != 0) = true ∧ (xs.length % 8 ≠ 0 ∨ 32768 < xs.length)) := by
  unfold decE
  split
  · exact .inr ⟨by simp, .inl ‹_›⟩
  · split
    · exact .inr ⟨by simp, .inr ‹_›⟩
    · exact .inl rfl

theorem decV_few (xs : List UInt8) : (decV xs).length ≤ 4096 := by
  unfold decV
  split
  · rename_i h
    rw [decP_len]
    unfold decE at h
    split at h
    · simp at h
    · split at h
      · simp at h
      · omega
  · simp

theorem cells_short {w : World} {ao : Option Addr} {xs : List UInt8} (h : Cells w ao xs) (n : Nat) : Cells w ao (xs.take n) := by
  refine ⟨fun e => by rw [h.1 e]; simp, fun ad had i hi => ?_⟩
  simp only [List.length_take] at hi
  rw [h.2 ad had i (by omega)]
  simp

set_option maxRecDepth 100000 in
set_option maxHeartbeats 4000000 in
theorem walk (a : Option Addr) (ca : Nat) (xs : List In) (b : Option Addr) (cb : Nat) (bs : List UInt8) (w : World) (ha : CV w a (flat xs)) (ha0 : a = none → ca = 0) (_hca : xs.length ≤ ca) (_hcm : ca ≤ maxLen) (hn : xs.length * 8 ≤ 140737488351232)
    (hb : Cells w b bs) (hb0 : b = none → cb = 0) (hbn : bs.length ≤ 140737488351232) :
    Calls Try.prog 6 #[.slice a xs.length ca, .slice b bs.length cb] w fun e w' => e = .returned (.bool true) ∧ w.grownBy w' none := by
  have HA : Hid (CV w a (flat xs)) := ha
  have HB : Hid (Cells w b bs) := hb
  clear ha hb
  go_enter Try.func6, Try.ntmps6
  go_wp2_with fail
  refine (icopy_any a ca xs _ HA.out ha0 (by omega)).mono ?_
  rintro e w1 ⟨v1, rfl, O1, G1⟩
  obtain ⟨a1, c1, rfl, C1, -⟩ := cv_of_row O1
  clear O1
  go_wp2_with fail
  refine (encode_any a1 c1 xs _ C1 (by omega)).mono ?_
  rintro e w2 ⟨x, rfl, O2, K2⟩
  obtain ⟨ax, cx, hxv, X2, hcx, -, nx, -⟩ := cv_of_row O2
  have X2 := X2.cells
  subst hxv
  have G2 := grown_trans G1 K2
  clear O2 C1 K2
  by_cases h4 : xs.length ≤ 4096
  case neg =>
    have e1 : encE xs = 21 := by simp [encE, h4]
    rw [e1]
    clear e1 X2
    have h5 : decide ((xs.length : Int) ≤ 4096) = false := decide_eq_false (by omega)
    go_wp2_with fail
    refine (copy_any b cb bs _ (HB.out.keptNone G2) hb0 (by omega)).mono ?_
    rintro e wa ⟨va, rfl, Oa, Ka⟩
    obtain ⟨aa, cca, rfl, Ca, -⟩ := Oa.rd
    have Ga := grown_trans G2 Ka
    clear Oa Ka
    go_wp2_with fail
    refine (decode_any aa cca bs _ Ca (by omega)).mono ?_
    rintro e wb ⟨q, rfl, Ob, Kb⟩
    obtain ⟨aq, cq, rfl, Cq, -⟩ := cv_of_row Ob
    have Gb := grown_trans Ga Kb
    clear Ob Kb Ca Ga G2
    have hfew := decV_few bs
    rcases decE_cases bs with hE | ⟨hE, hlen⟩
    · have HN := enc_dec bs hE
      have HP : Hid (∀ (a : Option Addr) (ca : Nat) (W : World), CV W a (flat (decV bs)) → Calls Try.prog 17 #[.slice a (decV bs).length ca] W fun e w' => MadeE W w' e bs 0) := fun a ca W h => by
        have k := encode_any a ca (decV bs) W h (by omega)
        rw [HN.1, HN.2] at k
        exact k
      rw [hE]
      clear HN hE
      go_wp2_with fail
      refine (HP.out aq cq _ Cq).mono ?_
      rintro e wc ⟨y, rfl, Oc, Kc⟩
      obtain ⟨ay, cy, rfl, Cy, -⟩ := Oc.rd
      have Gc := grown_trans Gb Kc
      clear Oc Kc Cq Gb
      go_wp2_with fail
      refine (same_any ay b cy cb bs _ Cy (HB.out.keptNone Gc) (by omega)).mono ?_
      rintro e wd ⟨rfl, nd, rfl⟩
      have Gd := grown_trans Gc (grown_drewN wc nd none)
      clear Cy Gc
      generalize wc.drewN nd = wd at *
      go_wp2_with fail
      refine (awake2_any _).mono ?_
      rintro e we ⟨rfl, Ke⟩
      have Ge := grown_trans Gd Ke
      clear Ke Gd
      go_wp2
      go_ret
      exact ⟨rfl, Ge⟩
    · clear Cq
      by_cases h8 : bs.length % 8 = 0
      · have hgt : (32768 : Int) < (bs.length : Int) := by omega
        have h8b : (((bs.length : Int) % 8) != 0) = false := by simp; omega
        clear h8 hlen
        go_wp2_with fail
        refine (awake2_any _).mono ?_
        rintro e we ⟨rfl, Ke⟩
        have Ge := grown_trans Gb Ke
        clear Ke Gb
        go_wp2
        go_ret
        exact ⟨rfl, Ge⟩
      · have h8b : (((bs.length : Int) % 8) != 0) = true := by rw [bne_iff_ne]; omega
        clear h8 hlen
        go_wp2_with fail
        refine (awake2_any _).mono ?_
        rintro e we ⟨rfl, Ke⟩
        have Ge := grown_trans Gb Ke
        clear Ke Gb
        go_wp2
        go_ret
        exact ⟨rfl, Ge⟩
  case pos =>
    have e1 : encE xs = 0 := by simp [encE, h4]
    have e2 : encV xs = encS xs := by simp [encV, h4]
    have hXl := encS_len xs
    have hde := dec_enc xs h4
    rw [e1, e2]
    rw [e2] at X2 hcx
    clear e1 e2
    have h5 : (xs.length : Int) ≤ 4096 := by omega
    obtain ⟨X, hX⟩ : ∃ X, encS xs = X := ⟨_, rfl⟩
    rw [hX] at X2 hXl hde hcx
    rw [hX]
    clear hX
    have HD : Hid (∀ (a : Option Addr) (ca : Nat) (W : World), Cells W a X → Calls Try.prog 24 #[.slice a X.length ca] W fun e w' => IMadeE W w' e xs 0) := fun a ca W h => by
      have k := decode_any a ca X W h (by omega)
      rw [hde.1, hde.2] at k
      exact k
    clear hde
    have h8l : ((X.length : Int) != 8 * (xs.length : Int)) = false := by simp; omega
    have HXl : Hid (X.length = 8 * xs.length) := hXl
    have hXs : X.length ≤ 32768 := by omega
    clear hXl
    go_wp2_with fail
    refine (copy_any ax cx X _ X2 nx (by omega)).mono ?_
    rintro e w3 ⟨v3, rfl, O3, K3⟩
    obtain ⟨a3, c3, rfl, C3, -⟩ := O3.rd
    have G3 := grown_trans G2 K3
    have X3 := X2.keptNone K3
    clear O3 K3 X2 G2
    go_wp2_with fail
    refine (HD.out a3 c3 _ C3).mono ?_
    rintro e w4 ⟨q, rfl, O4, K4⟩
    obtain ⟨aq4, cq4, rfl, Q4, -⟩ := cv_of_row O4
    have G4 := grown_trans G3 K4
    have X4 := X3.keptNone K4
    clear O4 K4 X3 G3 C3
    go_wp2_with fail
    refine (isame_any aq4 a cq4 ca xs _ Q4 (HA.out.keptNone G4) (by omega)).mono ?_
    rintro e w5 ⟨rfl, n5, rfl⟩
    have G5 := grown_trans G4 (grown_drewN w4 n5 none)
    have X5 : Cells (w4.drewN n5) ax X := X4
    clear X4 G4 Q4
    generalize w4.drewN n5 = w5 at *
    by_cases h0 : X.length = 0
    · have h0i : ¬ (0 : Int) < (X.length : Int) := by omega
      clear X5
      go_wp2_with fail
      refine (copy_any b cb bs _ (HB.out.keptNone G5) hb0 (by omega)).mono ?_
      rintro e wa ⟨va, rfl, Oa, Ka⟩
      obtain ⟨aa, cca, rfl, Ca, -⟩ := Oa.rd
      have Ga := grown_trans G5 Ka
      clear Oa Ka
      go_wp2_with fail
      refine (decode_any aa cca bs _ Ca (by omega)).mono ?_
      rintro e wb ⟨q, rfl, Ob, Kb⟩
      obtain ⟨aq, cq, rfl, Cq, -⟩ := cv_of_row Ob
      have Gb := grown_trans Ga Kb
      clear Ob Kb Ca Ga G5
      have hfew := decV_few bs
      rcases decE_cases bs with hE | ⟨hE, hlen⟩
      · have HN := enc_dec bs hE
        have HP : Hid (∀ (a : Option Addr) (ca : Nat) (W : World), CV W a (flat (decV bs)) → Calls Try.prog 17 #[.slice a (decV bs).length ca] W fun e w' => MadeE W w' e bs 0) := fun a ca W h => by
          have k := encode_any a ca (decV bs) W h (by omega)
          rw [HN.1, HN.2] at k
          exact k
        rw [hE]
        clear HN hE
        go_wp2_with fail
        refine (HP.out aq cq _ Cq).mono ?_
        rintro e wc ⟨y, rfl, Oc, Kc⟩
        obtain ⟨ay, cy, rfl, Cy, -⟩ := Oc.rd
        have Gc := grown_trans Gb Kc
        clear Oc Kc Cq Gb
        go_wp2_with fail
        refine (same_any ay b cy cb bs _ Cy (HB.out.keptNone Gc) (by omega)).mono ?_
        rintro e wd ⟨rfl, nd, rfl⟩
        have Gd := grown_trans Gc (grown_drewN wc nd none)
        clear Cy Gc
        generalize wc.drewN nd = wd at *
        go_wp2_with fail
        refine (awake2_any _).mono ?_
        rintro e we ⟨rfl, Ke⟩
        have Ge := grown_trans Gd Ke
        clear Ke Gd
        go_wp2
        go_ret
        exact ⟨rfl, Ge⟩
      · clear Cq
        by_cases h8 : bs.length % 8 = 0
        · have hgt : (32768 : Int) < (bs.length : Int) := by omega
          have h8b : (((bs.length : Int) % 8) != 0) = false := by simp; omega
          clear h8 hlen
          go_wp2_with fail
          refine (awake2_any _).mono ?_
          rintro e we ⟨rfl, Ke⟩
          have Ge := grown_trans Gb Ke
          clear Ke Gb
          go_wp2
          go_ret
          exact ⟨rfl, Ge⟩
        · have h8b : (((bs.length : Int) % 8) != 0) = true := by rw [bne_iff_ne]; omega
          clear h8 hlen
          go_wp2_with fail
          refine (awake2_any _).mono ?_
          rintro e we ⟨rfl, Ke⟩
          have Ge := grown_trans Gb Ke
          clear Ke Gb
          go_wp2
          go_ret
          exact ⟨rfl, Ge⟩
    · have h0i : (0 : Int) < (X.length : Int) := by omega
      obtain ⟨gx, ox, rfl, -⟩ := X5.addr (k := 0) (by omega)
      obtain ⟨m, hm⟩ : ∃ m : Nat, (X.length : Int) - 1 = m := ⟨X.length - 1, by omega⟩
      have HM : Hid ((X.length : Int) - 1 = m) := hm
      have hmc : (m : Int) ≤ (cx : Int) := by have := hcx; omega
      have S5 := cells_short X5 m
      have hS5 : (X.take m).length = m := by rw [List.length_take]; omega
      obtain ⟨Y, hY⟩ : ∃ Y, X.take m = Y := ⟨_, rfl⟩
      rw [hY] at S5 hS5
      subst hS5
      have hodd : Y.length % 8 ≠ 0 := by have := HXl.out; omega
      have hYl : Y.length ≤ 32768 := by omega
      clear hY
      go_wp2_with fail
      refine (copy_any _ cx Y _ S5 (by simp) (by omega)).mono ?_
      rintro e w6 ⟨v6, rfl, O6, K6⟩
      obtain ⟨a6, c6, rfl, C6, -⟩ := O6.rd
      have G6 := grown_trans G5 K6
      have X6 := X5.keptNone K6
      clear O6 K6 X5 G5 S5
      go_wp2_with fail
      refine (decode_odd a6 c6 Y _ C6 (by omega) hodd).mono ?_
      rintro e w7 ⟨v7, rfl, K7⟩
      have G7 := grown_trans G6 K7
      have X7 := X6.keptNone K7
      clear K7 X6 G6 C6
      go_wp2_with fail
      refine (copy_any _ cx X _ X7 (by simp) (by omega)).mono ?_
      rintro e w8 ⟨v8, rfl, O8, K8⟩
      have G8 := grown_trans G7 K8
      have w7le := G7.size
      have w8ge := K8.size
      clear K8 X7 G7
      obtain ⟨i0, hi, hz0, hz1, hz2⟩ := info_parts info5
      go_wp2_with (at_builtin; refine wpList_append_rd rfl (.tmp 68) (.tmp 69) 29 rfl i0 Try.underlying29 hi hz0 hz1 hz2 w7.heap.size v8 X rfl ?q1 (some ⟨w8.heap.size, 0, none⟩) 1 [0] rfl (by simp) ?q2 ?q3 ?q4 ?q5)
      case q1 => exact O8.alloc _
      case q2 => exact cells_lit w8 [0]
      case q3 => simp; omega
      case q4 => have := w7le; have := w8ge; simp; omega
      case q5 =>
        intro y9 w9 O9 K9
        have G9 : w.grownBy w9 none := grown_trans_new G8 (grown_trans (World.grownBy_alloc w8 _ _) K9) (fun z hz => by have := (O8.lt z hz).1; omega)
        have hodd2 : (X ++ [0]).length % 8 ≠ 0 := by have := HXl.out; simp; omega
        have hl2 : (X ++ [0]).length ≤ 32769 := by simp; omega
        obtain ⟨Z, hZ⟩ : ∃ Z, X ++ [0] = Z := ⟨_, rfl⟩
        rw [hZ] at O9 hodd2 hl2
        clear hZ
        obtain ⟨a9, c9, rfl, C9, -⟩ := Owns.rd (xs := Z) O9
        clear O9 K9 O8 G8
        go_wp2_with fail
        refine (decode_odd a9 c9 Z _ C9 (by omega) hodd2).mono ?_
        rintro e w10 ⟨v10, rfl, K10⟩
        have G10 := grown_trans G9 K10
        clear K10 G9 C9 hi hz0 hz1 hz2 i0
        go_wp2_with fail
        refine (copy_any b cb bs _ (HB.out.keptNone G10) hb0 (by omega)).mono ?_
        rintro e wa ⟨va, rfl, Oa, Ka⟩
        obtain ⟨aa, cca, rfl, Ca, -⟩ := Oa.rd
        have Ga := grown_trans G10 Ka
        clear Oa Ka
        go_wp2_with fail
        refine (decode_any aa cca bs _ Ca (by omega)).mono ?_
        rintro e wb ⟨q, rfl, Ob, Kb⟩
        obtain ⟨aq, cq, rfl, Cq, -⟩ := cv_of_row Ob
        have Gb := grown_trans Ga Kb
        clear Ob Kb Ca Ga G10
        have hfew := decV_few bs
        rcases decE_cases bs with hE | ⟨hE, hlen⟩
        · have HN := enc_dec bs hE
          have HP : Hid (∀ (a : Option Addr) (ca : Nat) (W : World), CV W a (flat (decV bs)) → Calls Try.prog 17 #[.slice a (decV bs).length ca] W fun e w' => MadeE W w' e bs 0) := fun a ca W h => by
            have k := encode_any a ca (decV bs) W h (by omega)
            rw [HN.1, HN.2] at k
            exact k
          rw [hE]
          clear HN hE
          go_wp2_with fail
          refine (HP.out aq cq _ Cq).mono ?_
          rintro e wc ⟨y, rfl, Oc, Kc⟩
          obtain ⟨ay, cy, rfl, Cy, -⟩ := Oc.rd
          have Gc := grown_trans Gb Kc
          clear Oc Kc Cq Gb
          go_wp2_with fail
          refine (same_any ay b cy cb bs _ Cy (HB.out.keptNone Gc) (by omega)).mono ?_
          rintro e wd ⟨rfl, nd, rfl⟩
          have Gd := grown_trans Gc (grown_drewN wc nd none)
          clear Cy Gc
          generalize wc.drewN nd = wd at *
          go_wp2_with fail
          refine (awake2_any _).mono ?_
          rintro e we ⟨rfl, Ke⟩
          have Ge := grown_trans Gd Ke
          clear Ke Gd
          go_wp2
          go_ret
          exact ⟨rfl, Ge⟩
        · clear Cq
          by_cases h8 : bs.length % 8 = 0
          · have hgt : (32768 : Int) < (bs.length : Int) := by omega
            have h8b : (((bs.length : Int) % 8) != 0) = false := by simp; omega
            clear h8 hlen
            go_wp2_with fail
            refine (awake2_any _).mono ?_
            rintro e we ⟨rfl, Ke⟩
            have Ge := grown_trans Gb Ke
            clear Ke Gb
            go_wp2
            go_ret
            exact ⟨rfl, Ge⟩
          · have h8b : (((bs.length : Int) % 8) != 0) = true := by rw [bne_iff_ne]; omega
            clear h8 hlen
            go_wp2_with fail
            refine (awake2_any _).mono ?_
            rintro e we ⟨rfl, Ke⟩
            have Ge := grown_trans Gb Ke
            clear Ke Gb
            go_wp2
            go_ret
            exact ⟨rfl, Ge⟩


set_option maxRecDepth 100000 in
theorem lifted (os : Os) (started : os.Started) (H : Type) (enc : TypeId × Value → H) :
    ReturnsInHanded {} Try.checked os 6 .any (Rows.insnBackSpec.pre6 enc Try.prog Try.f6 Rows.insnBackRow.domain false) (Rows.insnBackSpec.post enc Try.prog Try.f6 false true false false) := by
  refine returnsInHanded_of_change_sized (C := Try.checked) own started (by kernel_rfl) Try.func6
    (ChangeSpec.witness6 (enc := enc) (C := Try.checked) false ⟨#[], #[.slice none 0 0, .slice none 0 0], []⟩ 8 (by kernel_rfl) (by kernel_rfl) (by kernel_rfl) (by kernel_rfl)) ?_
  intro W base args ds gs before hval0 hW hcnd hsz0 _
  have hsz : (DataW.weightsEach Try.prog (Try.f6.params.toList ++ Rows.insnBackSpec.plain.varTypes Try.prog) (ds ++ gs)).all (· ≤ reachBytes) = true := hsz0
  have hval : ∀ (j : Nat) t v, Try.f6.params[j]? = some t → args[j]? = some v → Value.okWide Try.prog W .any base t v := hval0
  have hW' := hW
  obtain ⟨p, q, hA0, hV, rfl, hfz, hnd⟩ := hW
  have hA : DataW.TrodAll enc Try.prog W 0 (fun _ => true) true Try.f6.params.toList args.toList ds p := hA0
  rw [Try.params6] at hA hval hsz
  obtain ⟨v0, vs0, d0, ds0, p0, q0, hargs, rfl, rfl, h0, r0⟩ := trodAll_cons hA
  obtain ⟨v1, vs1, d1, ds1, p1, q1, rfl, rfl, rfl, h1, r1⟩ := trodAll_cons r0
  obtain ⟨rfl, rfl, rfl⟩ := trodAll_nil r1
  obtain rfl : args = #[v0, v1] := by cases args; simp_all
  obtain ⟨rfl, rfl⟩ := trodVars_none hV
  obtain ⟨a0, len0, cap0, rfl⟩ := okWide_slice Try.underlying28 (hval 0 28 v0 rfl rfl)
  have k0 := h0
  have lt0 : ∀ x ∈ p0, x.block < W.heap.size := by obtain ⟨m, hm⟩ := k0; exact DataW.trod_lt m _ _ _ hm
  obtain ⟨xs0, rfl, hcells0, hnil0, hcp0, hdat0⟩ := open_insns h0
  obtain ⟨a1, len1, cap1, rfl⟩ := okWide_slice Try.underlying29 (hval 1 29 v1 rfl rfl)
  have k1 := h1
  have lt1 : ∀ x ∈ p1, x.block < W.heap.size := by obtain ⟨m, hm⟩ := k1; exact DataW.trod_lt m _ _ _ hm
  obtain ⟨xs1, rfl, hcells1, hnil1, hdat1⟩ := open_bytes Try.underlying29 Try.underlying5 (by kernel_rfl) h1
  have hlen0 : xs0.length * 8 ≤ 140737488351232 := by
    rcases hdat0 with ⟨_, rfl⟩ | ⟨elems, spare, rfl, hle⟩
    · simp
    · have := sized_slice hsz (j := 0) (t := 28) (e := 50) rfl rfl Try.underlying28
      rw [bytes50] at this
      unfold reachBytes at this
      omega
  have hlen1 : xs1.length * 1 ≤ 140737488351232 := by
    rcases hdat1 with ⟨_, rfl⟩ | ⟨elems, spare, rfl, hle⟩
    · simp
    · have := sized_slice hsz (j := 1) (t := 29) (e := 5) rfl rfl Try.underlying29
      rw [bytes5] at this
      unfold reachBytes at this
      omega
  clear hA0 hval0
  refine (walk a0 cap0 xs0 a1 cap1 xs1 W hcells0 hnil0 hcp0.1 hcp0.2 (by omega) hcells1 hnil1 (by omega)).mono fun e W' ⟨he, hg⟩ => ?_
  subst he
  have bel : Below W.heap.size W W' := (Below.refl _ _).grown hg (Nat.le_refl _) (by simp)
  exact ⟨_, rfl, _, _, _, [], _, [], hW', trodAll_mk1 (shut_bool Try.underlying4 _), (trodAll_cons_mk (Below.trod laidOut (by kernel_rfl) (of_decide_eq_true (by kernel_rfl)) k0 bel lt0) (trodAll_cons_mk (Below.trod laidOut (by kernel_rfl) (of_decide_eq_true (by kernel_rfl)) k1 bel lt1) trodAll_mk0)), rfl, bel.frame _, fun h => by cases h⟩

theorem over : Rows.InsnBackSaid :=
  OpenClaim.holds_of_wide 6 Try.f6 rfl rfl rfl rfl rfl rfl rfl ⟨rfl, rfl, rfl, rfl, rfl⟩ rfl rfl rfl rfl rfl (by kernel_rfl) Try.func6 (by kernel_rfl)
    (of_decide_eq_true (by kernel_rfl)) (by unfold Func.isWrapper; first | (rw [if_pos (by decide +kernel)]; kernel_rfl) | (rw [if_neg (by decide +kernel)]; exact ⟨rfl, rfl⟩))
    (fun os started H enc _ => lifted os started H enc)

end insnBack

theorem insnBack_holds : Rows.InsnBackSaid := insnBack.over
#print axioms insnBack_holds
end Go.Proofs.Ytoimhggpblkcgaa
