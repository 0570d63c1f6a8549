/-
  The call 'ends' of the statements over package vm answers true.
-/
import Derived.Test.YtaldhnionkacmaaAwake5
import Derived.Test.YtaldhnionkacmaaVmU
import Derived.Test.YtaldhnionkacmaaTold
import Derived.Test.YtaldhnionkacmaaCheckP
namespace Go.Proofs.Ytaldhnionkacmaa
open Go.RowKit
set_option maxRecDepth 100000

theorem zl_get (ts : List Nat) (i : Nat) (h : i < ts.length) : ((zl ts).map iv)[i]? = some (.int .i64 (ts[i] : Int)) := by
  simp [zl, iv, h]

theorem CV.places {w : World} {ao : Option Addr} {ts : List Nat} (h : CV w ao ((zl ts).map iv)) {k : Nat} (hk : k < ts.length) :
    ∃ b off, ao = some ⟨b, off, none⟩ ∧ ∀ i (hi : i < ts.length), w.cell? ⟨b, off + i, none⟩ = some (.int .i64 (ts[i] : Int)) := by
  obtain ⟨b, off, hao, hc⟩ := h.addr (k := k) (by simpa [zl] using hk)
  refine ⟨b, off, hao, fun i hi => ?_⟩
  rw [hc i (by simpa [zl] using hi)]
  simp [zl, iv]

theorem reach0 {xs : List In} (h : 0 < xs.length) : (reachTo xs 0).getD 0 false = true := by
  rw [reachTo]
  exact reach_set rfl (by simpa using h)

set_option maxHeartbeats 4000000 in
theorem ends_any (a b : Option Addr) (ca cb : Nat) (xs : List In) (pk : List UInt8) (w : World) (ha : CV w a (flat xs)) (hc0 : a = none → ca = 0) (hn : xs.length * 8 ≤ 140737488355328) (hb : Cells w b pk) (hd0 : b = none → cb = 0) (hm : pk.length ≤ 65536) :
    Calls Try.prog 22 #[.slice a xs.length ca, .slice b pk.length cb] w fun e w' => e = .returned (.bool true) ∧ w.grownBy w' none := by
  have H : Hid (CV w a (flat xs)) := ha
  have HP : Hid (Cells w b pk) := hb
  clear ha hb
  obtain ⟨⟨rv, rf, rt⟩, hR⟩ : ∃ R, runV xs pk = R := ⟨_, rfl⟩
  obtain ⟨E, hE⟩ : ∃ E, runE xs pk = E := ⟨_, rfl⟩
  obtain ⟨F, hF⟩ : ∃ F, (checkV xs).2 = F := ⟨_, rfl⟩
  obtain ⟨bs, hbs⟩ : ∃ l, reachV xs = l := ⟨_, rfl⟩
  have HC : Hid (∀ (a : Option Addr) (ca : Nat) (W : World), CV W a (flat xs) → Calls Try.prog 37 #[.slice a xs.length ca] W fun e w' => ∃ v, e = .returned (.tuple #[v, .int .i64 F]) ∧ BOwns w' W.heap.size v bs ∧ W.grownBy w' none) := fun a ca W h => by
    have k := reach_any a ca xs W h
    rw [hF, hbs] at k
    exact k
  have HV : Hid (∀ (a b : Option Addr) (ca cb : Nat) (W : World), CV W a (flat xs) → Cells W b pk → Calls Try.prog 12 #[.slice a xs.length ca, .slice b pk.length cb] W fun e w' => RunEnd W rv rf (rt.length : Int) E e w') := fun a b ca cb W h h' => by
    have k := run_any a b ca cb xs pk W h h'
    rw [hR, hE] at k
    exact k
  have HT : Hid (∀ (a b : Option Addr) (ca cb : Nat) (W : World), CV W a (flat xs) → Cells W b pk → Calls Try.prog 16 #[.slice a xs.length ca, .slice b pk.length cb] W fun e w' => TraceEnd W rt E e w') := fun a b ca cb W h h' => by
    have k := trace_any a b ca cb xs pk W h h'
    rw [hR, hE] at k
    exact k
  have HFACT : Hid ((F ≠ 0 → E = 50 ∧ rv = 0 ∧ rf = 0 ∧ rt = []) ∧ (F = 0 → E = 0 ∧ bs = reachTo xs xs.length ∧ Runs xs 0 (rv, rf, rt) ∧ (∀ j (hj : j < xs.length), faultV xs[j].code.toNat xs[j].k.toNat = 0))) := by
    refine ⟨fun h0 => ?_, fun h0 => ?_⟩
    · have hE2 : runE xs pk = 50 := by rw [runE, if_neg (by rw [hF]; exact h0)]
      rw [runV, if_neg (by rw [hE2]; simp)] at hR
      simp only [Prod.mk.injEq] at hR
      exact ⟨by rw [← hE, hE2], hR.1.symm, hR.2.1.symm, hR.2.2.symm⟩
    · have hE2 : runE xs pk = 0 := by rw [runE, if_pos (by rw [hF]; exact h0), if_neg (by omega)]
      have k := runV_runs hE2
      rw [hR] at k
      exact ⟨by rw [← hE, hE2], by rw [← hbs, reachV, if_pos (by rw [hF]; exact h0)], k, fun j hj => (bad_zero ((taken (by rw [hF]; exact h0)).2.2.1 j hj)).1⟩
  clear hR hE hF hbs
  have hxl : xs.length * 8 ≤ 140737488355328 := hn
  go_enter Try.func22, Try.ntmps22
  go_wp2_with fail
  refine (icopy_any a ca xs _ H.out hc0 hxl).mono ?_
  rintro e w1 ⟨v1, rfl, O1, G1⟩
  obtain ⟨ao1, cap1, rfl, Q1, -⟩ := cv_of_row O1
  clear O1
  go_wp2_with fail
  refine (HC.out _ cap1 _ Q1).mono ?_
  rintro e w2 ⟨v2, rfl, O2, K2⟩
  obtain ⟨aor, capr, rfl, R2, -⟩ := cv_of_row O2
  have G2 := grown_trans G1 K2
  clear O2 K2 G1 Q1 HC
  go_wp2_with fail
  refine (icopy_any a ca xs _ (H.out.keptNone G2) hc0 hxl).mono ?_
  rintro e w3 ⟨v3, rfl, O3, K3⟩
  obtain ⟨ao3, cap3, rfl, Q3, -⟩ := cv_of_row O3
  have G3 := grown_trans G2 K3
  have R3 := R2.keptNone K3
  clear O3 K3 G2 R2
  go_wp2_with fail
  refine (copy_any b cb pk _ (HP.out.keptNone G3) hd0 (by omega)).mono ?_
  rintro e w4 ⟨v4, rfl, O4, K4⟩
  obtain ⟨ao4, cap4, rfl, P4, -⟩ := O4.rd
  have G4 := grown_trans G3 K4
  have R4 := R3.keptNone K4
  have Q4 := Q3.keptNone K4
  clear O4 K4 G3 R3 Q3
  go_wp2_with fail
  refine (HV.out _ _ cap3 cap4 _ Q4 P4).mono ?_
  rintro e w5 ⟨rfl, K5⟩
  have G5 := grown_trans G4 K5
  have R5 := R4.keptNone K5
  clear K5 G4 R4 Q4 P4 HV
  go_upto_region 3 with fail
  have K6 := World.grownBy_alloc w5 (.cells #[.int .u32 (rv : Int), .int .i64 rf, .int .i64 (rt.length : Int)] 26) none
  have G6 := grown_trans G5 K6
  have R6 := R5.keptNone K6
  have V6 := v3_alloc w5 26 rv rf rt.length
  generalize w5.alloc (.cells #[.int .u32 (rv : Int), .int .i64 rf, .int .i64 (rt.length : Int)] 26) = w6 at *
  generalize w5.heap.size = B6 at *
  clear K6 G5 R5
  go_wp2_with fail
  refine (icopy_any a ca xs _ (H.out.keptNone G6) hc0 hxl).mono ?_
  rintro e w7 ⟨v7, rfl, O7, K7⟩
  obtain ⟨ao7, cap7, rfl, Q7, -⟩ := cv_of_row O7
  have G7 := grown_trans G6 K7
  have R7 := R6.keptNone K7
  have V7 := V6.keptNone K7
  clear O7 K7 G6 R6 V6
  go_wp2_with fail
  refine (copy_any b cb pk _ (HP.out.keptNone G7) hd0 (by omega)).mono ?_
  rintro e w8 ⟨v8, rfl, O8, K8⟩
  obtain ⟨ao8, cap8, rfl, P8, -⟩ := O8.rd
  have G8 := grown_trans G7 K8
  have R8 := R7.keptNone K8
  have V8 := V7.keptNone K8
  have Q8 := Q7.keptNone K8
  clear O8 K8 G7 R7 V7 Q7
  go_wp2_with fail
  refine (HT.out _ _ cap7 cap8 _ Q8 P8).mono ?_
  rintro e w9 ⟨vt, rfl, O9, K9⟩
  obtain ⟨aot, capt, rfl, T9, -⟩ := cv_of_row O9
  have G9 := grown_trans G8 K9
  have R9 := R8.keptNone K9
  have V9 := V8.keptNone K9
  clear O9 K9 G8 R8 V8 Q8 P8 HT
  by_cases hF : F = 0
  · obtain ⟨hE0, hbs, hruns, hfz⟩ := HFACT.out.2 hF
    have HRU : Hid (Runs xs 0 (rv, rf, rt)) := hruns
    have HBS : Hid (bs = reachTo xs xs.length) := hbs
    have HFZ : Hid (∀ j (hj : j < xs.length), faultV xs[j].code.toNat xs[j].k.toNat = 0) := hfz
    have hlen : bs.length = xs.length := by rw [hbs, reachTo_len]
    clear hruns hbs hfz HFACT
    subst hF hE0
    obtain ⟨tl, htl⟩ := HRU.out.head
    simp only at htl
    have hfew : rt.length ≤ xs.length := by have := HRU.out.few; simpa using this
    obtain ⟨m, hL⟩ : ∃ m, rt.length = m + 1 := ⟨tl.length, by rw [htl]; rfl⟩
    have hmx : m + 1 ≤ xs.length := by omega
    obtain ⟨bt, ot, hat, htc⟩ := T9.places (k := 0) (by omega)
    subst hat
    have h00 : w9.cell? ⟨bt, ot, none⟩ = some (.int .i64 0) := by
      have := htc 0 (by omega)
      simpa [htl] using this
    have HTC : Hid (∀ (i t : Nat), rt[i]? = some t → w9.cell? ⟨bt, ot + i, none⟩ = some (.int .i64 (t : Int))) := fun i t h => by
      obtain ⟨hi, he⟩ := List.getElem?_eq_some_iff.1 h
      rw [htc i hi, he]
    have HR9 : Hid (CV w9 aor (bs.map Value.bool)) := R9
    have HG9 : Hid (w.grownBy w9 none) := G9
    have HRE : Hid (∀ (i t : Nat), rt[i]? = some t → t < xs.length ∧ bs[t]? = some true) := fun i t h => by
      have hmem : t ∈ rt := List.mem_of_getElem? h
      have hw : t < xs.length := HRU.out.within t hmem
      have hr := HRU.out.reach (reach0 (by omega)) t hmem
      refine ⟨hw, ?_⟩
      have k := reachTo_mono xs t (xs.length - t) t hr
      rw [show t + (xs.length - t) = xs.length by omega] at k
      rw [HBS.out]
      rw [List.getD_eq_getElem?_getD] at k
      cases hq : (reachTo xs xs.length)[t]? with
      | none => rw [hq] at k; simp at k
      | some q => rw [hq] at k; simpa using k
    have HRI : Hid (∀ (i p q : Nat), rt[i]? = some p → rt[i + 1]? = some q → p < q) := fun i p q h h' => by
      obtain ⟨hi, he⟩ := List.getElem?_eq_some_iff.1 h
      obtain ⟨hi', he'⟩ := List.getElem?_eq_some_iff.1 h'
      rw [← he, ← he']
      exact List.pairwise_iff_getElem.1 HRU.out.rise i (i + 1) hi hi' (by omega)
    have hHL : Hid (rt.length = m + 1) := hL
    obtain ⟨y0, y1, y2⟩ := V9
    have q1 : ((m : Int) + 1 == 0) = false := by rw [beq_eq_false_iff_ne]; omega
    have q2 : ¬ ((xs.length : Int) < (m : Int) + 1) := by omega
    have q3 : ((bs.length : Int) != (xs.length : Int)) = false := by rw [hlen]; simp
    rw [hL] at y2 ⊢
    clear htl hfew hL htc T9 R9 G9 tl hlen
    go_wp2
    go_loopw [11] (fun i wr => ∃ k : Nat, k ≤ m + 1 ∧ i = .int .i64 k ∧ ∃ n, wr = w9.drewN n) (fun i _ => m + 1 - (intOf i).toNat)
    case atStart => exact ⟨0, Nat.zero_le _, rfl, 0, rfl⟩
    case round =>
      obtain ⟨k, hk, rfl, n, rfl⟩ := hrel
      by_cases hlt : k < m + 1
      · obtain ⟨t, hkt⟩ : ∃ t, rt[k]? = some t := ⟨rt[k]'(by rw [hHL.out]; exact hlt), List.getElem?_eq_getElem _⟩
        obtain ⟨hre1, hre2⟩ := HRE.out k t hkt
        have hck := HTC.out k t hkt
        have hbl : t < bs.length := (List.getElem?_eq_some_iff.1 hre2).1
        obtain ⟨br, orr, har, hrc⟩ := HR9.out.bools hbl
        have hcr := hrc t hbl
        rw [(List.getElem?_eq_some_iff.1 hre2).2] at hcr
        have hl1 : (k : Int) < (m : Int) + 1 := by omega
        have g1 : ¬ ((xs.length : Int) ≤ (t : Int)) := by omega
        have g1b : decide (xs.length ≤ t) = false := decide_eq_false (by omega)
        have g2 : (t : Int) < (bs.length : Int) := by omega
        clear hrc
        subst har
        by_cases hk0 : k = 0
        · subst hk0
          rw [Nat.add_zero] at hck
          clear hre2 hkt h00
          go_wp2
          go_quiet (fail)
          go_wp2
          go_roundw
          case rel => exact ⟨0 + 1, by omega, by go_num, _, by rfl⟩
          case measure => simp [intOf]
        · obtain ⟨k', rfl⟩ : ∃ k', k = k' + 1 := ⟨k - 1, by omega⟩
          obtain ⟨t', hkt'⟩ : ∃ t, rt[k']? = some t := ⟨rt[k']'(by rw [hHL.out]; omega), List.getElem?_eq_getElem _⟩
          have hck' := HTC.out k' t' hkt'
          have g3 : ¬ ((t : Int) ≤ (t' : Int)) := by have := HRI.out k' t' t hkt' hkt; omega
          have g4 : (0 : Int) < (k' : Int) + 1 := by omega
          have g3b : decide (t ≤ t') = false := decide_eq_false (by omega)
          have g4b : decide ((0 : Int) < (k' : Int) + 1) = true := decide_eq_true g4
          clear hre2 hkt hkt'
          go_wp2
          go_quiet (fail)
          go_wp2
          go_roundw
          case rel => exact ⟨k' + 1 + 1, by omega, by go_num, _, by rfl⟩
          case measure => simp [intOf]; omega
      · obtain rfl : k = m + 1 := by omega
        obtain ⟨t, hlast, x, hxt, hl1, hl2⟩ := HRU.out.last
        simp only at hlast hl1 hl2
        have hmt : rt[m]? = some t := by
          rw [List.getLast?_eq_getElem?, hHL.out] at hlast
          exact hlast
        obtain ⟨htx, hxe⟩ := List.getElem?_eq_some_iff.1 hxt
        have hct : (w9.drewN n).cell? ⟨bt, ot + m, none⟩ = some (.int .i64 (t : Int)) := HTC.out m t hmt
        have KD := grown_drewN w9 n none
        have GD := grown_trans HG9.out KD
        obtain ⟨ba, oa, hao, hca⟩ := (H.out.keptNone GD).insns htx
        replace y0 := KD.cell y0 (by simp)
        replace y1 := KD.cell y1 (by simp)
        obtain ⟨c0, c1, c2, c3⟩ := hca t htx
        have hff := HFZ.out t htx
        rw [hxe] at c0 c1 c2 c3 hff
        have b0 := x.code.toNat_lt
        have b3 := x.k.toNat_lt
        have htl : (t : Int) < (xs.length : Int) := by omega
        have HF1 : Hid (rf ≠ 0 → rv = 0 ∧ usesF x.code.toNat = true) := fun h => by
          obtain ⟨r1, r2, r3, r4, M, pk', r5⟩ := hl1 h
          exact ⟨r1, fault_uses hff r2 r3 r4 r5⟩
        have HF2 : Hid (rf = 0 → retB x.code.toNat = true ∧ (((x.code.toNat : Int) == 22) = true ∨ rv = x.k.toNat)) := hl2
        clear h00 y2 KD HTC HR9 HG9
        generalize w9.drewN n = wd at *
        have HBX : Hid (Bx (wd.alloc (.cells #[.int .u16 (x.code.toNat : Int), .int .u8 (x.jt.toNat : Int), .int .u8 (x.jf.toNat : Int), .int .u32 (x.k.toNat : Int)] 47)) wd.heap.size x.code.toNat x.jt.toNat x.jf.toNat x.k.toNat) := bx_alloc wd 47 _ _ _ _
        have HK : Hid (wd.grownBy (wd.alloc (.cells #[.int .u16 (x.code.toNat : Int), .int .u8 (x.jt.toNat : Int), .int .u8 (x.jf.toNat : Int), .int .u32 (x.k.toNat : Int)] 47)) none) := World.grownBy_alloc _ _ _
        clear hlast hl1 hl2 hca hff hmt hxt hxe hHL HRI HRE HBS HFZ HRU
        subst hao
        go_upto_region 14 with fail
        clear hct c0 c1 c2 c3
        generalize wd.alloc (.cells #[.int .u16 (x.code.toNat : Int), .int .u8 (x.jt.toNat : Int), .int .u8 (x.jf.toNat : Int), .int .u32 (x.k.toNat : Int)] 47) = w10 at *
        have z0 := HK.out.cell y0 (by simp)
        have z1 := HK.out.cell y1 (by simp)
        have G10 := grown_trans GD HK.out
        obtain ⟨x0, x1, x2, x3⟩ := HBX.out
        clear y0 y1 HBX GD HK
        generalize wd.heap.size = B9 at *
        go_wp2_with fail
        refine (uses_any _ _).mono ?_
        rintro e w11 ⟨rfl, K11⟩
        have y0 := K11.cell z0 (by simp)
        have y1 := K11.cell z1 (by simp)
        have e0 := K11.cell x0 (by simp)
        have e3 := K11.cell x3 (by simp)
        have G11 := grown_trans G10 K11
        clear z0 z1 x0 x1 x2 x3 K11 G10
        by_cases hrf : rf = 0
        · obtain ⟨r1, r2⟩ := HF2.out hrf
          subst hrf
          clear HF1 HF2
          have HRT : Hid (∀ W : World, Calls Try.prog 39 #[.int .u16 (x.code.toNat : Int)] W fun e w' => e = .returned (.bool true) ∧ W = w') := fun W => by
            have k := retB_any x.code.toNat W
            rw [r1] at k
            exact k
          cases h22 : ((x.code.toNat : Int) == 22) with
          | true =>
            clear r1 r2
            go_wp2_with (go_at_call 39; refine (HRT.out _).mono ?_; rintro e w' ⟨rfl, rfl⟩)
            go_ret
            exact ⟨rfl, G11⟩
          | false =>
            have hrv : rv = x.k.toNat := by
              rcases r2 with r | r
              · rw [h22] at r; cases r
              · exact r
            subst hrv
            clear r1 r2
            go_wp2_with (go_at_call 39; refine (HRT.out _).mono ?_; rintro e w' ⟨rfl, rfl⟩)
            go_ret
            exact ⟨by simp, G11⟩
        · obtain ⟨r1, r2⟩ := HF1.out hrf
          subst r1
          have hrfb : (rf != 0) = true := by rw [bne_iff_ne]; exact hrf
          clear HF1 HF2 hrf
          go_wp2
          go_ret
          exact ⟨by simp, G11⟩
  · obtain ⟨hE0, h1, h2, h3⟩ := HFACT.out.1 hF
    subst hE0 h1 h2 h3
    obtain ⟨y0, y1, y2⟩ := V9
    have hFb : (F != 0) = true := by rw [bne_iff_ne]; exact hF
    clear HFACT hF
    go_wp2
    go_ret
    exact ⟨rfl, G9⟩

end Go.Proofs.Ytaldhnionkacmaa
