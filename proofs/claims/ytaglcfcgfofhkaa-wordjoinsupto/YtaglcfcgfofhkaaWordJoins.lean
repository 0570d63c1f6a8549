/-
  For every three lists of bytes that hold together at most 1048576 values riddlelaw1.WordJoins returns true and leaves what was there as it was (the bound is the given second form's own: lists of which each alone may take 2^47 bytes pass together what append bears).
-/
import Derived.Test.YtaglcfcgfofhkaaJoins2
namespace Go.Proofs.Ytaglcfcgfofhkaa
open Go.ChangeShapes Go.WideShapes Go.ChangeAt Go.RowKit
open Go.ChangeMaps (open_string shut_string)
namespace wordJoins

set_option maxHeartbeats 2000000 in
theorem walk (a : Option Addr) (ca : Nat) (xs : List UInt8) (b : Option Addr) (cb : Nat) (ys : List UInt8) (c : Option Addr) (cc : Nat) (zs : List UInt8) (w : World)
    (ha : Cells w a xs) (ha0 : a = none → ca = 0) (hx : xs.length ≤ 1048576) (hb : Cells w b ys) (hb0 : b = none → cb = 0) (hy : ys.length ≤ 1048576) (hc : Cells w c zs) (hc0 : c = none → cc = 0) (hz : zs.length ≤ 1048576) :
    Calls Try.prog 6 #[.slice a xs.length ca, .slice b ys.length cb, .slice c zs.length cc] w fun e w' => e = .returned (.bool true) ∧ w.grownBy w' none := by
  obtain ⟨i0, hi, hz0, hz1, hz2⟩ := info_parts info5
  have HA : Hid (Cells w a xs) := ha
  have HB : Hid (Cells w b ys) := hb
  have HC : Hid (Cells w c zs) := hc
  clear ha hb hc
  go_enter Try.func6, Try.ntmps6
  go_wp2_with fail
  refine (copy_any a ca xs _ HA.out ha0 (by omega)).mono ?_
  rintro e w1 ⟨v1, rfl, O1, G1⟩
  go_wp2_with (at_builtin; refine wpList_append_rd rfl (.tmp 15) (.tmp 16) 22 rfl i0 Try.underlying22 hi hz0 hz1 hz2 w.heap.size v1 xs rfl O1 b cb ys rfl hb0 ?q2 ?q3 ?q4 ?q5)
  case q2 => exact HB.out.keptNone G1
  case q3 => omega
  case q4 => exact G1.size
  case q5 =>
    intro v2 w2 O2 K2
    have G2 : w.grownBy w2 none := grown_trans_new G1 K2 (fun x hx => (O1.lt x hx).1)
    clear K2 O1
    go_wp2_with (at_builtin; refine wpList_append_rd rfl (.tmp 17) (.tmp 18) 22 rfl i0 Try.underlying22 hi hz0 hz1 hz2 w.heap.size v2 (xs ++ ys) rfl O2 c cc zs rfl hc0 ?r2 ?r3 ?r4 ?r5)
    case r2 => exact HC.out.keptNone G2
    case r3 => rw [List.length_append]; omega
    case r4 => exact G2.size
    case r5 =>
      intro v3 w3 O3a K3
      have O3 : Owns w3 w.heap.size v3 (xs ++ ys ++ zs) := by first | exact O3a | (rw [List.append_assoc]; exact O3a)
      clear O3a
      have G3 : w.grownBy w3 none := grown_trans_new G2 K3 (fun x hx => (O2.lt x hx).1)
      clear K3 O2 G2 G1
      have hlen : (xs ++ ys ++ zs).length = xs.length + ys.length + zs.length := by simp only [List.length_append]
      have HL : Hid ((xs ++ ys ++ zs).length = xs.length + ys.length + zs.length) := hlen
      clear hlen
      obtain ⟨aw, cw, rfl, W3, _, Wb, _⟩ := O3.rd
      have Wlt : ∀ ad, aw = some ad → ad.block < w3.heap.size := fun ad had => (Wb ad had).2
      clear O3 Wb
      generalize hq : xs ++ ys ++ zs = qs at *
      have HQ : Hid (xs ++ ys ++ zs = qs) := hq
      clear hq
      go_wp2_with fail
      refine (lend_any a ca xs _ (HA.out.keptNone G3) ha0 (by omega)).mono ?_
      rintro e w4 ⟨l1, rfl, ⟨g1, p1, rfl, _, _, b1, t1, own1⟩, K4⟩
      have G4 := grown_trans G3 K4
      have W4 := W3.keptNone K4
      clear W3
      go_wp2_with fail
      refine (lend_any b cb ys _ (HB.out.keptNone G4) hb0 (by omega)).mono ?_
      rintro e w5 ⟨l2, rfl, ⟨g2, p2, rfl, _, _, b2, t2, own2⟩, K5⟩
      have G5 := grown_trans G4 K5
      have W5 := W4.keptNone K5
      have own15 := own1.kept K5 (by simp [Value.ownBlock])
      clear W4 own1
      go_wp2_with fail
      refine (lend_any c cc zs _ (HC.out.keptNone G5) hc0 (by omega)).mono ?_
      rintro e w6 ⟨l3, rfl, ⟨g3, p3, rfl, _, _, b3, t3, own3⟩, K6⟩
      have G6 := grown_trans G5 K6
      have W6 := W5.keptNone K6
      have own16 := own15.kept K6 (by simp [Value.ownBlock])
      have own26 := own2.kept K6 (by simp [Value.ownBlock])
      clear W5 own15 own2
      go_wp2_with fail
      refine (jn3 w6 _ _ _ p1 p2 p3 xs ys zs (cells_front own16).1 (by simp) (cells_front own26).1 (by simp) (cells_front own3).1 (by simp) (by omega)).mono ?_
      rintro e w7 ⟨one, rfl, O7, K7⟩
      rw [HQ.out] at O7
      have G7 := grown_trans G6 K7
      have W7 := W6.keptNone K7
      have own17 := own16.kept K7 (by simp [Value.ownBlock])
      have own27 := own26.kept K7 (by simp [Value.ownBlock])
      have own37 := own3.kept K7 (by simp [Value.ownBlock])
      clear W6 own16 own26 own3
      have s4 := K4.size
      have s5 := K5.size
      have s6 := K6.size
      have s7 := K7.size
      have s3 := G3.size
      have o7 := O7.lt
      go_wp2_with fail
      refine (kept_any g1 p1 a ca xs _ (owns_mono own17 (Nat.zero_le _)) (HA.out.keptNone G7) (by omega)).mono ?_
      rintro e w8 ⟨rfl, K8⟩
      have G8 : w.grownBy w8 none := grown_trans_new G7 K8 (by intro k hk; obtain rfl := Option.some.inj hk; omega)
      have W8 := W7.keptUp w3.heap.size Wlt K8 (by intro k hk; obtain rfl := Option.some.inj hk; exact b1)
      have own28 := own27.kept K8 (by right; simp [Value.ownBlock]; omega)
      have own38 := own37.kept K8 (by right; simp [Value.ownBlock]; omega)
      have O8 : Owns w8 w6.heap.size one qs := O7.kept K8 (by right; intro e; have := (o7 g1 e).1; omega)
      clear own17 own27 own37 W7 O7
      go_wp2_with fail
      refine (kept_any g2 p2 b cb ys _ (owns_mono own28 (Nat.zero_le _)) (HB.out.keptNone G8) (by omega)).mono ?_
      rintro e w9 ⟨rfl, K9⟩
      have G9 : w.grownBy w9 none := grown_trans_new G8 K9 (by intro k hk; obtain rfl := Option.some.inj hk; omega)
      have W9 := W8.keptUp w3.heap.size Wlt K9 (by intro k hk; obtain rfl := Option.some.inj hk; omega)
      have own39 := own38.kept K9 (by right; simp [Value.ownBlock]; omega)
      have O9 : Owns w9 w6.heap.size one qs := O8.kept K9 (by right; intro e; have := (o7 g2 e).1; omega)
      clear own28 own38 W8 O8
      go_wp2_with fail
      refine (kept_any g3 p3 c cc zs _ (owns_mono own39 (Nat.zero_le _)) (HC.out.keptNone G9) (by omega)).mono ?_
      rintro e w10 ⟨rfl, K10⟩
      have G10 : w.grownBy w10 none := grown_trans_new G9 K10 (by intro k hk; obtain rfl := Option.some.inj hk; omega)
      have W10 := W9.keptUp w3.heap.size Wlt K10 (by intro k hk; obtain rfl := Option.some.inj hk; omega)
      have O10 : Owns w10 w6.heap.size one qs := O9.kept K10 (by right; intro e; have := (o7 g3 e).1; omega)
      clear own39 W9 O9
      have E10 : ∃ ao cap, one = .slice ao qs.length cap ∧ Cells w10 ao qs := by
        obtain ⟨ao, cap, h, k, _⟩ := O10.rd
        exact ⟨ao, cap, h, k⟩
      obtain ⟨ao, cap, hone, C10⟩ := E10
      subst hone
      have hql : qs.length ≤ 3145728 := by rw [HL.out]; omega
      go_wp2_with fail
      refine (same_any ao aw cap cw qs _ C10 W10 (by omega)).mono ?_
      rintro e w11 ⟨rfl, n11, rfl⟩
      have G11 := grown_trans G10 (grown_drewN w10 n11 none)
      have W11 : Cells (w10.drewN n11) aw qs := W10
      have O11 : Owns (w10.drewN n11) w6.heap.size (.slice ao qs.length cap) qs := O10
      have s11 : (w10.drewN n11).heap.size = w10.heap.size := rfl
      clear C10 W10 O10 G10 G9 G8 G7 G6 G5 G4 K4 K5 K6 K7
      have s8 := K8.size
      have s9 := K9.size
      have s10 := K10.size
      clear K8 K9 K10
      generalize w10.drewN n11 = w11 at *
      -- two at a time, from the left
      go_wp2_with fail
      refine (copy_any a ca xs _ (HA.out.keptNone G11) ha0 (by omega)).mono ?_
      rintro e w12 ⟨v12, rfl, O12, K12⟩
      obtain ⟨a12, c12, rfl, C12, n12, _⟩ := O12.rd
      have G12 := grown_trans G11 K12
      have KK12 := K12
      clear O12
      go_wp2_with fail
      refine (copy_any b cb ys _ (HB.out.keptNone G12) hb0 (by omega)).mono ?_
      rintro e w13 ⟨v13, rfl, O13, K13⟩
      obtain ⟨a13, c13, rfl, C13, n13, _⟩ := O13.rd
      have G13 := grown_trans G12 K13
      have KK13 := grown_trans KK12 K13
      have C12' := C12.keptNone K13
      clear O13 C12 G12 K12 KK12
      go_wp2_with fail
      refine (jn2 w13 _ _ c12 c13 xs ys C12' n12 C13 n13 (by omega)).mono ?_
      rintro e w14 ⟨v14, rfl, O14, K14⟩
      obtain ⟨ts, hts⟩ : ∃ ts, xs ++ ys = ts := ⟨_, rfl⟩
      have HT : Hid (xs ++ ys = ts) := hts
      have hTl : ts.length ≤ 2097152 := by rw [← hts, List.length_append]; omega
      rw [hts] at O14
      clear hts
      obtain ⟨a14, c14, rfl, C14, n14, _⟩ := O14.rd
      have G14 := grown_trans G13 K14
      have KK14 := grown_trans KK13 K14
      clear O14 C12' C13 G13 K13 KK13
      go_wp2_with fail
      refine (copy_any c cc zs _ (HC.out.keptNone G14) hc0 (by omega)).mono ?_
      rintro e w15 ⟨v15, rfl, O15, K15⟩
      obtain ⟨a15, c15, rfl, C15, n15, _⟩ := O15.rd
      have G15 := grown_trans G14 K15
      have KK15 := grown_trans KK14 K15
      have C14' := C14.keptNone K15
      clear O15 C14 G14 K14 KK14
      go_wp2_with fail
      refine (jn2 w15 _ _ c14 c15 ts zs C14' n14 C15 n15 (by omega)).mono ?_
      rintro e w16 ⟨v16, rfl, O16, K16⟩
      rw [show ts ++ zs = qs by rw [← HT.out]; exact HQ.out] at O16
      obtain ⟨a16, c16, rfl, C16, _, B16, _⟩ := O16.rd
      have G16 := grown_trans G15 K16
      have KK16 := grown_trans KK15 K16
      clear O16 C14' C15 G15 K15
      have s15 := KK15.size
      -- two at a time, from the right
      go_wp2_with fail
      refine (copy_any a ca xs _ (HA.out.keptNone G16) ha0 (by omega)).mono ?_
      rintro e w17 ⟨v17, rfl, O17, K17⟩
      obtain ⟨a17, c17, rfl, C17, n17, _⟩ := O17.rd
      have G17 := grown_trans G16 K17
      have C16a := C16.keptNone K17
      have KK17 := grown_trans KK16 K17
      clear O17 C16 K17
      go_wp2_with fail
      refine (jn0 _).mono ?_
      rintro e w18 ⟨a18, c18, rfl, C18, n18, K18⟩
      have G18 := grown_trans G17 K18
      have C17a := C17.keptNone K18
      have C16b := C16a.keptNone K18
      have KK18 := grown_trans KK17 K18
      clear C17 C16a K18 KK17
      go_wp2_with fail
      refine (copy_any b cb ys _ (HB.out.keptNone G18) hb0 (by omega)).mono ?_
      rintro e w19 ⟨v19, rfl, O19, K19⟩
      obtain ⟨a19, c19, rfl, C19, n19, _⟩ := O19.rd
      have G19 := grown_trans G18 K19
      have C17b := C17a.keptNone K19
      have C18a := C18.keptNone K19
      have C16c := C16b.keptNone K19
      have KK19 := grown_trans KK18 K19
      clear O19 C17a C16b K19 C18 KK18
      go_wp2_with fail
      refine (copy_any c cc zs _ (HC.out.keptNone G19) hc0 (by omega)).mono ?_
      rintro e w20 ⟨v20, rfl, O20, K20⟩
      obtain ⟨a20, c20, rfl, C20, n20, _⟩ := O20.rd
      have G20 := grown_trans G19 K20
      have C17c := C17b.keptNone K20
      have C18b := C18a.keptNone K20
      have C16d := C16c.keptNone K20
      have C19a := C19.keptNone K20
      have KK20 := grown_trans KK19 K20
      clear O20 C17b C16c K20 C18a C19 KK19
      go_wp2_with fail
      refine (jn2 w20 _ _ c19 c20 ys zs C19a n19 C20 n20 (by omega)).mono ?_
      rintro e w21 ⟨v21, rfl, O21, K21⟩
      obtain ⟨rs, hrs⟩ : ∃ rs, ys ++ zs = rs := ⟨_, rfl⟩
      have HR : Hid (ys ++ zs = rs) := hrs
      have hRl : rs.length ≤ 2097152 := by rw [← hrs, List.length_append]; omega
      rw [hrs] at O21
      clear hrs
      obtain ⟨a21, c21, rfl, C21, n21, _⟩ := O21.rd
      have G21 := grown_trans G20 K21
      have C17d := C17c.keptNone K21
      have C18c := C18b.keptNone K21
      have C16e := C16d.keptNone K21
      have KK21 := grown_trans KK20 K21
      clear O21 C17c C16d K21 C18b C19a C20 KK20
      go_wp2_with fail
      refine (jn3 w21 _ _ _ c17 c18 c21 xs [] rs C17d n17 C18c n18 C21 n21 (by simp; omega)).mono ?_
      rintro e w22 ⟨v22, rfl, O22, K22⟩
      rw [show xs ++ [] ++ rs = qs by rw [← HQ.out, ← HR.out]; simp] at O22
      obtain ⟨a22, c22, rfl, C22, _, B22, _⟩ := O22.rd
      have G22 := grown_trans G21 K22
      have C16f := C16e.keptNone K22
      have KK22 := grown_trans KK21 K22
      have s21 := KK21.size
      clear O22 C17d C16e K22 C18c C21 KK21
      have W22 := W11.keptNone KK22
      have O22 := owns_keptNone O11 KK22
      have o22 := O11.lt
      clear W11 O11
      -- the first one is written over
      go_wp2_with fail
      refine (spoil_own (xs := qs) (base := w6.heap.size) w22 O22 (by omega)).mono ?_
      rintro e w23 ⟨rfl, K23⟩
      have G23 : w.grownBy w23 none := grown_trans_new G22 K23 (fun k hk => by have := (o22 k hk).1; omega)
      have W23 := W22.keptUp w3.heap.size Wlt K23 (fun k hk => by have := (o22 k hk).1; omega)
      have C23 := C16f.keptDown w15.heap.size (fun ad had => (B16 ad had).1) K23 (fun k hk => by have := (o22 k hk).2; omega)
      have D23 := C22.keptDown w21.heap.size (fun ad had => (B22 ad had).1) K23 (fun k hk => by have := (o22 k hk).2; omega)
      clear K23 W22 C16f C22 O22
      go_wp2_with fail
      refine (same_any a16 aw c16 cw qs _ C23 W23 (by omega)).mono ?_
      rintro e w24 ⟨rfl, n24, rfl⟩
      have G24 := grown_trans G23 (grown_drewN w23 n24 none)
      have W24 : Cells (w23.drewN n24) aw qs := W23
      have D24 : Cells (w23.drewN n24) a22 qs := D23
      clear C23 W23 D23
      generalize w23.drewN n24 = w24 at *
      go_wp2_with fail
      refine (same_any a22 aw c22 cw qs _ D24 W24 (by omega)).mono ?_
      rintro e w25 ⟨rfl, n25, rfl⟩
      have G25 := grown_trans G24 (grown_drewN w24 n25 none)
      clear D24 W24
      generalize w24.drewN n25 = w25 at *
      go_wp2_with fail
      refine (jn0 _).mono ?_
      rintro e w26 ⟨a26, c26, rfl, _, _, K26⟩
      have G26 := grown_trans G25 K26
      go_wp2_with fail
      refine (awake_any _).mono ?_
      rintro e w27 ⟨rfl, K27⟩
      have G27 := grown_trans G26 K27
      go_wp2
      go_ret
      exact ⟨rfl, G27⟩

set_option maxRecDepth 100000 in
theorem lifted (os : Os) (started : os.Started) (H : Type) (enc : TypeId × Value → H) (F : Stop.Interp) :
    ReturnsInHanded {} Try.checked os 6 .any ((Rows.OpenSpec.upto Rows.wordJoinsSpec).pre6 enc Try.prog Try.f6 Rows.wordJoinsUptoRow.domain false) (((Rows.OpenSpec.upto Rows.wordJoinsSpec).at F).post enc Try.prog Try.f6 false true false false) := by
  refine returnsInHanded_of_cond (C := Try.checked) (s := (Rows.OpenSpec.upto Rows.wordJoinsSpec)) (k := Rows.uptoSmall) rfl own started (by kernel_rfl) Try.func6
    (OpenSpec.witness (enc := enc) (C := Try.checked) (s := (Rows.OpenSpec.upto Rows.wordJoinsSpec)) (k := Rows.uptoSmall) rfl false ⟨#[], #[.slice none 0 0, .slice none 0 0, .slice none 0 0], []⟩ 8 (by kernel_rfl) (by kernel_rfl) (by kernel_rfl)
      (x := ([.nil, .nil, .nil], [], [])) (by kernel_rfl) rfl (by kernel_rfl)) ?_
  intro W base args ds gs before hval0 hW _ hk0 _
  have hval : ∀ (j : Nat) t v, Try.f6.params[j]? = some t → args[j]? = some v → Value.okWide Try.prog W .any base t v := hval0
  have hW' := hW
  obtain ⟨p, q, hA0, hV, rfl, hfz, hnd⟩ := hW
  have hA : DataW.TrodAll enc Try.prog W 0 (fun _ => true) true Try.f6.params.toList args.toList ds p := hA0
  rw [Try.params6] at hA hval
  obtain ⟨v0, vs0, d0, ds0, p0, q0, hargs, rfl, rfl, h0, r0⟩ := trodAll_cons hA
  obtain ⟨v1, vs1, d1, ds1, p1, q1, rfl, rfl, rfl, h1, r1⟩ := trodAll_cons r0
  obtain ⟨v2, vs2, d2, ds2, p2, q2, rfl, rfl, rfl, h2, r2⟩ := trodAll_cons r1
  obtain ⟨rfl, rfl, rfl⟩ := trodAll_nil r2
  obtain rfl : args = #[v0, v1, v2] := by cases args; simp_all
  obtain ⟨rfl, rfl⟩ := trodVars_none hV
  obtain ⟨a0, len0, cap0, rfl⟩ := okWide_slice Try.underlying22 (hval 0 22 v0 rfl rfl)
  have k0 := h0
  have lt0 : ∀ x ∈ p0, x.block < W.heap.size := by obtain ⟨m, hm⟩ := k0; exact DataW.trod_lt m _ _ _ hm
  obtain ⟨xs0, rfl, hcells0, hnil0, hdat0⟩ := open_bytes Try.underlying22 Try.underlying5 (by kernel_rfl) h0
  obtain ⟨a1, len1, cap1, rfl⟩ := okWide_slice Try.underlying22 (hval 1 22 v1 rfl rfl)
  have k1 := h1
  have lt1 : ∀ x ∈ p1, x.block < W.heap.size := by obtain ⟨m, hm⟩ := k1; exact DataW.trod_lt m _ _ _ hm
  obtain ⟨xs1, rfl, hcells1, hnil1, hdat1⟩ := open_bytes Try.underlying22 Try.underlying5 (by kernel_rfl) h1
  obtain ⟨a2, len2, cap2, rfl⟩ := okWide_slice Try.underlying22 (hval 2 22 v2 rfl rfl)
  have k2 := h2
  have lt2 : ∀ x ∈ p2, x.block < W.heap.size := by obtain ⟨m, hm⟩ := k2; exact DataW.trod_lt m _ _ _ hm
  obtain ⟨xs2, rfl, hcells2, hnil2, hdat2⟩ := open_bytes Try.underlying22 Try.underlying5 (by kernel_rfl) h2
  simp only [List.append_nil] at hW' hk0
  have hk : Rows.uptoBulkAll ([d0, d1, d2] : List (DataW H)) ≤ 1048576 := of_decide_eq_true hk0
  simp only [Rows.uptoBulkAll] at hk
  have hlen0 : xs0.length ≤ 1048576 := by
    rcases hdat0 with ⟨_, rfl⟩ | ⟨elems, spare, rfl, hle⟩
    · simp
    · have := bulk_slice elems spare
      omega
  have hlen1 : xs1.length ≤ 1048576 := by
    rcases hdat1 with ⟨_, rfl⟩ | ⟨elems, spare, rfl, hle⟩
    · simp
    · have := bulk_slice elems spare
      omega
  have hlen2 : xs2.length ≤ 1048576 := by
    rcases hdat2 with ⟨_, rfl⟩ | ⟨elems, spare, rfl, hle⟩
    · simp
    · have := bulk_slice elems spare
      omega
  clear hA0 hval0
  refine (walk a0 cap0 xs0 a1 cap1 xs1 a2 cap2 xs2 W hcells0 hnil0 (by omega) hcells1 hnil1 (by omega) hcells2 hnil2 (by omega)).mono fun e W' ⟨he, hg⟩ => ?_
  subst he
  have bel : Below W.heap.size W W' := (Below.refl _ _).grown hg (Nat.le_refl _) (by simp)
  exact ⟨_, rfl, _, _, _, [], _, [], hW', trodAll_mk1 (shut_bool Try.underlying4 _), (trodAll_cons_mk (Below.trod laidOut (by kernel_rfl) (of_decide_eq_true (by kernel_rfl)) k0 bel lt0) (trodAll_cons_mk (Below.trod laidOut (by kernel_rfl) (of_decide_eq_true (by kernel_rfl)) k1 bel lt1) (trodAll_cons_mk (Below.trod laidOut (by kernel_rfl) (of_decide_eq_true (by kernel_rfl)) k2 bel lt2) trodAll_mk0))), rfl, bel.frame _, fun h => by cases h⟩

theorem over : Rows.WordJoinsUptoSaid :=
  OpenClaim.holds_of_cond 6 Try.f6 rfl rfl rfl rfl rfl rfl rfl ⟨rfl, rfl, rfl, rfl, rfl⟩ rfl rfl rfl rfl rfl (by kernel_rfl) Try.func6 (by kernel_rfl)
    (of_decide_eq_true (by kernel_rfl)) (by unfold Func.isWrapper; first | (rw [if_pos (by decide +kernel)]; kernel_rfl) | (rw [if_neg (by decide +kernel)]; exact ⟨rfl, rfl⟩))
    (fun os started H enc _ F => lifted os started H enc F)

end wordJoins

theorem wordJoinsUpto_holds : Rows.WordJoinsUptoSaid := wordJoins.over
#print axioms wordJoinsUpto_holds
end Go.Proofs.Ytaglcfcgfofhkaa
