/-
  For every list of bytes and every text that hold together at most 1048576 values and letters riddlelaw1.WordHexes returns true and leaves what was there as it was (the bound is the given second form's own: a text of two letters a byte passes what append bears where the list takes nearly 2^47 bytes).
-/
import Derived.Test.YtaglcfcgfofhkaaJoins2
namespace Go.Proofs.Ytaglcfcgfofhkaa
open Go.ChangeShapes Go.WideShapes Go.ChangeAt Go.RowKit
open Go.ChangeMaps (open_string shut_string)
namespace wordHexes

theorem dig_of_hex (n : Nat) (h : n < 16) : digOk (hexD n).toNat = true ∧ digV (hexD n).toNat = n := by
  have key : ∀ j : Fin 16, digOk (hexD j.val).toNat = true ∧ digV (hexD j.val).toNat = j.val := by decide +kernel
  exact key ⟨n, h⟩

theorem hex_of_dig (c : UInt8) (h : digOk c.toNat = true) : hexD (digV c.toNat) = c := by
  have key : ∀ j : Fin 256, digOk j.val = true → hexD (digV j.val) = UInt8.ofNat j.val := by decide +kernel
  have := key ⟨c.toNat, c.toNat_lt⟩ h
  simpa using this

/-- The text of some bytes. -/
def txt (xs : List UInt8) : ByteArray := ⟨(hexS xs).toArray⟩

theorem txt_size (xs : List UInt8) : (txt xs).size = 2 * xs.length := by
  show (hexS xs).toArray.size = _
  rw [List.size_toArray, hexS_len]

theorem hexS_cons (x : UInt8) (xs : List UInt8) : hexS (x :: xs) = hexD (x.toNat / 16) :: hexD (x.toNat % 16) :: hexS xs := rfl

theorem hexS_get (xs : List UInt8) (k : Nat) (hk : k < xs.length) : (hexS xs).getD (2 * k) 0 = hexD (xs[k].toNat / 16) ∧ (hexS xs).getD (2 * k + 1) 0 = hexD (xs[k].toNat % 16) := by
  induction xs generalizing k with
  | nil => simp at hk
  | cons x xs ih =>
    cases k with
    | zero => exact ⟨rfl, rfl⟩
    | succ k =>
      have := ih k (by simpa using hk)
      rw [hexS_cons, show 2 * (k + 1) = 2 * k + 1 + 1 by omega]
      simp only [List.getD_cons_succ, List.getElem_cons_succ]
      exact this

theorem gd_txt (xs : List UInt8) (k : Nat) (hk : k < xs.length) : gd (txt xs) (2 * k) = (hexD (xs[k].toNat / 16)).toNat ∧ gd (txt xs) (2 * k + 1) = (hexD (xs[k].toNat % 16)).toNat := by
  have h := hexS_get xs k hk
  have e : (txt xs).data.toList = hexS xs := by simp [txt]
  unfold gd
  rw [e, h.1, h.2]
  exact ⟨rfl, rfl⟩

theorem dec_txt (xs : List UInt8) (k : Nat) (hk : k ≤ xs.length) : okTo (txt xs) k = true ∧ decTo (txt xs) k = xs.take k := by
  induction k with
  | zero => exact ⟨rfl, rfl⟩
  | succ k ih =>
    obtain ⟨h1, h2⟩ := ih (by omega)
    obtain ⟨g1, g2⟩ := gd_txt xs k (by omega)
    have hb := xs[k].toNat_lt
    obtain ⟨a1, a2⟩ := dig_of_hex (xs[k].toNat / 16) (by omega)
    obtain ⟨b1, b2⟩ := dig_of_hex (xs[k].toNat % 16) (by omega)
    refine ⟨?_, ?_⟩
    · simp only [okTo, h1, g1, g2, a1, b1, Bool.and_self]
    · simp only [decTo, h2, g1, g2, a2, b2]
      rw [List.take_succ_eq_append_getElem (by omega), show 16 * (xs[k].toNat / 16) + xs[k].toNat % 16 = xs[k].toNat by omega]
      simp

theorem un_txt (xs : List UInt8) : unOk (txt xs) = true ∧ unV (txt xs) = xs := by
  have h := dec_txt xs xs.length (Nat.le_refl _)
  have h2 := un_good (s := txt xs) (k := xs.length) (txt_size xs).symm h.1
  exact ⟨h2.1, by rw [h2.2, h.2, List.take_length]⟩

theorem hexS_append (xs ys : List UInt8) : hexS (xs ++ ys) = hexS xs ++ hexS ys := by simp only [hexS, List.flatMap_append]

theorem hex_dec (s : ByteArray) (k : Nat) (hk : 2 * k ≤ s.size) (h : okTo s k = true) : hexS (decTo s k) = s.data.toList.take (2 * k) := by
  induction k with
  | zero => rfl
  | succ k ih =>
    simp only [okTo, Bool.and_eq_true] at h
    obtain ⟨h0, h1, h2⟩ := h
    have hl : s.data.toList.length = s.size := by rw [Array.length_toList]; rfl
    have l1 : 2 * k < s.data.toList.length := by omega
    have l2 : 2 * k + 1 < s.data.toList.length := by omega
    have e1 : gd s (2 * k) = (s.data.toList[2 * k]).toNat := by unfold gd; rw [List.getD_eq_getElem?_getD, List.getElem?_eq_getElem l1]; rfl
    have e2 : gd s (2 * k + 1) = (s.data.toList[2 * k + 1]).toNat := by unfold gd; rw [List.getD_eq_getElem?_getD, List.getElem?_eq_getElem l2]; rfl
    have v1 := digV_lt (gd s (2 * k))
    have v2 := digV_lt (gd s (2 * k + 1))
    rw [show 2 * (k + 1) = 2 * k + 1 + 1 by omega, List.take_succ_eq_append_getElem l2, List.take_succ_eq_append_getElem l1]
    simp only [decTo, hexS_append, ih (by omega) h0]
    rw [List.append_assoc]
    congr 1
    have t : (UInt8.ofNat (16 * digV (gd s (2 * k)) + digV (gd s (2 * k + 1)))).toNat = 16 * digV (gd s (2 * k)) + digV (gd s (2 * k + 1)) := by simp; omega
    rw [hexS_cons, t, show (16 * digV (gd s (2 * k)) + digV (gd s (2 * k + 1))) / 16 = digV (gd s (2 * k)) by omega, show (16 * digV (gd s (2 * k)) + digV (gd s (2 * k + 1))) % 16 = digV (gd s (2 * k + 1)) by omega]
    rw [e1, hex_of_dig _ (by rw [← e1]; exact h1), e2, hex_of_dig _ (by rw [← e2]; exact h2)]
    rfl

theorem txt_un (s : ByteArray) (h : unOk s = true) : txt (unV s) = s := by
  have h' := h
  simp only [unOk, Bool.and_eq_true, decide_eq_true_eq] at h'
  have e : unV s = decTo s (s.size / 2) := by simp [unV, h]
  have hl : s.data.toList.length = s.size := by rw [Array.length_toList]; rfl
  have k := hex_dec s (s.size / 2) (by omega) h'.2
  rw [show 2 * (s.size / 2) = s.size by omega, List.take_of_length_le (by omega)] at k
  unfold txt
  rw [e, k]

theorem unV_len (s : ByteArray) : (unV s).length ≤ s.size := by
  unfold unV
  split
  · rw [decTo_len]; omega
  · simp

theorem hex_txt (a : Option Addr) (ca : Nat) (xs : List UInt8) (w : World) (ha : Cells w a xs) (hn : xs.length ≤ 70368744177664) :
    Calls Try.prog 24 #[.slice a xs.length ca] w fun e w' => e = .returned (.string (txt xs)) ∧ w.grownBy w' none := hex_any a ca xs w ha hn
theorem refhex_txt (a : Option Addr) (ca : Nat) (xs : List UInt8) (w : World) (ha : Cells w a xs) (hn : xs.length ≤ 70368744177664) :
    Calls Try.prog 25 #[.slice a xs.length ca] w fun e w' => e = .returned (.string (txt xs)) ∧ w.grownBy w' none := refhex_any a ca xs w ha hn

set_option maxHeartbeats 2000000 in
theorem walk (a : Option Addr) (ca : Nat) (xs : List UInt8) (s : ByteArray) (w : World) (ha : Cells w a xs) (ha0 : a = none → ca = 0) (hx : xs.length ≤ 1048576) (hs : s.size ≤ 1048576) :
    Calls Try.prog 8 #[.slice a xs.length ca, .string s] w fun e w' => e = .returned (.bool true) ∧ w.grownBy w' none := by
  have HA : Hid (Cells w a xs) := ha
  clear ha
  obtain ⟨T, hT⟩ : ∃ T, txt xs = T := ⟨_, rfl⟩
  have hTs : T.size = 2 * xs.length := by rw [← hT]; exact txt_size xs
  have hTl : T.size ≤ 2097152 := by omega
  have HU : Hid (unOk T = true ∧ unV T = xs) := by
    show unOk T = true ∧ unV T = xs
    rw [← hT]
    exact un_txt xs
  have HT : Hid (txt xs = T) := hT
  have hne : ((T.size : Int) != 2 * (xs.length : Int)) = false := by simp; omega
  clear hT hTs
  have hul := unV_len s
  go_enter Try.func8, Try.ntmps8
  go_wp2_with fail
  refine (lend_any a ca xs _ HA.out ha0 (by omega)).mono ?_
  rintro e w1 ⟨l1, rfl, ⟨g1, p1, rfl, _, _, b1, t1, own1⟩, G1⟩
  go_wp2_with fail
  refine (hex_txt _ p1 xs _ (cells_front own1).1 (by omega)).mono ?_
  rintro e w2 ⟨rfl, K2⟩
  rw [HT.out]
  have own2 := own1.kept K2 (by simp [Value.ownBlock])
  have G2 := grown_trans G1 K2
  clear own1 K2
  go_wp2_with fail
  refine (kept_any g1 p1 a ca xs _ (owns_mono own2 (Nat.zero_le _)) (HA.out.keptNone G2) (by omega)).mono ?_
  rintro e w3 ⟨rfl, K3⟩
  have G3 : w.grownBy w3 none := grown_trans_new G2 K3 (by intro k hk; obtain rfl := Option.some.inj hk; omega)
  clear own2 K3 G2 G1
  go_wp2_with fail
  refine (refhex_txt a ca xs _ (HA.out.keptNone G3) (by omega)).mono ?_
  rintro e w4 ⟨rfl, K4⟩
  rw [HT.out]
  have G4 := grown_trans G3 K4
  clear G3 K4
  go_wp2_with fail
  refine (unhex_any T _ (by omega) (by omega)).mono ?_
  rintro e w5 ⟨x, rfl, O5, K5⟩
  rw [HU.out.1]
  rw [HU.out.2] at O5
  have G5 := grown_trans G4 K5
  have s4 := G4.size
  clear G4 K5
  go_wp2_with fail
  refine (unhex_any T _ (by omega) (by omega)).mono ?_
  rintro e w6 ⟨y, rfl, O6, K6⟩
  rw [HU.out.1]
  rw [HU.out.2] at O6
  have G6 := grown_trans G5 K6
  have O6x := owns_keptNone O5 K6
  have o5 := O5.lt
  obtain ⟨ay, cy, rfl, Cy, _, By, _⟩ := O6.rd
  have E6 : ∃ ax cx, x = .slice ax xs.length cx ∧ Cells w6 ax xs := by
    obtain ⟨ax, cx, h, k, _⟩ := Owns.rd (xs := xs) O6x
    exact ⟨ax, cx, h, k⟩
  obtain ⟨ax, cx, hxx, Cx⟩ := E6
  subst hxx
  have s5 := G5.size
  clear O5 O6 G5 K6
  go_wp2_with fail
  refine (same_any ax a cx ca xs _ Cx (HA.out.keptNone G6) (by omega)).mono ?_
  rintro e w7 ⟨rfl, n7, rfl⟩
  have G7 := grown_trans G6 (grown_drewN w6 n7 none)
  have O7 : Owns (w6.drewN n7) w4.heap.size (.slice ax xs.length cx) xs := O6x
  have Cy7 : Cells (w6.drewN n7) ay xs := Cy
  clear Cx Cy O6x
  clear G6
  generalize w6.drewN n7 = w7 at *
  go_wp2_with fail
  refine (spoil_own (xs := xs) (base := w4.heap.size) w7 O7 (by omega)).mono ?_
  rintro e w8 ⟨rfl, K8⟩
  have G8 : w.grownBy w8 none := grown_trans_new G7 K8 (fun k hk => by have := (o5 k hk).1; omega)
  have Cy8 := Cy7.keptDown w5.heap.size (fun ad had => (By ad had).1) K8 (fun k hk => (o5 k hk).2)
  clear K8 O7 Cy7 G7
  go_wp2_with fail
  refine (unhex_any s _ (by omega) (by omega)).mono ?_
  rintro e w9 ⟨z, rfl, O9, K9⟩
  obtain ⟨az, cz, rfl, Cz, _⟩ := O9.rd
  have G9 := grown_trans G8 K9
  have Cy9 := Cy8.keptNone K9
  clear Cy8 G8 K9 O9
  go_wp2_with fail
  refine (refunhex_any s _ (by omega) (by omega)).mono ?_
  rintro e w10 ⟨z2, rfl, O10, K10⟩
  obtain ⟨az2, cz2, rfl, Cz2, _⟩ := O10.rd
  have G10 := grown_trans G9 K10
  have Cy10 := Cy9.keptNone K10
  have Cz10 := Cz.keptNone K10
  clear Cy9 G9 K10 O10 Cz
  go_wp2_with fail
  refine (same_any ay a cy ca xs _ Cy10 (HA.out.keptNone G10) (by omega)).mono ?_
  rintro e w11 ⟨rfl, n11, rfl⟩
  have G11 := grown_trans G10 (grown_drewN w10 n11 none)
  have Cz11 : Cells (w10.drewN n11) az (unV s) := Cz10
  have Cw11 : Cells (w10.drewN n11) az2 (unV s) := Cz2
  clear Cy10 Cz10 Cz2 G10
  generalize w10.drewN n11 = w11 at *
  go_wp2_with fail
  refine (same_any az az2 cz cz2 (unV s) _ Cz11 Cw11 (by omega)).mono ?_
  rintro e w12 ⟨rfl, n12, rfl⟩
  have G12 := grown_trans G11 (grown_drewN w11 n12 none)
  have Cz12 : Cells (w11.drewN n12) az (unV s) := Cz11
  clear Cz11 Cw11 G11
  generalize w11.drewN n12 = w12 at *
  cases hok : unOk s with
  | false =>
    go_wp2_with fail
    refine (awake_any _).mono ?_
    rintro e w13 ⟨rfl, K13⟩
    have G13 := grown_trans G12 K13
    go_wp2
    go_ret
    exact ⟨rfl, G13⟩
  | true =>
    have e2 := txt_un s hok
    have HE : Hid (txt (unV s) = s) := e2
    clear e2
    go_wp2_with fail
    refine (hex_txt az cz (unV s) _ Cz12 (by omega)).mono ?_
    rintro e w13 ⟨rfl, K13⟩
    rw [HE.out]
    have G13 := grown_trans G12 K13
    go_wp2_with fail
    refine (awake_any _).mono ?_
    rintro e w14 ⟨rfl, K14⟩
    have G14 := grown_trans G13 K14
    go_wp2
    go_ret
    exact ⟨rfl, G14⟩

set_option maxRecDepth 100000 in
theorem lifted (os : Os) (started : os.Started) (H : Type) (enc : TypeId × Value → H) (F : Stop.Interp) :
    ReturnsInHanded {} Try.checked os 8 .any ((Rows.OpenSpec.upto Rows.wordHexesSpec).pre6 enc Try.prog Try.f8 Rows.wordHexesUptoRow.domain false) (((Rows.OpenSpec.upto Rows.wordHexesSpec).at F).post enc Try.prog Try.f8 false true false false) := by
  refine returnsInHanded_of_cond (C := Try.checked) (s := (Rows.OpenSpec.upto Rows.wordHexesSpec)) (k := Rows.uptoSmall) rfl own started (by kernel_rfl) Try.func8
    (OpenSpec.witness (enc := enc) (C := Try.checked) (s := (Rows.OpenSpec.upto Rows.wordHexesSpec)) (k := Rows.uptoSmall) rfl false ⟨#[], #[.slice none 0 0, .string .empty], []⟩ 8 (by kernel_rfl) (by kernel_rfl) (by kernel_rfl)
      (x := ([.nil, .lit (.string [])], [], [])) (by kernel_rfl) rfl (by kernel_rfl)) ?_
  intro W base args ds gs before hval0 hW _ hk0 _
  have hval : ∀ (j : Nat) t v, Try.f8.params[j]? = some t → args[j]? = some v → Value.okWide Try.prog W .any base t v := hval0
  have hW' := hW
  obtain ⟨p, q, hA0, hV, rfl, hfz, hnd⟩ := hW
  have hA : DataW.TrodAll enc Try.prog W 0 (fun _ => true) true Try.f8.params.toList args.toList ds p := hA0
  rw [Try.params8] at hA hval
  obtain ⟨v0, vs0, d0, ds0, p0, q0, hargs, rfl, rfl, h0, r0⟩ := trodAll_cons hA
  obtain ⟨v1, vs1, d1, ds1, p1, q1, rfl, rfl, rfl, h1, r1⟩ := trodAll_cons r0
  obtain ⟨rfl, rfl, rfl⟩ := trodAll_nil r1
  obtain rfl : args = #[v0, v1] := by cases args; simp_all
  obtain ⟨rfl, rfl⟩ := trodVars_none hV
  obtain ⟨a0, len0, cap0, rfl⟩ := okWide_slice Try.underlying22 (hval 0 22 v0 rfl rfl)
  have k0 := h0
  have lt0 : ∀ x ∈ p0, x.block < W.heap.size := by obtain ⟨m, hm⟩ := k0; exact DataW.trod_lt m _ _ _ hm
  obtain ⟨xs0, rfl, hcells0, hnil0, hdat0⟩ := open_bytes Try.underlying22 Try.underlying5 (by kernel_rfl) h0
  obtain ⟨s1, rfl, rfl, rfl, hs1⟩ := open_string Try.underlying9 (hval 1 9 v1 rfl rfl) h1
  simp only [List.append_nil] at hW' hk0
  have hk : Rows.uptoBulkAll ([d0, .lit (.string s1.data.toList)] : List (DataW H)) ≤ 1048576 := of_decide_eq_true hk0
  simp only [Rows.uptoBulkAll] at hk
  have hlen0 : xs0.length ≤ 1048576 := by
    rcases hdat0 with ⟨_, rfl⟩ | ⟨elems, spare, rfl, hle⟩
    · simp
    · have := bulk_slice elems spare
      omega
  have hlen1 : s1.size ≤ 1048576 := by
    have e := bulk_string (H := H) s1
    omega
  clear hA0 hval0
  refine (walk a0 cap0 xs0 s1 W hcells0 hnil0 (by omega) hlen1).mono fun e W' ⟨he, hg⟩ => ?_
  subst he
  have bel : Below W.heap.size W W' := (Below.refl _ _).grown hg (Nat.le_refl _) (by simp)
  exact ⟨_, rfl, _, _, _, [], _, [], hW', trodAll_mk1 (shut_bool Try.underlying4 _), (trodAll_cons_mk (Below.trod laidOut (by kernel_rfl) (of_decide_eq_true (by kernel_rfl)) k0 bel lt0) (trodAll_cons_mk (shut_string Try.underlying9 hs1) trodAll_mk0)), rfl, bel.frame _, fun h => by cases h⟩

theorem over : Rows.WordHexesUptoSaid :=
  OpenClaim.holds_of_cond 8 Try.f8 rfl rfl rfl rfl rfl rfl rfl ⟨rfl, rfl, rfl, rfl, rfl⟩ rfl rfl rfl rfl rfl (by kernel_rfl) Try.func8 (by kernel_rfl)
    (of_decide_eq_true (by kernel_rfl)) (by unfold Func.isWrapper; first | (rw [if_pos (by decide +kernel)]; kernel_rfl) | (rw [if_neg (by decide +kernel)]; exact ⟨rfl, rfl⟩))
    (fun os started H enc _ F => lifted os started H enc F)

end wordHexes

theorem wordHexesUpto_holds : Rows.WordHexesUptoSaid := wordHexes.over
#print axioms wordHexesUpto_holds
end Go.Proofs.Ytaglcfcgfofhkaa
