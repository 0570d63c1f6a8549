/-
  For every two strings (of such size as the form itself says of each argument) riddlelaw10.LexFirst returns true and leaves what was there as it was: no condition of ours.
-/
import Derived.Test.YthmfpodibgheiabDoorLexK
import Derived.Test.YthmfpodibgheiabDoorOpen
import Derived.Test.YthmfpodibgheiabDoorHand
import Derived.Test.YthmfpodibgheiabDoorLkL
import Derived.BigQuiet
namespace Go.Proofs.YthmfpodibgheiabDoor
open Go.ChangeShapes Go.WideShapes Go.ChangeAt Go.RowKit
open Go.ChangeMaps (open_string shut_string)
set_option maxRecDepth 100000
namespace lexFirst

theorem sl_cat (a b : ByteArray) : sl (a ++ b) = sl a ++ sl b := by simp [sl]
theorem first_app {s t : List UInt8} (h : s.length + t.length < 65536) : lexV (s ++ [32] ++ t) = match lexV s with
    | .error e => .error e
    | .ok ts => match lexV t with
      | .error e => .error (e.1 + (s.length + 1), e.2)
      | .ok us => .ok (ts.dropLast ++ us.map fun u => { u with pos := u.pos + (s.length + 1) }) := by
  have e1 : lexV s = lexR 0 s := by rw [lexV, if_neg (by omega)]
  have e2 : lexV t = lexR 0 t := by rw [lexV, if_neg (by omega)]
  have e3 : lexV (s ++ [32] ++ t) = lexR 0 (s ++ [32] ++ t) := by rw [lexV, if_neg (by simp only [List.length_append, List.length_singleton]; omega)]
  rw [e1, e2, e3, List.append_assoc, List.singleton_append, lexR_app _ 0 s 32 t (Nat.le_refl _) (by decide)]
  cases lexR 0 s with
  | error e => rfl
  | ok ts =>
    simp only
    rw [show 0 + s.length + 1 = 0 + (s.length + 1) by omega, lexR_shift _ 0 (s.length + 1) t (Nat.le_refl _)]
    cases lexR 0 t with
    | error e => rfl
    | ok us => rfl
theorem lexP_le {s : List UInt8} {p : Nat} {e : Int} (h : lexV s = .error (p, e)) : p ≤ s.length := by
  unfold lexV at h
  split at h
  · cases h; exact Nat.zero_le _
  · have := go _ 0 s (Nat.le_refl _) _ h
    simpa using this
where
  go : ∀ (k p : Nat) (s : List UInt8), s.length ≤ k → ∀ x, lexR p s = .error x → x.1 ≤ p + s.length
    | k, p, [], _, x, h => by rw [lexR_nil] at h; cases h
    | 0, p, c :: r, hk, x, h => by simp at hk
    | k + 1, p, c :: r, hk, x, h => by
      simp only [List.length_cons] at hk
      cases hb : blankB c with
      | true =>
        rw [lexR_blank p r hb] at h
        have := go k (p + 1) r (by omega) x h
        simp only [List.length_cons]
        omega
      | false =>
        cases hx : tokV (c :: r) with
        | error e =>
          rw [lexR_err p hb hx] at h
          cases h
          simp only
          omega
        | ok y =>
          obtain ⟨q, u, n⟩ := y
          rw [lexR_tok p hb hx] at h
          have hl := List.length_pos_iff.2 (tok_ok hx).1
          have hle := (tok_ok hx).2.2.1
          split at h
          · rename_i e h'
            cases h
            have := go k (p + u.length) ((c :: r).drop u.length) (by rw [List.length_drop, List.length_cons]; omega) _ h'
            rw [List.length_drop] at this
            omega
          · cases h

/-- The beginning of a row of tokens. -/
theorem TOwns.front {w : World} {base : Nat} {g n cap : Nat} {xs ys : List Tk} (h : w.ownsRow base 34 4 (.slice (some ⟨g, 0, none⟩) n cap) n (flatT (xs ++ ys))) : CV w (some ⟨g, 0, none⟩) (flatT xs) := by
  obtain ⟨ao, cap', hv, C, -⟩ := cv_of_row h
  simp only [Value.slice.injEq, true_and] at hv
  obtain ⟨rfl, rfl⟩ := hv
  refine ⟨(fun e => by cases e), fun ad had i hi => ?_⟩
  have hi2 : i < (flatT (xs ++ ys)).length := by rw [flatT_append, List.length_append]; omega
  rw [C.2 ad had i hi2]
  congr 1
  simp only [flatT_append]
  exact List.getElem_append_left hi

set_option maxRecDepth 100000 in
set_option maxHeartbeats 8000000 in
theorem walk (s t : ByteArray) (w : World) (hs : s.size ≤ 140737488351232) (ht : t.size ≤ 140737488351232) (T : Tab w) :
    Calls Tryd.prog 3 #[.string s, .string t] w fun e w' => e = .returned (.bool true) ∧ w.grownBy w' none := by
  have HT : Hid (Tab w) := T
  clear T
  have C0 := lex_any s (by omega) w HT.out
  have hw1 : IntKind.i64.wrap ((s.size : Int) + (t.size : Int)) = (s.size : Int) + (t.size : Int) := by rw [IntKind.wrap_i64]; omega
  obtain ⟨p, hp⟩ : ∃ p, lexP (lexV (sl s)) = p := ⟨_, rfl⟩
  obtain ⟨er, her⟩ : ∃ er, lexE (lexV (sl s)) = er := ⟨_, rfl⟩
  obtain ⟨ts, hts⟩ : ∃ ts, lexT (lexV (sl s)) = ts := ⟨_, rfl⟩
  rw [hp, her, hts] at C0
  have HP : Hid (lexP (lexV (sl s)) = p ∧ lexE (lexV (sl s)) = er ∧ lexT (lexV (sl s)) = ts) := ⟨hp, her, hts⟩
  clear hp her hts
  by_cases hbig : 65536 ≤ s.size + t.size
  · have hb : (65536 : Int) ≤ (s.size : Int) + (t.size : Int) := by omega
    go_enter Tryd.func3, Tryd.ntmps3
    go_wp2_with fail
    refine C0.mono ?_
    rintro e w1 ⟨v1, rfl, O1, K1⟩
    clear C0 O1
    go_wp2_with fail
    refine (awake10_any _ (HT.out.grown (by assumption))).mono ?_
    rintro e w2 ⟨rfl, K2⟩
    go_wp2
    go_ret
    exact ⟨rfl, grown_trans K1 K2⟩
  have hb : decide ((65536 : Int) ≤ (s.size : Int) + (t.size : Int)) = false := decide_eq_false (by omega)
  have HB : Hid (s.size + t.size < 65536) := by show s.size + t.size < 65536; omega
  clear hbig
  go_enter Tryd.func3, Tryd.ntmps3
  go_wp2_with fail
  refine C0.mono ?_
  rintro e w1 ⟨v1, rfl, O1, K1⟩
  clear C0
  have hsz : (sl s).length + (sl t).length < 65536 := by rw [sl_len, sl_len]; exact HB.out
  have HLX : Hid (∀ W : World, Tab W → Calls Tryd.prog 4 #[.string (s ++ ⟨#[32]⟩ ++ t)] W fun e w' => ∃ v, e = .returned (.tuple #[v, .int .i64 (lexP (lexV (sl s ++ [32] ++ sl t)) : Int), .int .i64 (lexE (lexV (sl s ++ [32] ++ sl t)))]) ∧ TOwns w' W.heap.size v (lexT (lexV (sl s ++ [32] ++ sl t))) ∧ W.grownBy w' none) := fun W TW => by
    have q := lex_any (s ++ ⟨#[32]⟩ ++ t) (by rw [← sl_len, sl_cat, sl_cat, List.length_append, List.length_append, sl_len, sl_len]; show s.size + 1 + t.size ≤ _; have := HB.out; omega) W TW
    rw [sl_cat, sl_cat] at q
    exact q
  have HLT : Hid (∀ W : World, Tab W → Calls Tryd.prog 4 #[.string t] W fun e w' => ∃ v, e = .returned (.tuple #[v, .int .i64 (lexP (lexV (sl t)) : Int), .int .i64 (lexE (lexV (sl t)))]) ∧ TOwns w' W.heap.size v (lexT (lexV (sl t))) ∧ W.grownBy w' none) := fun W TW => lex_any t (by omega) W TW
  rw [first_app hsz] at HLX
  clear hsz
  obtain ⟨hp, her, hts⟩ := HP.out
  cases hx : lexV (sl s) with
  | error x =>
    rw [hx] at HLX hp her hts
    simp only [lexP, lexE, lexT] at HLX hp her hts
    subst hp her hts
    have hz := lexE_err hx
    clear hx HP HLT
    obtain ⟨xp, xe⟩ := x
    simp only at *
    have hpp : ((xp : Int) == (xp : Int)) = true := by simp
    have hee : (xe == xe) = true := by simp
    clear O1
    go_wp2_with fail
    refine (HLX.out _ (HT.out.grown (by assumption))).mono ?_
    rintro e w2 ⟨v2, rfl, O2, K2⟩
    obtain ⟨a2, k2, rfl, -⟩ := O2.items
    have G2 := grown_trans K1 K2
    rw [show ([] : List Tk).length = 0 from rfl]
    clear O2 K2 HLX K1
    go_wp2_with fail
    refine (awake10_any _ (HT.out.grown (by assumption))).mono ?_
    rintro e w3 ⟨rfl, K3⟩
    go_wp2
    go_ret
    exact ⟨rfl, grown_trans G2 K3⟩
  | ok tt =>
    rw [hx] at HLX hp her hts
    simp only [lexP, lexE, lexT] at HLX hp her hts
    subst hp her hts
    obtain ⟨-, us0, htse, hus0, -⟩ := lexV_toks hx
    have HBU : Hid (us0.length ≤ 65536) := hus0
    clear hus0
    clear hx HP
    have HYB : Hid (∀ yp ye, lexV (sl t) = .error (yp, ye) → yp ≤ 70000) := fun yp ye h => by
      have := lexP_le h
      rw [sl_len] at this
      have := HB.out
      omega
    cases hy : lexV (sl t) with
    | error y =>
      rw [hy] at HLX HLT
      simp only [lexP, lexE, lexT] at HLX HLT
      have hz := lexE_err hy
      obtain ⟨yp, ye⟩ := y
      have HYB2 : Hid (yp ≤ 70000) := HYB.out yp ye hy
      clear hy O1 htse HYB
      simp only at *
      rw [sl_len] at HLX
      have hee : (ye == ye) = true := by simp
      have HYP : Hid (∀ W : World, Tab W → Calls Tryd.prog 4 #[.string t] W fun e w' => ∃ v, e = .returned (.tuple #[v, .int .i64 (yp : Int), .int .i64 ye]) ∧ W.grownBy w' none) := fun W TW => by
        refine (HLT.out W TW).mono ?_
        rintro e w' ⟨v, rfl, -, K⟩
        exact ⟨v, rfl, K⟩
      by_cases hyb : yp ≤ 70000
      · have hw3 : IntKind.i64.wrap ((s.size : Int) + 1) = (s.size : Int) + 1 := by rw [IntKind.wrap_i64]; have := HB.out; omega
        have hw4 : IntKind.i64.wrap ((s.size : Int) + 1 + (yp : Int)) = (s.size : Int) + 1 + (yp : Int) := by rw [IntKind.wrap_i64]; have := HB.out; omega
        have hpp : (((yp + (s.size + 1) : Nat) : Int) == (s.size : Int) + 1 + (yp : Int)) = true := by rw [beq_iff_eq]; omega
        clear hyb HLT
        go_wp2_with fail
        refine (HLX.out _ (HT.out.grown (by assumption))).mono ?_
        rintro e w2 ⟨v2, rfl, O2, K2⟩
        have G2 := grown_trans K1 K2
        clear O2 K2 HLX K1
        go_wp2_with fail
        refine (HYP.out _ (HT.out.grown (by assumption))).mono ?_
        rintro e w3 ⟨v3, rfl, K3⟩
        have G3 := grown_trans G2 K3
        clear K3 HYP G2
        go_wp2_with fail
        refine (awake10_any _ (HT.out.grown (by assumption))).mono ?_
        rintro e w4 ⟨rfl, K4⟩
        go_wp2
        go_ret
        exact ⟨rfl, grown_trans G3 K4⟩
      · exact absurd HYB2.out hyb
    | ok uu =>
      rw [hy] at HLX
      simp only at HLX
      clear HLT HYB
      obtain ⟨-, vs0, huue, -, -⟩ := lexV_toks hy
      have hml : tt.length = us0.length + 1 := by rw [htse]; simp
      have hdl : tt.dropLast = us0 := by rw [htse, List.dropLast_concat]
      rw [hdl] at HLX
      have hul : 1 ≤ (uu.map fun u => ({ u with pos := u.pos + ((sl s).length + 1) } : Tk)).length := by rw [List.length_map, huue]; simp
      generalize (uu.map fun u => ({ u with pos := u.pos + ((sl s).length + 1) } : Tk)) = uv at *
      obtain ⟨g1, cap1, rfl, -⟩ := O1.toks (by omega)
      have O1b : w1.ownsRow w.heap.size 34 4 (.slice (some ⟨g1, 0, none⟩) tt.length cap1) tt.length (flatT (us0 ++ [⟨0, (sl s).length, [], 0⟩])) := by rw [← htse]; exact O1
      have CV1 := TOwns.front O1b
      have hc1 : tt.length ≤ cap1 := by
        obtain ⟨a, c, e, -, h1, -⟩ := O1.items
        simp only [Value.slice.injEq, true_and] at e
        obtain ⟨-, rfl⟩ := e
        assumption
      clear hy hdl htse huue O1 O1b
      obtain ⟨L1, hL1⟩ : ∃ L1, tt.length = L1 := ⟨_, rfl⟩
      rw [hL1] at hc1 hml ⊢
      have HML : Hid (L1 = us0.length + 1) := hml
      clear hL1 hml
      go_wp2_with fail
      refine (HLX.out _ (HT.out.grown (by assumption))).mono ?_
      rintro e w2 ⟨v2, rfl, O2, K2⟩
      have CV1' := CV1.keptNone K2
      obtain ⟨g2, cap2, rfl, -⟩ := O2.toks (by rw [List.length_append]; omega)
      have CV2 := TOwns.front O2
      have hc2 : (us0 ++ uv).length ≤ cap2 := by
        obtain ⟨a, c, e, -, h1, -⟩ := O2.items
        simp only [Value.slice.injEq, true_and] at e
        obtain ⟨-, rfl⟩ := e
        assumption
      have G2 := grown_trans K1 K2
      have HSM : Hid (∀ W : World, w2.grownBy W none → Calls Tryd.prog 6 #[.slice (some ⟨g2, 0, none⟩) us0.length cap2, .slice (some ⟨g1, 0, none⟩) us0.length cap1] W fun e w' => e = .returned (.bool true) ∧ W.grownBy w' none) := fun W KW => by
        refine (tsame_any (some ⟨g2, 0, none⟩) (some ⟨g1, 0, none⟩) cap2 cap1 us0 W (CV2.keptNone KW) (CV1'.keptNone KW) (by rw [List.length_append] at hc2; have := HBU.out; omega)).mono ?_
        rintro e w' ⟨rfl, m, rfl⟩
        exact ⟨rfl, grown_drewN W m none⟩
      have hLL : (us0 ++ uv).length = us0.length + uv.length := List.length_append ..
      obtain ⟨L2, hL2⟩ : ∃ L2, (us0 ++ uv).length = L2 := ⟨_, rfl⟩
      have hml := HML.out
      obtain ⟨k, hk⟩ : ∃ k, us0.length = k := ⟨_, rfl⟩
      have hkb := HBU.out
      rw [hL2] at hc2 hLL ⊢
      rw [hk] at hml hLL HSM hkb
      have hw : IntKind.i64.wrap ((L1 : Int) - 1) = (k : Int) := by rw [IntKind.wrap_i64]; omega
      have y1 : (0 : Int) < (L1 : Int) := by omega
      have y1n : 0 < L1 := by omega
      have y2 : (L1 : Int) ≤ (L2 : Int) := by omega
      have y3 : (0 : Int) ≤ (k : Int) := by omega
      have y4 : (k : Int) ≤ (cap2 : Int) := by omega
      have y5 : (k : Int) ≤ (cap1 : Int) := by omega
      clear CV1 CV1' CV2 O2 K2 HLX K1 hL2 hk HML hml hLL
      go_upto_region 10 with fail
      refine wp_region_held_drew (S := fun W => w2.grownBy W none) (by kernel_rfl) (grown_drewN w2 1 none) (fun hHeld => ?_)
      refine wpAnyH_take (i := 0) (v := .slice (some ⟨g1, 0, none⟩) L1 cap1) rfl (by kernel_rfl) (by kernel_rfl) (by kernel_rfl) (fun _ _ _ h => h) (Or.inl ⟨by rfl, fun W hW => ?_⟩) hHeld ?_
      · clear hW
        go_simp
      try simp only [Act.put, List.getElem_toArray, List.getElem_cons_zero, List.setIfInBounds_toArray, List.set_cons_zero, List.set_cons_succ]
      refine wpAnyH_take (i := 1) (v := .int .i64 (L1 : Int)) rfl (by kernel_rfl) (by kernel_rfl) (by kernel_rfl) (fun _ _ _ h => h) (Or.inl ⟨by rfl, fun W hW => ?_⟩) hHeld ?_
      · clear hW
        go_simp
      try simp only [Act.put, List.getElem_toArray, List.getElem_cons_zero, List.getElem_cons_succ, List.setIfInBounds_toArray, List.set_cons_zero, List.set_cons_succ]
      refine wpAnyH_take (i := 2) (v := .bool true) rfl (by kernel_rfl) (by kernel_rfl) (by kernel_rfl) (fun _ _ _ h => h) (Or.inl ⟨by rfl, fun W hW => ?_⟩) hHeld ?_
      · clear hW
        go_simp
      try simp only [Act.put, List.getElem_toArray, List.getElem_cons_zero, List.getElem_cons_succ, List.setIfInBounds_toArray, List.set_cons_zero, List.set_cons_succ]
      refine wpAnyH_take (i := 3) (v := .bool true) rfl (by kernel_rfl) (by kernel_rfl) (by kernel_rfl) (fun _ _ _ h => h) (Or.inl ⟨by rfl, fun W hW => ?_⟩) hHeld ?_
      · clear hW
        go_simp
      try simp only [Act.put, List.getElem_toArray, List.getElem_cons_zero, List.getElem_cons_succ, List.setIfInBounds_toArray, List.set_cons_zero, List.set_cons_succ]
      refine wpAnyH_take (i := 4) (v := .slice (some ⟨g2, 0, none⟩) L2 cap2) rfl (by kernel_rfl) (by kernel_rfl) (by kernel_rfl) (fun _ _ _ h => h) (Or.inl ⟨by rfl, fun W hW => ?_⟩) hHeld ?_
      · clear hW
        go_simp
      try simp only [Act.put, List.getElem_toArray, List.getElem_cons_zero, List.getElem_cons_succ, List.setIfInBounds_toArray, List.set_cons_zero, List.set_cons_succ]
      refine wpAnyH_take (i := 5) (v := .int .i64 (L2 : Int)) rfl (by kernel_rfl) (by kernel_rfl) (by kernel_rfl) (fun _ _ _ h => h) (Or.inl ⟨by rfl, fun W hW => ?_⟩) hHeld ?_
      · clear hW
        go_simp
      try simp only [Act.put, List.getElem_toArray, List.getElem_cons_zero, List.getElem_cons_succ, List.setIfInBounds_toArray, List.set_cons_zero, List.set_cons_succ]
      refine wpAnyH_take (i := 6) (v := .slice (some ⟨g1, 0, none⟩) L1 cap1) rfl (by kernel_rfl) (by kernel_rfl) (by kernel_rfl) (fun _ _ _ h => h) (Or.inl ⟨by rfl, fun W hW => ?_⟩) hHeld ?_
      · clear hW
        go_simp
      try simp only [Act.put, List.getElem_toArray, List.getElem_cons_zero, List.getElem_cons_succ, List.setIfInBounds_toArray, List.set_cons_zero, List.set_cons_succ]
      refine wpAnyH_take (i := 7) (v := .int .i64 (L1 : Int)) rfl (by kernel_rfl) (by kernel_rfl) (by kernel_rfl) (fun _ _ _ h => h) (Or.inl ⟨by rfl, fun W hW => ?_⟩) hHeld ?_
      · clear hW
        go_simp
      try simp only [Act.put, List.getElem_toArray, List.getElem_cons_zero, List.getElem_cons_succ, List.setIfInBounds_toArray, List.set_cons_zero, List.set_cons_succ]
      refine wpAnyH_take (i := 8) (v := .bool true) rfl (by kernel_rfl) (by kernel_rfl) (by kernel_rfl) (fun _ _ _ h => h) (Or.inl ⟨by rfl, fun W hW => ?_⟩) hHeld ?_
      · clear hW
        go_simp
      try simp only [Act.put, List.getElem_toArray, List.getElem_cons_zero, List.getElem_cons_succ, List.setIfInBounds_toArray, List.set_cons_zero, List.set_cons_succ]
      refine wpAnyH_take (i := 9) (v := .bool true) rfl (by kernel_rfl) (by kernel_rfl) (by kernel_rfl) (fun _ _ _ h => h) (Or.inl ⟨by rfl, fun W hW => ?_⟩) hHeld ?_
      · clear hW
        go_simp
      try simp only [Act.put, List.getElem_toArray, List.getElem_cons_zero, List.getElem_cons_succ, List.setIfInBounds_toArray, List.set_cons_zero, List.set_cons_succ]
      refine wpAnyH_take (i := 10) (v := .bool true) rfl (by kernel_rfl) (by kernel_rfl) (by kernel_rfl) (fun _ _ _ h => h) (Or.inl ⟨by rfl, fun W hW => ?_⟩) hHeld ?_
      · clear hW
        go_simp
      try simp only [Act.put, List.getElem_toArray, List.getElem_cons_zero, List.getElem_cons_succ, List.setIfInBounds_toArray, List.set_cons_zero, List.set_cons_succ]
      refine wpAnyH_take (i := 11) (v := .slice (some ⟨g2, 0, none⟩) L2 cap2) rfl (by kernel_rfl) (by kernel_rfl) (by kernel_rfl) (fun _ _ _ h => h) (Or.inl ⟨by rfl, fun W hW => ?_⟩) hHeld ?_
      · clear hW
        go_simp
      try simp only [Act.put, List.getElem_toArray, List.getElem_cons_zero, List.getElem_cons_succ, List.setIfInBounds_toArray, List.set_cons_zero, List.set_cons_succ]
      refine wpAnyH_take (i := 12) (v := .slice (some ⟨g1, 0, none⟩) L1 cap1) rfl (by kernel_rfl) (by kernel_rfl) (by kernel_rfl) (fun _ _ _ h => h) (Or.inl ⟨by rfl, fun W hW => ?_⟩) hHeld ?_
      · clear hW
        go_simp
      try simp only [Act.put, List.getElem_toArray, List.getElem_cons_zero, List.getElem_cons_succ, List.setIfInBounds_toArray, List.set_cons_zero, List.set_cons_succ]
      refine wpAnyH_take (i := 13) (v := .int .i64 (L1 : Int)) rfl (by kernel_rfl) (by kernel_rfl) (by kernel_rfl) (fun _ _ _ h => h) (Or.inl ⟨by rfl, fun W hW => ?_⟩) hHeld ?_
      · clear hW
        go_simp
      try simp only [Act.put, List.getElem_toArray, List.getElem_cons_zero, List.getElem_cons_succ, List.setIfInBounds_toArray, List.set_cons_zero, List.set_cons_succ]
      refine wpAnyH_take (i := 14) (v := .int .i64 (k : Int)) rfl (by kernel_rfl) (by kernel_rfl) (by kernel_rfl) (fun _ _ _ h => h) (Or.inl ⟨by rfl, fun W hW => ?_⟩) hHeld ?_
      · clear hW
        go_simp
      try simp only [Act.put, List.getElem_toArray, List.getElem_cons_zero, List.getElem_cons_succ, List.setIfInBounds_toArray, List.set_cons_zero, List.set_cons_succ]
      refine wpAnyH_take (i := 15) (v := .slice (some ⟨g2, 0, none⟩) k cap2) rfl (by kernel_rfl) (by kernel_rfl) (by kernel_rfl) (fun _ _ _ h => h) (Or.inl ⟨by rfl, fun W hW => ?_⟩) hHeld ?_
      · clear hW
        go_simp
      try simp only [Act.put, List.getElem_toArray, List.getElem_cons_zero, List.getElem_cons_succ, List.setIfInBounds_toArray, List.set_cons_zero, List.set_cons_succ]
      refine wpAnyH_take (i := 16) (v := .slice (some ⟨g1, 0, none⟩) L1 cap1) rfl (by kernel_rfl) (by kernel_rfl) (by kernel_rfl) (fun _ _ _ h => h) (Or.inl ⟨by rfl, fun W hW => ?_⟩) hHeld ?_
      · clear hW
        go_simp
      try simp only [Act.put, List.getElem_toArray, List.getElem_cons_zero, List.getElem_cons_succ, List.setIfInBounds_toArray, List.set_cons_zero, List.set_cons_succ]
      refine wpAnyH_take (i := 17) (v := .slice (some ⟨g1, 0, none⟩) L1 cap1) rfl (by kernel_rfl) (by kernel_rfl) (by kernel_rfl) (fun _ _ _ h => h) (Or.inl ⟨by rfl, fun W hW => ?_⟩) hHeld ?_
      · clear hW
        go_simp
      try simp only [Act.put, List.getElem_toArray, List.getElem_cons_zero, List.getElem_cons_succ, List.setIfInBounds_toArray, List.set_cons_zero, List.set_cons_succ]
      refine wpAnyH_take (i := 18) (v := .int .i64 (L1 : Int)) rfl (by kernel_rfl) (by kernel_rfl) (by kernel_rfl) (fun _ _ _ h => h) (Or.inl ⟨by rfl, fun W hW => ?_⟩) hHeld ?_
      · clear hW
        go_simp
      try simp only [Act.put, List.getElem_toArray, List.getElem_cons_zero, List.getElem_cons_succ, List.setIfInBounds_toArray, List.set_cons_zero, List.set_cons_succ]
      refine wpAnyH_take (i := 19) (v := .int .i64 (k : Int)) rfl (by kernel_rfl) (by kernel_rfl) (by kernel_rfl) (fun _ _ _ h => h) (Or.inl ⟨by rfl, fun W hW => ?_⟩) hHeld ?_
      · clear hW
        go_simp
      try simp only [Act.put, List.getElem_toArray, List.getElem_cons_zero, List.getElem_cons_succ, List.setIfInBounds_toArray, List.set_cons_zero, List.set_cons_succ]
      refine wpAnyH_take (i := 20) (v := .slice (some ⟨g1, 0, none⟩) k cap1) rfl (by kernel_rfl) (by kernel_rfl) (by kernel_rfl) (fun _ _ _ h => h) (Or.inl ⟨by rfl, fun W hW => ?_⟩) hHeld ?_
      · clear hW
        go_simp
      try simp only [Act.put, List.getElem_toArray, List.getElem_cons_zero, List.getElem_cons_succ, List.setIfInBounds_toArray, List.set_cons_zero, List.set_cons_succ]
      refine wpAnyH_ready (rs := [21]) (by kernel_rfl) (by simp) (AllReadyH.cons rfl (fun K hK => ?_) AllReadyH.nil)
      go_simp
      refine (HSM.out _ hHeld).mono ?_
      rintro e v3 ⟨rfl, KS⟩
      go_wp2_with fail
      refine hK.out _ _ (grown_trans hHeld KS) (fun hHeld => ?_)
      clear hK K KS
      try simp only [Act.put, List.getElem_toArray, List.getElem_cons_zero, List.getElem_cons_succ, List.setIfInBounds_toArray, List.set_cons_zero, List.set_cons_succ]
      refine wpAnyH_take (i := 22) (v := .bool true) rfl (by kernel_rfl) (by kernel_rfl) (by kernel_rfl) (fun _ _ _ h => h) (Or.inl ⟨by rfl, fun W hW => ?_⟩) hHeld ?_
      · clear hW
        go_simp
      try simp only [Act.put, List.getElem_toArray, List.getElem_cons_zero, List.getElem_cons_succ, List.setIfInBounds_toArray, List.set_cons_zero, List.set_cons_succ]
      refine wpAnyH_take (i := 23) (v := .bool true) rfl (by kernel_rfl) (by kernel_rfl) (by kernel_rfl) (fun _ _ _ h => h) (Or.inl ⟨by rfl, fun W hW => ?_⟩) hHeld ?_
      · clear hW
        go_simp
      try simp only [Act.put, List.getElem_toArray, List.getElem_cons_zero, List.getElem_cons_succ, List.setIfInBounds_toArray, List.set_cons_zero, List.set_cons_succ]
      refine wpAnyH_ready (rs := [24]) (by kernel_rfl) (by simp) (AllReadyH.cons rfl (fun K hK => ?_) AllReadyH.nil)
      go_simp
      refine (awake10_any _ (HT.out.grown (grown_trans G2 hHeld))).mono ?_
      rintro e v4 ⟨rfl, KS⟩
      go_wp2_with fail
      refine hK.out _ _ (grown_trans hHeld KS) (fun hHeld => ?_)
      clear hK K KS
      try simp only [Act.put, List.getElem_toArray, List.getElem_cons_zero, List.getElem_cons_succ, List.setIfInBounds_toArray, List.set_cons_zero, List.set_cons_succ]
      refine wpAnyH_take (i := 25) (v := .bool true) rfl (by kernel_rfl) (by kernel_rfl) (by kernel_rfl) (fun _ _ _ h => h) (Or.inl ⟨by rfl, fun W hW => ?_⟩) hHeld ?_
      · clear hW
        go_simp
      try simp only [Act.put, List.getElem_toArray, List.getElem_cons_zero, List.getElem_cons_succ, List.setIfInBounds_toArray, List.set_cons_zero, List.set_cons_succ]
      refine wpAnyH_take (i := 26) (v := .bool true) rfl (by kernel_rfl) (by kernel_rfl) (by kernel_rfl) (fun _ _ _ h => h) (Or.inl ⟨by rfl, fun W hW => ?_⟩) hHeld ?_
      · clear hW
        go_simp
      try simp only [Act.put, List.getElem_toArray, List.getElem_cons_zero, List.getElem_cons_succ, List.setIfInBounds_toArray, List.set_cons_zero, List.set_cons_succ]
      refine wpAnyH_done (by kernel_rfl) ?_ _
      have G9 := grown_trans G2 hHeld
      clear hHeld
      go_wp2
      go_ret
      exact ⟨rfl, G9⟩
      

set_option maxRecDepth 100000 in
theorem lifted (os : Os) (started : os.Started) (H : Type) (enc : TypeId × Value → H) (F : Stop.Interp) :
    ReturnsInHanded {} Tryd.checked os 3 .any ((OpenSpec.ofChange Rows.lexFirstSpec).preRow enc Tryd.prog Tryd.f3 Rows.lexFirstRow.domain false Rows.lexFirstRow.laid) (((OpenSpec.ofChange Rows.lexFirstSpec).at F).post enc Tryd.prog Tryd.f3 false true false false) := by
  have hx : DataW.whole enc Tryd.prog ((laidWorld os).forCall (fun _ _ => 0) ⟨#[], #[.string .empty, .string .empty], []⟩).memory Tryd.f3.params.toList Rows.lexFirstSpec.vars false (#[.string .empty, .string .empty] : Array Value).toList 8 = some ([.lit (.string []), .lit (.string [])], [], []) := by kernel_rfl
  refine returnsInHanded_of_row (C := Tryd.checked) (s := (OpenSpec.ofChange Rows.lexFirstSpec)) own started (by kernel_rfl) Tryd.func3
    (witness_row_atRef (enc := enc) (C := Tryd.checked) false (laidWorld os) #[.string .empty, .string .empty] (World.laidAll_os _ _ _) (by kernel_rfl) (by kernel_rfl) (by kernel_rfl)
      (OpenSpec.preRow_of_cond 8 hx (by kernel_rfl) (fun k hk => by cases hk) (by kernel_rfl) (laid_met os _))) ?_
  intro W base args ds gs before hval0 hW hcnd hcond hsz0 hL hsh _
  have hsz : (DataW.weightsEach Tryd.prog (Tryd.f3.params.toList ++ Rows.lexFirstSpec.plain.varTypes Tryd.prog) (ds ++ gs)).all (· ≤ reachBytes) = true := hsz0
  have T : Tab W := laid_tab hL hsh
  have hval : ∀ (j : Nat) t v, Tryd.f3.params[j]? = some t → args[j]? = some v → Value.okWide Tryd.prog W .any base t v := hval0
  have hW' := hW
  obtain ⟨p, q, hA0, hV, rfl, hfz, hnd⟩ := hW
  have hA : DataW.TrodAll enc Tryd.prog W 0 (fun _ => true) true Tryd.f3.params.toList args.toList ds p := hA0
  rw [Tryd.params3] at hA hval hsz
  obtain ⟨v0, vs0, d0, ds0, p0, q0, hargs, rfl, rfl, h0, r0⟩ := trodAll_cons hA
  obtain ⟨v1, vs1, d1, ds1, p1, q1, rfl, rfl, rfl, h1, r1⟩ := trodAll_cons r0
  obtain ⟨rfl, rfl, rfl⟩ := trodAll_nil r1
  obtain rfl : args = #[v0, v1] := by cases args; simp_all
  obtain ⟨rfl, rfl⟩ := trodVars_none hV
  obtain ⟨s0, rfl, rfl, rfl, hs0⟩ := open_string Tryd.underlying9 (hval 0 9 v0 rfl rfl) h0
  obtain ⟨s1, rfl, rfl, rfl, hs1⟩ := open_string Tryd.underlying9 (hval 1 9 v1 rfl rfl) h1
  have hlen0 : s0.size ≤ 140737488351232 := by
    have h := sized_string hsz (j := 0) (t := 9) rfl rfl
    unfold reachBytes at h
    have e : s0.data.toList.length = s0.size := by rw [Array.length_toList]; rfl
    omega
  have hlen1 : s1.size ≤ 140737488351232 := by
    have h := sized_string hsz (j := 1) (t := 9) rfl rfl
    unfold reachBytes at h
    have e : s1.data.toList.length = s1.size := by rw [Array.length_toList]; rfl
    omega
  clear hA0 hval0
  refine (walk s0 s1 W hlen0 hlen1 T).mono fun e W' ⟨he, hg⟩ => ?_
  subst he
  have bel : Below W.heap.size W W' := (Below.refl _ _).grown hg (Nat.le_refl _) (by simp)
  exact ⟨_, rfl, _, _, _, [], _, [], hW', trodAll_mk1 (shut_bool Tryd.underlying4 _), (trodAll_cons_mk (shut_string Tryd.underlying9 hs0) (trodAll_cons_mk (shut_string Tryd.underlying9 hs1) trodAll_mk0)), rfl, bel.frame _, fun h => by cases h⟩

theorem over : Rows.LexFirstSaid :=
  OpenClaim.holds_of_cond 3 Tryd.f3 rfl rfl rfl rfl rfl rfl rfl ⟨rfl, rfl, rfl, rfl, rfl⟩ rfl rfl rfl rfl rfl (by kernel_rfl) Tryd.func3 (by kernel_rfl)
    (of_decide_eq_true (by kernel_rfl)) (by unfold Func.isWrapper; first | (rw [if_pos (by decide +kernel)]; kernel_rfl) | (rw [if_neg (by decide +kernel)]; exact ⟨rfl, rfl⟩))
    (fun os started H enc _ F => by rw [OpenClaim.pre_eq_preRow]; exact lifted os started H enc F)

theorem plain (f : FuncId) (fn : Func) (hf : Tryd.pinned.checked.prog.funcNamed "riddle/riddlelaw10.LexFirst" = some f) (hfn : Tryd.pinned.checked.prog.funcs[f]? = some fn) :
    true = Tryd.pinned.checked.prog.looks [] ∧ ∀ (j : Nat) t, fn.params[j]? = some t → Tryd.pinned.checked.prog.wantsStandIn t = false := by
  obtain rfl : f = 3 := Option.some.inj ((show Tryd.prog.funcNamed "riddle/riddlelaw10.LexFirst" = some 3 by kernel_rfl).symm.trans hf) |>.symm
  obtain rfl : fn = Tryd.f3 := (Option.some.inj (Tryd.func3.symm.trans hfn)).symm
  refine ⟨by kernel_rfl, fun j t ht => ?_⟩
  rw [Tryd.params3] at ht
  have ht2 := Array.mem_of_getElem? ht
  simp only [List.mem_toArray, List.mem_cons, List.not_mem_nil, or_false] at ht2
  rcases ht2 with rfl | rfl
  · exact (show Tryd.prog.wantsStandIn 9 = false by kernel_rfl)
  · exact (show Tryd.prog.wantsStandIn 9 = false by kernel_rfl)

theorem card : Rows.LexFirstCardSaid :=
  Claim7.holds_tied_plain_at .later [] _ _ _ _ over (fun _ h => by cases h) (by kernel_rfl) (fun _ h => by cases h) lexFirst_row_tie rfl ⟨rfl, rfl⟩ (by kernel_rfl) rfl plain (by kernel_rfl)

end lexFirst

theorem lexFirst_holds : Rows.LexFirstCardSaid := lexFirst.card
#print axioms lexFirst_holds

end Go.Proofs.YthmfpodibgheiabDoor
