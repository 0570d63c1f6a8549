/-
  For every string (of such size as the form itself says of each argument) and every byte riddlelaw10.LexBytes returns true and leaves what was there as it was: no condition of ours.
-/
import Derived.Test.YthmfpodibgheiaaDoorLexK
import Derived.Test.YthmfpodibgheiaaDoorOpen
import Derived.Test.YthmfpodibgheiaaDoorLkL
import Derived.BigQuiet
namespace Go.Proofs.YthmfpodibgheiaaDoor
open Go.ChangeShapes Go.WideShapes Go.ChangeAt Go.RowKit
open Go.ChangeMaps (open_string shut_string)
set_option maxRecDepth 100000
namespace lexBytes

def goodB (c : UInt8) : Bool := blankB c || isDig c || letB c || decide (c.toNat = 46) || onesL.contains c
theorem sl_cat (a b : ByteArray) : sl (a ++ b) = sl a ++ sl b := by simp [sl]
theorem tok_bad {c : UInt8} (h1 : isDig c = false) (h2 : letB c = false) (h3 : onesL.contains c = false) : tokV [c] = .error 101 := by
  have hs : signV [c] = [] := by
    unfold signV
    rw [if_neg (by simp [twosL]), if_neg (by show ¬ onesL.contains c = true; rw [h3]; simp)]
  have hc : ¬ 2 ≤ ([c].takeWhile sixB).count 58 := by
    have h1 := List.count_le_length (a := (58 : UInt8)) (l := [c].takeWhile sixB)
    have h2 := takeWhile_len sixB [c]
    simp only [List.length_singleton] at h2
    omega
  unfold tokV
  rw [if_neg hc, if_neg (by show ¬ isDig c = true; rw [h1]; simp), if_neg (by show ¬ letB c = true; rw [h2]; simp), if_pos hs]
theorem lex_bad {s : List UInt8} {ts : List Tk} {c : UInt8} (h : lexV s = .ok ts) (hl : s.length ≤ 65534) (hg : goodB c = false ∨ c.toNat = 46) : lexV (s ++ [32] ++ [c]) = .error (s.length + 1, 101) := by
  have hs : lexR 0 s = .ok ts := by
    unfold lexV at h
    rw [if_neg (by omega)] at h
    exact h
  obtain ⟨h0, h1, h2, h3⟩ : blankB c = false ∧ isDig c = false ∧ letB c = false ∧ onesL.contains c = false := by
    rcases hg with hg | hg
    · unfold goodB at hg
      simp only [Bool.or_eq_false_iff] at hg
      exact ⟨hg.1.1.1.1, hg.1.1.1.2, hg.1.1.2, hg.2⟩
    · have hc : c = 46 := UInt8.toNat_inj.1 hg
      subst hc
      decide
  unfold lexV
  rw [if_neg (by simp; omega), List.append_assoc, List.singleton_append, lexR_app _ 0 s 32 [c] (Nat.le_refl _) (by decide), hs]
  simp only
  rw [lexR_err _ h0 (tok_bad h1 h2 h3), Nat.zero_add]

set_option maxRecDepth 100000 in
set_option maxHeartbeats 8000000 in
theorem walk (s : ByteArray) (n : Nat) (w : World) (hs : s.size ≤ 140737488351232) (hn : n ≤ 255) (T : Tab w) :
    Calls Tryd.prog 8 #[.string s, .int .u8 (n : Int)] w fun e w' => e = .returned (.bool true) ∧ w.grownBy w' none := by
  have HT : Hid (Tab w) := T
  clear T
  obtain ⟨c, rfl⟩ : ∃ c : UInt8, n = c.toNat := ⟨UInt8.ofNat n, by simp; omega⟩
  have C0 := lex_any s (by omega) w HT.out
  cases hx : lexV (sl s) with
  | error x =>
    rw [hx] at C0
    simp only [lexP, lexE, lexT] at C0
    have hz := lexE_err hx
    clear hx
    generalize x.2 = er at *
    go_enter Tryd.func8, Tryd.ntmps8
    go_wp2_with fail
    refine C0.mono ?_
    rintro e w1 ⟨v1, rfl, O1, K1⟩
    clear C0 O1
    go_wp2_with fail
    refine (awake10_any _ (HT.out.grown (by assumption))).mono ?_
    rintro e w2 ⟨rfl, K2⟩
    go_wp2
    go_ret
    exact ⟨rfl, grown_trans K1 K2⟩
  | ok ts =>
    rw [hx] at C0
    simp only [lexP, lexE, lexT] at C0
    by_cases hbig : 65534 < s.size
    · have hb : (65534 : Int) < (s.size : Int) := by omega
      clear hx
      go_enter Tryd.func8, Tryd.ntmps8
      go_wp2_with fail
      refine C0.mono ?_
      rintro e w1 ⟨v1, rfl, O1, K1⟩
      clear C0 O1
      go_wp2_with fail
      refine (awake10_any _ (HT.out.grown (by assumption))).mono ?_
      rintro e w2 ⟨rfl, K2⟩
      go_wp2
      go_ret
      exact ⟨rfl, grown_trans K1 K2⟩
    have hb : ¬ (65534 : Int) < (s.size : Int) := by omega
    obtain ⟨-, us, htse, -, -⟩ := lexV_toks hx
    have hts : 0 < ts.length := by rw [htse]; simp
    have HBAD : Hid (goodB c = false ∨ c.toNat = 46 → lexV (sl s ++ [32] ++ [c]) = .error (s.size + 1, 101)) := fun hg => by
      have := lex_bad hx (by rw [sl_len]; omega) hg
      rw [sl_len] at this
      exact this
    have HLX : Hid (∀ W : World, Tab W → Calls Tryd.prog 10 #[.string (s ++ ⟨#[32]⟩ ++ ⟨#[c]⟩)] W fun e w' => ∃ v, e = .returned (.tuple #[v, .int .i64 (lexP (lexV (sl s ++ [32] ++ [c])) : Int), .int .i64 (lexE (lexV (sl s ++ [32] ++ [c])))]) ∧ TOwns w' W.heap.size v (lexT (lexV (sl s ++ [32] ++ [c]))) ∧ W.grownBy w' none) := fun W TW => by
      have q := lex_any (s ++ ⟨#[32]⟩ ++ ⟨#[c]⟩) (by rw [← sl_len, sl_cat, sl_cat, List.length_append, List.length_append, sl_len]; show s.size + 1 + 1 ≤ _; omega) W TW
      rw [sl_cat, sl_cat] at q
      exact q
    clear hx htse
    go_enter Tryd.func8, Tryd.ntmps8
    go_wp2_with fail
    refine C0.mono ?_
    rintro e w1 ⟨v1, rfl, O1, K1⟩
    clear C0
    obtain ⟨a1, k1, rfl, -⟩ := O1.items
    clear O1
    go_upto_region 4 with fail
    go_cut [8] from 26 to 55 (fun t wx => t = .bool (goodB c) ∧ w1.grownBy wx none)
    case first =>
      have CB := refblank_any c w1
      cases hbl : blankB c with
      | true =>
        rw [hbl] at CB
        have hg : goodB c = true := by rw [goodB, hbl]; rfl
        have HG : Hid (goodB c = true) := hg
        clear hg
        go_wp2_with fail
        refine CB.mono ?_
        rintro e w2 ⟨rfl, rfl⟩
        clear CB
        go_wp2
        go_meet
        exact ⟨by rw [HG.out], World.grownBy.refl _ _⟩
      | false =>
        rw [hbl] at CB
        by_cases hdd : 48 ≤ c.toNat ∧ c.toNat ≤ 57
        · have hdg : isDig c = true := by unfold isDig; rw [decide_eq_true hdd.1, decide_eq_true hdd.2]; rfl
          have HG : Hid (goodB c = true) := by show goodB c = true; unfold goodB; rw [hdg]; simp
          have e1 : (48 : Int) ≤ (c.toNat : Int) := by omega
          have e2 : (c.toNat : Int) ≤ 57 := by omega
          go_wp2_with fail
          refine CB.mono ?_
          rintro e w2 ⟨rfl, rfl⟩
          clear CB
          go_wp2
          go_meet
          exact ⟨by rw [HG.out], World.grownBy.refl _ _⟩
        have hdg : isDig c = false := by
          unfold isDig
          rw [← Bool.decide_and]
          exact decide_eq_false hdd
        by_cases hll : 97 ≤ c.toNat ∧ c.toNat ≤ 122
        · have hlt : letB c = true := by unfold letB; rw [decide_eq_true hll.1, decide_eq_true hll.2]; rfl
          have HG : Hid (goodB c = true) := by show goodB c = true; unfold goodB; rw [hlt]; simp
          have e1 : (48 : Int) ≤ (c.toNat : Int) := by omega
          have e2 : ¬ (c.toNat : Int) ≤ 57 := by omega
          have e3 : (97 : Int) ≤ (c.toNat : Int) := by omega
          have e4 : (c.toNat : Int) ≤ 122 := by omega
          go_wp2_with fail
          refine CB.mono ?_
          rintro e w2 ⟨rfl, rfl⟩
          clear CB
          go_wp2
          go_meet
          exact ⟨by rw [HG.out], World.grownBy.refl _ _⟩
        have hlt : letB c = false := by
          unfold letB
          rw [← Bool.decide_and]
          exact decide_eq_false hll
        by_cases h46 : c.toNat = 46
        · have HG : Hid (goodB c = true) := by show goodB c = true; unfold goodB; rw [decide_eq_true h46]; simp
          have e1 : ¬ (48 : Int) ≤ (c.toNat : Int) := by omega
          have e3 : ¬ (97 : Int) ≤ (c.toNat : Int) := by omega
          have e5 : ((c.toNat : Int) == 46) = true := by rw [beq_iff_eq]; omega
          clear h46
          go_wp2_with fail
          refine CB.mono ?_
          rintro e w2 ⟨rfl, rfl⟩
          clear CB
          go_wp2
          go_meet
          exact ⟨by rw [HG.out], World.grownBy.refl _ _⟩
        have e5 : ((c.toNat : Int) == 46) = false := by rw [beq_eq_false_iff_ne]; omega
        by_cases hA : c.toNat < 48
        · have e1 : ¬ (48 : Int) ≤ (c.toNat : Int) := by omega
          have e3 : ¬ (97 : Int) ≤ (c.toNat : Int) := by omega
          have KA := World.grownBy_alloc w1 (.cells #[.int .u8 (c.toNat : Int)] 5) none
          have hcv := run_str1 (P := Tryd.prog) (w := w1) c 34 9 Tryd.underlying34 Tryd.underlying5 Tryd.underlying9 (c.toNat : Int) rfl
          cases ho : onesL.contains c with
          | true =>
            have CS : Hid (∀ W : World, Calls Tryd.prog 17 #[str [c], .int .i64 0] W fun e w' => e = .returned (str [c]) ∧ W = w') := fun W => by
              have q := refsign_any ⟨#[c]⟩ 0 (by show 0 < 1; omega) (by show 1 ≤ 140737488355328; omega) W
              rw [show sl ⟨#[c]⟩ = [c] from rfl, List.drop_zero, sign_one [] (by simp [twosL]), show oneV c = [c] by rw [oneV, if_pos ho]] at q
              exact q
            have HG : Hid (goodB c = true) := by show goodB c = true; unfold goodB; rw [ho]; simp
            have hsz : ((⟨#[c]⟩ : ByteArray).size : Int) = 1 := rfl
            go_wp2_with fail
            refine CB.mono ?_
            rintro e w2 ⟨rfl, rfl⟩
            clear CB
            go_wp2_with fail
            refine (CS.out _).mono ?_
            rintro e w2 ⟨rfl, rfl⟩
            clear CS hcv
            go_wp2
            go_meet
            exact ⟨by rw [HG.out]; first | done | (congr 1; simp; omega), KA⟩
          | false =>
            have CS : Hid (∀ W : World, Calls Tryd.prog 17 #[str [c], .int .i64 0] W fun e w' => e = .returned (str []) ∧ W = w') := fun W => by
              have q := refsign_any ⟨#[c]⟩ 0 (by show 0 < 1; omega) (by show 1 ≤ 140737488355328; omega) W
              rw [show sl ⟨#[c]⟩ = [c] from rfl, List.drop_zero, sign_one [] (by simp [twosL]), show oneV c = [] by rw [oneV, if_neg (by rw [ho]; simp)]] at q
              exact q
            have HG : Hid (goodB c = false) := by show goodB c = false; unfold goodB; rw [ho, hbl, hdg, hlt, decide_eq_false h46]; rfl
            go_wp2_with fail
            refine CB.mono ?_
            rintro e w2 ⟨rfl, rfl⟩
            clear CB
            go_wp2_with fail
            refine (CS.out _).mono ?_
            rintro e w2 ⟨rfl, rfl⟩
            clear CS hcv
            go_wp2
            go_meet
            exact ⟨by rw [HG.out]; first | done | (congr 1; simp; omega), KA⟩
        have e1 : (48 : Int) ≤ (c.toNat : Int) := by omega
        have e2 : ¬ (c.toNat : Int) ≤ 57 := by omega
        by_cases hB : c.toNat < 97
        · have e3 : ¬ (97 : Int) ≤ (c.toNat : Int) := by omega
          have KA := World.grownBy_alloc w1 (.cells #[.int .u8 (c.toNat : Int)] 5) none
          have hcv := run_str1 (P := Tryd.prog) (w := w1) c 34 9 Tryd.underlying34 Tryd.underlying5 Tryd.underlying9 (c.toNat : Int) rfl
          cases ho : onesL.contains c with
          | true =>
            have CS : Hid (∀ W : World, Calls Tryd.prog 17 #[str [c], .int .i64 0] W fun e w' => e = .returned (str [c]) ∧ W = w') := fun W => by
              have q := refsign_any ⟨#[c]⟩ 0 (by show 0 < 1; omega) (by show 1 ≤ 140737488355328; omega) W
              rw [show sl ⟨#[c]⟩ = [c] from rfl, List.drop_zero, sign_one [] (by simp [twosL]), show oneV c = [c] by rw [oneV, if_pos ho]] at q
              exact q
            have HG : Hid (goodB c = true) := by show goodB c = true; unfold goodB; rw [ho]; simp
            have hsz : ((⟨#[c]⟩ : ByteArray).size : Int) = 1 := rfl
            go_wp2_with fail
            refine CB.mono ?_
            rintro e w2 ⟨rfl, rfl⟩
            clear CB
            go_wp2_with fail
            refine (CS.out _).mono ?_
            rintro e w2 ⟨rfl, rfl⟩
            clear CS hcv
            go_wp2
            go_meet
            exact ⟨by rw [HG.out]; first | done | (congr 1; simp; omega), KA⟩
          | false =>
            have CS : Hid (∀ W : World, Calls Tryd.prog 17 #[str [c], .int .i64 0] W fun e w' => e = .returned (str []) ∧ W = w') := fun W => by
              have q := refsign_any ⟨#[c]⟩ 0 (by show 0 < 1; omega) (by show 1 ≤ 140737488355328; omega) W
              rw [show sl ⟨#[c]⟩ = [c] from rfl, List.drop_zero, sign_one [] (by simp [twosL]), show oneV c = [] by rw [oneV, if_neg (by rw [ho]; simp)]] at q
              exact q
            have HG : Hid (goodB c = false) := by show goodB c = false; unfold goodB; rw [ho, hbl, hdg, hlt, decide_eq_false h46]; rfl
            go_wp2_with fail
            refine CB.mono ?_
            rintro e w2 ⟨rfl, rfl⟩
            clear CB
            go_wp2_with fail
            refine (CS.out _).mono ?_
            rintro e w2 ⟨rfl, rfl⟩
            clear CS hcv
            go_wp2
            go_meet
            exact ⟨by rw [HG.out]; first | done | (congr 1; simp; omega), KA⟩
        have e3 : (97 : Int) ≤ (c.toNat : Int) := by omega
        have e4 : ¬ (c.toNat : Int) ≤ 122 := by omega
        have KA := World.grownBy_alloc w1 (.cells #[.int .u8 (c.toNat : Int)] 5) none
        have hcv := run_str1 (P := Tryd.prog) (w := w1) c 34 9 Tryd.underlying34 Tryd.underlying5 Tryd.underlying9 (c.toNat : Int) rfl
        cases ho : onesL.contains c with
        | true =>
          have CS : Hid (∀ W : World, Calls Tryd.prog 17 #[str [c], .int .i64 0] W fun e w' => e = .returned (str [c]) ∧ W = w') := fun W => by
            have q := refsign_any ⟨#[c]⟩ 0 (by show 0 < 1; omega) (by show 1 ≤ 140737488355328; omega) W
            rw [show sl ⟨#[c]⟩ = [c] from rfl, List.drop_zero, sign_one [] (by simp [twosL]), show oneV c = [c] by rw [oneV, if_pos ho]] at q
            exact q
          have HG : Hid (goodB c = true) := by show goodB c = true; unfold goodB; rw [ho]; simp
          have hsz : ((⟨#[c]⟩ : ByteArray).size : Int) = 1 := rfl
          go_wp2_with fail
          refine CB.mono ?_
          rintro e w2 ⟨rfl, rfl⟩
          clear CB
          go_wp2_with fail
          refine (CS.out _).mono ?_
          rintro e w2 ⟨rfl, rfl⟩
          clear CS hcv
          go_wp2
          go_meet
          exact ⟨by rw [HG.out]; first | done | (congr 1; simp; omega), KA⟩
        | false =>
          have CS : Hid (∀ W : World, Calls Tryd.prog 17 #[str [c], .int .i64 0] W fun e w' => e = .returned (str []) ∧ W = w') := fun W => by
            have q := refsign_any ⟨#[c]⟩ 0 (by show 0 < 1; omega) (by show 1 ≤ 140737488355328; omega) W
            rw [show sl ⟨#[c]⟩ = [c] from rfl, List.drop_zero, sign_one [] (by simp [twosL]), show oneV c = [] by rw [oneV, if_neg (by rw [ho]; simp)]] at q
            exact q
          have HG : Hid (goodB c = false) := by show goodB c = false; unfold goodB; rw [ho, hbl, hdg, hlt, decide_eq_false h46]; rfl
          go_wp2_with fail
          refine CB.mono ?_
          rintro e w2 ⟨rfl, rfl⟩
          clear CB
          go_wp2_with fail
          refine (CS.out _).mono ?_
          rintro e w2 ⟨rfl, rfl⟩
          clear CS hcv
          go_wp2
          go_meet
          exact ⟨by rw [HG.out]; first | done | (congr 1; simp; omega), KA⟩
    case rest =>
      obtain ⟨rfl, K2⟩ := hcut
      have G2 := grown_trans K1 K2
      have HCV : Hid (∀ W : World, (convert 34 9 (.slice (some ⟨W.heap.size, 0, none⟩) 1 1)).run Tryd.prog (W.alloc (.cells #[.int .u8 (c.toNat : Int)] 5)) = .ok (str [c]) (W.alloc (.cells #[.int .u8 (c.toNat : Int)] 5))) := fun W => run_str1 (P := Tryd.prog) (w := W) c 34 9 Tryd.underlying34 Tryd.underlying5 Tryd.underlying9 (c.toNat : Int) rfl
      clear K1 K2
      generalize hwc : wc = w2 at *
      clear hwc
      have hcv := HCV.out w2
      have KA := World.grownBy_alloc w2 (.cells #[.int .u8 (c.toNat : Int)] 5) none
      have G3 := grown_trans G2 KA
      by_cases hgd : goodB c = true ∧ c.toNat ≠ 46
      · obtain ⟨g1, g2⟩ := hgd
        rw [g1]
        have hne : ((c.toNat : Int) != 46) = true := by rw [bne_iff_ne]; omega
        clear g1 HBAD
        generalize lexP (lexV (sl s ++ [32] ++ [c])) = p3 at *
        generalize lexE (lexV (sl s ++ [32] ++ [c])) = e3 at *
        generalize lexT (lexV (sl s ++ [32] ++ [c])) = t3 at *
        go_wp2_with fail
        refine (HLX.out _ (HT.out.grown (by assumption))).mono ?_
        rintro e w3 ⟨v3, rfl, O3, K3⟩
        have G4 := grown_trans G3 K3
        clear O3 K3 hcv HLX
        go_wp2_with fail
        refine (awake10_any _ (HT.out.grown (by assumption))).mono ?_
        rintro e w4 ⟨rfl, K4⟩
        go_wp2
        go_ret
        exact ⟨rfl, grown_trans G4 K4⟩
      · have hbad : goodB c = false ∨ c.toNat = 46 := by
          cases hg : goodB c with
          | false => exact .inl rfl
          | true => exact .inr (Classical.byContradiction fun h => hgd ⟨hg, h⟩)
        rw [HBAD.out hbad] at HLX
        simp only [lexP, lexE, lexT] at HLX
        have hq : (goodB c = false) ∨ (goodB c = true ∧ ((c.toNat : Int) != 46) = false) := by
          cases hg : goodB c with
          | false => exact .inl rfl
          | true =>
            refine .inr ⟨rfl, ?_⟩
            have : c.toNat = 46 := Classical.byContradiction fun h => hgd ⟨hg, h⟩
            rw [bne_eq_false_iff_eq]
            omega
        have hw1 : IntKind.i64.wrap ((s.size : Int) + 1) = (s.size : Int) + 1 := by rw [IntKind.wrap_i64]; omega
        have hpp : (((s.size + 1 : Nat) : Int) == (s.size : Int) + 1) = true := by rw [beq_iff_eq]; omega
        have hti : (0 : Int) < (ts.length : Int) := by omega
        clear HBAD hgd hbad
        rcases hq with hq | ⟨hq, hq2⟩
        all_goals
          rw [hq]
          go_wp2_with fail
          refine (HLX.out _ (HT.out.grown (by assumption))).mono ?_
          rintro e w3 ⟨v3, rfl, O3, K3⟩
          have G4 := grown_trans G3 K3
          obtain ⟨a3, k3, rfl, -⟩ := O3.items
          rw [show ([] : List Tk).length = 0 from rfl]
          clear O3 K3 hcv HLX
          go_wp2_with fail
          refine (awake10_any _ (HT.out.grown (by assumption))).mono ?_
          rintro e w4 ⟨rfl, K4⟩
          go_wp2
          go_ret
          exact ⟨rfl, grown_trans G4 K4⟩

set_option maxRecDepth 100000 in
theorem lifted (os : Os) (started : os.Started) (H : Type) (enc : TypeId × Value → H) (F : Stop.Interp) :
    ReturnsInHanded {} Tryd.checked os 8 .any ((OpenSpec.ofChange Rows.lexBytesSpec).preRow enc Tryd.prog Tryd.f8 Rows.lexBytesRow.domain false Rows.lexBytesRow.laid) (((OpenSpec.ofChange Rows.lexBytesSpec).at F).post enc Tryd.prog Tryd.f8 false true false false) := by
  have hx : DataW.whole enc Tryd.prog ((laidWorld os).forCall (fun _ _ => 0) ⟨#[], #[.string .empty, .int .u8 0], []⟩).memory Tryd.f8.params.toList Rows.lexBytesSpec.vars false (#[.string .empty, .int .u8 0] : Array Value).toList 8 = some ([.lit (.string []), .lit (.int .u8 0)], [], []) := by kernel_rfl
  refine returnsInHanded_of_row (C := Tryd.checked) (s := (OpenSpec.ofChange Rows.lexBytesSpec)) own started (by kernel_rfl) Tryd.func8
    (witness_row_atRef (enc := enc) (C := Tryd.checked) false (laidWorld os) #[.string .empty, .int .u8 0] (World.laidAll_os _ _ _) (by kernel_rfl) (by kernel_rfl) (by kernel_rfl)
      (OpenSpec.preRow_of_cond 8 hx (by kernel_rfl) (fun k hk => by cases hk) (by kernel_rfl) (laid_met os _))) ?_
  intro W base args ds gs before hval0 hW hcnd hcond hsz0 hL hsh _
  have hsz : (DataW.weightsEach Tryd.prog (Tryd.f8.params.toList ++ Rows.lexBytesSpec.plain.varTypes Tryd.prog) (ds ++ gs)).all (· ≤ reachBytes) = true := hsz0
  have T : Tab W := laid_tab hL hsh
  have hval : ∀ (j : Nat) t v, Tryd.f8.params[j]? = some t → args[j]? = some v → Value.okWide Tryd.prog W .any base t v := hval0
  have hW' := hW
  obtain ⟨p, q, hA0, hV, rfl, hfz, hnd⟩ := hW
  have hA : DataW.TrodAll enc Tryd.prog W 0 (fun _ => true) true Tryd.f8.params.toList args.toList ds p := hA0
  rw [Tryd.params8] at hA hval hsz
  obtain ⟨v0, vs0, d0, ds0, p0, q0, hargs, rfl, rfl, h0, r0⟩ := trodAll_cons hA
  obtain ⟨v1, vs1, d1, ds1, p1, q1, rfl, rfl, rfl, h1, r1⟩ := trodAll_cons r0
  obtain ⟨rfl, rfl, rfl⟩ := trodAll_nil r1
  obtain rfl : args = #[v0, v1] := by cases args; simp_all
  obtain ⟨rfl, rfl⟩ := trodVars_none hV
  obtain ⟨s0, rfl, rfl, rfl, hs0⟩ := open_string Tryd.underlying9 (hval 0 9 v0 rfl rfl) h0
  obtain ⟨y1, rfl, rfl, rfl, w1⟩ := open_int Tryd.underlying5 (hval 1 5 v1 rfl rfl) h1
  have bd1 := bounds_u8 w1
  obtain ⟨x1, rfl⟩ := Int.eq_ofNat_of_zero_le bd1.1
  have hv1 : x1 ≤ 255 := by omega
  have hlen0 : s0.size ≤ 140737488351232 := by
    have h := sized_string hsz (j := 0) (t := 9) rfl rfl
    unfold reachBytes at h
    have e : s0.data.toList.length = s0.size := by rw [Array.length_toList]; rfl
    omega
  clear hA0 hval0
  refine (walk s0 x1 W hlen0 hv1 T).mono fun e W' ⟨he, hg⟩ => ?_
  subst he
  have bel : Below W.heap.size W W' := (Below.refl _ _).grown hg (Nat.le_refl _) (by simp)
  exact ⟨_, rfl, _, _, _, [], _, [], hW', trodAll_mk1 (shut_bool Tryd.underlying4 _), (trodAll_cons_mk (shut_string Tryd.underlying9 hs0) (trodAll_cons_mk (shut_int Tryd.underlying5 w1) trodAll_mk0)), rfl, bel.frame _, fun h => by cases h⟩

theorem over : Rows.LexBytesSaid :=
  OpenClaim.holds_of_cond 8 Tryd.f8 rfl rfl rfl rfl rfl rfl rfl ⟨rfl, rfl, rfl, rfl, rfl⟩ rfl rfl rfl rfl rfl (by kernel_rfl) Tryd.func8 (by kernel_rfl)
    (of_decide_eq_true (by kernel_rfl)) (by unfold Func.isWrapper; first | (rw [if_pos (by decide +kernel)]; kernel_rfl) | (rw [if_neg (by decide +kernel)]; exact ⟨rfl, rfl⟩))
    (fun os started H enc _ F => by rw [OpenClaim.pre_eq_preRow]; exact lifted os started H enc F)

theorem plain (f : FuncId) (fn : Func) (hf : Tryd.pinned.checked.prog.funcNamed "riddle/riddlelaw10.LexBytes" = some f) (hfn : Tryd.pinned.checked.prog.funcs[f]? = some fn) :
    true = Tryd.pinned.checked.prog.looks [] ∧ ∀ (j : Nat) t, fn.params[j]? = some t → Tryd.pinned.checked.prog.wantsStandIn t = false := by
  obtain rfl : f = 8 := Option.some.inj ((show Tryd.prog.funcNamed "riddle/riddlelaw10.LexBytes" = some 8 by kernel_rfl).symm.trans hf) |>.symm
  obtain rfl : fn = Tryd.f8 := (Option.some.inj (Tryd.func8.symm.trans hfn)).symm
  refine ⟨by kernel_rfl, fun j t ht => ?_⟩
  rw [Tryd.params8] at ht
  have ht2 := Array.mem_of_getElem? ht
  simp only [List.mem_toArray, List.mem_cons, List.not_mem_nil, or_false] at ht2
  rcases ht2 with rfl | rfl
  · exact (show Tryd.prog.wantsStandIn 9 = false by kernel_rfl)
  · exact (show Tryd.prog.wantsStandIn 5 = false by kernel_rfl)

theorem card : Rows.LexBytesCardSaid :=
  Claim7.holds_tied_plain_at .later [] _ _ _ _ over (fun _ h => by cases h) (by kernel_rfl) (fun _ h => by cases h) lexBytes_row_tie rfl ⟨rfl, rfl⟩ (by kernel_rfl) rfl plain (by kernel_rfl)

end lexBytes

theorem lexBytes_holds : Rows.LexBytesCardSaid := lexBytes.card
#print axioms lexBytes_holds

end Go.Proofs.YthmfpodibgheiaaDoor
