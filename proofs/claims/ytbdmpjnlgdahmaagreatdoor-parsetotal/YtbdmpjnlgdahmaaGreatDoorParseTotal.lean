/-
  For every string (of such size as the form itself says of each argument) riddlelaw11.ParseTotal returns true and leaves what was there as it was: no condition of ours.
-/
import Derived.Test.YtbdmpjnlgdahmaaGreatDoorLotP48
import Derived.Test.YtbdmpjnlgdahmaaGreatDoorLotP25
import Derived.Test.YtbdmpjnlgdahmaaGreatDoorLotP49
import Derived.Test.YtbdmpjnlgdahmaaGreatDoorLotP26
import Derived.Test.YtbdmpjnlgdahmaaGreatDoorLotP50
import Derived.BigQuiet
namespace Go.Proofs.YtbdmpjnlgdahmaaGreatDoor
open Go.ChangeShapes Go.WideShapes Go.ChangeAt Go.RowKit
open Go.ChangeMaps (open_string shut_string)
set_option maxRecDepth 100000
namespace parseTotal

set_option maxRecDepth 100000 in
set_option maxHeartbeats 8000000 in
theorem walk (s : ByteArray) (w : World) (hs : s.size ≤ 140737488351232) (T : TabB w) :
    Calls Tryz.prog 4 #[.string s] w fun e w' => e = .returned (.bool true) ∧ w.grownBy w' none := by
  have HT : Hid (TabB w) := T
  clear T
  have C0 := pparse_any s (by omega) w HT.out
  have HLX : Hid (∀ W : World, TabB W → Calls Tryz.prog 16 #[.string s] W fun e w' => ∃ v, e = .returned (.tuple #[v, .int .i64 (lexP (lexV (sl s)) : Int), .int .i64 (lexE (lexV (sl s)))]) ∧ TOwns w' W.heap.size v (lexT (lexV (sl s))) ∧ W.grownBy w' none) := fun W TW => lex_any s (by omega) W TW.1
  cases hx : lexV (sl s) with
  | error x =>
    have hp : parseV (sl s) = .error x := by rw [parseV, hx, thenE_er]
    rw [hp] at C0
    rw [hx] at HLX
    have hz : ¬ x.2 = 0 := by have := lexE_err hx; simpa using this
    obtain ⟨p, e⟩ := x
    simp only [prP, prE, prN, lexP, lexE, lexT, List.map_nil] at C0 HLX hz
    have hz' : (e == 0) = false := by simpa using hz
    have hee : (e == e) = true := by simp
    have hpp : ((p : Int) == (p : Int)) = true := by simp
    clear hp hx
    go_enter Tryz.func4, Tryz.ntmps4
    go_wp2_with fail
    refine C0.mono ?_
    rintro e w1 ⟨vt, vp, rfl, O1, Z1, K1⟩
    obtain ⟨a1, k1, rfl, -⟩ := cv_of_row O1
    obtain ⟨a2, k2, rfl, -⟩ := cv_of_row Z1
    rw [show ([] : List Nd).length = 0 from rfl, show ([] : List Int).length = 0 from rfl]
    clear C0 O1 Z1
    go_wp2_with fail
    refine (HLX.out _ (HT.out.grown (by assumption))).mono ?_
    rintro e w2 ⟨v2, rfl, -, K2⟩
    have G2 := grown_trans K1 K2
    clear HLX K1 K2
    go_wp2_with fail
    refine (awake11_any _ (HT.out.grown (by assumption))).mono ?_
    rintro e w3 ⟨rfl, K3⟩
    go_wp2
    go_ret
    exact ⟨rfl, grown_trans G2 K3⟩
  | ok ts =>
    rw [hx] at HLX
    simp only [lexP, lexE, lexT] at HLX
    cases hp : parseV (sl s) with
    | error x =>
      rw [hp] at C0
      obtain ⟨p, e⟩ := x
      simp only [prP, prE, prN, List.map_nil] at C0
      obtain ⟨h1, h2⟩ := er_of hx hp
      rw [sl_len] at h2
      have HIN : Hid (∀ (W : World) v b, TOwns W b v ts → Calls Tryz.prog 17 #[v, .int .i64 (p : Int)] W fun e w' => e = .returned (.bool true) ∧ w' = W) := fun W v b O => by
        obtain ⟨ao, cap, rfl, C, hb1, hb2, -⟩ := cv_of_row O
        exact pin_any ao cap ts p W C h1 (by unfold maxLen at hb2; omega)
      clear hx hp h1
      have hfin : e = 110 ∧ p = s.size ∨ p ≠ s.size ∧ e = 111 ∨ p ≠ s.size ∧ e = 112 ∨ p ≠ s.size ∧ e = 113 := by
        rcases h2 with h2 | ⟨h2, h3 | h3 | h3⟩
        · exact .inl h2
        · exact .inr (.inl ⟨h2, h3⟩)
        · exact .inr (.inr (.inl ⟨h2, h3⟩))
        · exact .inr (.inr (.inr ⟨h2, h3⟩))
      clear h2
      rcases hfin with ⟨rfl, rfl⟩ | ⟨hn, rfl⟩ | ⟨hn, rfl⟩ | ⟨hn, rfl⟩
      · have hpp : ((s.size : Int) == (s.size : Int)) = true := by simp
        go_enter Tryz.func4, Tryz.ntmps4
        go_wp2_with fail
        refine C0.mono ?_
        rintro e w1 ⟨vt, vp, rfl, O1, Z1, K1⟩
        obtain ⟨a1, k1, rfl, -⟩ := cv_of_row O1
        obtain ⟨a2, k2, rfl, -⟩ := cv_of_row Z1
        rw [show ([] : List Nd).length = 0 from rfl, show ([] : List Int).length = 0 from rfl]
        clear C0 O1 Z1
        go_wp2_with fail
        refine (HLX.out _ (HT.out.grown (by assumption))).mono ?_
        rintro e w2 ⟨v2, rfl, O2, K2⟩
        have G2 := grown_trans K1 K2
        have CI := HIN.out w2 v2 _ O2
        clear HLX K1 K2 HIN O2
        go_wp2_with fail
        refine CI.mono ?_
        rintro e w' ⟨rfl, rfl⟩
        clear CI
        go_wp2_with fail
        refine (awake11_any _ (HT.out.grown (by assumption))).mono ?_
        rintro e w3 ⟨rfl, K3⟩
        go_wp2
        go_ret
        exact ⟨rfl, grown_trans G2 K3⟩
      · have hpp : ((p : Int) == (s.size : Int)) = false := by simp; omega
        go_enter Tryz.func4, Tryz.ntmps4
        go_wp2_with fail
        refine C0.mono ?_
        rintro e w1 ⟨vt, vp, rfl, O1, Z1, K1⟩
        obtain ⟨a1, k1, rfl, -⟩ := cv_of_row O1
        obtain ⟨a2, k2, rfl, -⟩ := cv_of_row Z1
        rw [show ([] : List Nd).length = 0 from rfl, show ([] : List Int).length = 0 from rfl]
        clear C0 O1 Z1
        go_wp2_with fail
        refine (HLX.out _ (HT.out.grown (by assumption))).mono ?_
        rintro e w2 ⟨v2, rfl, O2, K2⟩
        have G2 := grown_trans K1 K2
        have CI := HIN.out w2 v2 _ O2
        clear HLX K1 K2 HIN O2
        go_wp2_with fail
        refine CI.mono ?_
        rintro e w' ⟨rfl, rfl⟩
        clear CI
        go_wp2_with fail
        refine (awake11_any _ (HT.out.grown (by assumption))).mono ?_
        rintro e w3 ⟨rfl, K3⟩
        go_wp2
        go_ret
        exact ⟨rfl, grown_trans G2 K3⟩
      · have hpp : ((p : Int) == (s.size : Int)) = false := by simp; omega
        go_enter Tryz.func4, Tryz.ntmps4
        go_wp2_with fail
        refine C0.mono ?_
        rintro e w1 ⟨vt, vp, rfl, O1, Z1, K1⟩
        obtain ⟨a1, k1, rfl, -⟩ := cv_of_row O1
        obtain ⟨a2, k2, rfl, -⟩ := cv_of_row Z1
        rw [show ([] : List Nd).length = 0 from rfl, show ([] : List Int).length = 0 from rfl]
        clear C0 O1 Z1
        go_wp2_with fail
        refine (HLX.out _ (HT.out.grown (by assumption))).mono ?_
        rintro e w2 ⟨v2, rfl, O2, K2⟩
        have G2 := grown_trans K1 K2
        have CI := HIN.out w2 v2 _ O2
        clear HLX K1 K2 HIN O2
        go_wp2_with fail
        refine CI.mono ?_
        rintro e w' ⟨rfl, rfl⟩
        clear CI
        go_wp2_with fail
        refine (awake11_any _ (HT.out.grown (by assumption))).mono ?_
        rintro e w3 ⟨rfl, K3⟩
        go_wp2
        go_ret
        exact ⟨rfl, grown_trans G2 K3⟩
      · have hpp : ((p : Int) == (s.size : Int)) = false := by simp; omega
        go_enter Tryz.func4, Tryz.ntmps4
        go_wp2_with fail
        refine C0.mono ?_
        rintro e w1 ⟨vt, vp, rfl, O1, Z1, K1⟩
        obtain ⟨a1, k1, rfl, -⟩ := cv_of_row O1
        obtain ⟨a2, k2, rfl, -⟩ := cv_of_row Z1
        rw [show ([] : List Nd).length = 0 from rfl, show ([] : List Int).length = 0 from rfl]
        clear C0 O1 Z1
        go_wp2_with fail
        refine (HLX.out _ (HT.out.grown (by assumption))).mono ?_
        rintro e w2 ⟨v2, rfl, O2, K2⟩
        have G2 := grown_trans K1 K2
        have CI := HIN.out w2 v2 _ O2
        clear HLX K1 K2 HIN O2
        go_wp2_with fail
        refine CI.mono ?_
        rintro e w' ⟨rfl, rfl⟩
        clear CI
        go_wp2_with fail
        refine (awake11_any _ (HT.out.grown (by assumption))).mono ?_
        rintro e w3 ⟨rfl, K3⟩
        go_wp2
        go_ret
        exact ⟨rfl, grown_trans G2 K3⟩
    | ok ns =>
      rw [hp] at C0
      simp only [prP, prE, prN] at C0
      obtain ⟨htr, hall⟩ := ok_of hx hp
      rw [sl_len] at hall
      have HIN : Hid (∀ (W : World) v b, TOwns W b v ts → ∀ q ∈ ns, Calls Tryz.prog 17 #[v, .int .i64 (q.2 : Int)] W fun e w' => e = .returned (.bool true) ∧ w' = W) := fun W v b O q hq => by
        obtain ⟨ao, cap, rfl, C, hb1, hb2, -⟩ := cv_of_row O
        exact pin_any ao cap ts q.2 W C (hall q hq).1 (by unfold maxLen at hb2; omega)
      have HLE : Hid (∀ q ∈ ns, q.2 < s.size) := fun q hq => (hall q hq).2
      have HTR : Hid (∀ (W : World) v b, NOwns W b v (ns.map Prod.fst) → Calls Tryz.prog 18 #[v] W fun e w' => e = .returned (.bool true) ∧ w' = W) := fun W v b O => by
        obtain ⟨ao, cap, rfl, C, hb1, hb2, -⟩ := cv_of_row O
        exact tree_any ao cap _ W C htr (by unfold maxLen at hb2; omega)
      clear hx hp htr hall
      go_enter Tryz.func4, Tryz.ntmps4
      go_wp2_with fail
      refine C0.mono ?_
      rintro e w1 ⟨vt, vp, rfl, O1, Z1, K1⟩
      clear C0
      go_wp2_with fail
      refine (HLX.out _ (HT.out.grown (by assumption))).mono ?_
      rintro e w2 ⟨v2, rfl, O2, K2⟩
      have HG2 : Hid (w.grownBy w2 none) := grown_trans K1 K2
      have HO2 : Hid (TOwns w2 w1.heap.size v2 ts) := O2
      have HTR2 := HTR.out w2 vt w.heap.size (owns_keptNone O1 K2)
      obtain ⟨a1, k1, rfl, -, hb1, hb2, -⟩ := cv_of_row O1
      have Z2 := owns_keptNone Z1 K2
      have HZ2 : Hid (ZOwns w2 w.heap.size vp (ns.map plc)) := Z2
      obtain ⟨a2, k2, rfl, CZ, -⟩ := cv_of_row Z2
      have HCZ : Hid (CV w2 a2 ((ns.map plc).map iv)) := CZ
      rw [List.length_map] at HTR2 hb1
      simp only [List.length_map]
      obtain ⟨L, hL⟩ : ∃ L, ns.length = L := ⟨_, rfl⟩
      have HL : Hid (ns.length = L) := hL
      rw [hL] at HTR2 hb1
      rw [hL]
      have hee : ((L : Int) == (L : Int)) = true := by simp
      unfold maxLen at hb2
      clear O1 Z1 K1 K2 O2 HTR Z2 HLX CZ HZ2 hL
      go_wp2_with fail
      refine HTR2.mono ?_
      rintro e w' ⟨rfl, rfl⟩
      clear HTR2
      go_upto_region 10 with fail
      go_loopw [10] (fun x wr => ∃ i : Nat, i ≤ L ∧ x = .int .i64 i ∧ wr = w') (fun x _ => L - (intOf x).toNat)
      case atStart => exact ⟨0, Nat.zero_le _, rfl, rfl⟩
      case round =>
        obtain ⟨i, hi, rfl, rfl⟩ := hrel
        have z0 : (0 : Int) ≤ (i : Int) := by omega
        by_cases hlt : i < L
        · have hl : (i : Int) < (L : Int) := by omega
          have hn : i < ns.length := by rw [HL.out]; exact hlt
          have hmem := List.getElem_mem hn
          have hq := HLE.out _ hmem
          have hin := HIN.out wr v2 _ HO2.out _ hmem
          obtain ⟨b, off, rfl, hc⟩ := HCZ.out.addr (k := i) (by simpa using hn)
          have c1 := hc i (by simpa using hn)
          simp only [List.getElem_map] at c1
          have c2 : wr.cell? ⟨b, off + i, none⟩ = some (.int .i64 ((ns[i].2 : Nat) : Int)) := c1
          generalize ns[i].2 = q at *
          have hqq : ¬ (s.size : Int) ≤ (q : Int) := by omega
          have w3 : IntKind.i64.wrap ((i : Int) + 1) = (i : Int) + 1 := by rw [IntKind.wrap_i64]; omega
          clear hc c1 hmem hn
          go_wp2_with fail
          refine hin.mono ?_
          rintro e w'' ⟨rfl, rfl⟩
          clear hin
          go_wp2
          go_roundw
          case rel => exact ⟨i + 1, by omega, by go_num, trivial⟩
          case measure => simp [intOf]; omega
        · have hl : ¬ (i : Int) < (L : Int) := by omega
          have G := HG2.out
          go_wp2_with fail
          refine (awake11_any _ (HT.out.grown (by assumption))).mono ?_
          rintro e w3 ⟨rfl, K3⟩
          go_wp2
          go_ret
          exact ⟨rfl, grown_trans G K3⟩

set_option maxRecDepth 100000 in
theorem lifted (os : Os) (started : os.Started) (H : Type) (enc : TypeId × Value → H) (F : Stop.Interp) :
    ReturnsInHanded {} Tryz.checked os 4 .any ((OpenSpec.ofChange Rows.parseTotalSpec).preRow enc Tryz.prog Tryz.f4 Rows.parseTotalRow.domain false Rows.parseTotalRow.laid) (((OpenSpec.ofChange Rows.parseTotalSpec).at F).post enc Tryz.prog Tryz.f4 false true false false) := by
  have hx : DataW.whole enc Tryz.prog ((laidWorld os).forCall (fun _ _ => 0) ⟨#[], #[.string .empty], []⟩).memory Tryz.f4.params.toList Rows.parseTotalSpec.vars false (#[.string .empty] : Array Value).toList 8 = some ([.lit (.string [])], [], []) := by kernel_rfl
  refine returnsInHanded_of_row (C := Tryz.checked) (s := (OpenSpec.ofChange Rows.parseTotalSpec)) own started (by kernel_rfl) Tryz.func4
    (witness_row_atRef (enc := enc) (C := Tryz.checked) false (laidWorld os) #[.string .empty] (World.laidAll_os _ _ _) (by kernel_rfl) (by kernel_rfl) (by kernel_rfl)
      (OpenSpec.preRow_of_cond 8 hx (by kernel_rfl) (fun k hk => by cases hk) (by kernel_rfl) (laid_met os _))) ?_
  intro W base args ds gs before hval0 hW hcnd hcond hsz0 hL hsh _
  have hsz : (DataW.weightsEach Tryz.prog (Tryz.f4.params.toList ++ Rows.parseTotalSpec.plain.varTypes Tryz.prog) (ds ++ gs)).all (· ≤ reachBytes) = true := hsz0
  have T : TabB W := laid_tabB hL hsh
  have hval : ∀ (j : Nat) t v, Tryz.f4.params[j]? = some t → args[j]? = some v → Value.okWide Tryz.prog W .any base t v := hval0
  have hW' := hW
  obtain ⟨p, q, hA0, hV, rfl, hfz, hnd⟩ := hW
  have hA : DataW.TrodAll enc Tryz.prog W 0 (fun _ => true) true Tryz.f4.params.toList args.toList ds p := hA0
  rw [Tryz.params4] at hA hval hsz
  obtain ⟨v0, vs0, d0, ds0, p0, q0, hargs, rfl, rfl, h0, r0⟩ := trodAll_cons hA
  obtain ⟨rfl, rfl, rfl⟩ := trodAll_nil r0
  obtain rfl : args = #[v0] := by cases args; simp_all
  obtain ⟨rfl, rfl⟩ := trodVars_none hV
  obtain ⟨s0, rfl, rfl, rfl, hs0⟩ := open_string Tryz.underlying9 (hval 0 9 v0 rfl rfl) h0
  have hlen0 : s0.size ≤ 140737488351232 := by
    have h := sized_string hsz (j := 0) (t := 9) rfl rfl
    unfold reachBytes at h
    have e : s0.data.toList.length = s0.size := by rw [Array.length_toList]; rfl
    omega
  clear hA0 hval0
  refine (walk s0 W hlen0 T).mono fun e W' ⟨he, hg⟩ => ?_
  subst he
  have bel : Below W.heap.size W W' := (Below.refl _ _).grown hg (Nat.le_refl _) (by simp)
  exact ⟨_, rfl, _, _, _, [], _, [], hW', trodAll_mk1 (shut_bool Tryz.underlying4 _), (trodAll_cons_mk (shut_string Tryz.underlying9 hs0) trodAll_mk0), rfl, bel.frame _, fun h => by cases h⟩

theorem over : Rows.ParseTotalSaid :=
  OpenClaim.holds_of_cond 4 Tryz.f4 rfl rfl rfl rfl rfl rfl rfl ⟨rfl, rfl, rfl, rfl, rfl⟩ rfl rfl rfl rfl rfl (by kernel_rfl) Tryz.func4 (by kernel_rfl)
    (of_decide_eq_true (by kernel_rfl)) (by unfold Func.isWrapper; first | (rw [if_pos (by decide +kernel)]; kernel_rfl) | (rw [if_neg (by decide +kernel)]; exact ⟨rfl, rfl⟩))
    (fun os started H enc _ F => by rw [OpenClaim.pre_eq_preRow]; exact lifted os started H enc F)

theorem plain (f : FuncId) (fn : Func) (hf : Tryz.pinned.checked.prog.funcNamed "riddle/riddlelaw11.ParseTotal" = some f) (hfn : Tryz.pinned.checked.prog.funcs[f]? = some fn) :
    true = Tryz.pinned.checked.prog.looks [] ∧ ∀ (j : Nat) t, fn.params[j]? = some t → Tryz.pinned.checked.prog.wantsStandIn t = false := by
  obtain rfl : f = 4 := Option.some.inj ((show Tryz.prog.funcNamed "riddle/riddlelaw11.ParseTotal" = some 4 by kernel_rfl).symm.trans hf) |>.symm
  obtain rfl : fn = Tryz.f4 := (Option.some.inj (Tryz.func4.symm.trans hfn)).symm
  refine ⟨by kernel_rfl, fun j t ht => ?_⟩
  rw [Tryz.params4] at ht
  have ht2 := Array.mem_of_getElem? ht
  simp only [List.mem_toArray, List.mem_cons, List.not_mem_nil, or_false] at ht2
  rcases ht2 with rfl
  · exact (show Tryz.prog.wantsStandIn 9 = false by kernel_rfl)

theorem card : Rows.ParseTotalCardSaid :=
  Claim7.holds_tied_plain_at .later [] _ _ _ _ over (fun _ h => by cases h) (by kernel_rfl) (fun _ h => by cases h) parseTotal_row_tie rfl ⟨rfl, rfl⟩ (by kernel_rfl) rfl plain (by kernel_rfl)

end parseTotal

theorem parseTotal_holds : Rows.ParseTotalCardSaid := parseTotal.card
#print axioms parseTotal_holds

end Go.Proofs.YtbdmpjnlgdahmaaGreatDoor
