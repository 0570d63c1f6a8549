/-
  For every two lists of instructions and every text that hold together at most 1048576 values and letters (the row's own bound) riddlelaw3.AsmPlaces returns true and leaves what was there as it was.
-/
import Derived.Test.YtcapmbeabfhjoaaDoorAsmBack
import Derived.Test.YtcapmbeabfhjoaaDoorRead2
namespace Go.Proofs.YtcapmbeabfhjoaaDoor
open Go.ChangeShapes Go.WideShapes Go.ChangeAt Go.RowKit
open Go.ChangeMaps (open_string shut_string)
set_option maxRecDepth 100000
namespace asmPlaces

theorem no10_take (s : ByteArray) (k : Nat) (hk : k < s.size) (h : no10 ((sl s).take k) = true) (hd : s[k] ≠ 10) : no10 ((sl s).take (k + 1)) = true := by
  have := take_grow s 0 k (Nat.zero_le _) hk
  simp only [List.drop_zero, Nat.sub_zero] at this
  rw [this, no10_app, h]
  simp [no10, hd]

set_option maxRecDepth 100000 in
set_option maxHeartbeats 2000000 in
theorem walk (a : Option Addr) (ca : Nat) (xs : List In) (bad : ByteArray) (b : Option Addr) (cb : Nat) (ys : List In) (w : World) (ha : CV w a (flat xs)) (hc0 : a = none → ca = 0) (_hca : xs.length ≤ ca) (_hcm : ca ≤ maxLen) (hn : xs.length * 8 ≤ 140737488351232)
    (hs : bad.size ≤ 1048576) (hb : CV w b (flat ys)) (hd0 : b = none → cb = 0) (_hcb : ys.length ≤ cb) (_hcn : cb ≤ maxLen) (hn2 : ys.length * 8 ≤ 140737488351232) (TT : Tab w) :
    Calls Tryd.prog 8 #[.slice a xs.length ca, .string bad, .slice b ys.length cb] w fun e w' => e = .returned (.bool true) ∧ w.grownBy w' none := by
  have H : Hid (CV w a (flat xs)) := ha
  have H2 : Hid (CV w b (flat ys)) := hb
  have HTb : Hid (Tab w) := TT
  clear ha hb TT
  by_cases hp : 200 < xs.length
  · have hp' : (200 : Int) < (xs.length : Int) := by omega
    go_enter Tryd.func8, Tryd.ntmps8
    go_wp2_with fail
    refine (awake3_any _ HTb.out).mono ?_
    rintro e w1 ⟨rfl, G1⟩
    go_wp2
    go_ret
    exact ⟨rfl, G1⟩
  · have hp' : ¬ ((200 : Int) < (xs.length : Int)) := by omega
    by_cases hq : 200 < ys.length
    · have hq' : (200 : Int) < (ys.length : Int) := by omega
      go_enter Tryd.func8, Tryd.ntmps8
      go_wp2_with fail
      refine (awake3_any _ HTb.out).mono ?_
      rintro e w1 ⟨rfl, G1⟩
      go_wp2
      go_ret
      exact ⟨rfl, G1⟩
    · have hq' : ¬ ((200 : Int) < (ys.length : Int)) := by omega
      have hpl := printS_len xs
      have hql := printS_len ys
      obtain ⟨S, hS⟩ : ∃ S : ByteArray, ⟨(printS xs).toArray⟩ = S := ⟨_, rfl⟩
      obtain ⟨T, hT⟩ : ∃ T : ByteArray, ⟨(printS ys).toArray⟩ = T := ⟨_, rfl⟩
      have hsl : sl S = printS xs := by rw [← hS]; rfl
      have htl : sl T = printS ys := by rw [← hT]; rfl
      have hsz : S.size ≤ 25800 := by rw [← sl_len, hsl]; omega
      have htz : T.size ≤ 25800 := by rw [← sl_len, htl]; omega
      have HP : Hid (∀ (a : Option Addr) (ca : Nat) (W : World), CV W a (flat xs) → w.grownBy W none → Calls Tryd.prog 14 #[.slice a xs.length ca] W fun e w' => e = .returned (.tuple #[.string S, .int .i64 0]) ∧ W.grownBy w' none) := fun a ca W h g => by
        have k := print_any a ca xs W h (by omega) (HTb.out.grown g)
        rw [show printE xs = 0 by simp [printE]; omega, show printV xs = printS xs by simp [printV]; omega] at k
        rw [← hS]
        exact k
      have HQ : Hid (∀ (a : Option Addr) (ca : Nat) (W : World), CV W a (flat ys) → w.grownBy W none → Calls Tryd.prog 14 #[.slice a ys.length ca] W fun e w' => e = .returned (.tuple #[.string T, .int .i64 0]) ∧ W.grownBy w' none) := fun a ca W h g => by
        have k := print_any a ca ys W h (by omega) (HTb.out.grown g)
        rw [show printE ys = 0 by simp [printE]; omega, show printV ys = printS ys by simp [printV]; omega] at k
        rw [← hT]
        exact k
      have HSL : Hid (sl S = printS xs) := hsl
      have HTL : Hid (sl T = printS ys) := htl
      clear hS hT hsl htl hpl hql
      go_enter Tryd.func8, Tryd.ntmps8
      go_wp2_with fail
      refine (refread_any bad _ (by omega)).mono ?_
      rintro e w1 ⟨rfl, G1⟩
      unfold readC
      cases hr : readV (sl bad) with
      | some x =>
        obtain ⟨n0, n1, n2, n3, hv⟩ : ∃ n0 n1 n2 n3 : Nat, x.cells = [.int .u16 (n0 : Int), .int .u8 (n1 : Int), .int .u8 (n2 : Int), .int .u32 (n3 : Int)] := ⟨_, _, _, _, rfl⟩
        simp only [Option.getD_some, Option.isSome_some, hv]
        clear hv hr
        go_wp2_with fail
        refine (awake3_any _ (HTb.out.grown (grown_trans G1 (World.grownBy_alloc _ _ none)))).mono ?_
        rintro e w2 ⟨rfl, K2⟩
        have G2 := grown_trans (grown_trans G1 (World.grownBy_alloc _ _ none)) K2
        clear K2 G1
        go_wp2
        go_ret
        exact ⟨rfl, G2⟩
      | none =>
        have HR : Hid (readV (sl bad) = none) := hr
        have HZ : zeroI.cells.toArray = #[.int .u16 0, .int .u8 0, .int .u8 0, .int .u32 0] := rfl
        simp only [Option.getD_none, Option.isSome_none, HZ]
        clear hr HZ
        have G2 := grown_trans G1 (World.grownBy_alloc w1 (.cells #[.int .u16 0, .int .u8 0, .int .u8 0, .int .u32 0] 25) none)
        clear G1
        go_wp2
        generalize w1.alloc (.cells #[.int .u16 0, .int .u8 0, .int .u8 0, .int .u32 0] 25) = w2 at *
        go_loop [9] (fun i => ∃ k : Nat, k ≤ bad.size ∧ i = .int .i64 k ∧ no10 ((sl bad).take k) = true) (fun i => bad.size - (intOf i).toNat)
        case atStart => exact ⟨0, Nat.zero_le _, rfl, rfl⟩
        case round =>
          obtain ⟨k, hk, rfl, h10⟩ := hrel
          have H10 : Hid (no10 ((sl bad).take k) = true) := h10
          clear h10
          by_cases hlt : k < bad.size
          · have hki : (k : Int) < (bad.size : Int) := by omega
            have hbb := bad[k].toNat_lt
            by_cases hd : bad[k] = 10
            · have hd1 : ((bad[k].toNat : Int) == 10) = true := by rw [hd]; rfl
              clear hd
              go_wp2_with fail
              refine (awake3_any _ (HTb.out.grown G2)).mono ?_
              rintro e w3 ⟨rfl, K3⟩
              have G3 := grown_trans G2 K3
              clear K3 G2
              go_wp2
              go_ret
              exact ⟨rfl, G3⟩
            · have hd1 : ((bad[k].toNat : Int) == 10) = false := by
                rw [beq_eq_false_iff_ne]
                intro h
                exact hd (UInt8.toNat_inj.1 (by simp; omega))
              have HN : Hid (no10 ((sl bad).take (k + 1)) = true) := no10_take bad k hlt H10.out hd
              clear hd
              go_wp2
              go_round
              case rel => exact ⟨k + 1, by omega, by go_num, HN.out⟩
              case measure => simp [intOf]; omega
          · obtain rfl : k = bad.size := by omega
            have HB : Hid (no10 (sl bad) = true) := by
              show no10 (sl bad) = true
              have := H10.out
              rw [List.take_of_length_le (by rw [sl_len]; omega)] at this
              exact this
            clear H10
            go_wp2_with fail
            refine (icopy_any a ca xs _ (H.out.keptNone G2) hc0 (by omega)).mono ?_
            rintro e w3 ⟨v3, rfl, O3, K3⟩
            have G3 := grown_trans G2 K3
            obtain ⟨ao3, cap3, rfl, C3, -⟩ := cv_of_row O3
            clear O3 K3 G2
            go_wp2_with fail
            refine (HP.out _ cap3 _ C3 G3).mono ?_
            rintro e w4 ⟨rfl, K4⟩
            have G4 := grown_trans G3 K4
            clear C3 K4 G3
            go_wp2_with fail
            refine (icopy_any b cb ys _ (H2.out.keptNone G4) hd0 (by omega)).mono ?_
            rintro e w5 ⟨v5, rfl, O5, K5⟩
            have G5 := grown_trans G4 K5
            obtain ⟨ao5, cap5, rfl, C5, -⟩ := cv_of_row O5
            clear O5 K5 G4
            go_wp2_with fail
            refine (HQ.out _ cap5 _ C5 G5).mono ?_
            rintro e w6 ⟨rfl, K6⟩
            have G6 := grown_trans G5 K6
            clear C5 K6 G5
            by_cases hbig : 1048576 ≤ S.size + bad.size + T.size
            · have hbig' : (1048576 : Int) ≤ (S.size : Int) + (bad.size : Int) + (T.size : Int) := by omega
              go_wp2_with fail
              refine (awake3_any _ (HTb.out.grown G6)).mono ?_
              rintro e w7 ⟨rfl, K7⟩
              have G7 := grown_trans G6 K7
              clear K7 G6
              go_wp2
              go_ret
              exact ⟨rfl, G7⟩
            · have hbig' : ¬ ((1048576 : Int) ≤ (S.size : Int) + (bad.size : Int) + (T.size : Int)) := by omega
              have hbigd : decide ((1048576 : Int) ≤ (S.size : Int) + (bad.size : Int) + (T.size : Int)) = false := decide_eq_false hbig'
              have hcat : sl (S ++ bad ++ ⟨#[10]⟩ ++ T) = printS xs ++ sl bad ++ [10] ++ printS ys := by
                rw [sl_append, sl_append, sl_append, HSL.out, HTL.out]; rfl
              have hlen : (printS xs ++ sl bad ++ [10] ++ printS ys).length ≤ 1048576 := by
                have h1 : (printS xs).length = S.size := by rw [← HSL.out, sl_len]
                have h2 : (printS ys).length = T.size := by rw [← HTL.out, sl_len]
                simp only [List.length_append, List.length_cons, List.length_nil, h1, h2, sl_len]
                omega
              have HPB : Hid (∀ W : World, w.grownBy W none → Calls Tryd.prog 17 #[.string (S ++ bad ++ ⟨#[10]⟩ ++ T)] W fun e w' => PMade W w' e ([], xs.length + 1, 31)) := fun W g => by
                have k := parse_any (S ++ bad ++ ⟨#[10]⟩ ++ T) W (by rw [← sl_len, hcat]; omega) (HTb.out.grown g)
                rw [hcat, parse_bad xs (sl bad) (printS ys) (by omega) hlen HB.out HR.out] at k
                exact k
              clear hcat hlen
              go_wp2_with fail
              refine (HPB.out _ G6).mono ?_
              rintro e w7 ⟨v7, rfl, O7, K7⟩
              have G7 := grown_trans G6 K7
              obtain ⟨ao7, cap7, rfl, -, -⟩ := cv_of_row O7
              clear O7 K7 G6
              simp only
              go_wp2_with fail
              refine (awake3_any _ (HTb.out.grown G7)).mono ?_
              rintro e w8 ⟨rfl, K8⟩
              have G8 := grown_trans G7 K8
              clear K8 G7
              go_wp2
              go_ret
              exact ⟨rfl, G8⟩

set_option maxRecDepth 100000 in
theorem lifted (os : Os) (started : os.Started) (H : Type) (enc : TypeId × Value → H) (F : Stop.Interp) :
    ReturnsInHanded {} Tryd.checked os 8 .any ((Rows.OpenSpec.upto Rows.asmPlacesSpec).preRow enc Tryd.prog Tryd.f8 Rows.asmPlacesUptoRow.domain false Rows.asmPlacesUptoRow.laid) (((Rows.OpenSpec.upto Rows.asmPlacesSpec).at F).post enc Tryd.prog Tryd.f8 false true false false) := by
  have hx : DataW.whole enc Tryd.prog ((laidWorld os).forCall (fun _ _ => 0) ⟨#[], #[.slice none 0 0, .string .empty, .slice none 0 0], []⟩).memory Tryd.f8.params.toList Rows.asmPlacesSpec.vars false (#[.slice none 0 0, .string .empty, .slice none 0 0] : Array Value).toList 8 = some ([.nil, .lit (.string []), .nil], [], []) := by kernel_rfl
  refine returnsInHanded_of_row (C := Tryd.checked) (s := (Rows.OpenSpec.upto Rows.asmPlacesSpec)) own started (by kernel_rfl) Tryd.func8
    (witness_row_at (enc := enc) (C := Tryd.checked) false (laidWorld os) #[.slice none 0 0, .string .empty, .slice none 0 0] rfl (by kernel_rfl) (by kernel_rfl) (by kernel_rfl)
      (OpenSpec.preRow_of_cond 8 hx (by kernel_rfl) (fun k hk => by cases hk; kernel_rfl) (by kernel_rfl) (laid_met os _))) ?_
  intro W base args ds gs before hval0 hW hcnd hcond hsz0 hL _ _
  have hk0 := hcond _ rfl
  have T : Tab W := laid_tab hL
  have hval : ∀ (j : Nat) t v, Tryd.f8.params[j]? = some t → args[j]? = some v → Value.okWide Tryd.prog W .any base t v := hval0
  have hW' := hW
  obtain ⟨p, q, hA0, hV, rfl, hfz, hnd⟩ := hW
  have hA : DataW.TrodAll enc Tryd.prog W 0 (fun _ => true) true Tryd.f8.params.toList args.toList ds p := hA0
  rw [Tryd.params8] at hA hval
  obtain ⟨v0, vs0, d0, ds0, p0, q0, hargs, rfl, rfl, h0, r0⟩ := trodAll_cons hA
  obtain ⟨v1, vs1, d1, ds1, p1, q1, rfl, rfl, rfl, h1, r1⟩ := trodAll_cons r0
  obtain ⟨v2, vs2, d2, ds2, p2, q2, rfl, rfl, rfl, h2, r2⟩ := trodAll_cons r1
  obtain ⟨rfl, rfl, rfl⟩ := trodAll_nil r2
  obtain rfl : args = #[v0, v1, v2] := by cases args; simp_all
  obtain ⟨rfl, rfl⟩ := trodVars_none hV
  obtain ⟨a0, len0, cap0, rfl⟩ := okWide_slice Tryd.underlying29 (hval 0 29 v0 rfl rfl)
  have k0 := h0
  have lt0 : ∀ x ∈ p0, x.block < W.heap.size := by obtain ⟨m, hm⟩ := k0; exact DataW.trod_lt m _ _ _ hm
  obtain ⟨xs0, rfl, hcells0, hnil0, hcp0, hdat0⟩ := open_insns h0
  obtain ⟨s1, rfl, rfl, rfl, hs1⟩ := open_string Tryd.underlying9 (hval 1 9 v1 rfl rfl) h1
  obtain ⟨a2, len2, cap2, rfl⟩ := okWide_slice Tryd.underlying29 (hval 2 29 v2 rfl rfl)
  have k2 := h2
  have lt2 : ∀ x ∈ p2, x.block < W.heap.size := by obtain ⟨m, hm⟩ := k2; exact DataW.trod_lt m _ _ _ hm
  obtain ⟨xs2, rfl, hcells2, hnil2, hcp2, hdat2⟩ := open_insns h2
  simp only [List.append_nil] at hW' hk0
  have hk : Rows.uptoBulkAll ([d0, .lit (.string s1.data.toList), d2] : List (DataW H)) ≤ 1048576 := of_decide_eq_true hk0
  simp only [Rows.uptoBulkAll] at hk
  have hlen0 : xs0.length ≤ 1048576 := by
    rcases hdat0 with ⟨_, rfl⟩ | ⟨elems, spare, rfl, hle⟩
    · simp
    · have := bulk_slice elems spare
      omega
  have hlen1 : s1.size ≤ 1048576 := by
    have e := bulk_string (H := H) s1
    omega
  have hlen2 : xs2.length ≤ 1048576 := by
    rcases hdat2 with ⟨_, rfl⟩ | ⟨elems, spare, rfl, hle⟩
    · simp
    · have := bulk_slice elems spare
      omega
  clear hA0 hval0
  refine (walk a0 cap0 xs0 s1 a2 cap2 xs2 W hcells0 hnil0 hcp0.1 hcp0.2 (by omega) hlen1 hcells2 hnil2 hcp2.1 hcp2.2 (by omega) T).mono fun e W' ⟨he, hg⟩ => ?_
  subst he
  have bel : Below W.heap.size W W' := (Below.refl _ _).grown hg (Nat.le_refl _) (by simp)
  exact ⟨_, rfl, _, _, _, [], _, [], hW', trodAll_mk1 (shut_bool Tryd.underlying4 _), (trodAll_cons_mk (Below.trod laidOut (by kernel_rfl) (of_decide_eq_true (by kernel_rfl)) k0 bel lt0) (trodAll_cons_mk (shut_string Tryd.underlying9 hs1) (trodAll_cons_mk (Below.trod laidOut (by kernel_rfl) (of_decide_eq_true (by kernel_rfl)) k2 bel lt2) trodAll_mk0))), rfl, bel.frame _, fun h => by cases h⟩

theorem over : Rows.AsmPlacesUptoSaid :=
  OpenClaim.holds_of_cond 8 Tryd.f8 rfl rfl rfl rfl rfl rfl rfl ⟨rfl, rfl, rfl, rfl, rfl⟩ rfl rfl rfl rfl rfl (by kernel_rfl) Tryd.func8 (by kernel_rfl)
    (of_decide_eq_true (by kernel_rfl)) (by unfold Func.isWrapper; first | (rw [if_pos (by decide +kernel)]; kernel_rfl) | (rw [if_neg (by decide +kernel)]; exact ⟨rfl, rfl⟩))
    (fun os started H enc _ F => by rw [OpenClaim.pre_eq_preRow]; exact lifted os started H enc F)

theorem plain (f : FuncId) (fn : Func) (hf : Tryd.pinned.checked.prog.funcNamed "riddle/riddlelaw3.AsmPlaces" = some f) (hfn : Tryd.pinned.checked.prog.funcs[f]? = some fn) :
    false = Tryd.pinned.checked.prog.looks [] ∧ ∀ (j : Nat) t, fn.params[j]? = some t → Tryd.pinned.checked.prog.wantsStandIn t = false := by
  obtain rfl : f = 8 := Option.some.inj ((show Tryd.prog.funcNamed "riddle/riddlelaw3.AsmPlaces" = some 8 by kernel_rfl).symm.trans hf) |>.symm
  obtain rfl : fn = Tryd.f8 := (Option.some.inj (Tryd.func8.symm.trans hfn)).symm
  refine ⟨by kernel_rfl, fun j t ht => ?_⟩
  rw [Tryd.params8] at ht
  have ht2 := Array.mem_of_getElem? ht
  simp only [List.mem_toArray, List.mem_cons, List.not_mem_nil, or_false] at ht2
  rcases ht2 with rfl | rfl | rfl
  · exact (show Tryd.prog.wantsStandIn 29 = false by kernel_rfl)
  · exact (show Tryd.prog.wantsStandIn 9 = false by kernel_rfl)
  · exact (show Tryd.prog.wantsStandIn 29 = false by kernel_rfl)

theorem card : Rows.AsmPlacesUptoCardSaid :=
  Claim7.holds_tied_plain_at .later [] _ _ _ _ over (fun _ h => by cases h) (by kernel_rfl) (fun _ h => by cases h) asmPlacesUpto_row_tie rfl ⟨rfl, rfl⟩ (by kernel_rfl) rfl plain (by kernel_rfl)

end asmPlaces

theorem asmPlacesUpto_holds : Rows.AsmPlacesUptoCardSaid := asmPlaces.card
#print axioms asmPlacesUpto_holds
end Go.Proofs.YtcapmbeabfhjoaaDoor
