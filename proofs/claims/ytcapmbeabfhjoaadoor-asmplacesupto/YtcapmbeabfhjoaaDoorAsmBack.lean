/-
  For every list of instructions (its capacity at most 2^47 - 4096 bytes, as the form itself says of each argument) riddlelaw3.AsmBack returns true and leaves what was there as it was: no condition of ours.
-/
import Derived.Test.YtcapmbeabfhjoaaDoorOpenI
import Derived.Test.YtcapmbeabfhjoaaDoorAwake3
import Derived.Test.YtcapmbeabfhjoaaDoorLaid
import Derived.Test.YtcapmbeabfhjoaaDoorTextB
namespace Go.Proofs.YtcapmbeabfhjoaaDoor
open Go.ChangeShapes Go.WideShapes Go.ChangeAt Go.RowKit
open Go.ChangeMaps (open_string shut_string)
set_option maxRecDepth 100000

theorem sl_inj {a b : ByteArray} (h : sl a = sl b) : a = b := by
  apply ByteArray.ext
  exact Array.toList_inj.1 h
theorem sl_append (a b : ByteArray) : sl (a ++ b) = sl a ++ sl b := by simp [sl]

namespace asmBack

set_option maxHeartbeats 2000000 in
theorem walk (a : Option Addr) (ca : Nat) (xs : List In) (w : World) (ha : CV w a (flat xs)) (hc0 : a = none → ca = 0) (_hca : xs.length ≤ ca) (_hcm : ca ≤ maxLen) (hn : xs.length * 8 ≤ 140737488351232) (T : Tab w) :
    Calls Tryd.prog 6 #[.slice a xs.length ca] w fun e w' => e = .returned (.bool true) ∧ w.grownBy w' none := by
  have H : Hid (CV w a (flat xs)) := ha
  have HTb : Hid (Tab w) := T
  clear ha T
  by_cases hbig : 300 < xs.length
  · have hb : (300 : Int) < (xs.length : Int) := by omega
    go_enter Tryd.func6, Tryd.ntmps6
    go_wp2_with fail
    refine (awake3_any _ HTb.out).mono ?_
    rintro e w1 ⟨rfl, G1⟩
    go_wp2
    go_ret
    exact ⟨rfl, G1⟩
  · have hb : ¬ ((300 : Int) < (xs.length : Int)) := by omega
    have hpl := printS_len xs
    obtain ⟨S, hS⟩ : ∃ S : ByteArray, ⟨(printS xs).toArray⟩ = S := ⟨_, rfl⟩
    have hsl : sl S = printS xs := by rw [← hS]; rfl
    have hsz : S.size ≤ 38700 := by rw [← sl_len, hsl]; omega
    have HP : Hid (∀ (a : Option Addr) (ca : Nat) (W : World), CV W a (flat xs) → w.grownBy W none → Calls Tryd.prog 14 #[.slice a xs.length ca] W fun e w' => e = .returned (.tuple #[.string S, .int .i64 0]) ∧ W.grownBy w' none) := fun a ca W h g => by
      have k := print_any a ca xs W h (by omega) (HTb.out.grown g)
      rw [show printE xs = 0 by simp [printE]; omega, show printV xs = printS xs by simp [printV]; omega] at k
      rw [← hS]
      exact k
    have HQ : Hid (∀ W : World, w.grownBy W none → Calls Tryd.prog 17 #[.string S] W fun e w' => PMade W w' e (xs, 0, 0)) := fun W g => by
      have k := parse_any S W (by omega) (HTb.out.grown g)
      rw [hsl, parse_print xs (by omega) (by omega)] at k
      exact k
    have HSL : Hid (sl S = printS xs) := hsl
    clear hS
    go_enter Tryd.func6, Tryd.ntmps6
    go_wp2_with fail
    refine (icopy_any a ca xs _ H.out hc0 (by omega)).mono ?_
    rintro e w1 ⟨v1, rfl, O1, G1⟩
    obtain ⟨ao1, cap1, rfl, C1, -⟩ := cv_of_row O1
    clear O1
    go_wp2_with fail
    refine (HP.out _ cap1 _ C1 G1).mono ?_
    rintro e w2 ⟨rfl, K2⟩
    have G2 := grown_trans G1 K2
    clear C1
    go_wp2_with fail
    refine (HQ.out _ G2).mono ?_
    rintro e w3 ⟨v3, rfl, O3, K3⟩
    have G3 := grown_trans G2 K3
    obtain ⟨ao3, cap3, rfl, C3, -⟩ := cv_of_row O3
    clear O3
    simp only
    go_wp2_with fail
    refine (isame_any ao3 a cap3 ca xs _ C3 (H.out.keptNone G3) (by omega)).mono ?_
    rintro e w4 ⟨rfl, n4, rfl⟩
    have G4 := grown_trans G3 (grown_drewN w3 n4 none)
    clear C3 G1 G2 G3 K2 K3
    generalize w3.drewN n4 = w4 at *
    by_cases h0 : xs.length = 0
    · have h00 : ¬ ((0 : Int) < (xs.length : Int)) := by omega
      have GG := G4
      go_wp2
      go_loopw [8, 9] (fun t i wr => ∃ (k : Nat) (T : ByteArray), k ≤ xs.length ∧ i = .int .i64 k ∧ t = .string T ∧ sl T = printS (xs.take k) ∧ w.grownBy wr none) (fun _ i _ => xs.length - (intOf i).toNat)
      case atStart => exact ⟨0, ⟨#[]⟩, Nat.zero_le _, rfl, rfl, rfl, GG⟩
      case round =>
        clear GG
        obtain ⟨k, T, hk, rfl, rfl, hT, G⟩ := hrel
        have HT : Hid (sl T = printS (xs.take k)) := hT
        have hTs : T.size ≤ 38700 := by
          have h1 := printS_len (xs.take k)
          have h2 : (xs.take k).length ≤ 300 := by rw [List.length_take]; omega
          rw [← sl_len, hT]
          omega
        clear hT
        by_cases hlt : k < xs.length
        · omega
        · obtain rfl : k = xs.length := by omega
          have e1 : T = S := sl_inj (by rw [HT.out, HSL.out, List.take_length])
          subst e1
          go_wp2_with fail
          refine (awake3_any _ (HTb.out.grown G)).mono ?_
          rintro e w6 ⟨rfl, K6⟩
          have G6 := grown_trans G K6
          clear K6 G
          go_wp2
          go_ret
          exact ⟨rfl, G6⟩
    · have h00 : (0 : Int) < (xs.length : Int) := by omega
      have hne : xs ≠ [] := by intro h; rw [h] at h0; simp at h0
      have hs1 : 1 ≤ S.size := by
        have h1 : (lineV (xs.head hne)).length + 1 ≤ (printS xs).length := by
          cases xs with
          | nil => exact absurd rfl hne
          | cons x xs => simp [printS, lineB]
        rw [← sl_len, HSL.out]
        omega
      have hcut : sl (S.extract 0 (S.size - 1)) = (printS xs).dropLast := by
        rw [sl_extract, HSL.out, List.drop_zero, List.dropLast_eq_take]
        congr 1
        rw [← HSL.out, sl_len]
        omega
      have HC : Hid (∀ W : World, w.grownBy W none → Calls Tryd.prog 17 #[.string (S.extract 0 (S.size - 1))] W fun e w' => PMade W w' e (xs, 0, 0)) := fun W g => by
        have k := parse_any (S.extract 0 (S.size - 1)) W (by rw [← sl_len, hcut, List.length_dropLast]; omega) (HTb.out.grown g)
        rw [hcut, parse_cut xs (by omega) (by omega) hne] at k
        exact k
      clear hcut
      have hs1' : (0 : Int) ≤ (S.size : Int) - 1 := by omega
      have hs2' : (S.size : Int) - 1 ≤ (S.size : Int) := by omega
      have hs3' : ((S.size : Int) - 1).toNat = S.size - 1 := by omega
      go_wp2_with fail
      refine (HC.out _ G4).mono ?_
      rintro e w5 ⟨v5, rfl, O5, K5⟩
      have G5 := grown_trans G4 K5
      obtain ⟨ao5, cap5, rfl, C5, -⟩ := cv_of_row O5
      clear O5 G4 K5
      simp only
      go_wp2_with fail
      refine (isame_any ao5 a cap5 ca xs _ C5 (H.out.keptNone G5) (by omega)).mono ?_
      rintro e w6 ⟨rfl, n6, rfl⟩
      have GG := grown_trans G5 (grown_drewN w5 n6 none)
      clear C5 G5
      generalize w5.drewN n6 = w6 at *
      go_wp2
      go_loopw [8, 9] (fun t i wr => ∃ (k : Nat) (T : ByteArray), k ≤ xs.length ∧ i = .int .i64 k ∧ t = .string T ∧ sl T = printS (xs.take k) ∧ w.grownBy wr none) (fun _ i _ => xs.length - (intOf i).toNat)
      case atStart => exact ⟨0, ⟨#[]⟩, Nat.zero_le _, rfl, rfl, rfl, GG⟩
      case round =>
        clear GG
        obtain ⟨k, T, hk, rfl, rfl, hT, G⟩ := hrel
        have HT : Hid (sl T = printS (xs.take k)) := hT
        have hTs : T.size ≤ 38700 := by
          have h1 := printS_len (xs.take k)
          have h2 : (xs.take k).length ≤ 300 := by rw [List.length_take]; omega
          rw [← sl_len, hT]
          omega
        clear hT
        by_cases hlt : k < xs.length
        · obtain ⟨b, o, rfl, hc⟩ := H.out.insns hlt
          obtain ⟨c0, c1, c2, c3⟩ := hc k hlt
          have HJ : Hid (printS (xs.take (k + 1)) = printS (xs.take k) ++ lineV xs[k] ++ [10]) := printS_succ xs k hlt
          clear hc
          generalize xs[k] = x at *
          obtain ⟨y1, y2, y3, y4⟩ := x.bounds
          have hl : (k : Int) < (xs.length : Int) := by omega
          have g0 : wr.cell? ⟨b, o + k * 4, none⟩ = some (.int .u16 (x.code.toNat : Int)) := G.cell c0 (by simp)
          have g1 : wr.cell? ⟨b, o + k * 4 + 1, none⟩ = some (.int .u8 (x.jt.toNat : Int)) := G.cell c1 (by simp)
          have g2 : wr.cell? ⟨b, o + k * 4 + 2, none⟩ = some (.int .u8 (x.jf.toNat : Int)) := G.cell c2 (by simp)
          have g3 : wr.cell? ⟨b, o + k * 4 + 3, none⟩ = some (.int .u32 (x.k.toNat : Int)) := G.cell c3 (by simp)
          go_wp2_with fail
          refine (line_any x.code.toNat x.jt.toNat x.jf.toNat x.k.toNat _ y1 y2 y3 y4 (HTb.out.grown G)).mono ?_
          rintro e w6 ⟨rfl, K6⟩
          have G6 := grown_trans G K6
          clear G K6 g0 g1 g2 g3 c0 c1 c2 c3
          have hll := lineV_len x
          obtain ⟨Lx, hLx⟩ : ∃ Lx : ByteArray, ⟨(lineV x).toArray⟩ = Lx := ⟨_, rfl⟩
          have hLs : sl Lx = lineV x := by rw [← hLx]; rfl
          have hLz : Lx.size ≤ 128 := by rw [← sl_len, hLs]; exact hll
          have HLs : Hid (sl Lx = lineV x) := hLs
          have e1 : str (lineN x.code.toNat x.jt.toNat x.jf.toNat x.k.toNat) = .string Lx := by rw [← hLx]; rfl
          rw [e1]
          clear e1 hLx hLs
          go_wp2
          go_roundw
          case rel => exact ⟨k + 1, _, by omega, by go_num, rfl, by rw [HJ.out, sl_append, sl_append, HT.out, HLs.out]; rfl, G6⟩
          case measure => simp [intOf]; omega
        · obtain rfl : k = xs.length := by omega
          have e1 : T = S := sl_inj (by rw [HT.out, HSL.out, List.take_length])
          subst e1
          go_wp2_with fail
          refine (awake3_any _ (HTb.out.grown G)).mono ?_
          rintro e w6 ⟨rfl, K6⟩
          have G6 := grown_trans G K6
          clear K6 G
          go_wp2
          go_ret
          exact ⟨rfl, G6⟩

set_option maxRecDepth 100000 in
theorem lifted (os : Os) (started : os.Started) (H : Type) (enc : TypeId × Value → H) (F : Stop.Interp) :
    ReturnsInHanded {} Tryd.checked os 6 .any ((OpenSpec.ofChange Rows.asmBackSpec).preRow enc Tryd.prog Tryd.f6 Rows.asmBackRow.domain false Rows.asmBackRow.laid) (((OpenSpec.ofChange Rows.asmBackSpec).at F).post enc Tryd.prog Tryd.f6 false true false false) := by
  have hx : DataW.whole enc Tryd.prog ((laidWorld os).forCall (fun _ _ => 0) ⟨#[], #[.slice none 0 0], []⟩).memory Tryd.f6.params.toList Rows.asmBackSpec.vars false (#[.slice none 0 0] : Array Value).toList 8 = some ([.nil], [], []) := by kernel_rfl
  refine returnsInHanded_of_row (C := Tryd.checked) (s := (OpenSpec.ofChange Rows.asmBackSpec)) own started (by kernel_rfl) Tryd.func6
    (witness_row_at (enc := enc) (C := Tryd.checked) false (laidWorld os) #[.slice none 0 0] rfl (by kernel_rfl) (by kernel_rfl) (by kernel_rfl)
      (OpenSpec.preRow_of_cond 8 hx (by kernel_rfl) (fun k hk => by cases hk) (by kernel_rfl) (laid_met os _))) ?_
  intro W base args ds gs before hval0 hW hcnd hcond hsz0 hL _ _
  have hsz : (DataW.weightsEach Tryd.prog (Tryd.f6.params.toList ++ Rows.asmBackSpec.plain.varTypes Tryd.prog) (ds ++ gs)).all (· ≤ reachBytes) = true := hsz0
  have T : Tab W := laid_tab hL
  have hval : ∀ (j : Nat) t v, Tryd.f6.params[j]? = some t → args[j]? = some v → Value.okWide Tryd.prog W .any base t v := hval0
  have hW' := hW
  obtain ⟨p, q, hA0, hV, rfl, hfz, hnd⟩ := hW
  have hA : DataW.TrodAll enc Tryd.prog W 0 (fun _ => true) true Tryd.f6.params.toList args.toList ds p := hA0
  rw [Tryd.params6] at hA hval hsz
  obtain ⟨v0, vs0, d0, ds0, p0, q0, hargs, rfl, rfl, h0, r0⟩ := trodAll_cons hA
  obtain ⟨rfl, rfl, rfl⟩ := trodAll_nil r0
  obtain rfl : args = #[v0] := by cases args; simp_all
  obtain ⟨rfl, rfl⟩ := trodVars_none hV
  obtain ⟨a0, len0, cap0, rfl⟩ := okWide_slice Tryd.underlying29 (hval 0 29 v0 rfl rfl)
  have k0 := h0
  have lt0 : ∀ x ∈ p0, x.block < W.heap.size := by obtain ⟨m, hm⟩ := k0; exact DataW.trod_lt m _ _ _ hm
  obtain ⟨xs0, rfl, hcells0, hnil0, hcp0, hdat0⟩ := open_insns h0
  have hlen0 : xs0.length * 8 ≤ 140737488351232 := by
    rcases hdat0 with ⟨_, rfl⟩ | ⟨elems, spare, rfl, hle⟩
    · simp
    · have := sized_slice hsz (j := 0) (t := 29) (e := 25) rfl rfl Tryd.underlying29
      rw [bytes25] at this
      unfold reachBytes at this
      omega
  clear hA0 hval0
  refine (walk a0 cap0 xs0 W hcells0 hnil0 hcp0.1 hcp0.2 (by omega) T).mono fun e W' ⟨he, hg⟩ => ?_
  subst he
  have bel : Below W.heap.size W W' := (Below.refl _ _).grown hg (Nat.le_refl _) (by simp)
  exact ⟨_, rfl, _, _, _, [], _, [], hW', trodAll_mk1 (shut_bool Tryd.underlying4 _), (trodAll_cons_mk (Below.trod laidOut (by kernel_rfl) (of_decide_eq_true (by kernel_rfl)) k0 bel lt0) trodAll_mk0), rfl, bel.frame _, fun h => by cases h⟩

theorem over : Rows.AsmBackSaid :=
  OpenClaim.holds_of_cond 6 Tryd.f6 rfl rfl rfl rfl rfl rfl rfl ⟨rfl, rfl, rfl, rfl, rfl⟩ rfl rfl rfl rfl rfl (by kernel_rfl) Tryd.func6 (by kernel_rfl)
    (of_decide_eq_true (by kernel_rfl)) (by unfold Func.isWrapper; first | (rw [if_pos (by decide +kernel)]; kernel_rfl) | (rw [if_neg (by decide +kernel)]; exact ⟨rfl, rfl⟩))
    (fun os started H enc _ F => by rw [OpenClaim.pre_eq_preRow]; exact lifted os started H enc F)

theorem plain (f : FuncId) (fn : Func) (hf : Tryd.pinned.checked.prog.funcNamed "riddle/riddlelaw3.AsmBack" = some f) (hfn : Tryd.pinned.checked.prog.funcs[f]? = some fn) :
    false = Tryd.pinned.checked.prog.looks [] ∧ ∀ (j : Nat) t, fn.params[j]? = some t → Tryd.pinned.checked.prog.wantsStandIn t = false := by
  obtain rfl : f = 6 := Option.some.inj ((show Tryd.prog.funcNamed "riddle/riddlelaw3.AsmBack" = some 6 by kernel_rfl).symm.trans hf) |>.symm
  obtain rfl : fn = Tryd.f6 := (Option.some.inj (Tryd.func6.symm.trans hfn)).symm
  refine ⟨by kernel_rfl, fun j t ht => ?_⟩
  rw [Tryd.params6] at ht
  have ht2 := Array.mem_of_getElem? ht
  simp only [List.mem_toArray, List.mem_cons, List.not_mem_nil, or_false] at ht2
  rcases ht2 with rfl
  · exact (show Tryd.prog.wantsStandIn 29 = false by kernel_rfl)

theorem card : Rows.AsmBackCardSaid :=
  Claim7.holds_tied_plain_at .later [] _ _ _ _ over (fun _ h => by cases h) (by kernel_rfl) (fun _ h => by cases h) asmBack_row_tie rfl ⟨rfl, rfl⟩ (by kernel_rfl) rfl plain (by kernel_rfl)

end asmBack

theorem asmBack_holds : Rows.AsmBackCardSaid := asmBack.card
#print axioms asmBack_holds
end Go.Proofs.YtcapmbeabfhjoaaDoor
