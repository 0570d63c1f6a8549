/-
  For every two lists of bytes and every number of bits (each list's capacity at most 2^47 - 4096 bytes, as the form itself says of each argument) riddlelaw6.AddrNets returns true and leaves what was there as it was: no condition of ours.
-/
import Derived.Test.YtbklagdegnflgaaDoorOpen
import Derived.Test.YtbklagdegnflgaaDoorAwake6
import Derived.Test.YtbklagdegnflgaaDoorLaid6
namespace Go.Proofs.YtbklagdegnflgaaDoor
open Go.ChangeShapes Go.WideShapes Go.ChangeAt Go.RowKit
open Go.ChangeMaps (open_string shut_string)
set_option maxRecDepth 100000
namespace addrNets

theorem netV_len (xs : List UInt8) (bits : Int) : (netV xs bits).length ≤ xs.length := by
  unfold netV
  split
  · rw [mask_len]; exact Nat.le_refl _
  · exact Nat.zero_le _

set_option maxHeartbeats 2000000 in
theorem walk (a : Option Addr) (ca : Nat) (xs : List UInt8) (b : Option Addr) (cb : Nat) (ys : List UInt8) (bits : Int) (w : World) (ha : Cells w a xs) (hc0 : a = none → ca = 0) (hn : xs.length ≤ 140737488351232) (hb : Cells w b ys) (hd0 : b = none → cb = 0) (hn2 : ys.length ≤ 140737488351232) (T : Tab w) :
    Calls Tryd.prog 5 #[.slice a xs.length ca, .slice b ys.length cb, .int .i64 bits] w fun e w' => e = .returned (.bool true) ∧ w.grownBy w' none := by
  have HTb : Hid (Tab w) := T
  clear T
  have H : Hid (Cells w a xs) := ha
  have H2 : Hid (Cells w b ys) := hb
  clear ha hb
  have hpl := netV_len xs bits
  go_enter Tryd.func5, Tryd.ntmps5
  go_wp2_with fail
  refine (refnet_any a ca xs bits _ H.out hc0 (by omega)).mono ?_
  rintro e w1 ⟨want, rfl, O1, G1⟩
  obtain ⟨ao1, cap1, rfl, C1, _, _, B1, _⟩ := O1.shape
  clear O1
  go_wp2_with fail
  refine (lend_any a ca xs _ (H.out.keptNone G1) hc0 hn).mono ?_
  rintro e w2 ⟨v2, rfl, L2, K2⟩
  obtain ⟨g, cap, rfl, hcap, hcm, hg1, hg2, hown⟩ := L2
  have C2 := (cells_front hown).1
  have G2 := grown_trans G1 K2
  have D2 := C1.keptNone K2
  go_wp2_with fail
  refine (net_any _ cap xs bits _ C2 (by simp) (by omega)).mono ?_
  rintro e w3 ⟨x, rfl, O3, K3⟩
  have G3 := grown_trans G2 K3
  have D3 := D2.keptNone K3
  have own3 := hown.kept K3 (by simp [Value.ownBlock])
  clear C2 D2 C1 hown
  go_wp2_with fail
  refine (kept_any g cap a ca xs _ (owns_mono own3 (Nat.zero_le _)) (H.out.keptNone G3) hn).mono ?_
  rintro e w4 ⟨rfl, K4⟩
  have D4 := D3.keptUp w1.heap.size (fun ad had => (B1 ad had).2) K4 (by intro k hk; obtain rfl := Option.some.inj hk; exact hg1)
  have O4 : Owns w4 w2.heap.size x (netV xs bits) := O3.kept K4 (by
    right
    intro e
    have := (O3.lt g e).1
    omega)
  have G4 : w.grownBy w4 none := grown_trans_new G3 K4 (by intro k hk; obtain rfl := Option.some.inj hk; have := G1.size; omega)
  clear own3 D3 O3
  go_wp2_with fail
  refine (copy_any a ca xs _ (H.out.keptNone G4) hc0 (by omega)).mono ?_
  rintro e w5 ⟨v5, rfl, O5, K5⟩
  obtain ⟨ao5, cap5, rfl, C5, _, _, B5, hob⟩ := O5.shape
  have hnil5 : ao5 = none → cap5 = 0 := by
    intro e
    subst e
    rcases O5.2 with ⟨h, _⟩ | ⟨_, _, _, h, _⟩
    · simp only [Value.slice.injEq] at h
      exact h.2.2
    · simp at h
  have D5 := D4.keptNone K5
  have O5x := O4.kept K5 (by cases h : x.ownBlock <;> simp)
  have G5 := grown_trans G4 K5
  clear O5 hob B5 D4
  go_wp2_with fail
  refine (net_any _ cap5 xs bits _ C5 hnil5 (by omega)).mono ?_
  rintro e w6 ⟨y, rfl, O6, K6⟩
  obtain ⟨ao6, cap6, rfl, C6, _, _, B6, _⟩ := O6.shape
  have D6 := D5.keptNone K6
  have O6x := O5x.kept K6 (by cases h : x.ownBlock <;> simp)
  have G6 := grown_trans G5 K6
  have E6 : ∃ aox capx, x = .slice aox (netV xs bits).length capx ∧ Cells w6 aox (netV xs bits) := by
    obtain ⟨aox, capx, h, c, _⟩ := Owns.shape O6x
    exact ⟨aox, capx, h, c⟩
  obtain ⟨aox, capx, hx, Cx⟩ := E6
  subst hx
  clear C5 O6 D5 O5x
  go_wp2_with fail
  refine (same_any aox ao1 capx cap1 _ _ Cx D6 (by omega)).mono ?_
  rintro e w7 ⟨rfl, n7, rfl⟩
  clear Cx
  go_wp2_with fail
  refine (spoil_own (xs := netV xs bits) (base := w2.heap.size) (w6.drewN n7) O6x (by omega)).mono ?_
  rintro e w8 ⟨rfl, K8⟩
  have K9 : w6.grownBy w8 _ := grown_trans (grown_drewN w6 n7 _) K8
  have hxb := O6x.lt
  have hx4 := O4.lt
  have D8 := D6.keptUp w1.heap.size (fun ad had => (B1 ad had).2) K9 (fun k hk => by have := (hxb k hk).1; have := K2.size; omega)
  have C8 := C6.keptDown w5.heap.size (fun ad had => (B6 ad had).1) K9 (fun k hk => by have := (hx4 k hk).2; have := K5.size; omega)
  have G8 : w.grownBy w8 none := grown_trans_new G6 K9 (fun k hk => by have := (hxb k hk).1; have := G2.size; omega)
  clear K8 K9 D6 C6 O6x
  go_wp2_with fail
  refine (lend_any a ca xs _ (H.out.keptNone G8) hc0 hn).mono ?_
  rintro e w9 ⟨v9, rfl, L9, K9⟩
  obtain ⟨g1, cp1, rfl, hcp1, hcm1, hg11, hg12, hown1⟩ := L9
  have C9 := C8.keptNone K9
  have D9 := D8.keptNone K9
  have G9 := grown_trans G8 K9
  clear C8 D8
  go_wp2_with fail
  refine (lend_any b cb ys _ (H2.out.keptNone G9) hd0 hn2).mono ?_
  rintro e w10 ⟨v10, rfl, L10, K10⟩
  obtain ⟨g2, cp2, rfl, hcp2, hcm2, hg21, hg22, hown2⟩ := L10
  have C10 := C9.keptNone K10
  have D10 := D9.keptNone K10
  have G10 := grown_trans G9 K10
  have own10 := owns_keptNone hown1 K10
  clear C9 D9 hown1
  have E1 := (cells_front own10).1
  have E2 := (cells_front hown2).1
  go_wp2_with fail
  refine (in_any6 _ cp1 xs _ cp2 ys bits _ E1 (by simp) (by omega) E2 (by simp)).mono ?_
  rintro e w11 ⟨rfl, K11⟩
  have C11 := C10.keptNone K11
  have D11 := D10.keptNone K11
  have G11 := grown_trans G10 K11
  have own11 := owns_keptNone own10 K11
  have own21 := owns_keptNone hown2 K11
  clear C10 D10 own10 hown2 E1 E2
  go_wp2_with fail
  refine (refin_any a ca xs b cb ys bits _ (H.out.keptNone G11) hc0 (by omega) (H2.out.keptNone G11) hd0).mono ?_
  rintro e w12 ⟨rfl, K12⟩
  have C12 := C11.keptNone K12
  have D12 := D11.keptNone K12
  have G12 := grown_trans G11 K12
  have own12 := owns_keptNone own11 K12
  have own22 := owns_keptNone own21 K12
  clear C11 D11 own11 own21
  go_wp2_with fail
  refine (same_any ao6 ao1 cap6 cap1 _ _ C12 D12 (by omega)).mono ?_
  rintro e w13 ⟨rfl, n13, rfl⟩
  have G13 := grown_trans G12 (grown_drewN w12 n13 none)
  have own13 := owns_keptNone own12 (grown_drewN w12 n13 none)
  have own23 := owns_keptNone own22 (grown_drewN w12 n13 none)
  clear C12 D12 own12 own22
  generalize w12.drewN n13 = w14 at *
  go_wp2_with fail
  refine (kept_any g1 cp1 a ca xs _ (owns_mono own13 (Nat.zero_le _)) (H.out.keptNone G13) hn).mono ?_
  rintro e w15 ⟨rfl, K15⟩
  have hg1w : w.heap.size ≤ g1 := by have := G8.size; omega
  have hg2w : w.heap.size ≤ g2 := by have := G9.size; omega
  have G15 : w.grownBy w15 none := grown_trans_new G13 K15 (by intro k hk; obtain rfl := Option.some.inj hk; exact hg1w)
  have own25 := own23.kept K15 (by
    right
    intro e
    have e : g2 = g1 := Option.some.inj e
    omega)
  clear own13 own23
  go_wp2_with fail
  refine (kept_any g2 cp2 b cb ys _ (owns_mono own25 (Nat.zero_le _)) (H2.out.keptNone G15) hn2).mono ?_
  rintro e w16 ⟨rfl, K16⟩
  have G16 : w.grownBy w16 none := grown_trans_new G15 K16 (by intro k hk; obtain rfl := Option.some.inj hk; exact hg2w)
  clear own25
  go_wp2_with fail
  refine (awake6_any _ (HTb.out.grown G16)).mono ?_
  rintro e w17 ⟨rfl, K17⟩
  have G17 := grown_trans G16 K17
  clear K17 G16 G15 G13 G12 G11 G10 G9 G8 G6 G5 G4 G3 G2 G1 K2 K3 K4 K5 K6
  go_wp2
  go_ret
  exact ⟨rfl, G17⟩

set_option maxRecDepth 100000 in
theorem lifted (os : Os) (started : os.Started) (H : Type) (enc : TypeId × Value → H) (F : Stop.Interp) :
    ReturnsInHanded {} Tryd.checked os 5 .any ((OpenSpec.ofChange Rows.addrNetsSpec).preRow enc Tryd.prog Tryd.f5 Rows.addrNetsRow.domain false Rows.addrNetsRow.laid) (((OpenSpec.ofChange Rows.addrNetsSpec).at F).post enc Tryd.prog Tryd.f5 false true false false) := by
  have hx : DataW.whole enc Tryd.prog ((laidWorld os).forCall (fun _ _ => 0) ⟨#[], #[.slice none 0 0, .slice none 0 0, .int .i64 0], []⟩).memory Tryd.f5.params.toList Rows.addrNetsSpec.vars false (#[.slice none 0 0, .slice none 0 0, .int .i64 0] : Array Value).toList 8 = some ([.nil, .nil, .lit (.int .i64 0)], [], []) := by kernel_rfl
  refine returnsInHanded_of_row (C := Tryd.checked) (s := (OpenSpec.ofChange Rows.addrNetsSpec)) own started (by kernel_rfl) Tryd.func5
    (witness_row_at (enc := enc) (C := Tryd.checked) false (laidWorld os) #[.slice none 0 0, .slice none 0 0, .int .i64 0] rfl (by kernel_rfl) (by kernel_rfl) (by kernel_rfl)
      (OpenSpec.preRow_of_cond 8 hx (by kernel_rfl) (fun k hk => by cases hk) (by kernel_rfl) (laid_met os _))) ?_
  intro W base args ds gs before hval0 hW hcnd hcond hsz0 hL hsh _
  have hsz : (DataW.weightsEach Tryd.prog (Tryd.f5.params.toList ++ Rows.addrNetsSpec.plain.varTypes Tryd.prog) (ds ++ gs)).all (· ≤ reachBytes) = true := hsz0
  have T : Tab W := laid_tab hL hsh
  have hval : ∀ (j : Nat) t v, Tryd.f5.params[j]? = some t → args[j]? = some v → Value.okWide Tryd.prog W .any base t v := hval0
  have hW' := hW
  obtain ⟨p, q, hA0, hV, rfl, hfz, hnd⟩ := hW
  have hA : DataW.TrodAll enc Tryd.prog W 0 (fun _ => true) true Tryd.f5.params.toList args.toList ds p := hA0
  rw [Tryd.params5] at hA hval hsz
  obtain ⟨v0, vs0, d0, ds0, p0, q0, hargs, rfl, rfl, h0, r0⟩ := trodAll_cons hA
  obtain ⟨v1, vs1, d1, ds1, p1, q1, rfl, rfl, rfl, h1, r1⟩ := trodAll_cons r0
  obtain ⟨v2, vs2, d2, ds2, p2, q2, rfl, rfl, rfl, h2, r2⟩ := trodAll_cons r1
  obtain ⟨rfl, rfl, rfl⟩ := trodAll_nil r2
  obtain rfl : args = #[v0, v1, v2] := by cases args; simp_all
  obtain ⟨rfl, rfl⟩ := trodVars_none hV
  obtain ⟨a0, len0, cap0, rfl⟩ := okWide_slice Tryd.underlying34 (hval 0 34 v0 rfl rfl)
  have k0 := h0
  have lt0 : ∀ x ∈ p0, x.block < W.heap.size := by obtain ⟨m, hm⟩ := k0; exact DataW.trod_lt m _ _ _ hm
  obtain ⟨xs0, rfl, hcells0, hnil0, hdat0⟩ := open_bytes Tryd.underlying34 Tryd.underlying5 (by kernel_rfl) h0
  obtain ⟨a1, len1, cap1, rfl⟩ := okWide_slice Tryd.underlying34 (hval 1 34 v1 rfl rfl)
  have k1 := h1
  have lt1 : ∀ x ∈ p1, x.block < W.heap.size := by obtain ⟨m, hm⟩ := k1; exact DataW.trod_lt m _ _ _ hm
  obtain ⟨xs1, rfl, hcells1, hnil1, hdat1⟩ := open_bytes Tryd.underlying34 Tryd.underlying5 (by kernel_rfl) h1
  obtain ⟨x2, rfl, rfl, rfl, w2⟩ := open_int Tryd.underlying3 (hval 2 3 v2 rfl rfl) h2
  have hlen0 : xs0.length * 1 ≤ 140737488351232 := by
    rcases hdat0 with ⟨_, rfl⟩ | ⟨elems, spare, rfl, hle⟩
    · simp
    · have := sized_slice hsz (j := 0) (t := 34) (e := 5) rfl rfl Tryd.underlying34
      rw [bytes5] at this
      unfold reachBytes at this
      omega
  have hlen1 : xs1.length * 1 ≤ 140737488351232 := by
    rcases hdat1 with ⟨_, rfl⟩ | ⟨elems, spare, rfl, hle⟩
    · simp
    · have := sized_slice hsz (j := 1) (t := 34) (e := 5) rfl rfl Tryd.underlying34
      rw [bytes5] at this
      unfold reachBytes at this
      omega
  clear hA0 hval0
  refine (walk a0 cap0 xs0 a1 cap1 xs1 x2 W hcells0 hnil0 (by omega) hcells1 hnil1 (by omega) T).mono fun e W' ⟨he, hg⟩ => ?_
  subst he
  have bel : Below W.heap.size W W' := (Below.refl _ _).grown hg (Nat.le_refl _) (by simp)
  exact ⟨_, rfl, _, _, _, [], _, [], hW', trodAll_mk1 (shut_bool Tryd.underlying4 _), (trodAll_cons_mk (Below.trod laidOut (by kernel_rfl) (of_decide_eq_true (by kernel_rfl)) k0 bel lt0) (trodAll_cons_mk (Below.trod laidOut (by kernel_rfl) (of_decide_eq_true (by kernel_rfl)) k1 bel lt1) (trodAll_cons_mk (shut_int Tryd.underlying3 w2) trodAll_mk0))), rfl, bel.frame _, fun h => by cases h⟩

theorem over : Rows.AddrNetsSaid :=
  OpenClaim.holds_of_cond 5 Tryd.f5 rfl rfl rfl rfl rfl rfl rfl ⟨rfl, rfl, rfl, rfl, rfl⟩ rfl rfl rfl rfl rfl (by kernel_rfl) Tryd.func5 (by kernel_rfl)
    (of_decide_eq_true (by kernel_rfl)) (by unfold Func.isWrapper; first | (rw [if_pos (by decide +kernel)]; kernel_rfl) | (rw [if_neg (by decide +kernel)]; exact ⟨rfl, rfl⟩))
    (fun os started H enc _ F => by rw [OpenClaim.pre_eq_preRow]; exact lifted os started H enc F)

theorem plain (f : FuncId) (fn : Func) (hf : Tryd.pinned.checked.prog.funcNamed "riddle/riddlelaw6.AddrNets" = some f) (hfn : Tryd.pinned.checked.prog.funcs[f]? = some fn) :
    false = Tryd.pinned.checked.prog.looks [] ∧ ∀ (j : Nat) t, fn.params[j]? = some t → Tryd.pinned.checked.prog.wantsStandIn t = false := by
  obtain rfl : f = 5 := Option.some.inj ((show Tryd.prog.funcNamed "riddle/riddlelaw6.AddrNets" = some 5 by kernel_rfl).symm.trans hf) |>.symm
  obtain rfl : fn = Tryd.f5 := (Option.some.inj (Tryd.func5.symm.trans hfn)).symm
  refine ⟨by kernel_rfl, fun j t ht => ?_⟩
  rw [Tryd.params5] at ht
  have ht2 := Array.mem_of_getElem? ht
  simp only [List.mem_toArray, List.mem_cons, List.not_mem_nil, or_false] at ht2
  rcases ht2 with rfl | rfl | rfl
  · exact (show Tryd.prog.wantsStandIn 34 = false by kernel_rfl)
  · exact (show Tryd.prog.wantsStandIn 34 = false by kernel_rfl)
  · exact (show Tryd.prog.wantsStandIn 3 = false by kernel_rfl)

theorem card : Rows.AddrNetsCardSaid :=
  Claim7.holds_tied_plain_at .later [] _ _ _ _ over (fun _ h => by cases h) (by kernel_rfl) (fun _ h => by cases h) addrNets_row_tie rfl ⟨rfl, rfl⟩ (by kernel_rfl) rfl plain (by kernel_rfl)

end addrNets

theorem addrNets_holds : Rows.AddrNetsCardSaid := addrNets.card
#print axioms addrNets_holds
end Go.Proofs.YtbklagdegnflgaaDoor
