/-
  For every list of bytes, every place and every size (the list's capacity at most 2^47 - 4096 bytes, as the form itself says of each argument) riddlelaw1.WordGets returns true and leaves what was there as it was: no condition of ours.
-/
import Derived.Test.YtaglcfcgfofhkaaOpen
namespace Go.Proofs.Ytaglcfcgfofhkaa
open Go.ChangeShapes Go.WideShapes Go.ChangeAt Go.RowKit
open Go.ChangeMaps (open_string shut_string)
namespace wordGets

set_option maxHeartbeats 2000000 in
theorem walk (a : Option Addr) (ca : Nat) (xs : List UInt8) (p s : Int) (w : World) (ha : Cells w a xs) (hc0 : a = none → ca = 0) (hn : xs.length ≤ 140737488351232) :
    Calls Try.prog 3 #[.slice a xs.length ca, .int .i64 p, .int .i64 s] w fun e w' => e = .returned (.bool true) ∧ w.grownBy w' none := by
  have H : Hid (Cells w a xs) := ha
  clear ha
  go_enter Try.func3, Try.ntmps3
  go_wp2
  go_loopw [7] (fun i wr => ∃ n : Int, -1 ≤ n ∧ n ≤ 6 ∧ i = .int .i64 n ∧ w.grownBy wr none) (fun i _ => (6 - intOf i).toNat)
  case atStart => exact ⟨-1, by omega, by omega, rfl, World.grownBy.refl _ _⟩
  case round =>
    obtain ⟨n, hn1, hn6, rfl, G⟩ := hrel
    by_cases hlt : n < 6
    · rcases (show ((n < 5) ∨ (¬ n < 5 ∧ (s == 3) = true)) ∨ (¬ n < 5 ∧ (s == 3) = false) by cases h : (s == 3) <;> simp <;> omega) with hyes | ⟨h5, h3⟩
      · rcases hyes with h5 | ⟨h5, h3⟩
        all_goals
          go_wp2_with fail
          refine (lend_any a ca xs _ (H.out.keptNone G) hc0 hn).mono ?_
          rintro e w1 ⟨v1, rfl, L1, G1⟩
          obtain ⟨g, cap, rfl, hcap, hcm, hg1, hg2, hown⟩ := L1
          have C1 := (cells_front hown).1
          have G2 := grown_trans G G1
          go_wp2_with fail
          refine (get_any _ cap xs p n _ C1 (by omega)).mono ?_
          rintro e w' ⟨rfl, rfl⟩
          go_wp2_with fail
          refine (refget_any a ca xs p n _ (H.out.keptNone G2) (by omega)).mono ?_
          rintro e w' ⟨rfl, rfl⟩
          clear C1
          go_wp2_with fail
          refine (kept_any g cap a ca xs _ (owns_mono hown (Nat.zero_le _)) (H.out.keptNone G2) hn).mono ?_
          rintro e w2 ⟨rfl, G3⟩
          have G4 : w.grownBy w2 none := grown_trans_new G2 G3 (by intro x hx; obtain rfl := Option.some.inj hx; have := G.size; omega)
          clear hown G3 G2 G1 G hcap hcm hg1 hg2
          go_wp2
          go_roundw
          case rel => exact ⟨n + 1, by omega, by omega, rfl, G4⟩
          case measure => simp [intOf]; omega
      · go_wp2
        go_roundw
        case rel => exact ⟨n + 1, by omega, by omega, rfl, G⟩
        case measure => simp [intOf]; omega
    · go_wp2_with fail
      refine (copy_any a ca xs _ (H.out.keptNone G) hc0 (by omega)).mono ?_
      rintro e w1 ⟨v1, rfl, O1, G1⟩
      obtain ⟨ao, cap, rfl, C1, _⟩ := O1.shape
      have G2 := grown_trans G G1
      clear O1 G1 G
      go_wp2_with fail
      refine (get_any _ cap xs p s _ C1 (by omega)).mono ?_
      rintro e w' ⟨rfl, rfl⟩
      go_wp2_with fail
      refine (refget_any a ca xs p s _ (H.out.keptNone G2) (by omega)).mono ?_
      rintro e w' ⟨rfl, rfl⟩
      clear C1
      go_wp2_with fail
      refine (awake_any _).mono ?_
      rintro e w2 ⟨rfl, G3⟩
      have G4 := grown_trans G2 G3
      clear G2 G3
      go_wp2
      go_ret
      exact ⟨rfl, G4⟩

set_option maxRecDepth 100000 in
theorem lifted (os : Os) (started : os.Started) (H : Type) (enc : TypeId × Value → H) :
    ReturnsInHanded {} Try.checked os 3 .any (Rows.wordGetsSpec.pre6 enc Try.prog Try.f3 Rows.wordGetsRow.domain false) (Rows.wordGetsSpec.post enc Try.prog Try.f3 false true false false) := by
  refine returnsInHanded_of_change_sized (C := Try.checked) own started (by kernel_rfl) Try.func3
    (ChangeSpec.witness6 (enc := enc) (C := Try.checked) false ⟨#[], #[.slice none 0 0, .int .i64 0, .int .i64 0], []⟩ 8 (by kernel_rfl) (by kernel_rfl) (by kernel_rfl) (by kernel_rfl)) ?_
  intro W base args ds gs before hval0 hW hcnd hsz0 _
  have hsz : (DataW.weightsEach Try.prog (Try.f3.params.toList ++ Rows.wordGetsSpec.plain.varTypes Try.prog) (ds ++ gs)).all (· ≤ reachBytes) = true := hsz0
  have hval : ∀ (j : Nat) t v, Try.f3.params[j]? = some t → args[j]? = some v → Value.okWide Try.prog W .any base t v := hval0
  have hW' := hW
  obtain ⟨p, q, hA0, hV, rfl, hfz, hnd⟩ := hW
  have hA : DataW.TrodAll enc Try.prog W 0 (fun _ => true) true Try.f3.params.toList args.toList ds p := hA0
  rw [Try.params3] at hA hval hsz
  obtain ⟨v0, vs0, d0, ds0, p0, q0, hargs, rfl, rfl, h0, r0⟩ := trodAll_cons hA
  obtain ⟨v1, vs1, d1, ds1, p1, q1, rfl, rfl, rfl, h1, r1⟩ := trodAll_cons r0
  obtain ⟨v2, vs2, d2, ds2, p2, q2, rfl, rfl, rfl, h2, r2⟩ := trodAll_cons r1
  obtain ⟨rfl, rfl, rfl⟩ := trodAll_nil r2
  obtain rfl : args = #[v0, v1, v2] := by cases args; simp_all
  obtain ⟨rfl, rfl⟩ := trodVars_none hV
  obtain ⟨a0, len0, cap0, rfl⟩ := okWide_slice Try.underlying22 (hval 0 22 v0 rfl rfl)
  have k0 := h0
  have lt0 : ∀ x ∈ p0, x.block < W.heap.size := by obtain ⟨m, hm⟩ := k0; exact DataW.trod_lt m _ _ _ hm
  obtain ⟨xs0, rfl, hcells0, hnil0, hdat0⟩ := open_bytes Try.underlying22 Try.underlying5 (by kernel_rfl) h0
  obtain ⟨x1, rfl, rfl, rfl, w1⟩ := open_int Try.underlying3 (hval 1 3 v1 rfl rfl) h1
  obtain ⟨x2, rfl, rfl, rfl, w2⟩ := open_int Try.underlying3 (hval 2 3 v2 rfl rfl) h2
  have hlen0 : xs0.length * 1 ≤ 140737488351232 := by
    rcases hdat0 with ⟨_, rfl⟩ | ⟨elems, spare, rfl, hle⟩
    · simp
    · have := sized_slice hsz (j := 0) (t := 22) (e := 5) rfl rfl Try.underlying22
      rw [bytes5] at this
      unfold reachBytes at this
      omega
  clear hA0 hval0
  refine (walk a0 cap0 xs0 x1 x2 W hcells0 hnil0 (by omega)).mono fun e W' ⟨he, hg⟩ => ?_
  subst he
  have bel : Below W.heap.size W W' := (Below.refl _ _).grown hg (Nat.le_refl _) (by simp)
  exact ⟨_, rfl, _, _, _, [], _, [], hW', trodAll_mk1 (shut_bool Try.underlying4 _), (trodAll_cons_mk (Below.trod laidOut (by kernel_rfl) (of_decide_eq_true (by kernel_rfl)) k0 bel lt0) (trodAll_cons_mk (shut_int Try.underlying3 w1) (trodAll_cons_mk (shut_int Try.underlying3 w2) trodAll_mk0))), rfl, bel.frame _, fun h => by cases h⟩

theorem over : Rows.WordGetsSaid :=
  OpenClaim.holds_of_wide 3 Try.f3 rfl rfl rfl rfl rfl rfl rfl ⟨rfl, rfl, rfl, rfl, rfl⟩ rfl rfl rfl rfl rfl (by kernel_rfl) Try.func3 (by kernel_rfl)
    (of_decide_eq_true (by kernel_rfl)) (by unfold Func.isWrapper; first | (rw [if_pos (by decide +kernel)]; kernel_rfl) | (rw [if_neg (by decide +kernel)]; exact ⟨rfl, rfl⟩))
    (fun os started H enc _ => lifted os started H enc)

end wordGets

theorem wordGets_holds : Rows.WordGetsSaid := wordGets.over
#print axioms wordGets_holds
end Go.Proofs.Ytaglcfcgfofhkaa
