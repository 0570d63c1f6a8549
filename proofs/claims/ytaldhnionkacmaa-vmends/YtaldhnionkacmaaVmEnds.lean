/-
  For every two lists of bytes (their capacities at most 2^47 - 4096 bytes, as the form itself says of each argument) riddlelaw5.VmEnds returns true and leaves what was there as it was: no condition of ours.
-/
import Derived.Test.YtaldhnionkacmaaOpenI
import Derived.Test.YtaldhnionkacmaaVmW
import Derived.Test.YtaldhnionkacmaaDecP
namespace Go.Proofs.Ytaldhnionkacmaa
open Go.ChangeShapes Go.WideShapes Go.ChangeAt Go.RowKit
open Go.ChangeMaps (open_string shut_string)
set_option maxRecDepth 100000
namespace vmEnds

theorem decV_few (xs : List UInt8) : (decV xs).length ≤ 4096 := by
  unfold decV
  split
  · rename_i h
    rw [decP_len]
    unfold decE at h
    split at h
    · simp at h
    · split at h
      · simp at h
      · omega
  · simp

set_option maxHeartbeats 1000000 in
theorem walk (a : Option Addr) (ca : Nat) (xs : List UInt8) (b : Option Addr) (cb : Nat) (pk : List UInt8) (w : World) (ha : Cells w a xs) (hc0 : a = none → ca = 0) (hn : xs.length ≤ 140737488351232)
    (hb : Cells w b pk) (hd0 : b = none → cb = 0) (_hm : pk.length ≤ 140737488351232) :
    Calls Try.prog 5 #[.slice a xs.length ca, .slice b pk.length cb] w fun e w' => e = .returned (.bool true) ∧ w.grownBy w' none := by
  have H : Hid (Cells w a xs) := ha
  have HP : Hid (Cells w b pk) := hb
  clear ha hb
  have hVl : (decV xs).length * 8 ≤ 140737488355328 := by have := decV_few xs; omega
  obtain ⟨V, hV⟩ : ∃ V, decV xs = V := ⟨_, rfl⟩
  obtain ⟨E, hE⟩ : ∃ E, decE xs = E := ⟨_, rfl⟩
  rw [hV] at hVl
  have HD : Hid (∀ (a : Option Addr) (ca : Nat) (W : World), Cells W a xs → Calls Try.prog 21 #[.slice a xs.length ca] W fun e w' => IMadeE W w' e V E) := fun a ca W h => by
    rw [← hV, ← hE]
    exact decode_any a ca xs W h (by omega)
  clear hV hE
  go_enter Try.func5, Try.ntmps5
  go_wp2_with fail
  refine (copy_any a ca xs _ H.out hc0 (by omega)).mono ?_
  rintro e w1 ⟨v1, rfl, O1, G1⟩
  obtain ⟨ao1, cap1, rfl, C1, -⟩ := O1.rd
  clear O1
  go_wp2_with fail
  refine (HD.out _ cap1 _ C1).mono ?_
  rintro e w2 ⟨v2, rfl, O2, K2⟩
  have G2 := grown_trans G1 K2
  obtain ⟨ao2, cap2, rfl, C2, -, -, hnil2, -⟩ := cv_of_row O2
  clear C1 O2 G1 K2
  by_cases hE : E = 0
  · subst hE
    by_cases hl : 65536 < pk.length
    · have hl' : (65536 : Int) < (pk.length : Int) := by omega
      go_wp2_with fail
      refine (awake5_any _).mono ?_
      rintro e w3 ⟨rfl, K3⟩
      have G3 := grown_trans G2 K3
      clear G2 K3
      go_wp2
      go_ret
      exact ⟨rfl, G3⟩
    · have hl' : ¬ ((65536 : Int) < (pk.length : Int)) := by omega
      go_wp2_with fail
      refine (ends_any ao2 b cap2 cb V pk _ C2 hnil2 hVl (HP.out.keptNone G2) hd0 (by omega)).mono ?_
      rintro e w3 ⟨rfl, K3⟩
      have G3 := grown_trans G2 K3
      clear G2 K3
      go_wp2_with fail
      refine (awake5_any _).mono ?_
      rintro e w4 ⟨rfl, K4⟩
      have G4 := grown_trans G3 K4
      clear G3 K4
      go_wp2
      go_ret
      exact ⟨rfl, G4⟩
  · have hEb : (E != 0) = true := by rw [bne_iff_ne]; exact hE
    clear hE C2
    go_wp2_with fail
    refine (awake5_any _).mono ?_
    rintro e w5 ⟨rfl, K5⟩
    have G5 := grown_trans G2 K5
    clear G2 K5
    go_wp2
    go_ret
    exact ⟨rfl, G5⟩

set_option maxRecDepth 100000 in
theorem lifted (os : Os) (started : os.Started) (H : Type) (enc : TypeId × Value → H) :
    ReturnsInHanded {} Try.checked os 5 .any (Rows.vmEndsSpec.pre6 enc Try.prog Try.f5 Rows.vmEndsRow.domain false) (Rows.vmEndsSpec.post enc Try.prog Try.f5 false true false false) := by
  refine returnsInHanded_of_change_sized (C := Try.checked) own started (by kernel_rfl) Try.func5
    (ChangeSpec.witness6 (enc := enc) (C := Try.checked) false ⟨#[], #[.slice none 0 0, .slice none 0 0], []⟩ 8 (by kernel_rfl) (by kernel_rfl) (by kernel_rfl) (by kernel_rfl)) ?_
  intro W base args ds gs before hval0 hW hcnd hsz0 _
  have hsz : (DataW.weightsEach Try.prog (Try.f5.params.toList ++ Rows.vmEndsSpec.plain.varTypes Try.prog) (ds ++ gs)).all (· ≤ reachBytes) = true := hsz0
  have hval : ∀ (j : Nat) t v, Try.f5.params[j]? = some t → args[j]? = some v → Value.okWide Try.prog W .any base t v := hval0
  have hW' := hW
  obtain ⟨p, q, hA0, hV, rfl, hfz, hnd⟩ := hW
  have hA : DataW.TrodAll enc Try.prog W 0 (fun _ => true) true Try.f5.params.toList args.toList ds p := hA0
  rw [Try.params5] at hA hval hsz
  obtain ⟨v0, vs0, d0, ds0, p0, q0, hargs, rfl, rfl, h0, r0⟩ := trodAll_cons hA
  obtain ⟨v1, vs1, d1, ds1, p1, q1, rfl, rfl, rfl, h1, r1⟩ := trodAll_cons r0
  obtain ⟨rfl, rfl, rfl⟩ := trodAll_nil r1
  obtain rfl : args = #[v0, v1] := by cases args; simp_all
  obtain ⟨rfl, rfl⟩ := trodVars_none hV
  obtain ⟨a0, len0, cap0, rfl⟩ := okWide_slice Try.underlying23 (hval 0 23 v0 rfl rfl)
  have k0 := h0
  have lt0 : ∀ x ∈ p0, x.block < W.heap.size := by obtain ⟨m, hm⟩ := k0; exact DataW.trod_lt m _ _ _ hm
  obtain ⟨xs0, rfl, hcells0, hnil0, hdat0⟩ := open_bytes Try.underlying23 Try.underlying5 (by kernel_rfl) h0
  obtain ⟨a1, len1, cap1, rfl⟩ := okWide_slice Try.underlying23 (hval 1 23 v1 rfl rfl)
  have k1 := h1
  have lt1 : ∀ x ∈ p1, x.block < W.heap.size := by obtain ⟨m, hm⟩ := k1; exact DataW.trod_lt m _ _ _ hm
  obtain ⟨xs1, rfl, hcells1, hnil1, hdat1⟩ := open_bytes Try.underlying23 Try.underlying5 (by kernel_rfl) h1
  have hlen0 : xs0.length * 1 ≤ 140737488351232 := by
    rcases hdat0 with ⟨_, rfl⟩ | ⟨elems, spare, rfl, hle⟩
    · simp
    · have := sized_slice hsz (j := 0) (t := 23) (e := 5) rfl rfl Try.underlying23
      rw [bytes5] at this
      unfold reachBytes at this
      omega
  have hlen1 : xs1.length * 1 ≤ 140737488351232 := by
    rcases hdat1 with ⟨_, rfl⟩ | ⟨elems, spare, rfl, hle⟩
    · simp
    · have := sized_slice hsz (j := 1) (t := 23) (e := 5) rfl rfl Try.underlying23
      rw [bytes5] at this
      unfold reachBytes at this
      omega
  clear hA0 hval0
  refine (walk a0 cap0 xs0 a1 cap1 xs1 W hcells0 hnil0 (by omega) hcells1 hnil1 (by omega)).mono fun e W' ⟨he, hg⟩ => ?_
  subst he
  have bel : Below W.heap.size W W' := (Below.refl _ _).grown hg (Nat.le_refl _) (by simp)
  exact ⟨_, rfl, _, _, _, [], _, [], hW', trodAll_mk1 (shut_bool Try.underlying4 _), (trodAll_cons_mk (Below.trod laidOut (by kernel_rfl) (of_decide_eq_true (by kernel_rfl)) k0 bel lt0) (trodAll_cons_mk (Below.trod laidOut (by kernel_rfl) (of_decide_eq_true (by kernel_rfl)) k1 bel lt1) trodAll_mk0)), rfl, bel.frame _, fun h => by cases h⟩

theorem over : Rows.VmEndsSaid :=
  OpenClaim.holds_of_wide 5 Try.f5 rfl rfl rfl rfl rfl rfl rfl ⟨rfl, rfl, rfl, rfl, rfl⟩ rfl rfl rfl rfl rfl (by kernel_rfl) Try.func5 (by kernel_rfl)
    (of_decide_eq_true (by kernel_rfl)) (by unfold Func.isWrapper; first | (rw [if_pos (by decide +kernel)]; kernel_rfl) | (rw [if_neg (by decide +kernel)]; exact ⟨rfl, rfl⟩))
    (fun os started H enc _ => lifted os started H enc)

end vmEnds

theorem vmEnds_holds : Rows.VmEndsSaid := vmEnds.over
#print axioms vmEnds_holds
end Go.Proofs.Ytaldhnionkacmaa
