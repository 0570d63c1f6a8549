/-
  For every list of bytes (its capacity at most 2^47 - 4096 bytes, as the form itself says of each argument) riddlelaw4.CheckBytes returns true and leaves what was there as it was: no condition of ours.
-/
import Derived.Test.YtibaednekfjonaaOpenI
import Derived.Test.YtibaednekfjonaaAwake4
import Derived.Test.YtibaednekfjonaaDecP
namespace Go.Proofs.Ytibaednekfjonaa
open Go.ChangeShapes Go.WideShapes Go.ChangeAt Go.RowKit
open Go.ChangeMaps (open_string shut_string)
set_option maxRecDepth 100000
namespace checkBytes

set_option maxHeartbeats 2000000 in
theorem walk (a : Option Addr) (ca : Nat) (xs : List UInt8) (w : World) (ha : Cells w a xs) (hc0 : a = none → ca = 0) (hn : xs.length ≤ 140737488351232) :
    Calls Try.prog 5 #[.slice a xs.length ca] w fun e w' => e = .returned (.bool true) ∧ w.grownBy w' none := by
  have H : Hid (Cells w a xs) := ha
  clear ha
  obtain ⟨V, hV⟩ : ∃ V, decV xs = V := ⟨_, rfl⟩
  obtain ⟨E, hE⟩ : ∃ E, decE xs = E := ⟨_, rfl⟩
  have HD : Hid (∀ (a : Option Addr) (ca : Nat) (W : World), Cells W a xs → Calls Try.prog 19 #[.slice a xs.length ca] W fun e w' => IMadeE W w' e V E) := fun a ca W h => by
    rw [← hV, ← hE]
    exact decode_any a ca xs W h (by omega)
  clear hV hE
  obtain ⟨P, F, hPF⟩ : ∃ P F, checkV V = (P, F) := ⟨_, _, rfl⟩
  have HR : Hid (∀ (a : Option Addr) (ca : Nat) (W : World), CV W a (flat V) → Calls Try.prog 9 #[.slice a V.length ca] W fun e w' => e = .returned (.tuple #[.int .i64 (P : Int), .int .i64 F]) ∧ W.grownBy w' none) := fun a ca W h => by
    have k := refcheck_any a ca V W h
    rw [hPF] at k
    exact k
  have HP : Hid (∀ (a : Option Addr) (ca : Nat) (W : World), CV W a (flat V) → Calls Try.prog 11 #[.slice a V.length ca] W fun e w' => e = .returned (.tuple #[.int .i64 (P : Int), .int .i64 F]) ∧ W.grownBy w' none) := fun a ca W h => by
    have k := check_any a ca V W h
    rw [hPF] at k
    exact k
  clear hPF
  go_enter Try.func5, Try.ntmps5
  go_wp2_with fail
  refine (copy_any a ca xs _ H.out hc0 (by omega)).mono ?_
  rintro e w1 ⟨v1, rfl, O1, G1⟩
  obtain ⟨ao1, cap1, rfl, C1, -⟩ := O1.rd
  clear O1
  go_wp2_with fail
  refine (HD.out _ cap1 _ C1).mono ?_
  rintro e w2 ⟨v2, rfl, O2, K2⟩
  have G2 := grown_trans G1 K2
  obtain ⟨ao2, cap2, rfl, C2, -⟩ := cv_of_row O2
  clear C1 O2 G1 K2
  by_cases hE : E = 0
  · subst hE
    go_wp2_with fail
    refine (HR.out _ cap2 _ C2).mono ?_
    rintro e w3 ⟨rfl, K3⟩
    have G3 := grown_trans G2 K3
    have C3 := C2.keptNone K3
    clear G2 C2 K3
    go_wp2_with fail
    refine (HP.out _ cap2 _ C3).mono ?_
    rintro e w4 ⟨rfl, K4⟩
    have G4 := grown_trans G3 K4
    clear G3 C3 K4
    go_wp2_with fail
    refine (awake4_any _).mono ?_
    rintro e w5 ⟨rfl, K5⟩
    have G5 := grown_trans G4 K5
    clear G4 K5
    go_wp2
    go_ret
    exact ⟨rfl, G5⟩
  · have hEb : (E != 0) = true := by rw [bne_iff_ne]; exact hE
    clear hE C2
    go_wp2_with fail
    refine (awake4_any _).mono ?_
    rintro e w5 ⟨rfl, K5⟩
    have G5 := grown_trans G2 K5
    clear G2 K5
    go_wp2
    go_ret
    exact ⟨rfl, G5⟩

set_option maxRecDepth 100000 in
theorem lifted (os : Os) (started : os.Started) (H : Type) (enc : TypeId × Value → H) :
    ReturnsInHanded {} Try.checked os 5 .any (Rows.checkBytesSpec.pre6 enc Try.prog Try.f5 Rows.checkBytesRow.domain false) (Rows.checkBytesSpec.post enc Try.prog Try.f5 false true false false) := by
  refine returnsInHanded_of_change_sized (C := Try.checked) own started (by kernel_rfl) Try.func5
    (ChangeSpec.witness6 (enc := enc) (C := Try.checked) false ⟨#[], #[.slice none 0 0], []⟩ 8 (by kernel_rfl) (by kernel_rfl) (by kernel_rfl) (by kernel_rfl)) ?_
  intro W base args ds gs before hval0 hW hcnd hsz0 _
  have hsz : (DataW.weightsEach Try.prog (Try.f5.params.toList ++ Rows.checkBytesSpec.plain.varTypes Try.prog) (ds ++ gs)).all (· ≤ reachBytes) = true := hsz0
  have hval : ∀ (j : Nat) t v, Try.f5.params[j]? = some t → args[j]? = some v → Value.okWide Try.prog W .any base t v := hval0
  have hW' := hW
  obtain ⟨p, q, hA0, hV, rfl, hfz, hnd⟩ := hW
  have hA : DataW.TrodAll enc Try.prog W 0 (fun _ => true) true Try.f5.params.toList args.toList ds p := hA0
  rw [Try.params5] at hA hval hsz
  obtain ⟨v0, vs0, d0, ds0, p0, q0, hargs, rfl, rfl, h0, r0⟩ := trodAll_cons hA
  obtain ⟨rfl, rfl, rfl⟩ := trodAll_nil r0
  obtain rfl : args = #[v0] := by cases args; simp_all
  obtain ⟨rfl, rfl⟩ := trodVars_none hV
  obtain ⟨a0, len0, cap0, rfl⟩ := okWide_slice Try.underlying35 (hval 0 35 v0 rfl rfl)
  have k0 := h0
  have lt0 : ∀ x ∈ p0, x.block < W.heap.size := by obtain ⟨m, hm⟩ := k0; exact DataW.trod_lt m _ _ _ hm
  obtain ⟨xs0, rfl, hcells0, hnil0, hdat0⟩ := open_bytes Try.underlying35 Try.underlying5 (by kernel_rfl) h0
  have hlen0 : xs0.length * 1 ≤ 140737488351232 := by
    rcases hdat0 with ⟨_, rfl⟩ | ⟨elems, spare, rfl, hle⟩
    · simp
    · have := sized_slice hsz (j := 0) (t := 35) (e := 5) rfl rfl Try.underlying35
      rw [bytes5] at this
      unfold reachBytes at this
      omega
  clear hA0 hval0
  refine (walk a0 cap0 xs0 W hcells0 hnil0 (by omega)).mono fun e W' ⟨he, hg⟩ => ?_
  subst he
  have bel : Below W.heap.size W W' := (Below.refl _ _).grown hg (Nat.le_refl _) (by simp)
  exact ⟨_, rfl, _, _, _, [], _, [], hW', trodAll_mk1 (shut_bool Try.underlying4 _), (trodAll_cons_mk (Below.trod laidOut (by kernel_rfl) (of_decide_eq_true (by kernel_rfl)) k0 bel lt0) trodAll_mk0), rfl, bel.frame _, fun h => by cases h⟩

theorem over : Rows.CheckBytesSaid :=
  OpenClaim.holds_of_wide 5 Try.f5 rfl rfl rfl rfl rfl rfl rfl ⟨rfl, rfl, rfl, rfl, rfl⟩ rfl rfl rfl rfl rfl (by kernel_rfl) Try.func5 (by kernel_rfl)
    (of_decide_eq_true (by kernel_rfl)) (by unfold Func.isWrapper; first | (rw [if_pos (by decide +kernel)]; kernel_rfl) | (rw [if_neg (by decide +kernel)]; exact ⟨rfl, rfl⟩))
    (fun os started H enc _ => lifted os started H enc)

end checkBytes

theorem checkBytes_holds : Rows.CheckBytesSaid := checkBytes.over
#print axioms checkBytes_holds
end Go.Proofs.Ytibaednekfjonaa
