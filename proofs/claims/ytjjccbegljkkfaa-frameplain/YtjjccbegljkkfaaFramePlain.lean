/-
  For every list of bytes (its capacity at most 2^47 - 4096 bytes, as the form itself says of each argument) riddlelaw7.FramePlain returns true and leaves what was there as it was: no condition of ours.
-/
import Derived.Test.YtjjccbegljkkfaaOpenL
import Derived.Test.YtjjccbegljkkfaaFrameK
import Derived.Deep.DeepCutAuto
namespace Go.Proofs.Ytjjccbegljkkfaa
open Go.ChangeShapes Go.WideShapes Go.ChangeAt Go.RowKit
open Go.ChangeMaps (open_string shut_string)
set_option maxRecDepth 100000
namespace framePlain

set_option maxRecDepth 100000 in
set_option maxHeartbeats 4000000 in
theorem walk (a : Option Addr) (ca : Nat) (b : List UInt8) (w : World) (ha : Cells w a b) (hc0 : a = none → ca = 0) (hn : b.length ≤ 140737488351232) :
    Calls Try.prog 8 #[.slice a b.length ca] w fun e w' => e = .returned (.bool true) ∧ w.grownBy w' none := by
  have H : Hid (Cells w a b) := ha
  obtain ⟨v, hv⟩ : ∃ v, exV Vw.zero (lookX ⟨false, false, 0⟩ b) = v := ⟨_, rfl⟩
  obtain ⟨E, hE⟩ : ∃ E, exE (lookX ⟨false, false, 0⟩ b) = E := ⟨_, rfl⟩
  obtain ⟨X, hX⟩ : ∃ X, vwA v = X := ⟨_, rfl⟩
  have hX9 : X.size = 9 := by rw [← hX]; rfl
  have hX1 : X.all (·.oneCell') = true := by rw [← hX]; exact vwA_all v
  have HSX : Hid ((Try.prog.info? 27).map (·.size) = some X.size) := by rw [hX9]; exact size27
  have HX : Hid (vwA v = X) := hX
  have HK : Hid (∀ (a : Option Addr) (ca : Nat) (W : World), Cells W a b → Calls Try.prog 11 #[.agg #[.bool false, .bool false, .int .i64 0], .slice a b.length ca] W fun e w' => e = .returned (.tuple #[.agg X, .int .i64 E]) ∧ W.grownBy w' none) := fun a ca W h => by
    have k := look_any ⟨false, false, 0⟩ a ca b W h (by omega)
    rw [hv, hE, hX] at k
    exact k
  have HV : Hid (exV Vw.zero (lookX ⟨false, false, 0⟩ b) = v ∧ exE (lookX ⟨false, false, 0⟩ b) = E) := ⟨hv, hE⟩
  clear hv hE hX ha
  go_enter Try.func8, Try.ntmps8
  go_wp2_with fail
  refine (copy_any a ca b _ H.out hc0 (by omega)).mono ?_
  rintro e w2 ⟨v2, rfl, O2, K2⟩
  obtain ⟨ao2, cap2, rfl, C2, -⟩ := O2.shape
  have HC2 : Hid (Cells w2 ao2 b) := C2
  clear C2 O2
  go_wp2_with fail
  refine (HK.out _ _ _ HC2.out).mono ?_
  rintro e w3 ⟨rfl, K3⟩
  have G3 := grown_trans K2 K3
  have U := VAt.alloc w3 27 (vwA Vw.zero)
  have VA := U.setRow X
  have K4 : w3.grownBy ((w3.alloc (.cells (vwA Vw.zero) 27)).setRow w3.heap.size X) none := vgrown_setRow (World.grownBy_alloc _ _ none) _ _ (.inr (Nat.le_refl _))
  have HVA : Hid (VAt ((w3.alloc (.cells (vwA Vw.zero) 27)).setRow w3.heap.size X) w3.heap.size 27 X ∧ w.grownBy ((w3.alloc (.cells (vwA Vw.zero) 27)).setRow w3.heap.size X) none) := ⟨VA, grown_trans G3 K4⟩
  clear VA K4 G3 K2 K3 HC2 HK
  go_upto_region 2 with (refine wpList_store_row rfl 27 (.tmp 3) (.tmp 13) rfl w3.heap.size X rfl rfl 27 _ U (HSX.out) hX9.symm hX1 ?_)
  rw [show w3.alloc (.cells #[.int .u32 0, .bool false, .bool false, .bool false, .int .u32 0, .int .i64 0, .int .i64 0, .int .i64 0, .int .i64 0] 27) = w3.alloc (.cells (vwA Vw.zero) 27) from rfl]
  clear U
  generalize (w3.alloc (.cells (vwA Vw.zero) 27)).setRow w3.heap.size X = w4 at *
  generalize w3.heap.size = V at *
  clear w3 w2
  have VA := HVA.out.1
  rw [← HX.out] at VA
  obtain ⟨c0, c1, c2, c3, c4, c5, c6, c7, c8⟩ := VA.nine
  have G4 := HVA.out.2
  clear VA
  cases hlk : lookX ⟨false, false, 0⟩ b with
  | error er =>
    have h1 : E = er := by rw [← HV.out.2, hlk]; rfl
    have hz := look_err hlk
    subst h1
    clear HV hlk HX
    go_wp2_with fail
    refine (awake7_any _).mono ?_
    rintro e wz ⟨rfl, Kz⟩
    go_wp2
    go_ret
    exact ⟨rfl, grown_trans G4 Kz⟩
  | ok vv =>
    have h1 : v = vv := by rw [← HV.out.1, hlk]; rfl
    have h2 : E = 0 := by rw [← HV.out.2, hlk]; rfl
    subst h1 h2
    by_cases hm : v.proto = 61
    · rw [hm] at c0
      clear HV hlk HX
      go_wp2_with fail
      refine (awake7_any _).mono ?_
      rintro e wz ⟨rfl, Kz⟩
      go_wp2
      go_ret
      exact ⟨rfl, grown_trans G4 Kz⟩
    · have hm' : ((v.proto : Int) == 61) = false := by rw [beq_eq_false_iff_ne]; omega
      have HKG : Hid (∀ (p q : Bool) (m : Int) (a : Option Addr) (ca : Nat) (W : World), 0 ≤ m ∧ m ≤ 2 → Cells W a b → Calls Try.prog 11 #[.agg #[.bool p, .bool q, .int .i64 m], .slice a b.length ca] W fun e w' => e = .returned (.tuple #[.agg X, .int .i64 0]) ∧ W.grownBy w' none) := fun p q m a ca W hmp h => by
        have k := look_any ⟨p, q, m⟩ a ca b W h (by omega)
        rw [look_plain hlk hm ⟨p, q, m⟩ hmp] at k
        simp only [exV, exE, HX.out] at k
        exact k
      clear hlk HV c1 c2 c3 c4 c5 c6 c7 c8 hm
      go_wp2
      clear c0 hm'
      go_loopw [5] (fun i wr => ∃ j : Nat, j ≤ 12 ∧ i = .int .i64 j ∧ Hid (VAt wr V 27 X ∧ w.grownBy wr none)) (fun i _ => 12 - (intOf i).toNat)
      case atStart => exact ⟨0, by omega, rfl, HVA⟩
      case round =>
        obtain ⟨j, hj, rfl, HR⟩ := hrel
        clear HVA G4
        by_cases hlt : j < 12
        · have hl : (j : Int) < 12 := by omega
          go_wp2_with fail
          refine (copy_any a ca b _ (H.out.keptNone HR.out.2) hc0 (by omega)).mono ?_
          rintro e w5 ⟨v5, rfl, O5, K5⟩
          obtain ⟨ao5, cap5, rfl, C5, -⟩ := O5.shape
          have HC5 : Hid (Cells w5 ao5 b) := C5
          clear C5 O5
          go_wp2_with fail
          refine (HKG.out _ _ _ _ _ _ (by omega) HC5.out).mono ?_
          rintro e w6 ⟨rfl, K6⟩
          have G6 := grown_trans HR.out.2 (grown_trans K5 K6)
          have VB := HR.out.1.kept (grown_trans K5 K6)
          have U := VAt.alloc w6 27 (vwA Vw.zero)
          have K7 : w6.grownBy ((w6.alloc (.cells (vwA Vw.zero) 27)).setRow w6.heap.size X) none := vgrown_setRow (World.grownBy_alloc _ _ none) _ _ (.inr (Nat.le_refl _))
          have HVB : Hid (VAt ((w6.alloc (.cells (vwA Vw.zero) 27)).setRow w6.heap.size X) w6.heap.size 27 X ∧ VAt ((w6.alloc (.cells (vwA Vw.zero) 27)).setRow w6.heap.size X) V 27 X ∧ w.grownBy ((w6.alloc (.cells (vwA Vw.zero) 27)).setRow w6.heap.size X) none) := ⟨U.setRow X, VB.kept K7, grown_trans G6 K7⟩
          clear VB K7 G6 K5 K6 HC5 HR
          go_upto_region 8 with (refine wpList_store_row rfl 27 (.tmp 6) (.tmp 41) rfl w6.heap.size X rfl rfl 27 _ U (HSX.out) hX9.symm hX1 ?_)
          rw [show w6.alloc (.cells #[.int .u32 0, .bool false, .bool false, .bool false, .int .u32 0, .int .i64 0, .int .i64 0, .int .i64 0, .int .i64 0] 27) = w6.alloc (.cells (vwA Vw.zero) 27) from rfl]
          clear U
          generalize (w6.alloc (.cells (vwA Vw.zero) 27)).setRow w6.heap.size X = w7 at *
          generalize w6.heap.size = V2 at *
          have VA := HVB.out.1
          have VB := HVB.out.2.1
          rw [← HX.out] at VA VB
          obtain ⟨c0, c1, c2, c3, c4, c5, c6, c7, c8⟩ := VA.nine
          obtain ⟨d0, d1, d2, d3, d4, d5, d6, d7, d8⟩ := VB.nine
          clear VA VB
          go_wp2
          go_roundw
          case rel => exact ⟨j + 1, by omega, by go_num, HVB.out.2⟩
          case measure => simp [intOf]; omega
        · obtain rfl : j = 12 := by omega
          rw [show ((12 : Nat) : Int) = 12 from rfl]
          have G := HR.out.2
          go_wp2_with fail
          refine (awake7_any _).mono ?_
          rintro e wz ⟨rfl, Kz⟩
          go_wp2
          go_ret
          exact ⟨rfl, grown_trans G Kz⟩

set_option maxRecDepth 100000 in
theorem lifted (os : Os) (started : os.Started) (H : Type) (enc : TypeId × Value → H) :
    ReturnsInHanded {} Try.checked os 8 .any (Rows.framePlainSpec.pre6 enc Try.prog Try.f8 Rows.framePlainRow.domain false) (Rows.framePlainSpec.post enc Try.prog Try.f8 false true false false) := by
  refine returnsInHanded_of_change_sized (C := Try.checked) own started (by kernel_rfl) Try.func8
    (ChangeSpec.witness6 (enc := enc) (C := Try.checked) false ⟨#[], #[.slice none 0 0], []⟩ 8 (by kernel_rfl) (by kernel_rfl) (by kernel_rfl) (by kernel_rfl)) ?_
  intro W base args ds gs before hval0 hW hcnd hsz0 _
  have hsz : (DataW.weightsEach Try.prog (Try.f8.params.toList ++ Rows.framePlainSpec.plain.varTypes Try.prog) (ds ++ gs)).all (· ≤ reachBytes) = true := hsz0
  have hval : ∀ (j : Nat) t v, Try.f8.params[j]? = some t → args[j]? = some v → Value.okWide Try.prog W .any base t v := hval0
  have hW' := hW
  obtain ⟨p, q, hA0, hV, rfl, hfz, hnd⟩ := hW
  have hA : DataW.TrodAll enc Try.prog W 0 (fun _ => true) true Try.f8.params.toList args.toList ds p := hA0
  rw [Try.params8] at hA hval hsz
  obtain ⟨v0, vs0, d0, ds0, p0, q0, hargs, rfl, rfl, h0, r0⟩ := trodAll_cons hA
  obtain ⟨rfl, rfl, rfl⟩ := trodAll_nil r0
  obtain rfl : args = #[v0] := by cases args; simp_all
  obtain ⟨rfl, rfl⟩ := trodVars_none hV
  obtain ⟨a0, len0, cap0, rfl⟩ := okWide_slice Try.underlying24 (hval 0 24 v0 rfl rfl)
  have k0 := h0
  have lt0 : ∀ x ∈ p0, x.block < W.heap.size := by obtain ⟨m, hm⟩ := k0; exact DataW.trod_lt m _ _ _ hm
  obtain ⟨xs0, rfl, hcells0, hnil0, hdat0⟩ := open_bytes Try.underlying24 Try.underlying5 (by kernel_rfl) h0
  have hlen0 : xs0.length * 1 ≤ 140737488351232 := by
    rcases hdat0 with ⟨_, rfl⟩ | ⟨elems, spare, rfl, hle⟩
    · simp
    · have := sized_slice hsz (j := 0) (t := 24) (e := 5) rfl rfl Try.underlying24
      rw [bytes5] at this
      unfold reachBytes at this
      omega
  clear hA0 hval0
  refine (walk a0 cap0 xs0 W hcells0 hnil0 (by omega)).mono fun e W' ⟨he, hg⟩ => ?_
  subst he
  have bel : Below W.heap.size W W' := (Below.refl _ _).grown hg (Nat.le_refl _) (by simp)
  exact ⟨_, rfl, _, _, _, [], _, [], hW', trodAll_mk1 (shut_bool Try.underlying4 _), (trodAll_cons_mk (Below.trod laidOut (by kernel_rfl) (of_decide_eq_true (by kernel_rfl)) k0 bel lt0) trodAll_mk0), rfl, bel.frame _, fun h => by cases h⟩

theorem over : Rows.FramePlainSaid :=
  OpenClaim.holds_of_wide 8 Try.f8 rfl rfl rfl rfl rfl rfl rfl ⟨rfl, rfl, rfl, rfl, rfl⟩ rfl rfl rfl rfl rfl (by kernel_rfl) Try.func8 (by kernel_rfl)
    (of_decide_eq_true (by kernel_rfl)) (by unfold Func.isWrapper; first | (rw [if_pos (by decide +kernel)]; kernel_rfl) | (rw [if_neg (by decide +kernel)]; exact ⟨rfl, rfl⟩))
    (fun os started H enc _ => lifted os started H enc)

end framePlain

theorem framePlain_holds : Rows.FramePlainSaid := framePlain.over
#print axioms framePlain_holds
end Go.Proofs.Ytjjccbegljkkfaa
