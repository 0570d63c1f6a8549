/-
  For every two lists of instructions (each capacity at most 2^47 - 4096 bytes, as the form itself says of each argument) and every number of 32 bits riddlelaw4.CheckAhead returns true and leaves what was there as it was: no condition of ours.
-/
import Derived.Test.YtibaednekfjonaaOpenI
import Derived.Test.YtibaednekfjonaaAwake4
import Derived.Test.YtibaednekfjonaaCheckM
namespace Go.Proofs.Ytibaednekfjonaa
open Go.ChangeShapes Go.WideShapes Go.ChangeAt Go.RowKit
open Go.ChangeMaps (open_string shut_string)
set_option maxRecDepth 100000
namespace checkAhead

/-- The four that go straight on. -/
def four (k m : Nat) : List In := [⟨0, 0, 0, UInt32.ofNat k⟩, ⟨7, 0, 0, 0⟩, ⟨2, 0, 0, UInt32.ofNat m⟩, ⟨12, 0, 0, 0⟩]

theorem four_good (k m : Nat) (hm : m < 16) : ∀ x ∈ four k m, faultV x.code.toNat x.k.toNat = 0 ∧ ((x.code.toNat : Int) == 5) = false ∧ jumpB x.code.toNat = false := by
  intro x hx
  simp only [four, List.mem_cons, List.not_mem_nil, or_false] at hx
  have f0 : ∀ k, faultV 0 k = 0 := fun k => by
    have h1 : knownB 0 = true := by decide
    simp [faultV, h1, memB, divB, shfB]
  have f2 : ∀ k, k < 16 → faultV 2 k = 0 := fun k hk => by
    have h1 : knownB 2 = true := by decide
    simp [faultV, h1, memB, divB, shfB]
    omega
  rcases hx with rfl | rfl | rfl | rfl
  · exact ⟨f0 _, rfl, rfl⟩
  · exact ⟨by decide, by decide, by decide⟩
  · refine ⟨f2 _ ?_, rfl, rfl⟩
    simp
    omega
  · exact ⟨by decide, by decide, by decide⟩

theorem four_flat (k m : Nat) (hk : k ≤ 4294967295) (hm : m < 16) : flat (four k m) = [.int .u16 0, .int .u8 0, .int .u8 0, .int .u32 (k : Int), .int .u16 7, .int .u8 0, .int .u8 0, .int .u32 0, .int .u16 2, .int .u8 0, .int .u8 0, .int .u32 (m : Int), .int .u16 12, .int .u8 0, .int .u8 0, .int .u32 0] := by
  have e1 : (UInt32.ofNat k).toNat = k := by simp; omega
  have e2 : (UInt32.ofNat m).toNat = m := by simp; omega
  simp [flat, four, In.cells, e1, e2]

set_option maxRecDepth 100000 in
set_option maxHeartbeats 2000000 in
theorem walk (a : Option Addr) (ca : Nat) (xs : List In) (b : Option Addr) (cb : Nat) (ys : List In) (k : Nat) (w : World) (ha : CV w a (flat xs)) (hc0 : a = none → ca = 0) (_hca : xs.length ≤ ca) (_hcm : ca ≤ maxLen) (hn : xs.length * 8 ≤ 140737488351232)
    (hb : CV w b (flat ys)) (hd0 : b = none → cb = 0) (_hcb : ys.length ≤ cb) (_hcn : cb ≤ maxLen) (hn2 : ys.length * 8 ≤ 140737488351232) (hk : k ≤ 4294967295) :
    Calls Try.prog 7 #[.slice a xs.length ca, .slice b ys.length cb, .int .u32 k] w fun e w' => e = .returned (.bool true) ∧ w.grownBy w' none := by
  obtain ⟨i0, hi, hz0, hz1, hz2⟩ := info_parts info44
  have H : Hid (CV w a (flat xs)) := ha
  have H2 : Hid (CV w b (flat ys)) := hb
  clear ha hb
  obtain ⟨P, E, hPE⟩ : ∃ P E, checkV xs = (P, E) := ⟨_, _, rfl⟩
  obtain ⟨Q, F, hQF⟩ : ∃ Q F, checkV ys = (Q, F) := ⟨_, _, rfl⟩
  have HP : Hid (∀ (a : Option Addr) (ca : Nat) (W : World), CV W a (flat xs) → Calls Try.prog 11 #[.slice a xs.length ca] W fun e w' => e = .returned (.tuple #[.int .i64 (P : Int), .int .i64 E]) ∧ W.grownBy w' none) := fun a ca W h => by
    have k := check_any a ca xs W h
    rw [hPE] at k
    exact k
  have HQ : Hid (∀ (a : Option Addr) (ca : Nat) (W : World), CV W a (flat ys) → Calls Try.prog 11 #[.slice a ys.length ca] W fun e w' => e = .returned (.tuple #[.int .i64 (Q : Int), .int .i64 F]) ∧ W.grownBy w' none) := fun a ca W h => by
    have k := check_any a ca ys W h
    rw [hQF] at k
    exact k
  have HE : Hid (E = 0 → (checkV xs).2 = 0) := fun h => by rw [hPE]; exact h
  have HF : Hid (F = 0 → (checkV ys).2 = 0) := fun h => by rw [hQF]; exact h
  clear hPE hQF
  go_enter Try.func7, Try.ntmps7
  go_wp2_with fail
  refine (icopy_any a ca xs _ H.out hc0 (by omega)).mono ?_
  rintro e w1 ⟨v1, rfl, O1, G1⟩
  obtain ⟨ao1, cap1, rfl, C1, -⟩ := cv_of_row O1
  clear O1
  go_wp2_with fail
  refine (HP.out _ cap1 _ C1).mono ?_
  rintro e w2 ⟨rfl, K2⟩
  have G2 := grown_trans G1 K2
  clear C1 K2 G1
  go_wp2_with fail
  refine (icopy_any b cb ys _ (H2.out.keptNone G2) hd0 (by omega)).mono ?_
  rintro e w3 ⟨v3, rfl, O3, K3⟩
  have G3 := grown_trans G2 K3
  obtain ⟨ao3, cap3, rfl, C3, -⟩ := cv_of_row O3
  clear O3 K3 G2
  go_wp2_with fail
  refine (HQ.out _ cap3 _ C3).mono ?_
  rintro e w4 ⟨rfl, K4⟩
  have G4 := grown_trans G3 K4
  clear C3 K4 G3
  by_cases hno : E ≠ 0 ∨ F ≠ 0 ∨ 4092 < xs.length + ys.length
  · rcases hno with h | h | h
    · have hb1 : (E != 0) = true := by rw [bne_iff_ne]; exact h
      clear h
      go_wp2_with fail
      refine (awake4_any _).mono ?_
      rintro e w5 ⟨rfl, K5⟩
      have G5 := grown_trans G4 K5
      clear G4 K5
      go_wp2
      go_ret
      exact ⟨rfl, G5⟩
    · have hb2 : (F != 0) = true := by rw [bne_iff_ne]; exact h
      clear h
      cases hb1 : (E != 0)
      all_goals
        go_wp2_with fail
        refine (awake4_any _).mono ?_
        rintro e w5 ⟨rfl, K5⟩
        have G5 := grown_trans G4 K5
        clear G4 K5
        go_wp2
        go_ret
        exact ⟨rfl, G5⟩
    · have hb3 : (4092 : Int) < (xs.length : Int) + (ys.length : Int) := by omega
      cases hb1 : (E != 0) <;> cases hb2 : (F != 0)
      all_goals
        go_wp2_with fail
        refine (awake4_any _).mono ?_
        rintro e w5 ⟨rfl, K5⟩
        have G5 := grown_trans G4 K5
        clear G4 K5
        go_wp2
        go_ret
        exact ⟨rfl, G5⟩
  · have hE0 : E = 0 := by
      apply Classical.byContradiction
      intro h
      exact hno (.inl h)
    have hF0 : F = 0 := by
      apply Classical.byContradiction
      intro h
      exact hno (.inr (.inl h))
    have hle : xs.length + ys.length ≤ 4092 := by
      apply Classical.byContradiction
      intro h
      exact hno (.inr (.inr (by omega)))
    have hxe := HE.out hE0
    have hye := HF.out hF0
    obtain ⟨m, hm⟩ : ∃ m, k % 16 = m := ⟨_, rfl⟩
    have hm16 : m < 16 := by omega
    have hand : bits .and .u32 (k : Int) 15 = (m : Int) := by
      have h := u32_and_nat k 15 (by omega) (by omega)
      rw [show k &&& 15 = k % 16 from Nat.and_two_pow_sub_one_eq_mod k 4, hm] at h
      exact h
    have e1 : checkV (four k m ++ xs) = (0, 0) := taken_ahead hxe (by simp [four]; omega) (four_good k m hm16)
    have e2 : checkV (xs ++ ys) = (0, 0) := taken_app hxe hye (by omega)
    have HA : Hid (∀ (a : Option Addr) (ca : Nat) (W : World), CV W a (flat (four k m ++ xs)) → Calls Try.prog 11 #[.slice a (4 + xs.length) ca] W fun e w' => e = .returned (.tuple #[.int .i64 0, .int .i64 0]) ∧ W.grownBy w' none) := fun a ca W h => by
      have q := check_any a ca (four k m ++ xs) W h
      rw [e1, show (four k m ++ xs).length = 4 + xs.length by simp [four]; omega] at q
      exact q
    have HB : Hid (∀ (a : Option Addr) (ca : Nat) (W : World), CV W a (flat (xs ++ ys)) → Calls Try.prog 11 #[.slice a (xs.length + ys.length) ca] W fun e w' => e = .returned (.tuple #[.int .i64 0, .int .i64 0]) ∧ W.grownBy w' none) := fun a ca W h => by
      have q := check_any a ca (xs ++ ys) W h
      rw [e2, List.length_append] at q
      exact q
    have HFL := four_flat k m hk hm16
    have HFF : Hid (flat (four k m) = [.int .u16 0, .int .u8 0, .int .u8 0, .int .u32 (k : Int), .int .u16 7, .int .u8 0, .int .u8 0, .int .u32 0, .int .u16 2, .int .u8 0, .int .u8 0, .int .u32 (m : Int), .int .u16 12, .int .u8 0, .int .u8 0, .int .u32 0]) := HFL
    clear hno e1 e2 hxe hye HE HF HFL hm
    subst hE0 hF0
    have hb3 : ¬ ((4092 : Int) < (xs.length : Int) + (ys.length : Int)) := by omega
    go_wp2_with (at_builtin; refine wpList_append_cv rfl (.tmp 52) (.tmp 53) 22 rfl 44 i0 _ 4 8 Try.underlying22 hi hz0 hz1 hz2 rfl (by decide) w.heap.size (.slice (some ⟨w4.heap.size, 0, none⟩) 4 4) 4 (flat (four k m)) rfl ?q1 a xs.length ca (flat xs) rfl (flat_len xs) hc0 ?q2 (flat_one xs) ?q3 ?q4 ?q5 ?q6)
    case q1 =>
      rw [HFF.out]
      exact World.ownsRow_lit (e := 44) (size := 4) w4 #[.int .u16 0, .int .u8 0, .int .u8 0, .int .u32 (k : Int), .int .u16 7, .int .u8 0, .int .u8 0, .int .u32 0, .int .u16 2, .int .u8 0, .int .u8 0, .int .u32 (m : Int), .int .u16 12, .int .u8 0, .int .u8 0, .int .u32 0] 4 G4.size (by unfold maxLen; omega) (by simp)
    case q2 => exact (H.out.keptNone G4).keptNone (World.grownBy_alloc _ _ _)
    case q3 => unfold maxLen; omega
    case q4 => omega
    case q5 => have := G4.size; simp; omega
    case q6 =>
      intro v5 w5 O5 K5
      have G5 : w.grownBy w5 none := grown_trans_new (grown_trans G4 (World.grownBy_alloc _ _ _)) K5 (by intro z hz; simp only [Value.ownBlock, Option.some.injEq] at hz; subst hz; exact G4.size)
      obtain ⟨ao5, cap5, rfl, C5, -⟩ := cv_of_row O5
      rw [← flat_append] at C5
      clear O5 K5 G4
      go_wp2_with fail
      refine (HA.out _ cap5 _ C5).mono ?_
      rintro e w6 ⟨rfl, K6⟩
      have G6 := grown_trans G5 K6
      clear C5 K6 G5
      go_wp2_with fail
      refine (icopy_any a ca xs _ (H.out.keptNone G6) hc0 (by omega)).mono ?_
      rintro e w7 ⟨v7, rfl, O7, K7⟩
      have G7 := grown_trans G6 K7
      have hsz := G6.size
      clear K7 G6
      go_wp2_with (at_builtin; refine wpList_append_cv rfl (.tmp 60) (.tmp 61) 22 rfl 44 i0 _ 4 8 Try.underlying22 hi hz0 hz1 hz2 rfl (by decide) w.heap.size v7 xs.length (flat xs) rfl ?r1 b ys.length cb (flat ys) rfl (flat_len ys) hd0 ?r2 (flat_one ys) ?r3 ?r4 ?r5 ?r6)
      case r1 => exact owns_mono O7 hsz
      case r2 => exact H2.out.keptNone G7
      case r3 => unfold maxLen; omega
      case r4 => omega
      case r5 => exact G7.size
      case r6 =>
        intro v8 w8 O8 K8
        have G8 : w.grownBy w8 none := grown_trans_new G7 K8 (fun z hz => by have := (O7.lt z hz).1; omega)
        obtain ⟨ao8, cap8, rfl, C8, -⟩ := cv_of_row O8
        rw [← flat_append] at C8
        clear O8 K8 G7 O7
        go_wp2_with fail
        refine (HB.out _ cap8 _ C8).mono ?_
        rintro e w9 ⟨rfl, K9⟩
        have G9 := grown_trans G8 K9
        clear C8 K9 G8
        go_wp2_with fail
        refine (awake4_any _).mono ?_
        rintro e w10 ⟨rfl, K10⟩
        have G10 := grown_trans G9 K10
        clear G9 K10
        go_wp2
        go_ret
        exact ⟨rfl, G10⟩

set_option maxRecDepth 100000 in
theorem lifted (os : Os) (started : os.Started) (H : Type) (enc : TypeId × Value → H) :
    ReturnsInHanded {} Try.checked os 7 .any (Rows.checkAheadSpec.pre6 enc Try.prog Try.f7 Rows.checkAheadRow.domain false) (Rows.checkAheadSpec.post enc Try.prog Try.f7 false true false false) := by
  refine returnsInHanded_of_change_sized (C := Try.checked) own started (by kernel_rfl) Try.func7
    (ChangeSpec.witness6 (enc := enc) (C := Try.checked) false ⟨#[], #[.slice none 0 0, .slice none 0 0, .int .u32 0], []⟩ 8 (by kernel_rfl) (by kernel_rfl) (by kernel_rfl) (by kernel_rfl)) ?_
  intro W base args ds gs before hval0 hW hcnd hsz0 _
  have hsz : (DataW.weightsEach Try.prog (Try.f7.params.toList ++ Rows.checkAheadSpec.plain.varTypes Try.prog) (ds ++ gs)).all (· ≤ reachBytes) = true := hsz0
  have hval : ∀ (j : Nat) t v, Try.f7.params[j]? = some t → args[j]? = some v → Value.okWide Try.prog W .any base t v := hval0
  have hW' := hW
  obtain ⟨p, q, hA0, hV, rfl, hfz, hnd⟩ := hW
  have hA : DataW.TrodAll enc Try.prog W 0 (fun _ => true) true Try.f7.params.toList args.toList ds p := hA0
  rw [Try.params7] at hA hval hsz
  obtain ⟨v0, vs0, d0, ds0, p0, q0, hargs, rfl, rfl, h0, r0⟩ := trodAll_cons hA
  obtain ⟨v1, vs1, d1, ds1, p1, q1, rfl, rfl, rfl, h1, r1⟩ := trodAll_cons r0
  obtain ⟨v2, vs2, d2, ds2, p2, q2, rfl, rfl, rfl, h2, r2⟩ := trodAll_cons r1
  obtain ⟨rfl, rfl, rfl⟩ := trodAll_nil r2
  obtain rfl : args = #[v0, v1, v2] := by cases args; simp_all
  obtain ⟨rfl, rfl⟩ := trodVars_none hV
  obtain ⟨a0, len0, cap0, rfl⟩ := okWide_slice Try.underlying22 (hval 0 22 v0 rfl rfl)
  have k0 := h0
  have lt0 : ∀ x ∈ p0, x.block < W.heap.size := by obtain ⟨m, hm⟩ := k0; exact DataW.trod_lt m _ _ _ hm
  obtain ⟨xs0, rfl, hcells0, hnil0, hcp0, hdat0⟩ := open_insns h0
  obtain ⟨a1, len1, cap1, rfl⟩ := okWide_slice Try.underlying22 (hval 1 22 v1 rfl rfl)
  have k1 := h1
  have lt1 : ∀ x ∈ p1, x.block < W.heap.size := by obtain ⟨m, hm⟩ := k1; exact DataW.trod_lt m _ _ _ hm
  obtain ⟨xs1, rfl, hcells1, hnil1, hcp1, hdat1⟩ := open_insns h1
  obtain ⟨y2, rfl, rfl, rfl, w2⟩ := open_int Try.underlying42 (hval 2 42 v2 rfl rfl) h2
  have bd2 := bounds_u32 w2
  obtain ⟨x2, rfl⟩ := Int.eq_ofNat_of_zero_le bd2.1
  have hv2 : x2 ≤ 4294967295 := by omega
  have hlen0 : xs0.length * 8 ≤ 140737488351232 := by
    rcases hdat0 with ⟨_, rfl⟩ | ⟨elems, spare, rfl, hle⟩
    · simp
    · have := sized_slice hsz (j := 0) (t := 22) (e := 44) rfl rfl Try.underlying22
      rw [bytes44] at this
      unfold reachBytes at this
      omega
  have hlen1 : xs1.length * 8 ≤ 140737488351232 := by
    rcases hdat1 with ⟨_, rfl⟩ | ⟨elems, spare, rfl, hle⟩
    · simp
    · have := sized_slice hsz (j := 1) (t := 22) (e := 44) rfl rfl Try.underlying22
      rw [bytes44] at this
      unfold reachBytes at this
      omega
  clear hA0 hval0
  refine (walk a0 cap0 xs0 a1 cap1 xs1 x2 W hcells0 hnil0 hcp0.1 hcp0.2 (by omega) hcells1 hnil1 hcp1.1 hcp1.2 (by omega) hv2).mono fun e W' ⟨he, hg⟩ => ?_
  subst he
  have bel : Below W.heap.size W W' := (Below.refl _ _).grown hg (Nat.le_refl _) (by simp)
  exact ⟨_, rfl, _, _, _, [], _, [], hW', trodAll_mk1 (shut_bool Try.underlying4 _), (trodAll_cons_mk (Below.trod laidOut (by kernel_rfl) (of_decide_eq_true (by kernel_rfl)) k0 bel lt0) (trodAll_cons_mk (Below.trod laidOut (by kernel_rfl) (of_decide_eq_true (by kernel_rfl)) k1 bel lt1) (trodAll_cons_mk (shut_int Try.underlying42 w2) trodAll_mk0))), rfl, bel.frame _, fun h => by cases h⟩

theorem over : Rows.CheckAheadSaid :=
  OpenClaim.holds_of_wide 7 Try.f7 rfl rfl rfl rfl rfl rfl rfl ⟨rfl, rfl, rfl, rfl, rfl⟩ rfl rfl rfl rfl rfl (by kernel_rfl) Try.func7 (by kernel_rfl)
    (of_decide_eq_true (by kernel_rfl)) (by unfold Func.isWrapper; first | (rw [if_pos (by decide +kernel)]; kernel_rfl) | (rw [if_neg (by decide +kernel)]; exact ⟨rfl, rfl⟩))
    (fun os started H enc _ => lifted os started H enc)

end checkAhead

theorem checkAhead_holds : Rows.CheckAheadSaid := checkAhead.over
#print axioms checkAhead_holds
end Go.Proofs.Ytibaednekfjonaa
