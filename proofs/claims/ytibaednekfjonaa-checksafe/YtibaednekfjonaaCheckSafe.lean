/-
  For every list of instructions (its capacity at most 2^47 - 4096 bytes, as the form itself says of each argument) riddlelaw4.CheckSafe returns true and leaves what was there as it was: no condition of ours.
-/
import Derived.Test.YtibaednekfjonaaOpenI
import Derived.Test.YtibaednekfjonaaAwake4
namespace Go.Proofs.Ytibaednekfjonaa
open Go.ChangeShapes Go.WideShapes Go.ChangeAt Go.RowKit
open Go.ChangeMaps (open_string shut_string)
set_option maxRecDepth 100000

theorem fault_zero {c : Int} {k : Nat} (h : faultV c k = 0) : knownB c = true ∧ (memB c = true → k < 16) ∧ (divB c = true → k ≠ 0) := by
  unfold faultV at h
  split at h
  · simp at h
  · rename_i h1
    split at h
    · simp at h
    · rename_i h2
      split at h
      · simp at h
      · rename_i h3
        refine ⟨by simpa using h1, fun hm => ?_, fun hd => ?_⟩
        · rw [hm] at h2; simp at h2; omega
        · rw [hd] at h3; simpa using h3

theorem firstBad_lt {n i : Nat} {xs : List In} {r : Nat × Int} (h : firstBad n i xs = some r) : r.1 < i + xs.length := by
  induction xs generalizing i with
  | nil => simp [firstBad] at h
  | cons x xs ih =>
    rw [firstBad] at h
    split at h
    · have := ih h; simp only [List.length_cons]; omega
    · simp only [Option.some.injEq] at h
      subst h
      simp only [List.length_cons]
      omega

theorem check_place (xs : List In) : (checkV xs).1 ≤ 4096 ∨ (checkV xs).1 ≤ xs.length := by
  unfold checkV
  split
  · left; simp
  · split
    · left; simp
    · cases hf : firstBad xs.length 0 xs with
      | some r => right; have := firstBad_lt hf; simp only [endV]; omega
      | none =>
        rw [endV]
        split
        · left; simp
        · right; simp

theorem check_ok_place {xs : List In} (h : (checkV xs).2 = 0) : (checkV xs).1 = 0 := by
  have ht := taken h
  unfold checkV at h ⊢
  split
  · rfl
  · split
    · omega
    · cases hf : firstBad xs.length 0 xs with
      | some r =>
        rw [if_neg (by omega), if_neg (by omega), hf] at h
        exact absurd h (firstBad_some hf)
      | none => rw [endV, if_pos ht.2.2.2]

namespace checkSafe

set_option maxRecDepth 100000 in
set_option maxHeartbeats 2000000 in
theorem walk (a : Option Addr) (ca : Nat) (xs : List In) (w : World) (ha : CV w a (flat xs)) (hc0 : a = none → ca = 0) (_hca : xs.length ≤ ca) (_hcm : ca ≤ maxLen) (hn : xs.length * 8 ≤ 140737488351232) :
    Calls Try.prog 6 #[.slice a xs.length ca] w fun e w' => e = .returned (.bool true) ∧ w.grownBy w' none := by
  have H : Hid (CV w a (flat xs)) := ha
  clear ha
  obtain ⟨P, E, hPE⟩ : ∃ P E, checkV xs = (P, E) := ⟨_, _, rfl⟩
  have HP : Hid (∀ (a : Option Addr) (ca : Nat) (W : World), CV W a (flat xs) → Calls Try.prog 11 #[.slice a xs.length ca] W fun e w' => e = .returned (.tuple #[.int .i64 (P : Int), .int .i64 E]) ∧ W.grownBy w' none) := fun a ca W h => by
    have k := check_any a ca xs W h
    rw [hPE] at k
    exact k
  by_cases hE : E = 0
  · have hz : (checkV xs).2 = 0 := by rw [hPE]; exact hE
    obtain ⟨t1, t2, t3, t4⟩ := taken hz
    have hP0 : P = 0 := by have := check_ok_place hz; rw [hPE] at this; exact this
    have HT : Hid ((∀ j (hj : j < xs.length), badV xs.length j xs[j] = 0) ∧ lastB xs = true) := ⟨t3, t4⟩
    clear hPE hz t3 t4
    subst hE hP0
    have z0 : ((xs.length : Int) == 0) = false := by rw [beq_eq_false_iff_ne]; omega
    have z4 : ¬ ((4096 : Int) < (xs.length : Int)) := by omega
    go_enter Try.func6, Try.ntmps6
    go_wp2_with fail
    refine (icopy_any a ca xs _ H.out hc0 (by omega)).mono ?_
    rintro e w1 ⟨v1, rfl, O1, G1⟩
    obtain ⟨ao1, cap1, rfl, C1, -⟩ := cv_of_row O1
    clear O1
    go_wp2_with fail
    refine (HP.out _ cap1 _ C1).mono ?_
    rintro e w2 ⟨rfl, K2⟩
    have G2 := grown_trans G1 K2
    clear C1 K2 G1
    have hm : xs.length - 1 < xs.length := by omega
    obtain ⟨b, o, rfl, hc⟩ := H.out.insns hm
    obtain ⟨c0, -, -, -⟩ := hc (xs.length - 1) hm
    have hlr : retB (xs[xs.length - 1].code.toNat) = true := by
      have := HT.out.2
      rw [lastB, List.getLast?_eq_getElem?, List.getElem?_eq_getElem hm] at this
      exact this
    generalize xs[xs.length - 1].code.toNat = lc at *
    have g0 : w2.cell? ⟨b, o + (xs.length - 1) * 4, none⟩ = some (.int .u16 (lc : Int)) := G2.cell c0 (by simp)
    have i0 : (0 : Int) ≤ (xs.length : Int) - 1 := by omega
    have i1 : (xs.length : Int) - 1 < (xs.length : Int) := by omega
    have i2 : ((xs.length : Int) - 1).toNat = xs.length - 1 := by omega
    have HCC : Hid (∀ i (hi : i < xs.length), w.cell? ⟨b, o + i * 4, none⟩ = some (.int .u16 (xs[i].code.toNat : Int)) ∧ w.cell? ⟨b, o + i * 4 + 1, none⟩ = some (.int .u8 (xs[i].jt.toNat : Int)) ∧ w.cell? ⟨b, o + i * 4 + 2, none⟩ = some (.int .u8 (xs[i].jf.toNat : Int)) ∧ w.cell? ⟨b, o + i * 4 + 3, none⟩ = some (.int .u32 (xs[i].k.toNat : Int))) := hc
    clear c0 hc
    go_wp2_with (go_at_call 21; refine (retB_any _ _).mono ?_; rintro e w' ⟨rfl, rfl⟩)
    clear g0 i0 i1 i2 hlr
    go_loopw [6] (fun i wr => ∃ j : Nat, j ≤ xs.length ∧ i = .int .i64 j ∧ ∃ n, wr = w2.drewN n) (fun i _ => xs.length - (intOf i).toNat)
    case atStart => exact ⟨0, Nat.zero_le _, rfl, 0, rfl⟩
    case round =>
      obtain ⟨j, hj, rfl, n, rfl⟩ := hrel
      by_cases hlt : j < xs.length
      · obtain ⟨c0, c1, c2, c3⟩ := HCC.out j hlt
        have z1 := bad_zero (HT.out.1 j hlt)
        generalize xs[j] = x at *
        obtain ⟨q1, q2⟩ := jumpBad_out z1.2
        obtain ⟨q3, q4, q5⟩ := fault_zero z1.1
        have b0 := x.code.toNat_lt
        have b1 := x.jt.toNat_lt
        have b2 := x.jf.toNat_lt
        have b3 := x.k.toNat_lt
        clear z1
        generalize x.code.toNat = c at *
        generalize x.jt.toNat = t at *
        generalize x.jf.toNat = f at *
        generalize x.k.toNat = k at *
        have hl : (j : Int) < (xs.length : Int) := by omega
        have g0 : w2.cell? ⟨b, o + j * 4, none⟩ = some (.int .u16 (c : Int)) := G2.cell c0 (by simp)
        have g1 : w2.cell? ⟨b, o + j * 4 + 1, none⟩ = some (.int .u8 (t : Int)) := G2.cell c1 (by simp)
        have g2 : w2.cell? ⟨b, o + j * 4 + 2, none⟩ = some (.int .u8 (f : Int)) := G2.cell c2 (by simp)
        have g3 : w2.cell? ⟨b, o + j * 4 + 3, none⟩ = some (.int .u32 (k : Int)) := G2.cell c3 (by simp)
        clear c0 c1 c2 c3
        by_cases h5 : c = 5
        · subst h5
          have hk := q1 rfl
          have jb : jumpB ((5 : Nat) : Int) = false := by decide
          have e1 : ((j : Int) == (xs.length : Int) - 1) = false := by rw [beq_eq_false_iff_ne]; omega
          have e2 : ¬ ((xs.length : Int) - 2 - (j : Int) < (k : Int)) := by omega
          clear q1 q2 q4 q5
          go_wp2_with (first | (go_at_call 22; refine (jump_any _ _).mono ?_; rintro e w' ⟨rfl, rfl⟩) | (go_at_call 23; refine (refknown_any _ _).mono ?_; rintro e w' ⟨rfl, rfl⟩))
          go_roundw
          case rel => exact ⟨j + 1, by omega, by go_num, _, by rfl⟩
          case measure => simp [intOf]; omega
        · by_cases hs : c = 2 ∨ c = 3 ∨ c = 96 ∨ c = 97 ∨ c = 52 ∨ c = 148
          · rcases hs with rfl | rfl | rfl | rfl | rfl | rfl
            · have hk := q4 (by decide)
              have hk' : ¬ ((15 : Int) < (k : Int)) := by omega
              have jb : jumpB ((2 : Nat) : Int) = false := by decide
              clear q1 q2 q4 q5 h5
              go_wp2_with (first | (go_at_call 22; refine (jump_any _ _).mono ?_; rintro e w' ⟨rfl, rfl⟩) | (go_at_call 23; refine (refknown_any _ _).mono ?_; rintro e w' ⟨rfl, rfl⟩))
              go_roundw
              case rel => exact ⟨j + 1, by omega, by go_num, _, by rfl⟩
              case measure => simp [intOf]; omega
            · have hk := q4 (by decide)
              have hk' : ¬ ((15 : Int) < (k : Int)) := by omega
              have jb : jumpB ((3 : Nat) : Int) = false := by decide
              clear q1 q2 q4 q5 h5
              go_wp2_with (first | (go_at_call 22; refine (jump_any _ _).mono ?_; rintro e w' ⟨rfl, rfl⟩) | (go_at_call 23; refine (refknown_any _ _).mono ?_; rintro e w' ⟨rfl, rfl⟩))
              go_roundw
              case rel => exact ⟨j + 1, by omega, by go_num, _, by rfl⟩
              case measure => simp [intOf]; omega
            · have hk := q4 (by decide)
              have hk' : ¬ ((15 : Int) < (k : Int)) := by omega
              have jb : jumpB ((96 : Nat) : Int) = false := by decide
              clear q1 q2 q4 q5 h5
              go_wp2_with (first | (go_at_call 22; refine (jump_any _ _).mono ?_; rintro e w' ⟨rfl, rfl⟩) | (go_at_call 23; refine (refknown_any _ _).mono ?_; rintro e w' ⟨rfl, rfl⟩))
              go_roundw
              case rel => exact ⟨j + 1, by omega, by go_num, _, by rfl⟩
              case measure => simp [intOf]; omega
            · have hk := q4 (by decide)
              have hk' : ¬ ((15 : Int) < (k : Int)) := by omega
              have jb : jumpB ((97 : Nat) : Int) = false := by decide
              clear q1 q2 q4 q5 h5
              go_wp2_with (first | (go_at_call 22; refine (jump_any _ _).mono ?_; rintro e w' ⟨rfl, rfl⟩) | (go_at_call 23; refine (refknown_any _ _).mono ?_; rintro e w' ⟨rfl, rfl⟩))
              go_roundw
              case rel => exact ⟨j + 1, by omega, by go_num, _, by rfl⟩
              case measure => simp [intOf]; omega
            · have hk := q5 (by decide)
              have hk' : ((k : Int) == 0) = false := by rw [beq_eq_false_iff_ne]; omega
              have jb : jumpB ((52 : Nat) : Int) = false := by decide
              clear q1 q2 q4 q5 h5
              go_wp2_with (first | (go_at_call 22; refine (jump_any _ _).mono ?_; rintro e w' ⟨rfl, rfl⟩) | (go_at_call 23; refine (refknown_any _ _).mono ?_; rintro e w' ⟨rfl, rfl⟩))
              go_roundw
              case rel => exact ⟨j + 1, by omega, by go_num, _, by rfl⟩
              case measure => simp [intOf]; omega
            · have hk := q5 (by decide)
              have hk' : ((k : Int) == 0) = false := by rw [beq_eq_false_iff_ne]; omega
              have jb : jumpB ((148 : Nat) : Int) = false := by decide
              clear q1 q2 q4 q5 h5
              go_wp2_with (first | (go_at_call 22; refine (jump_any _ _).mono ?_; rintro e w' ⟨rfl, rfl⟩) | (go_at_call 23; refine (refknown_any _ _).mono ?_; rintro e w' ⟨rfl, rfl⟩))
              go_roundw
              case rel => exact ⟨j + 1, by omega, by go_num, _, by rfl⟩
              case measure => simp [intOf]; omega
          · have f5 : ((c : Int) == 5) = false := by rw [beq_eq_false_iff_ne]; omega
            have f2 : ((c : Int) == 2) = false := by rw [beq_eq_false_iff_ne]; omega
            have f3 : ((c : Int) == 3) = false := by rw [beq_eq_false_iff_ne]; omega
            have f96 : ((c : Int) == 96) = false := by rw [beq_eq_false_iff_ne]; omega
            have f97 : ((c : Int) == 97) = false := by rw [beq_eq_false_iff_ne]; omega
            have f52 : ((c : Int) == 52) = false := by rw [beq_eq_false_iff_ne]; omega
            have f148 : ((c : Int) == 148) = false := by rw [beq_eq_false_iff_ne]; omega
            clear h5 hs q1 q4 q5
            cases hjb : jumpB c with
            | false =>
              go_wp2_with (first | (go_at_call 22; refine (jump_any _ _).mono ?_; rintro e w' ⟨rfl, rfl⟩) | (go_at_call 23; refine (refknown_any _ _).mono ?_; rintro e w' ⟨rfl, rfl⟩))
              go_roundw
              case rel => exact ⟨j + 1, by omega, by go_num, _, by rfl⟩
              case measure => simp [intOf]; omega
            | true =>
              obtain ⟨k1, k2⟩ := q2 hjb
              clear q2
              have e1 : ((j : Int) == (xs.length : Int) - 1) = false := by rw [beq_eq_false_iff_ne]; omega
              by_cases htf : t < f
              · have m1 : (t : Int) < (f : Int) := by omega
                have m2 : ¬ ((xs.length : Int) - 2 - (j : Int) < (f : Int)) := by omega
                go_wp2_with (first | (go_at_call 22; refine (jump_any _ _).mono ?_; rintro e w' ⟨rfl, rfl⟩) | (go_at_call 23; refine (refknown_any _ _).mono ?_; rintro e w' ⟨rfl, rfl⟩))
                go_quiet (fail)
                go_wp2_with (first | (go_at_call 22; refine (jump_any _ _).mono ?_; rintro e w' ⟨rfl, rfl⟩) | (go_at_call 23; refine (refknown_any _ _).mono ?_; rintro e w' ⟨rfl, rfl⟩))
                go_roundw
                case rel => exact ⟨j + 1, by omega, by go_num, _, by rfl⟩
                case measure => simp [intOf]; omega
              · have m1 : ¬ ((t : Int) < (f : Int)) := by omega
                have m2 : ¬ ((xs.length : Int) - 2 - (j : Int) < (t : Int)) := by omega
                go_wp2_with (first | (go_at_call 22; refine (jump_any _ _).mono ?_; rintro e w' ⟨rfl, rfl⟩) | (go_at_call 23; refine (refknown_any _ _).mono ?_; rintro e w' ⟨rfl, rfl⟩))
                go_quiet (fail)
                go_wp2_with (first | (go_at_call 22; refine (jump_any _ _).mono ?_; rintro e w' ⟨rfl, rfl⟩) | (go_at_call 23; refine (refknown_any _ _).mono ?_; rintro e w' ⟨rfl, rfl⟩))
                go_roundw
                case rel => exact ⟨j + 1, by omega, by go_num, _, by rfl⟩
                case measure => simp [intOf]; omega
      · obtain rfl : j = xs.length := by omega
        have G3 := grown_trans G2 (grown_drewN w2 n none)
        go_wp2_with fail
        refine (awake4_any _).mono ?_
        rintro e w5 ⟨rfl, K5⟩
        have G5 := grown_trans G3 K5
        clear G2 G3 K5
        go_wp2
        go_ret
        exact ⟨rfl, G5⟩
  · have hEb : (E != 0) = true := by rw [bne_iff_ne]; exact hE
    have hpl := check_place xs
    rw [hPE] at hpl
    have hpl' : P ≤ 4096 ∨ P ≤ xs.length := hpl
    clear hE hPE hpl
    have p0 : (0 : Int) ≤ (P : Int) := by omega
    go_enter Try.func6, Try.ntmps6
    go_wp2_with fail
    refine (icopy_any a ca xs _ H.out hc0 (by omega)).mono ?_
    rintro e w1 ⟨v1, rfl, O1, G1⟩
    obtain ⟨ao1, cap1, rfl, C1, -⟩ := cv_of_row O1
    clear O1
    go_wp2_with fail
    refine (HP.out _ cap1 _ C1).mono ?_
    rintro e w2 ⟨rfl, K2⟩
    have G2 := grown_trans G1 K2
    clear C1 K2 G1
    by_cases hx : xs.length < 4096
    · have hx1 : (xs.length : Int) < 4096 := by omega
      have hx2 : (P : Int) ≤ 4096 := by omega
      go_wp2_with fail
      refine (awake4_any _).mono ?_
      rintro e w5 ⟨rfl, K5⟩
      have G5 := grown_trans G2 K5
      clear G2 K5
      go_wp2
      go_ret
      exact ⟨rfl, G5⟩
    · have hx1 : ¬ ((xs.length : Int) < 4096) := by omega
      have hx2 : (P : Int) ≤ (xs.length : Int) := by omega
      go_wp2_with fail
      refine (awake4_any _).mono ?_
      rintro e w5 ⟨rfl, K5⟩
      have G5 := grown_trans G2 K5
      clear G2 K5
      go_wp2
      go_ret
      exact ⟨rfl, G5⟩

set_option maxRecDepth 100000 in
theorem lifted (os : Os) (started : os.Started) (H : Type) (enc : TypeId × Value → H) :
    ReturnsInHanded {} Try.checked os 6 .any (Rows.checkSafeSpec.pre6 enc Try.prog Try.f6 Rows.checkSafeRow.domain false) (Rows.checkSafeSpec.post enc Try.prog Try.f6 false true false false) := by
  refine returnsInHanded_of_change_sized (C := Try.checked) own started (by kernel_rfl) Try.func6
    (ChangeSpec.witness6 (enc := enc) (C := Try.checked) false ⟨#[], #[.slice none 0 0], []⟩ 8 (by kernel_rfl) (by kernel_rfl) (by kernel_rfl) (by kernel_rfl)) ?_
  intro W base args ds gs before hval0 hW hcnd hsz0 _
  have hsz : (DataW.weightsEach Try.prog (Try.f6.params.toList ++ Rows.checkSafeSpec.plain.varTypes Try.prog) (ds ++ gs)).all (· ≤ reachBytes) = true := hsz0
  have hval : ∀ (j : Nat) t v, Try.f6.params[j]? = some t → args[j]? = some v → Value.okWide Try.prog W .any base t v := hval0
  have hW' := hW
  obtain ⟨p, q, hA0, hV, rfl, hfz, hnd⟩ := hW
  have hA : DataW.TrodAll enc Try.prog W 0 (fun _ => true) true Try.f6.params.toList args.toList ds p := hA0
  rw [Try.params6] at hA hval hsz
  obtain ⟨v0, vs0, d0, ds0, p0, q0, hargs, rfl, rfl, h0, r0⟩ := trodAll_cons hA
  obtain ⟨rfl, rfl, rfl⟩ := trodAll_nil r0
  obtain rfl : args = #[v0] := by cases args; simp_all
  obtain ⟨rfl, rfl⟩ := trodVars_none hV
  obtain ⟨a0, len0, cap0, rfl⟩ := okWide_slice Try.underlying22 (hval 0 22 v0 rfl rfl)
  have k0 := h0
  have lt0 : ∀ x ∈ p0, x.block < W.heap.size := by obtain ⟨m, hm⟩ := k0; exact DataW.trod_lt m _ _ _ hm
  obtain ⟨xs0, rfl, hcells0, hnil0, hcp0, hdat0⟩ := open_insns h0
  have hlen0 : xs0.length * 8 ≤ 140737488351232 := by
    rcases hdat0 with ⟨_, rfl⟩ | ⟨elems, spare, rfl, hle⟩
    · simp
    · have := sized_slice hsz (j := 0) (t := 22) (e := 44) rfl rfl Try.underlying22
      rw [bytes44] at this
      unfold reachBytes at this
      omega
  clear hA0 hval0
  refine (walk a0 cap0 xs0 W hcells0 hnil0 hcp0.1 hcp0.2 (by omega)).mono fun e W' ⟨he, hg⟩ => ?_
  subst he
  have bel : Below W.heap.size W W' := (Below.refl _ _).grown hg (Nat.le_refl _) (by simp)
  exact ⟨_, rfl, _, _, _, [], _, [], hW', trodAll_mk1 (shut_bool Try.underlying4 _), (trodAll_cons_mk (Below.trod laidOut (by kernel_rfl) (of_decide_eq_true (by kernel_rfl)) k0 bel lt0) trodAll_mk0), rfl, bel.frame _, fun h => by cases h⟩

theorem over : Rows.CheckSafeSaid :=
  OpenClaim.holds_of_wide 6 Try.f6 rfl rfl rfl rfl rfl rfl rfl ⟨rfl, rfl, rfl, rfl, rfl⟩ rfl rfl rfl rfl rfl (by kernel_rfl) Try.func6 (by kernel_rfl)
    (of_decide_eq_true (by kernel_rfl)) (by unfold Func.isWrapper; first | (rw [if_pos (by decide +kernel)]; kernel_rfl) | (rw [if_neg (by decide +kernel)]; exact ⟨rfl, rfl⟩))
    (fun os started H enc _ => lifted os started H enc)

end checkSafe

theorem checkSafe_holds : Rows.CheckSafeSaid := checkSafe.over
#print axioms checkSafe_holds
end Go.Proofs.Ytibaednekfjonaa
