/-
  A clock that goes tells idleness at the tick with which as many ticks as its limit have come since the last Start or Touch, and at no other one.
-/
import Derived.Test.YtnkdcehnamkoaaaClW
import Derived.Test.YtnkdcehnamkoaaaClO
import Derived.Deep.DeepCutAuto
namespace Go.Proofs.Ytnkdcehnamkoaaa
open Go.ChangeShapes Go.WideShapes Go.ChangeAt Go.RowKit
set_option maxRecDepth 100000
namespace clockIdles

theorem up_eq {n : Nat} (h : n < 1000) : upC n = n + 1 := by unfold upC; omega
theorem tN {T r a : Nat} (h : r < T) (hT : T < 200) (ha : a < 1000) : (Ck.mk (T + 1) 0 true r a).tickH = 0 ∧ (Ck.mk (T + 1) 0 true r a).tickC = ⟨T + 1, 0, true, r + 1, a + 1⟩ := by
  have h2 : ¬ (Ck.mk (T + 1) 0 true r a).hitI := fun h2 => by have h3 : T + 1 ≤ upC r := h2.2; rw [up_eq (by omega)] at h3; omega
  have h3 : ¬ (Ck.mk (T + 1) 0 true r a).hitM := fun h => h.1 rfl
  unfold Ck.tickH Ck.tickC
  rw [if_neg (fun h => by cases h), if_neg h2, if_neg h3, if_neg (fun h => by cases h), if_neg h2, if_neg h3]
  unfold Ck.up
  rw [up_eq (show r < 1000 by omega), up_eq ha]
  exact ⟨rfl, rfl⟩
theorem tI {T a : Nat} (hT : T < 200) : (Ck.mk (T + 1) 0 true T a).tickH = 1 ∧ (Ck.mk (T + 1) 0 true T a).tickC = Ck.new (T + 1) 0 := by
  have h2 : (Ck.mk (T + 1) 0 true T a).hitI := ⟨Nat.succ_ne_zero T, by show T + 1 ≤ upC T; rw [up_eq (by omega)]; omega⟩
  unfold Ck.tickH Ck.tickC
  rw [if_neg (fun h => by cases h), if_pos h2, if_neg (fun h => by cases h), if_pos h2]
  exact ⟨rfl, rfl⟩
def sI (T n k : Nat) : Ck := if k ≤ T then ⟨T + 1, 0, true, k, n + k⟩ else Ck.new (T + 1) 0

set_option maxHeartbeats 8000000 in
theorem walk (n0 : Nat) (a1 : Option Addr) (cap1 : Nat) (zs : List Int) (W : World) (_hn : n0 ≤ 4294967295) (hc1 : CV W a1 (zs.map (Value.int .i64))) (_hn1 : a1 = none → cap1 = 0) (hl1 : zs.length * 8 ≤ 140737488351232) :
    Calls Try.prog 4 #[.int .u32 (n0 : Int), .slice a1 zs.length cap1] W fun e w' => e = .returned (.bool true) ∧ W.grownBy w' none := by
  have H1 : Hid (CV W a1 (zs.map iv)) := hc1
  have h50 : (n0 : Int) % 50 = ((n0 % 50 : Nat) : Int) := by omega
  have hT : n0 % 50 < 50 := Nat.mod_lt _ (by decide)
  generalize n0 % 50 = T at *
  have C : Calls Try.prog 7 #[.int .u32 ((T : Int) + 1), .int .u32 0] W _ := Cw.new W W (T + 1) 0 (World.grownBy.refl _ _) (by omega) (by decide)
  clear hc1
  go_enter Try.func4, Try.ntmps4
  go_wp2_with fail
  refine C.mono ?_
  rintro e w1 ⟨g, rfl, A, -, -⟩
  have HA : Hid (Cw W w1 g (Ck.new (T + 1) 0)) := A
  clear C A
  go_wp2
  go_loopw [7] (fun i wo => ∃ r : Nat, r ≤ zs.length ∧ i = .int .i64 r ∧ Cw W wo g (Ck.new (T + 1) 0)) (fun i _ => zs.length - (intOf i).toNat)
  case atStart => exact ⟨0, Nat.zero_le _, rfl, HA.out⟩
  case round =>
    clear HA
    obtain ⟨r, hr, rfl, A⟩ := hrel
    obtain ⟨wo, hwo⟩ : ∃ wo : World, wo = wr := ⟨_, rfl⟩
    subst hwo
    by_cases hrz : r < zs.length
    · obtain ⟨b, o, rfl, hc⟩ := H1.out.ints hrz
      have hri : (r : Int) < (zs.length : Int) := by omega
      have HC : Hid (W.cell? ⟨b, o + r, none⟩ = some (.int .i64 zs[r])) := hc r hrz
      clear hc
      generalize zs[r] = z at *
      have hlo := low10 z
      generalize lowB 10 z = L at *
      have hm : (L : Int) % ((T : Int) + 1 + 1) = ((L % (T + 2) : Nat) : Int) := by
        rw [show (T : Int) + 1 + 1 = ((T + 2 : Nat) : Int) by omega]
        rfl
      have hm2 : (L : Int) % ((T : Int) + 2) = ((L % (T + 2) : Nat) : Int) := by
        rw [show (T : Int) + 2 = ((T + 2 : Nat) : Int) by omega]
        rfl
      have hmb : L % (T + 2) < T + 2 := Nat.mod_lt _ (by omega)
      generalize L % (T + 2) = m at *
      have C := A.start (d := ⟨T + 1, 0, true, 0, 0⟩) rfl
      clear A
      go_wp2_with fail
      refine C.mono ?_
      rintro e w2 ⟨rfl, A⟩
      clear C
      have HA : Hid (Cw W w2 g (sI T 0 0)) := by
        unfold sI
        rw [if_pos (Nat.zero_le _)]
        exact A
      have c0 := A.gr.cell HC.out (by simp)
      clear A
      go_wp2
      simp only [hm]
      clear hm hm2 hlo
      go_loopw [9] (fun i wi => ∃ k : Nat, k ≤ m ∧ i = .int .i64 ((k : Int) + 1) ∧ Cw W wi g (sI T 0 k)) (fun i _ => m + 1 - (intOf i).toNat)
      case atStart => exact ⟨0, Nat.zero_le _, rfl, HA.out⟩
      case round =>
        clear HA c0
        obtain ⟨k, hk, rfl, A⟩ := hrel
        by_cases hkm : k < m
        · have hki : (k : Int) < (m : Int) := by omega
          have hki2 : (k : Int) + 1 ≤ (m : Int) := by omega
          unfold sI at A
          rw [if_pos (show k ≤ T by omega)] at A
          by_cases he : k = T
          · have he2 : T = k := he.symm
            subst he2
            have C := A.tick (tI (by omega)).1 (tI (by omega)).2
            clear A
            go_wp2_with fail
            refine C.mono ?_
            rintro e w3 ⟨rfl, A⟩
            clear C
            have HA : Hid (Cw W w3 g (sI T 0 (T + 1))) := by
              unfold sI
              rw [if_neg (by omega)]
              exact A
            clear A
            go_wp2
            go_roundw
            case rel => exact ⟨T + 1, by omega, by go_num, HA.out⟩
            case measure => simp [intOf]; omega
          · have hlt : k < T := by omega
            have hne : ((k : Int) == (T : Int)) = false := by rw [beq_eq_false_iff_ne]; omega
            have tn := tN (T := T) (r := k) (a := 0 + k) hlt (by omega) (by omega)
            have C := A.tick tn.1 tn.2
            clear A tn
            go_wp2_with fail
            refine C.mono ?_
            rintro e w3 ⟨rfl, A⟩
            clear C
            have HA : Hid (Cw W w3 g (sI T 0 (k + 1))) := by
              unfold sI
              rw [if_pos (by omega)]
              exact A
            clear A
            go_wp2
            go_roundw
            case rel => exact ⟨k + 1, by omega, by go_num, HA.out⟩
            case measure => simp [intOf]; omega
        · obtain rfl : m = k := by omega
          have hki2 : ¬ (m : Int) + 1 ≤ (m : Int) := by omega
          unfold sI at A
          by_cases hfull : m = T + 1
          · subst hfull
            rw [if_neg (by omega)] at A
            have C := A.tick (x := 0) (d := Ck.new (T + 1) 0) rfl rfl
            clear A
            go_wp2_with fail
            refine C.mono ?_
            rintro e w3 ⟨rfl, A⟩
            clear C
            have HA : Hid (Cw W w3 g (Ck.new (T + 1) 0)) := A
            clear A
            go_wp2
            go_roundw
            case rel => exact ⟨r + 1, by omega, by go_num, HA.out⟩
            case measure => simp [intOf]; omega
          · rw [if_pos (by omega), Nat.zero_add] at A
            have hne : ((m : Int) == (T : Int) + 1) = false := by rw [beq_eq_false_iff_ne]; omega
            have C := A.touch (d := ⟨T + 1, 0, true, 0, m⟩) rfl
            clear A
            go_wp2_with fail
            refine C.mono ?_
            rintro e w3 ⟨rfl, A⟩
            clear C
            have HA : Hid (Cw W w3 g (sI T m 0)) := by
              unfold sI
              rw [if_pos (Nat.zero_le _)]
              exact A
            clear A
            go_wp2
            go_loopw [11] (fun i wi => ∃ k : Nat, k ≤ T + 1 ∧ i = .int .i64 ((k : Int) + 1) ∧ Cw W wi g (sI T m k)) (fun i _ => T + 2 - (intOf i).toNat)
            case atStart => exact ⟨0, Nat.zero_le _, rfl, HA.out⟩
            case round =>
              clear HA hne hki2 hk
              obtain ⟨k, hk, rfl, A⟩ := hrel
              by_cases hkT : k ≤ T
              · have hki : (k : Int) ≤ (T : Int) := by omega
                unfold sI at A
                rw [if_pos hkT] at A
                by_cases he : k = T
                · have he2 : T = k := he.symm
                  subst he2
                  have C := A.tick (tI (by omega)).1 (tI (by omega)).2
                  clear A
                  go_wp2_with fail
                  refine C.mono ?_
                  rintro e w4 ⟨rfl, A⟩
                  clear C
                  have HA : Hid (Cw W w4 g (sI T m (T + 1))) := by
                    unfold sI
                    rw [if_neg (by omega)]
                    exact A
                  clear A
                  go_wp2
                  go_roundw
                  case rel => exact ⟨T + 1, by omega, by go_num, HA.out⟩
                  case measure => simp [intOf]; omega
                · have hlt : k < T := by omega
                  have hne : ((k : Int) == (T : Int)) = false := by rw [beq_eq_false_iff_ne]; omega
                  have tn := tN (T := T) (r := k) (a := m + k) hlt (by omega) (by omega)
                  have C := A.tick tn.1 tn.2
                  clear A tn
                  go_wp2_with fail
                  refine C.mono ?_
                  rintro e w4 ⟨rfl, A⟩
                  clear C
                  have HA : Hid (Cw W w4 g (sI T m (k + 1))) := by
                    unfold sI
                    rw [if_pos (by omega)]
                    exact A
                  clear A
                  go_wp2
                  go_roundw
                  case rel => exact ⟨k + 1, by omega, by go_num, HA.out⟩
                  case measure => simp [intOf]; omega
              · obtain rfl : k = T + 1 := by omega
                unfold sI at A
                rw [if_neg hkT] at A
                have HA : Hid (Cw W wr g (Ck.new (T + 1) 0)) := A
                clear A hkT
                go_wp2
                go_roundw
                case rel => exact ⟨r + 1, by omega, by go_num, HA.out⟩
                case measure => simp [intOf]; omega
    · obtain rfl : r = zs.length := by omega
      have HK : Hid (W.grownBy wo none) := A.gr
      clear A
      go_wp2_with fail
      refine (awake22_any wo).mono ?_
      rintro e w9 ⟨rfl, K⟩
      have HK2 : Hid (W.grownBy w9 none) := grown_trans HK.out K
      clear HK K
      go_wp2
      go_ret
      exact ⟨rfl, HK2.out⟩

set_option maxRecDepth 100000 in
theorem lifted (os : Os) (started : os.Started) (H : Type) (enc : TypeId × Value → H) :
    ReturnsInHanded {} Try.checked os 4 .any (Rows.clockIdlesSpec.pre6 enc Try.prog Try.f4 Rows.clockIdlesRow.domain false) (Rows.clockIdlesSpec.post enc Try.prog Try.f4 false true false false) := by
  refine returnsInHanded_of_change_sized (C := Try.checked) own started (by kernel_rfl) Try.func4
    (ChangeSpec.witness6 (enc := enc) (C := Try.checked) false ⟨#[], #[.int .u32 0, .slice none 0 0], []⟩ 8 (by kernel_rfl) (by kernel_rfl) (by kernel_rfl) (by kernel_rfl)) ?_
  intro W base args ds gs before hval0 hW hcnd hsz0 _
  have hsz : (DataW.weightsEach Try.prog (Try.f4.params.toList ++ Rows.clockIdlesSpec.plain.varTypes Try.prog) (ds ++ gs)).all (· ≤ reachBytes) = true := hsz0
  have hval : ∀ (j : Nat) t v, Try.f4.params[j]? = some t → args[j]? = some v → Value.okWide Try.prog W .any base t v := hval0
  have hW' := hW
  obtain ⟨p, q, hA0, hV, rfl, hfz, hnd⟩ := hW
  have hA : DataW.TrodAll enc Try.prog W 0 (fun _ => true) true Try.f4.params.toList args.toList ds p := hA0
  rw [Try.params4] at hA hval hsz
  obtain ⟨v0, vs0, d0, ds0, p0, q0, hargs, rfl, rfl, h0, r0⟩ := trodAll_cons hA
  obtain ⟨v1, vs1, d1, ds1, p1, q1, rfl, rfl, rfl, h1, r1⟩ := trodAll_cons r0
  obtain ⟨rfl, rfl, rfl⟩ := trodAll_nil r1
  obtain rfl : args = #[v0, v1] := by cases args; simp_all
  obtain ⟨rfl, rfl⟩ := trodVars_none hV
  obtain ⟨y0, rfl, rfl, rfl, w0⟩ := open_int Try.underlying22 (hval 0 22 v0 rfl rfl) h0
  have bd0 := bounds_u32 w0
  obtain ⟨x0, rfl⟩ := Int.eq_ofNat_of_zero_le bd0.1
  have hv0 : x0 ≤ 4294967295 := by omega
  obtain ⟨a1, len1, cap1, rfl⟩ := okWide_slice Try.underlying23 (hval 1 23 v1 rfl rfl)
  have k1 := h1
  have lt1 : ∀ x ∈ p1, x.block < W.heap.size := by obtain ⟨m, hm⟩ := k1; exact DataW.trod_lt m _ _ _ hm
  obtain ⟨zs1, rfl, hcv1, hnil1, hdat1⟩ := open_intl Try.underlying23 Try.underlying3 (by kernel_rfl) h1
  have hlen1 : zs1.length * 8 ≤ 140737488351232 := by
    rcases hdat1 with ⟨_, rfl⟩ | ⟨elems, spare, rfl, hle⟩
    · simp
    · have := sized_slice hsz (j := 1) (t := 23) (e := 3) rfl rfl Try.underlying23
      rw [bytes3] at this
      unfold reachBytes at this
      omega
  clear hA0 hval0
  refine (walk x0 a1 cap1 zs1 W hv0 hcv1 hnil1 hlen1).mono fun e W' ⟨he, hg⟩ => ?_
  subst he
  have bel : Below W.heap.size W W' := (Below.refl _ _).grown hg (Nat.le_refl _) (by simp)
  exact ⟨_, rfl, _, _, _, [], _, [], hW', trodAll_mk1 (shut_bool Try.underlying4 _), (trodAll_cons_mk (shut_int Try.underlying22 w0) (trodAll_cons_mk (Below.trod laidOut (by kernel_rfl) (of_decide_eq_true (by kernel_rfl)) k1 bel lt1) trodAll_mk0)), rfl, bel.frame _, fun h => by cases h⟩

theorem over : Rows.ClockIdlesSaid :=
  OpenClaim.holds_of_wide 4 Try.f4 rfl rfl rfl rfl rfl rfl rfl ⟨rfl, rfl, rfl, rfl, rfl⟩ rfl rfl rfl rfl rfl (by kernel_rfl) Try.func4 (by kernel_rfl)
    (of_decide_eq_true (by kernel_rfl)) (by unfold Func.isWrapper; first | (rw [if_pos (by decide +kernel)]; kernel_rfl) | (rw [if_neg (by decide +kernel)]; exact ⟨rfl, rfl⟩))
    (fun os started H enc _ => lifted os started H enc)

end clockIdles

theorem clockIdles_holds : Rows.ClockIdlesSaid := clockIdles.over
#print axioms clockIdles_holds

end Go.Proofs.Ytnkdcehnamkoaaa
