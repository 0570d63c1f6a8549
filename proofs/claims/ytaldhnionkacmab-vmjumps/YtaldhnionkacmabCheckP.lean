/-
  Package check as landed: its contracts.
-/
import Derived.Test.YtaldhnionkacmabReachR
import Derived.Test.YtaldhnionkacmabChkC
namespace Go.Proofs.Ytaldhnionkacmab
open Go.RowKit
set_option maxRecDepth 100000

theorem last_at {xs : List In} (h : xs.length - 1 < xs.length) : lastB xs = retB xs[xs.length - 1].code.toNat := by
  rw [lastB, List.getLast?_eq_getElem?, List.getElem?_eq_getElem h]

set_option maxRecDepth 100000 in
set_option maxHeartbeats 1000000 in
theorem check_any (a : Option Addr) (ca : Nat) (xs : List In) (w : World) (ha : CV w a (flat xs)) :
    Calls Try.prog 16 #[.slice a xs.length ca] w fun e w' => e = .returned (.tuple #[.int .i64 ((checkV xs).1 : Int), .int .i64 (checkV xs).2]) ∧ w.grownBy w' none := by
  have H : Hid (CV w a (flat xs)) := ha
  clear ha
  by_cases h0 : xs.length = 0
  · have e : checkV xs = (0, 40) := by rw [checkV, if_pos h0]
    rw [e]
    have h0' : ((xs.length : Int) == 0) = true := by rw [h0]; rfl
    have H0 : Hid (xs.length = 0) := h0
    clear h0
    go_enter Try.func16, Try.ntmps16
    go_wp2
    go_ret2
    exact ⟨rfl, World.grownBy.refl _ _⟩
  · have h0' : ((xs.length : Int) == 0) = false := by rw [beq_eq_false_iff_ne]; omega
    by_cases h4 : 4096 < xs.length
    · have e : checkV xs = (4096, 41) := by rw [checkV, if_neg h0, if_pos h4]
      rw [e]
      have h4' : (4096 : Int) < (xs.length : Int) := by omega
      go_enter Try.func16, Try.ntmps16
      go_wp2
      go_ret2
      exact ⟨rfl, World.grownBy.refl _ _⟩
    · have h4' : ¬ ((4096 : Int) < (xs.length : Int)) := by omega
      have e : checkV xs = endV xs (firstBad xs.length 0 xs) := by rw [checkV, if_neg h0, if_neg h4]
      rw [e]
      have CF := first_any a ca xs w H.out (by omega)
      cases hf : firstBad xs.length 0 xs with
      | some r =>
        have hr := firstBad_some hf
        rw [hf] at CF
        obtain ⟨P, E⟩ := r
        have hE : (E != 0) = true := by simpa using hr
        clear hf e hr
        go_enter Try.func16, Try.ntmps16
        go_wp2_with fail
        refine CF.mono ?_
        rintro e w1 ⟨rfl, G⟩
        dsimp only [Option.getD_some]
        go_wp2
        go_ret2
        exact ⟨rfl, G⟩
      | none =>
        rw [hf] at CF
        have hl1 : xs.length - 1 < xs.length := by omega
        obtain ⟨b, o, rfl, hc⟩ := H.out.insns hl1
        obtain ⟨c0, c1, c2, c3⟩ := hc _ hl1
        have hla := last_at hl1
        have hnat : ((xs.length : Int) - 1).toNat = xs.length - 1 := by omega
        have hm : ((xs.length - 1 : Nat) : Int) = (xs.length : Int) - 1 := by omega
        generalize xs[xs.length - 1] = x at *
        have b0 := x.code.toNat_lt
        have HE : Hid (endV xs none = if retB x.code.toNat = true then (0, 0) else (xs.length - 1, 47)) := by
          show endV xs none = _
          rw [endV, hla]
        have s1 : (xs.length : Int) - 1 < (xs.length : Int) := by omega
        have s2 : (0 : Int) ≤ (xs.length : Int) - 1 := by omega
        clear hc hf e hla
        cases hr : retB x.code.toNat with
        | true =>
          have e : endV xs none = (0, 0) := by rw [HE.out, if_pos hr]
          rw [e]
          clear HE e
          go_enter Try.func16, Try.ntmps16
          go_wp2_with fail
          refine CF.mono ?_
          rintro e w1 ⟨rfl, G⟩
          dsimp only [Option.getD_none]
          have g0 := G.cell c0 (by simp)
          have g1 := G.cell c1 (by simp)
          have g2 := G.cell c2 (by simp)
          have g3 := G.cell c3 (by simp)
          clear c0 c1 c2 c3 CF
          go_wp2_with fail
          refine (returns_any _ _ _ _ _ (by omega) (by omega)).mono ?_
          rintro e w2 ⟨rfl, G2⟩
          rw [hr]
          have GN := grown_trans G G2
          clear g0 g1 g2 g3 G G2
          go_wp2
          go_ret2
          exact ⟨rfl, GN⟩
        | false =>
          have e : endV xs none = (xs.length - 1, 47) := by rw [HE.out, if_neg (by rw [hr]; simp)]
          rw [e]
          clear HE e
          go_enter Try.func16, Try.ntmps16
          go_wp2_with fail
          refine CF.mono ?_
          rintro e w1 ⟨rfl, G⟩
          dsimp only [Option.getD_none]
          have g0 := G.cell c0 (by simp)
          have g1 := G.cell c1 (by simp)
          have g2 := G.cell c2 (by simp)
          have g3 := G.cell c3 (by simp)
          clear c0 c1 c2 c3 CF
          go_wp2_with fail
          refine (returns_any _ _ _ _ _ (by omega) (by omega)).mono ?_
          rintro e w2 ⟨rfl, G2⟩
          rw [hr]
          have GN := grown_trans G G2
          have HM : Hid (((xs.length - 1 : Nat) : Int) = (xs.length : Int) - 1) := hm
          clear g0 g1 g2 g3 G G2 hm
          go_wp2
          go_ret2
          exact ⟨by show _ = Ending.returned (.tuple #[.int .i64 ((xs.length - 1 : Nat) : Int), .int .i64 47]); rw [HM.out]; rfl, GN⟩

theorem step_leaps {x : In} {i : Nat} {bs : List Bool} (hb : bs.getD i false = true) (hr : retB x.code.toNat = false) :
    stepB x i bs = (bs.set (i + 1 + yesV x.code.toNat x.jt.toNat x.k.toNat) true).set (i + 1 + noV x.code.toNat x.jf.toNat x.k.toNat) true := by
  unfold stepB yesV noV
  rw [if_neg (by rw [hb, hr]; simp)]
  cases h5 : ((x.code.toNat : Int) == 5) with
  | true => simp
  | false => cases hj : jumpB x.code.toNat <;> simp

theorem leaps_room {x : In} {i n : Nat} (hz : badV n i x = 0) (hl : i + 1 < n) : i + 1 + yesV x.code.toNat x.jt.toNat x.k.toNat < n ∧ i + 1 + noV x.code.toNat x.jf.toNat x.k.toNat < n := by
  obtain ⟨p1, p2⟩ := jumpBad_out (bad_zero hz).2
  unfold yesV noV
  cases h5 : ((x.code.toNat : Int) == 5) with
  | true =>
    have := p1 h5
    simp only [if_true]
    omega
  | false =>
    cases hj : jumpB x.code.toNat with
    | true =>
      have := p2 hj
      simp only [Bool.false_eq_true, if_false, if_true]
      omega
    | false =>
      simp only [Bool.false_eq_true, if_false]
      omega

end Go.Proofs.Ytaldhnionkacmab
