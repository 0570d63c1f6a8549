/-
  Package check as landed: its contracts.
-/
import Derived.Test.YtaldhnionkacmaaReachR
import Derived.Test.YtaldhnionkacmaaChkC
namespace Go.Proofs.Ytaldhnionkacmaa
open Go.RowKit
set_option maxRecDepth 100000

theorem last_at {xs : List In} (h : xs.length - 1 < xs.length) : lastB xs = retB xs[xs.length - 1].code.toNat := by
  rw [lastB, List.getLast?_eq_getElem?, List.getElem?_eq_getElem h]

set_option maxRecDepth 100000 in
set_option maxHeartbeats 1000000 in
theorem check_any (a : Option Addr) (ca : Nat) (xs : List In) (w : World) (ha : CV w a (flat xs)) :
    Calls Try.prog 46 #[.slice a xs.length ca] w fun e w' => e = .returned (.tuple #[.int .i64 ((checkV xs).1 : Int), .int .i64 (checkV xs).2]) ∧ w.grownBy w' none := by
  have H : Hid (CV w a (flat xs)) := ha
  clear ha
  by_cases h0 : xs.length = 0
  · have e : checkV xs = (0, 40) := by rw [checkV, if_pos h0]
    rw [e]
    have h0' : ((xs.length : Int) == 0) = true := by rw [h0]; rfl
    have H0 : Hid (xs.length = 0) := h0
    clear h0
    go_enter Try.func46, Try.ntmps46
    go_wp2
    go_ret2
    exact ⟨rfl, World.grownBy.refl _ _⟩
  · have h0' : ((xs.length : Int) == 0) = false := by rw [beq_eq_false_iff_ne]; omega
    by_cases h4 : 4096 < xs.length
    · have e : checkV xs = (4096, 41) := by rw [checkV, if_neg h0, if_pos h4]
      rw [e]
      have h4' : (4096 : Int) < (xs.length : Int) := by omega
      go_enter Try.func46, Try.ntmps46
      go_wp2
      go_ret2
      exact ⟨rfl, World.grownBy.refl _ _⟩
    · have h4' : ¬ ((4096 : Int) < (xs.length : Int)) := by omega
      have e : checkV xs = endV xs (firstBad xs.length 0 xs) := by rw [checkV, if_neg h0, if_neg h4]
      rw [e]
      have CF := first_any a ca xs w H.out (by omega)
      cases hf : firstBad xs.length 0 xs with
      | some r =>
        have hr := firstBad_some hf
        rw [hf] at CF
        obtain ⟨P, E⟩ := r
        have hE : (E != 0) = true := by simpa using hr
        clear hf e hr
        go_enter Try.func46, Try.ntmps46
        go_wp2_with fail
        refine CF.mono ?_
        rintro e w1 ⟨rfl, G⟩
        dsimp only [Option.getD_some]
        go_wp2
        go_ret2
        exact ⟨rfl, G⟩
      | none =>
        rw [hf] at CF
        have hl1 : xs.length - 1 < xs.length := by omega
        obtain ⟨b, o, rfl, hc⟩ := H.out.insns hl1
        obtain ⟨c0, c1, c2, c3⟩ := hc _ hl1
        have hla := last_at hl1
        have hnat : ((xs.length : Int) - 1).toNat = xs.length - 1 := by omega
        have hm : ((xs.length - 1 : Nat) : Int) = (xs.length : Int) - 1 := by omega
        generalize xs[xs.length - 1] = x at *
        have b0 := x.code.toNat_lt
        have HE : Hid (endV xs none = if retB x.code.toNat = true then (0, 0) else (xs.length - 1, 47)) := by
          show endV xs none = _
          rw [endV, hla]
        have s1 : (xs.length : Int) - 1 < (xs.length : Int) := by omega
        have s2 : (0 : Int) ≤ (xs.length : Int) - 1 := by omega
        clear hc hf e hla
        cases hr : retB x.code.toNat with
        | true =>
          have e : endV xs none = (0, 0) := by rw [HE.out, if_pos hr]
          rw [e]
          clear HE e
          go_enter Try.func46, Try.ntmps46
          go_wp2_with fail
          refine CF.mono ?_
          rintro e w1 ⟨rfl, G⟩
          dsimp only [Option.getD_none]
          have g0 := G.cell c0 (by simp)
          have g1 := G.cell c1 (by simp)
          have g2 := G.cell c2 (by simp)
          have g3 := G.cell c3 (by simp)
          clear c0 c1 c2 c3 CF
          go_wp2_with fail
          refine (returns_any _ _ _ _ _ (by omega) (by omega)).mono ?_
          rintro e w2 ⟨rfl, G2⟩
          rw [hr]
          have GN := grown_trans G G2
          clear g0 g1 g2 g3 G G2
          go_wp2
          go_ret2
          exact ⟨rfl, GN⟩
        | false =>
          have e : endV xs none = (xs.length - 1, 47) := by rw [HE.out, if_neg (by rw [hr]; simp)]
          rw [e]
          clear HE e
          go_enter Try.func46, Try.ntmps46
          go_wp2_with fail
          refine CF.mono ?_
          rintro e w1 ⟨rfl, G⟩
          dsimp only [Option.getD_none]
          have g0 := G.cell c0 (by simp)
          have g1 := G.cell c1 (by simp)
          have g2 := G.cell c2 (by simp)
          have g3 := G.cell c3 (by simp)
          clear c0 c1 c2 c3 CF
          go_wp2_with fail
          refine (returns_any _ _ _ _ _ (by omega) (by omega)).mono ?_
          rintro e w2 ⟨rfl, G2⟩
          rw [hr]
          have GN := grown_trans G G2
          have HM : Hid (((xs.length - 1 : Nat) : Int) = (xs.length : Int) - 1) := hm
          clear g0 g1 g2 g3 G G2 hm
          go_wp2
          go_ret2
          exact ⟨by show _ = Ending.returned (.tuple #[.int .i64 ((xs.length - 1 : Nat) : Int), .int .i64 47]); rw [HM.out]; rfl, GN⟩

theorem step_leaps {x : In} {i : Nat} {bs : List Bool} (hb : bs.getD i false = true) (hr : retB x.code.toNat = false) :
    stepB x i bs = (bs.set (i + 1 + yesV x.code.toNat x.jt.toNat x.k.toNat) true).set (i + 1 + noV x.code.toNat x.jf.toNat x.k.toNat) true := by
  unfold stepB yesV noV
  rw [if_neg (by rw [hb, hr]; simp)]
  cases h5 : ((x.code.toNat : Int) == 5) with
  | true => simp
  | false => cases hj : jumpB x.code.toNat <;> simp

theorem leaps_room {x : In} {i n : Nat} (hz : badV n i x = 0) (hl : i + 1 < n) : i + 1 + yesV x.code.toNat x.jt.toNat x.k.toNat < n ∧ i + 1 + noV x.code.toNat x.jf.toNat x.k.toNat < n := by
  obtain ⟨p1, p2⟩ := jumpBad_out (bad_zero hz).2
  unfold yesV noV
  cases h5 : ((x.code.toNat : Int) == 5) with
  | true =>
    have := p1 h5
    simp only [if_true]
    omega
  | false =>
    cases hj : jumpB x.code.toNat with
    | true =>
      have := p2 hj
      simp only [Bool.false_eq_true, if_false, if_true]
      omega
    | false =>
      simp only [Bool.false_eq_true, if_false]
      omega

set_option maxRecDepth 100000 in
set_option maxHeartbeats 2000000 in
theorem reach_any (a : Option Addr) (ca : Nat) (xs : List In) (w : World) (ha : CV w a (flat xs)) :
    Calls Try.prog 37 #[.slice a xs.length ca] w fun e w' => ∃ v, e = .returned (.tuple #[v, .int .i64 (checkV xs).2]) ∧ BOwns w' w.heap.size v (reachV xs) ∧ w.grownBy w' none := by
  obtain ⟨i0, hi, hz0, hz1, hz2⟩ := info_parts info4
  have H : Hid (CV w a (flat xs)) := ha
  clear ha
  obtain ⟨P, E, hPE⟩ : ∃ P E, checkV xs = (P, E) := ⟨_, _, rfl⟩
  have HC : Hid (∀ W : World, CV W a (flat xs) → Calls Try.prog 46 #[.slice a xs.length ca] W fun e w' => e = .returned (.tuple #[.int .i64 (P : Int), .int .i64 E]) ∧ W.grownBy w' none) := fun W h => by
    have k := check_any a ca xs W h
    rw [hPE] at k
    exact k
  have hE : (checkV xs).2 = E := by rw [hPE]
  rw [hE]
  by_cases hz : E = 0
  · have hV : reachV xs = reachTo xs xs.length := by rw [reachV, if_pos (by rw [hE]; exact hz)]
    obtain ⟨t1, t2, t3, t4⟩ := taken (by rw [hE]; exact hz)
    have HT : Hid ((∀ j (hj : j < xs.length), badV xs.length j xs[j] = 0) ∧ lastB xs = true) := ⟨t3, t4⟩
    have HV : Hid (reachV xs = reachTo xs xs.length) := hV
    clear hPE hE hV t3 t4
    subst hz
    have t1' : (0 : Int) < (xs.length : Int) := by omega
    go_enter Try.func37, Try.ntmps37
    go_wp2_with fail
    refine (HC.out _ H.out).mono ?_
    rintro e w1 ⟨rfl, G1⟩
    go_wp2_with (at_make; refine wpList_make_full _ rfl (.tmp 21) (.tmp 21) 72 rfl w.heap.size 4 i0 (.bool false) 1 Try.underlying72 hi hz0 hz1 .i64 .i64 (xs.length : Int) (xs.length : Int) xs.length rfl rfl rfl rfl ?q1 ?q2 ?q3 ?q4)
    case q1 => rw [hz2]; omega
    case q2 => unfold maxLen; omega
    case q3 => exact G1.size
    case q4 =>
      intro w2 h2 K2
      rw [toList_madeCells_one] at h2
      have R2 : w2.ownsRow w.heap.size 4 1 (.slice (some ⟨w1.heap.size, 0, none⟩) xs.length xs.length) xs.length ((List.replicate xs.length false).map Value.bool) := by simpa using h2
      have G2 := grown_trans G1 K2
      have hg : w.heap.size ≤ w1.heap.size := G1.size
      clear h2 K2
      generalize w1.heap.size = g at *
      obtain ⟨u0, hu0⟩ := (BlkN.ofRow R2).1.cell (i := 0) (by omega)
      have hf0 := (BlkN.ofRow R2).1.free 0
      have R3 : (w2.setCell ⟨g, 0, none⟩ (.bool true)).ownsRow w.heap.size 4 1 (.slice (some ⟨g, 0, none⟩) xs.length xs.length) xs.length ((reachTo xs 0).map Value.bool) := by
        have := (R2.stored 0 (.bool true)).1
        rw [reachTo, List.map_set]
        exact this
      have G3 := grown_setCell G2 ⟨g, 0, none⟩ (.bool true) (.inr hg)
      clear R2 G2
      go_wp2
      go_loopw [27] (fun i wr => ∃ j : Nat, j ≤ xs.length ∧ i = .int .i64 j ∧ wr.ownsRow w.heap.size 4 1 (.slice (some ⟨g, 0, none⟩) xs.length xs.length) xs.length ((reachTo xs j).map Value.bool) ∧ w.grownBy wr none) (fun i _ => xs.length - (intOf i).toNat)
      case atStart => exact ⟨0, Nat.zero_le _, rfl, R3, G3⟩
      case round =>
        clear R3 G3 hu0 hf0
        obtain ⟨j, hj, rfl, R, G⟩ := hrel
        by_cases hlt : j < xs.length
        · have HS : Hid (reachTo xs (j + 1) = stepB xs[j] j (reachTo xs j)) := reachTo_succ hlt
          have hlen := reachTo_len xs j
          obtain ⟨b, o, rfl, hc⟩ := H.out.insns hlt
          obtain ⟨c0, c1, c2, c3⟩ := hc j hlt
          have HZ : Hid (badV xs.length j xs[j] = 0) := HT.out.1 j hlt
          have HL : Hid (retB xs[j].code.toNat = false → j + 1 < xs.length) := fun hr => last_ret HT.out.2 hlt hr
          clear hc
          generalize reachTo xs j = bs at *
          generalize xs[j] = x at *
          have b0 := x.code.toNat_lt
          have b1 := x.jt.toNat_lt
          have b2 := x.jf.toNat_lt
          have hl : (j : Int) < (xs.length : Int) := by omega
          have g0 : wr.cell? ⟨b, o + j * 4, none⟩ = some (.int .u16 (x.code.toNat : Int)) := G.cell c0 (by simp)
          have g1 : wr.cell? ⟨b, o + j * 4 + 1, none⟩ = some (.int .u8 (x.jt.toNat : Int)) := G.cell c1 (by simp)
          have g2 : wr.cell? ⟨b, o + j * 4 + 2, none⟩ = some (.int .u8 (x.jf.toNat : Int)) := G.cell c2 (by simp)
          have g3 : wr.cell? ⟨b, o + j * 4 + 3, none⟩ = some (.int .u32 (x.k.toNat : Int)) := G.cell c3 (by simp)
          clear c0 c1 c2 c3
          go_upto_region 9 with fail
          have C0 := cv_lit wr 47 [.int .u16 (x.code.toNat : Int), .int .u8 (x.jt.toNat : Int), .int .u8 (x.jf.toNat : Int), .int .u32 (x.k.toNat : Int)]
          have HB : Hid (CV (wr.alloc (.cells #[.int .u16 (x.code.toNat : Int), .int .u8 (x.jt.toNat : Int), .int .u8 (x.jf.toNat : Int), .int .u32 (x.k.toNat : Int)] 47)) (some ⟨wr.heap.size, 0, none⟩) [.int .u16 (x.code.toNat : Int), .int .u8 (x.jt.toNat : Int), .int .u8 (x.jf.toNat : Int), .int .u32 (x.k.toNat : Int)]) := C0
          have KA := World.grownBy_alloc wr (.cells #[.int .u16 (x.code.toNat : Int), .int .u8 (x.jt.toNat : Int), .int .u8 (x.jf.toNat : Int), .int .u32 (x.k.toNat : Int)] 47) none
          have GB := grown_trans G KA
          have RB := owns_keptNone R KA
          clear g0 g1 g2 g3 C0 G KA R
          generalize wr.alloc (.cells #[.int .u16 (x.code.toNat : Int), .int .u8 (x.jt.toNat : Int), .int .u8 (x.jf.toNat : Int), .int .u32 (x.k.toNat : Int)] 47) = wb at *
          generalize wr.heap.size = B at *
          clear wr
          have hcell : wb.cell? ⟨g, j, none⟩ = some (.bool (bs.getD j false)) := by
            have := RB.cells (g := g) rfl j (.bool (bs.getD j false)) (by simp [hlen, hlt])
            rw [Addr.add_lit, Nat.zero_add] at this
            exact this
          have z0 : wb.cell? ⟨B, 0, none⟩ = some (.int .u16 (x.code.toNat : Int)) := HB.out.2 _ rfl 0 (by simp)
          have z1 : wb.cell? ⟨B, 1, none⟩ = some (.int .u8 (x.jt.toNat : Int)) := HB.out.2 _ rfl 1 (by simp)
          have z2 : wb.cell? ⟨B, 2, none⟩ = some (.int .u8 (x.jf.toNat : Int)) := HB.out.2 _ rfl 2 (by simp)
          have z3 : wb.cell? ⟨B, 3, none⟩ = some (.int .u32 (x.k.toNat : Int)) := HB.out.2 _ rfl 3 (by simp)
          cases hb : bs.getD j false with
          | false =>
            rw [hb] at hcell
            have HE : Hid (reachTo xs (j + 1) = bs) := by
              show _ = bs
              rw [HS.out, stepB, if_pos (.inl hb)]
            clear HS hb HZ HL
            go_wp2
            go_roundw
            case rel => exact ⟨j + 1, by omega, by go_num, by rw [HE.out]; exact RB, GB⟩
            case measure => simp [intOf]; omega
          | true =>
            rw [hb] at hcell
            cases hr : retB x.code.toNat with
            | true =>
              have HE : Hid (reachTo xs (j + 1) = bs) := by
                show _ = bs
                rw [HS.out, stepB, if_pos (.inr hr)]
              clear HS hb HZ HL
              go_wp2_with fail
              refine (returns_any _ _ _ _ _ (by omega) (by omega)).mono ?_
              rintro e w3 ⟨rfl, K3⟩
              rw [hr]
              have R3 := owns_keptNone RB K3
              have G3 := grown_trans GB K3
              clear z0 z1 z2 z3 hcell RB GB K3
              go_wp2
              go_roundw
              case rel => exact ⟨j + 1, by omega, by go_num, by rw [HE.out]; exact R3, G3⟩
              case measure => simp [intOf]; omega
            | false =>
              have HE : Hid (reachTo xs (j + 1) = (bs.set (j + 1 + yesV x.code.toNat x.jt.toNat x.k.toNat) true).set (j + 1 + noV x.code.toNat x.jf.toNat x.k.toNat) true) := by
                show _ = _
                rw [HS.out, step_leaps hb hr]
              obtain ⟨l1, l2⟩ := leaps_room HZ.out (HL.out hr)
              clear HS hb HZ HL
              go_wp2_with fail
              refine (returns_any _ _ _ _ _ (by omega) (by omega)).mono ?_
              rintro e w3 ⟨rfl, K3⟩
              rw [hr]
              have R3 := owns_keptNone RB K3
              have G3 := grown_trans GB K3
              have y0 := K3.cell z0 (by simp)
              have y1 := K3.cell z1 (by simp)
              have y2 := K3.cell z2 (by simp)
              have y3 := K3.cell z3 (by simp)
              clear z0 z1 z2 z3 hcell RB GB K3
              go_wp2_with fail
              refine (leaps_any _ _ _ _ _ (by omega) (by omega)).mono ?_
              rintro e w4 ⟨rfl, K4⟩
              have R4 := owns_keptNone R3 K4
              have G4 := grown_trans G3 K4
              clear y0 y1 y2 y3 R3 G3 K4 hr
              generalize yesV (x.code.toNat : Int) x.jt.toNat x.k.toNat = y at *
              generalize noV (x.code.toNat : Int) x.jf.toNat x.k.toNat = z at *
              have s1 : (j : Int) + 1 + (y : Int) < (xs.length : Int) := by omega
              have s2 : (0 : Int) ≤ (j : Int) + 1 + (y : Int) := by omega
              have s3 : ((j : Int) + 1 + (y : Int)).toNat = j + 1 + y := by omega
              have s4 : (j : Int) + 1 + (z : Int) < (xs.length : Int) := by omega
              have s5 : (0 : Int) ≤ (j : Int) + 1 + (z : Int) := by omega
              have s6 : ((j : Int) + 1 + (z : Int)).toNat = j + 1 + z := by omega
              have bl := (BlkN.ofRow R4).1
              obtain ⟨u1, hu1⟩ := bl.cell (i := j + 1 + y) (by omega)
              have hf1 := bl.free (j + 1 + y)
              have R5 := (R4.stored (j + 1 + y) (.bool true)).1
              have bl5 := (BlkN.ofRow R5).1
              obtain ⟨u2, hu2⟩ := bl5.cell (i := j + 1 + z) (by omega)
              have hf2 := bl5.free (j + 1 + z)
              have R6 : ((w4.setCell ⟨g, j + 1 + y, none⟩ (.bool true)).setCell ⟨g, j + 1 + z, none⟩ (.bool true)).ownsRow w.heap.size 4 1 (.slice (some ⟨g, 0, none⟩) xs.length xs.length) xs.length ((reachTo xs (j + 1)).map Value.bool) := by
                have := (R5.stored (j + 1 + z) (.bool true)).1
                rw [HE.out, List.map_set, List.map_set]
                exact this
              have G5 := grown_setCell G4 ⟨g, j + 1 + y, none⟩ (.bool true) (.inr hg)
              have G6 := grown_setCell G5 ⟨g, j + 1 + z, none⟩ (.bool true) (.inr hg)
              clear R4 R5 G4 G5 bl bl5
              go_wp2
              go_roundw
              case rel => exact ⟨j + 1, by omega, by go_num, R6, G6⟩
              case measure => simp [intOf]; omega
        · obtain rfl : j = xs.length := by omega
          go_wp2
          go_ret2
          refine ⟨_, rfl, ?_, G⟩
          rw [HV.out]
          unfold BOwns
          rw [reachTo_len]
          exact R
  · have hV : reachV xs = [] := by rw [reachV, if_neg (by rw [hE]; exact hz)]
    rw [hV]
    have hzb : (E != 0) = true := by rw [bne_iff_ne]; exact hz
    clear hPE hE hV hz
    go_enter Try.func37, Try.ntmps37
    go_wp2_with fail
    refine (HC.out _ H.out).mono ?_
    rintro e w1 ⟨rfl, G1⟩
    go_wp2
    go_ret2
    exact ⟨_, rfl, World.ownsRow_nil _ _ _ _, G1⟩

end Go.Proofs.Ytaldhnionkacmaa
