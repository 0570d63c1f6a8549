/-
  Package check as landed: its contracts. Package graph as landed: where the blocks of a program begin. Lists of ints: SameInts, SpoilInts.
-/
import Derived.Test.YthffbogejcbdiaaLotP4
import Derived.Test.YthffbogejcbdiaaLotP10
import Derived.Test.YthffbogejcbdiaaLotP9
import Derived.Test.YthffbogejcbdiaaLotP3
namespace Go.Proofs.Ythffbogejcbdiaa
open Go.RowKit
set_option maxRecDepth 100000

theorem last_at {xs : List In} (h : xs.length - 1 < xs.length) : lastB xs = retB xs[xs.length - 1].code.toNat := by
  rw [lastB, List.getLast?_eq_getElem?, List.getElem?_eq_getElem h]

set_option maxRecDepth 100000 in
set_option maxHeartbeats 1000000 in
theorem check_any (a : Option Addr) (ca : Nat) (xs : List In) (w : World) (ha : CV w a (flat xs)) :
    Calls Try.prog 4 #[.slice a xs.length ca] w fun e w' => e = .returned (.tuple #[.int .i64 ((checkV xs).1 : Int), .int .i64 (checkV xs).2]) ∧ w.grownBy w' none := by
  have H : Hid (CV w a (flat xs)) := ha
  clear ha
  by_cases h0 : xs.length = 0
  · have e : checkV xs = (0, 40) := by rw [checkV, if_pos h0]
    rw [e]
    have h0' : ((xs.length : Int) == 0) = true := by rw [h0]; rfl
    have H0 : Hid (xs.length = 0) := h0
    clear h0
    go_enter Try.func4, Try.ntmps4
    go_wp2
    go_ret2
    exact ⟨rfl, World.grownBy.refl _ _⟩
  · have h0' : ((xs.length : Int) == 0) = false := by rw [beq_eq_false_iff_ne]; omega
    by_cases h4 : 4096 < xs.length
    · have e : checkV xs = (4096, 41) := by rw [checkV, if_neg h0, if_pos h4]
      rw [e]
      have h4' : (4096 : Int) < (xs.length : Int) := by omega
      go_enter Try.func4, Try.ntmps4
      go_wp2
      go_ret2
      exact ⟨rfl, World.grownBy.refl _ _⟩
    · have h4' : ¬ ((4096 : Int) < (xs.length : Int)) := by omega
      have e : checkV xs = endV xs (firstBad xs.length 0 xs) := by rw [checkV, if_neg h0, if_neg h4]
      rw [e]
      have CF := first_any a ca xs w H.out (by omega)
      cases hf : firstBad xs.length 0 xs with
      | some r =>
        have hr := firstBad_some hf
        rw [hf] at CF
        obtain ⟨P, E⟩ := r
        have hE : (E != 0) = true := by simpa using hr
        clear hf e hr
        go_enter Try.func4, Try.ntmps4
        go_wp2_with fail
        refine CF.mono ?_
        rintro e w1 ⟨rfl, G⟩
        dsimp only [Option.getD_some]
        go_wp2
        go_ret2
        exact ⟨rfl, G⟩
      | none =>
        rw [hf] at CF
        have hl1 : xs.length - 1 < xs.length := by omega
        obtain ⟨b, o, rfl, hc⟩ := H.out.insns hl1
        obtain ⟨c0, c1, c2, c3⟩ := hc _ hl1
        have hla := last_at hl1
        have hnat : ((xs.length : Int) - 1).toNat = xs.length - 1 := by omega
        have hm : ((xs.length - 1 : Nat) : Int) = (xs.length : Int) - 1 := by omega
        generalize xs[xs.length - 1] = x at *
        have b0 := x.code.toNat_lt
        have HE : Hid (endV xs none = if retB x.code.toNat = true then (0, 0) else (xs.length - 1, 47)) := by
          show endV xs none = _
          rw [endV, hla]
        have s1 : (xs.length : Int) - 1 < (xs.length : Int) := by omega
        have s2 : (0 : Int) ≤ (xs.length : Int) - 1 := by omega
        clear hc hf e hla
        cases hr : retB x.code.toNat with
        | true =>
          have e : endV xs none = (0, 0) := by rw [HE.out, if_pos hr]
          rw [e]
          clear HE e
          go_enter Try.func4, Try.ntmps4
          go_wp2_with fail
          refine CF.mono ?_
          rintro e w1 ⟨rfl, G⟩
          dsimp only [Option.getD_none]
          have g0 := G.cell c0 (by simp)
          have g1 := G.cell c1 (by simp)
          have g2 := G.cell c2 (by simp)
          have g3 := G.cell c3 (by simp)
          clear c0 c1 c2 c3 CF
          go_wp2_with fail
          refine (returns_any _ _ _ _ _ (by omega) (by omega)).mono ?_
          rintro e w2 ⟨rfl, G2⟩
          rw [hr]
          have GN := grown_trans G G2
          clear g0 g1 g2 g3 G G2
          go_wp2
          go_ret2
          exact ⟨rfl, GN⟩
        | false =>
          have e : endV xs none = (xs.length - 1, 47) := by rw [HE.out, if_neg (by rw [hr]; simp)]
          rw [e]
          clear HE e
          go_enter Try.func4, Try.ntmps4
          go_wp2_with fail
          refine CF.mono ?_
          rintro e w1 ⟨rfl, G⟩
          dsimp only [Option.getD_none]
          have g0 := G.cell c0 (by simp)
          have g1 := G.cell c1 (by simp)
          have g2 := G.cell c2 (by simp)
          have g3 := G.cell c3 (by simp)
          clear c0 c1 c2 c3 CF
          go_wp2_with fail
          refine (returns_any _ _ _ _ _ (by omega) (by omega)).mono ?_
          rintro e w2 ⟨rfl, G2⟩
          rw [hr]
          have GN := grown_trans G G2
          have HM : Hid (((xs.length - 1 : Nat) : Int) = (xs.length : Int) - 1) := hm
          clear g0 g1 g2 g3 G G2 hm
          go_wp2
          go_ret2
          exact ⟨by show _ = Ending.returned (.tuple #[.int .i64 ((xs.length - 1 : Nat) : Int), .int .i64 47]); rw [HM.out]; rfl, GN⟩

theorem step_leaps {x : In} {i : Nat} {bs : List Bool} (hb : bs.getD i false = true) (hr : retB x.code.toNat = false) :
    stepB x i bs = (bs.set (i + 1 + yesV x.code.toNat x.jt.toNat x.k.toNat) true).set (i + 1 + noV x.code.toNat x.jf.toNat x.k.toNat) true := by
  unfold stepB yesV noV
  rw [if_neg (by rw [hb, hr]; simp)]
  cases h5 : ((x.code.toNat : Int) == 5) with
  | true => simp
  | false => cases hj : jumpB x.code.toNat <;> simp

theorem leaps_room {x : In} {i n : Nat} (hz : badV n i x = 0) (hl : i + 1 < n) : i + 1 + yesV x.code.toNat x.jt.toNat x.k.toNat < n ∧ i + 1 + noV x.code.toNat x.jf.toNat x.k.toNat < n := by
  obtain ⟨p1, p2⟩ := jumpBad_out (bad_zero hz).2
  unfold yesV noV
  cases h5 : ((x.code.toNat : Int) == 5) with
  | true =>
    have := p1 h5
    simp only [if_true]
    omega
  | false =>
    cases hj : jumpB x.code.toNat with
    | true =>
      have := p2 hj
      simp only [Bool.false_eq_true, if_false, if_true]
      omega
    | false =>
      simp only [Bool.false_eq_true, if_false]
      omega

end Go.Proofs.Ythffbogejcbdiaa

namespace Go.Proofs.Ythffbogejcbdiaa
open Go.RowKit
set_option maxRecDepth 100000

/-- What an instruction says of where blocks begin. -/
def begStep (x : In) (i : Nat) (bs : List Bool) : List Bool :=
  if leavesB x = false then bs else if (classV x.code.toNat == 5) = true then ((bs.set (i + 1) true).set (yesG i x) true).set (noG i x) true else bs.set (i + 1) true
def begTo (xs : List In) : Nat → List Bool
  | 0 => List.replicate (xs.length + 1) false
  | k + 1 => match xs[k]? with
    | some x => begStep x k (begTo xs k)
    | none => begTo xs k
theorem begStep_len (x : In) (i : Nat) (bs : List Bool) : (begStep x i bs).length = bs.length := by
  unfold begStep
  split
  · rfl
  · split <;> simp
theorem begTo_len (xs : List In) (k : Nat) : (begTo xs k).length = xs.length + 1 := by
  induction k with
  | zero => simp [begTo]
  | succ k ih =>
    rw [begTo]
    cases xs[k]? with
    | none => exact ih
    | some x => rw [begStep_len]; exact ih
theorem begTo_succ {xs : List In} {k : Nat} (h : k < xs.length) : begTo xs (k + 1) = begStep xs[k] k (begTo xs k) := by
  rw [begTo, List.getElem?_eq_getElem h]

theorem class5 {c : Int} (h : classV c = 5) : c = 5 ∨ jumpB c = true := by
  have hk : knownB c = true := by
    cases hk : knownB c with
    | true => rfl
    | false => rw [classV, if_neg (by rw [hk]; simp)] at h; cases h
  have := known_all (fun c => (classV c != 5) || (c == 5 || jumpB c)) (by decide +kernel) hk
  rw [h] at this
  simpa using this
theorem leaves_ret' {c : Int} (h : jumpB c = true) : retB c = false := by
  simp only [jumpB, Bool.or_eq_true, beq_iff_eq] at h
  simp only [retB, Bool.or_eq_false_iff, beq_eq_false_iff_ne]
  omega
/-- The goals of a jump in a program that is taken. -/
theorem goals_in {xs : List In} (h : (checkV xs).2 = 0) {k : Nat} (hk : k < xs.length) (hc : classV xs[k].code.toNat = 5) : yesG k xs[k] < xs.length ∧ noG k xs[k] < xs.length ∧ k + 1 < xs.length := by
  obtain ⟨-, -, hb, hl⟩ := taken h
  have z := bad_zero (hb k hk)
  have o := jumpBad_out z.2
  have hr : retB xs[k].code.toNat = false := by
    rcases class5 hc with e | e
    · rw [e]; rfl
    · have := leaves_ret' e
      exact this
  have hlast := last_ret hl hk hr
  unfold yesG noG
  rcases class5 hc with e | e
  · have h5 : ((xs[k].code.toNat : Int) == 5) = true := by rw [e]; rfl
    have := o.1 h5
    simp only [h5, if_true]
    omega
  · have h5 : ((xs[k].code.toNat : Int) == 5) = false := by
      cases h5 : ((xs[k].code.toNat : Int) == 5) with
      | false => rfl
      | true => rw [jump_not5 h5] at e; cases e
    have := o.2 e
    rw [h5]
    simp only [Bool.false_eq_true, if_false]
    omega

set_option maxHeartbeats 4000000 in
theorem begins_any (a : Option Addr) (ca : Nat) (xs : List In) (w : World) (ha : CV w a (flat xs)) (hT : (checkV xs).2 = 0) :
    Calls Try.prog 47 #[.slice a xs.length ca] w fun e w' => ∃ v, e = .returned v ∧ BOwns w' w.heap.size v (begTo xs xs.length) ∧ w.grownBy w' none := by
  obtain ⟨i0, hi, hz0, hz1, hz2⟩ := info_parts info4
  have H : Hid (CV w a (flat xs)) := ha
  have HG : Hid (∀ k (hk : k < xs.length), classV xs[k].code.toNat = 5 → yesG k xs[k] < xs.length ∧ noG k xs[k] < xs.length ∧ k + 1 < xs.length) := fun k hk hc => goals_in hT hk hc
  have hn := (taken hT).2.1
  clear ha hT
  have HL : Hid ((begTo xs xs.length).length = xs.length + 1) := begTo_len _ _
  go_enter Try.func47, Try.ntmps47
  go_wp2_with (at_make; refine wpList_make_full _ rfl (.tmp 10) (.tmp 10) 92 rfl w.heap.size 4 i0 (.bool false) 1 Try.underlying92 hi hz0 hz1 .i64 .i64 ((xs.length : Int) + 1) ((xs.length : Int) + 1) (xs.length + 1) rfl rfl (by omega) (by omega) ?q1 ?q2 ?q3 ?q4)
  case q1 => rw [hz2]; omega
  case q2 => unfold maxLen; omega
  case q3 => exact Nat.le_refl _
  case q4 =>
    intro w2 h2 K2
    rw [toList_madeCells_one] at h2
    have R2 : w2.ownsRow w.heap.size 4 1 (.slice (some ⟨w.heap.size, 0, none⟩) (xs.length + 1) (xs.length + 1)) (xs.length + 1) ((begTo xs 0).map Value.bool) := by simpa [begTo] using h2
    have hg : Hid (w.heap.size ≤ w.heap.size) := Nat.le_refl _
    clear h2
    obtain ⟨g, hgg⟩ : ∃ g, w.heap.size = g := ⟨_, rfl⟩
    have HGG : Hid (w.heap.size = g) := hgg
    rw [show (Value.slice (some ⟨w.heap.size, 0, none⟩) (xs.length + 1) (xs.length + 1)) = .slice (some ⟨g, 0, none⟩) (xs.length + 1) (xs.length + 1) by rw [hgg]] at *
    clear hgg hg
    go_wp2
    go_loopw [14] (fun i wr => ∃ j : Nat, j ≤ xs.length ∧ i = .int .i64 j ∧ wr.ownsRow w.heap.size 4 1 (.slice (some ⟨g, 0, none⟩) (xs.length + 1) (xs.length + 1)) (xs.length + 1) ((begTo xs j).map Value.bool) ∧ w.grownBy wr none) (fun i _ => xs.length - (intOf i).toNat)
    case atStart => exact ⟨0, Nat.zero_le _, rfl, R2, K2⟩
    case round =>
      clear R2 K2
      obtain ⟨j, hj, rfl, R, G⟩ := hrel
      by_cases hlt : j < xs.length
      · have hl : (j : Int) < (xs.length : Int) := by omega
        have HS : Hid (begTo xs (j + 1) = begStep xs[j] j (begTo xs j)) := begTo_succ hlt
        have hlen := begTo_len xs j
        obtain ⟨b, o, rfl, hc⟩ := (H.out.keptNone G).insns hlt
        obtain ⟨c0, c1, c2, c3⟩ := hc j hlt
        have hgl := HG.out j hlt
        clear hc
        generalize begTo xs j = bs at *
        generalize xs[j] = x at *
        have VX := VAt.alloc wr 46 #[.int .u16 (x.code.toNat : Int), .int .u8 (x.jt.toNat : Int), .int .u8 (x.jf.toNat : Int), .int .u32 (x.k.toNat : Int)]
        have GX : wr.grownBy (wr.alloc (.cells #[.int .u16 (x.code.toNat : Int), .int .u8 (x.jt.toNat : Int), .int .u8 (x.jf.toNat : Int), .int .u32 (x.k.toNat : Int)] 46)) none := World.grownBy_alloc _ _ _
        have RX := owns_keptNone R GX
        have GG := grown_trans G GX
        have hBg : wr.heap.size ≠ g := by have := (R.lt g rfl).2; omega
        go_upto_region 5 with fail
        generalize wr.alloc (.cells #[.int .u16 (x.code.toNat : Int), .int .u8 (x.jt.toNat : Int), .int .u8 (x.jf.toNat : Int), .int .u32 (x.k.toNat : Int)] 46) = wb at *
        generalize wr.heap.size = B at *
        have z0 : wb.cell? ⟨B, 0, none⟩ = some (.int .u16 (x.code.toNat : Int)) := VX.cell 0
        have z1 : wb.cell? ⟨B, 1, none⟩ = some (.int .u8 (x.jt.toNat : Int)) := VX.cell 1
        have z2 : wb.cell? ⟨B, 2, none⟩ = some (.int .u8 (x.jf.toNat : Int)) := VX.cell 2
        have z3 : wb.cell? ⟨B, 3, none⟩ = some (.int .u32 (x.k.toNat : Int)) := VX.cell 3
        clear R G GX c0 c1 c2 c3
        go_wp2_with fail
        refine (leaves_any x _).mono ?_
        rintro e w3 ⟨rfl, K3⟩
        have R3 := owns_keptNone RX K3
        have G3 := grown_trans GG K3
        have V3 := VX.kept K3
        clear RX GG K3 VX z0 z1 z2 z3
        cases hlv : leavesB x with
        | false =>
          have HE : Hid (begTo xs (j + 1) = bs) := by
            show _ = _
            rw [HS.out, begStep, if_pos hlv]
          go_wp2
          go_roundw
          case rel => exact ⟨j + 1, by omega, by go_num, by rw [HE.out]; exact R3, G3⟩
          case measure => simp [intOf]; omega
        | true =>
          obtain ⟨u1, hu1⟩ := (BlkN.ofRow R3).1.cell (i := j + 1) (by omega)
          have hf1 := (BlkN.ofRow R3).1.free (j + 1)
          have R4 := (R3.stored (j + 1) (.bool true)).1
          have K4 : w3.grownBy (w3.setCell ⟨g, j + 1, none⟩ (.bool true)) (some g) := grown_set1 w3 ⟨g, j + 1, none⟩ _
          have G4 := grown_trans_new G3 K4 (fun z e => by cases e; exact Nat.le_of_eq HGG.out)
          have V4 := V3.grown K4 (by simpa using Ne.symm hBg)
          rw [← List.map_set] at R4
          have hjl : (j : Int) + 1 < (xs.length : Int) + 1 := by omega
          have hjn : ((j : Int) + 1).toNat = j + 1 := by omega
          have HN : Hid (begTo xs (j + 1) = if (classV x.code.toNat == 5) = true then ((bs.set (j + 1) true).set (yesG j x) true).set (noG j x) true else bs.set (j + 1) true) := by
            show _ = _
            rw [HS.out, begStep, if_neg (by rw [hlv]; simp)]
          clear HS V3 G3 K4 R3
          go_upto_region 7 with fail
          generalize w3.setCell ⟨g, j + 1, none⟩ (.bool true) = w4 at *
          have z0 : w4.cell? ⟨B, 0, none⟩ = some (.int .u16 (x.code.toNat : Int)) := V4.cell 0
          clear hu1 hf1 hjl hjn
          go_wp2_with fail
          refine (class_any _ _ (code_lt x).1 (code_lt x).2).mono ?_
          rintro e w5 ⟨rfl, K5⟩
          have R5 := owns_keptNone R4 K5
          have G5 := grown_trans G4 K5
          have V5 := V4.kept K5
          clear R4 G4 V4 K5 z0
          cases h5 : (classV x.code.toNat == 5) with
          | false =>
            have HE : Hid (begTo xs (j + 1) = bs.set (j + 1) true) := HN.out.trans (if_neg (by rw [h5]; simp))
            clear HN
            go_wp2
            go_roundw
            case rel => exact ⟨j + 1, by omega, by go_num, by rw [HE.out]; exact R5, G5⟩
            case measure => simp [intOf]; omega
          | true =>
            obtain ⟨hy, hno, -⟩ := hgl (by simpa using h5)
            have HE : Hid (begTo xs (j + 1) = ((bs.set (j + 1) true).set (yesG j x) true).set (noG j x) true) := HN.out.trans (if_pos h5)
            have z0 : w5.cell? ⟨B, 0, none⟩ = some (.int .u16 (x.code.toNat : Int)) := V5.cell 0
            have z1 : w5.cell? ⟨B, 1, none⟩ = some (.int .u8 (x.jt.toNat : Int)) := V5.cell 1
            have z2 : w5.cell? ⟨B, 2, none⟩ = some (.int .u8 (x.jf.toNat : Int)) := V5.cell 2
            have z3 : w5.cell? ⟨B, 3, none⟩ = some (.int .u32 (x.k.toNat : Int)) := V5.cell 3
            have CG := goals_any j (by omega) x w5
            generalize yesG j x = ye at *
            generalize noG j x = nn at *
            clear HN hgl V5
            go_wp2_with fail
            refine CG.mono ?_
            rintro e w6 ⟨rfl, K6⟩
            have R6 := owns_keptNone R5 K6
            have G6 := grown_trans G5 K6
            clear R5 G5 K6 z0 z1 z2 z3 CG
            obtain ⟨u1, hu1⟩ := (BlkN.ofRow R6).1.cell (i := ye) (by omega)
            have hf1 := (BlkN.ofRow R6).1.free ye
            have R7 := (R6.stored ye (.bool true)).1
            have G7 := grown_trans_new G6 (grown_set1 w6 ⟨g, ye, none⟩ (.bool true)) (fun z e => by cases e; exact Nat.le_of_eq HGG.out)
            obtain ⟨u2, hu2⟩ := (BlkN.ofRow R7).1.cell (i := nn) (by omega)
            have hf2 := (BlkN.ofRow R7).1.free nn
            have R8 := (R7.stored nn (.bool true)).1
            have G8 := grown_trans_new G7 (grown_set1 (w6.setCell ⟨g, ye, none⟩ (.bool true)) ⟨g, nn, none⟩ (.bool true)) (fun z e => by cases e; exact Nat.le_of_eq HGG.out)
            rw [← List.map_set, ← List.map_set] at R8
            have i1 : (ye : Int) < (xs.length : Int) + 1 := by omega
            have i2 : (nn : Int) < (xs.length : Int) + 1 := by omega
            clear R6 G6 R7 G7
            go_wp2
            go_roundw
            case rel => exact ⟨j + 1, by omega, by go_num, by rw [HE.out]; exact R8, G8⟩
            case measure => simp [intOf]; omega
      · have hl : ¬ (j : Int) < (xs.length : Int) := by omega
        have hje : j = xs.length := by omega
        subst hje
        go_wp2
        go_ret
        have R' : BOwns wr w.heap.size (.slice (some ⟨g, 0, none⟩) (xs.length + 1) (xs.length + 1)) (begTo xs xs.length) := by
          unfold BOwns
          rw [HL.out]
          exact R
        exact ⟨_, rfl, R', G⟩

end Go.Proofs.Ythffbogejcbdiaa

namespace Go.Proofs.Ythffbogejcbdiaa
open Go.RowKit
set_option maxRecDepth 100000

theorem info3 : (Try.prog.info? 3).map (fun i => (i.zero, i.size, i.bytes)) = some (some (.int .i64 0), 1, 8) := by kernel_rfl

def iv (z : Int) : Value := .int .i64 z

abbrev ZOwns (w : World) (base : Nat) (v : Value) (bs : List Int) : Prop := w.ownsRow base 3 1 v bs.length (bs.map iv)

theorem CV.ints {w : World} {ao : Option Addr} {bs : List Int} (h : CV w ao (bs.map iv)) {k : Nat} (hk : k < bs.length) :
    ∃ b off, ao = some ⟨b, off, none⟩ ∧ ∀ i (hi : i < bs.length), w.cell? ⟨b, off + i, none⟩ = some (.int .i64 bs[i]) := by
  obtain ⟨b, off, hao, hc⟩ := h.addr (k := k) (by simpa using hk)
  exact ⟨b, off, hao, fun i hi => by rw [hc i (by simpa using hi)]; simp [iv]⟩

/-- The two loops of SpoilInts, behind its append. -/
def ZSpoilRel (w : World) (row : Option Nat) (g g' n n' : Nat) (wr : World) : Prop := BlkN wr 3 g n ∧ BlkN wr 3 g' n' ∧ w.grownBy wr row

theorem ZSpoilRel.set {w wr : World} {row : Option Nat} {g g' n n' : Nat} (h : ZSpoilRel w row g g' n n' wr) {p : Addr} (hp : row = some p.block ∨ w.heap.size ≤ p.block) (u : Value) : ZSpoilRel w row g g' n n' (wr.setCell p u) :=
  ⟨h.1.setCell _ _, h.2.1.setCell _ _, grown_setCell h.2.2 _ _ hp⟩

end Go.Proofs.Ythffbogejcbdiaa
