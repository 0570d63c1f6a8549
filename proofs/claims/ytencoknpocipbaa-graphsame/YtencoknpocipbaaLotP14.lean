/-
  Package graph as landed: a jump's goals; a copy of instructions; where blocks begin. Package graph as landed: where the blocks of a program begin. Lists of ints: SameInts, SpoilInts.
-/
import Derived.Test.YtencoknpocipbaaGrC
import Derived.Test.YtencoknpocipbaaLotP3
import Derived.Test.YtencoknpocipbaaLotP4
import Derived.Test.YtencoknpocipbaaLotP11
namespace Go.Proofs.Ytencoknpocipbaa
open Go.RowKit
set_option maxRecDepth 100000

/-- The places at which a run goes on behind a jump. -/
def yesG (i : Nat) (x : In) : Nat := i + 1 + (if ((x.code.toNat : Int) == 5) = true then x.k.toNat else x.jt.toNat)
def noG (i : Nat) (x : In) : Nat := i + 1 + (if ((x.code.toNat : Int) == 5) = true then x.k.toNat else x.jf.toNat)

set_option maxHeartbeats 1000000 in
theorem goals_any (i : Nat) (hi : i ≤ 1000000) (x : In) (w : World) : Calls Try.prog 54 #[.int .i64 (i : Int), ginV x] w fun e w' => e = .returned (.tuple #[.int .i64 (yesG i x : Int), .int .i64 (noG i x : Int)]) ∧ w.grownBy w' none := by
  obtain ⟨Y, hY⟩ : ∃ Y, yesG i x = Y := ⟨_, rfl⟩
  obtain ⟨N, hN⟩ : ∃ N, noG i x = N := ⟨_, rfl⟩
  rw [hY, hN]
  have HY : Hid (yesG i x = Y) := hY
  have HN : Hid (noG i x = N) := hN
  clear hY hN
  have b1 := x.jt.toNat_lt
  have b2 := x.jf.toNat_lt
  have b3 := x.k.toNat_lt
  have C0 := cv_lit w 46 [.int .u16 (x.code.toNat : Int), .int .u8 (x.jt.toNat : Int), .int .u8 (x.jf.toNat : Int), .int .u32 (x.k.toNat : Int)]
  have G0 : w.grownBy (w.alloc (.cells #[.int .u16 (x.code.toNat : Int), .int .u8 (x.jt.toNat : Int), .int .u8 (x.jf.toNat : Int), .int .u32 (x.k.toNat : Int)] 46)) none := World.grownBy_alloc _ _ _
  go_enter Try.func54, Try.ntmps54
  go_upto_region 1 with fail
  have c0 : (w.alloc (.cells #[.int .u16 (x.code.toNat : Int), .int .u8 (x.jt.toNat : Int), .int .u8 (x.jf.toNat : Int), .int .u32 (x.k.toNat : Int)] 46)).cell? ⟨w.heap.size, 0, none⟩ = some (.int .u16 (x.code.toNat : Int)) := C0.2 _ rfl 0 (by simp)
  have c1 : (w.alloc (.cells #[.int .u16 (x.code.toNat : Int), .int .u8 (x.jt.toNat : Int), .int .u8 (x.jf.toNat : Int), .int .u32 (x.k.toNat : Int)] 46)).cell? ⟨w.heap.size, 1, none⟩ = some (.int .u8 (x.jt.toNat : Int)) := C0.2 _ rfl 1 (by simp)
  have c2 : (w.alloc (.cells #[.int .u16 (x.code.toNat : Int), .int .u8 (x.jt.toNat : Int), .int .u8 (x.jf.toNat : Int), .int .u32 (x.k.toNat : Int)] 46)).cell? ⟨w.heap.size, 2, none⟩ = some (.int .u8 (x.jf.toNat : Int)) := C0.2 _ rfl 2 (by simp)
  have c3 : (w.alloc (.cells #[.int .u16 (x.code.toNat : Int), .int .u8 (x.jt.toNat : Int), .int .u8 (x.jf.toNat : Int), .int .u32 (x.k.toNat : Int)] 46)).cell? ⟨w.heap.size, 3, none⟩ = some (.int .u32 (x.k.toNat : Int)) := C0.2 _ rfl 3 (by simp)
  clear C0
  generalize w.alloc (.cells #[.int .u16 (x.code.toNat : Int), .int .u8 (x.jt.toNat : Int), .int .u8 (x.jf.toNat : Int), .int .u32 (x.k.toNat : Int)] 46) = w1 at *
  generalize w.heap.size = B at *
  cases h5 : ((x.code.toNat : Int) == 5) with
  | true =>
    go_upto_region 3 with fail
    go_region
    go_wp2
    go_ret2
    refine ⟨?_, grown_trans G0 (grown_drewN _ _ none)⟩
    rw [← HY.out, ← HN.out, yesG, noG, h5]
    simp only [if_true]
    push_cast
    rfl
  | false =>
    go_upto_region 4 with fail
    go_region
    go_wp2
    go_ret2
    refine ⟨?_, grown_trans G0 (grown_drewN _ _ none)⟩
    rw [← HY.out, ← HN.out, yesG, noG, h5]
    simp only [Bool.false_eq_true, if_false]
    push_cast
    rfl

set_option maxHeartbeats 1000000 in
theorem copied_any (a : Option Addr) (ca : Nat) (xs : List In) (w : World) (ha : CV w a (flat xs)) (hc0 : a = none → ca = 0) (hm : xs.length * 8 ≤ 140737488355328) :
    Calls Try.prog 52 #[.slice a xs.length ca] w fun e w' => ∃ v, e = .returned v ∧ IOwns w' w.heap.size v xs ∧ w.grownBy w' none := by
  obtain ⟨i0, hi, hz0, hz1, hz2⟩ := info_parts info46
  have H : Hid (CV w a (flat xs)) := ha
  have HC : Hid (a = none → ca = 0) := hc0
  clear ha hc0
  go_enter Try.func52, Try.ntmps52
  go_wp2_with (at_builtin; refine wpList_append_cv rfl (.const (.slice none 0 0)) (.tmp 3) 22 rfl 46 i0 _ 4 8 Try.underlying22 hi hz0 hz1 hz2 rfl (by decide) w.heap.size _ 0 [] rfl ?q1 a xs.length ca (flat xs) rfl (flat_len xs) ?q7 ?q2 (flat_one xs) ?q3 ?q4 ?q5 ?q6)
  case q1 => exact World.ownsRow_nil _ _ _ _
  case q7 => exact HC.out
  case q2 => exact H.out
  case q3 => unfold maxLen; omega
  case q4 => omega
  case q5 => simp
  case q6 =>
    intro v' w' h1 h2
    have O : IOwns w' w.heap.size v' xs := by simpa using h1
    have G : w.grownBy w' none := h2
    clear h2 h1
    go_wp2
    go_ret
    exact ⟨v', rfl, O, G⟩

end Go.Proofs.Ytencoknpocipbaa

namespace Go.Proofs.Ytencoknpocipbaa
open Go.RowKit
set_option maxRecDepth 100000

/-- What an instruction says of where blocks begin. -/
def begStep (x : In) (i : Nat) (bs : List Bool) : List Bool :=
  if leavesB x = false then bs else if (classV x.code.toNat == 5) = true then ((bs.set (i + 1) true).set (yesG i x) true).set (noG i x) true else bs.set (i + 1) true
def begTo (xs : List In) : Nat → List Bool
  | 0 => List.replicate (xs.length + 1) false
  | k + 1 => match xs[k]? with
    | some x => begStep x k (begTo xs k)
    | none => begTo xs k
theorem begStep_len (x : In) (i : Nat) (bs : List Bool) : (begStep x i bs).length = bs.length := by
  unfold begStep
  split
  · rfl
  · split <;> simp
theorem begTo_len (xs : List In) (k : Nat) : (begTo xs k).length = xs.length + 1 := by
  induction k with
  | zero => simp [begTo]
  | succ k ih =>
    rw [begTo]
    cases xs[k]? with
    | none => exact ih
    | some x => rw [begStep_len]; exact ih
theorem begTo_succ {xs : List In} {k : Nat} (h : k < xs.length) : begTo xs (k + 1) = begStep xs[k] k (begTo xs k) := by
  rw [begTo, List.getElem?_eq_getElem h]

theorem class5 {c : Int} (h : classV c = 5) : c = 5 ∨ jumpB c = true := by
  have hk : knownB c = true := by
    cases hk : knownB c with
    | true => rfl
    | false => rw [classV, if_neg (by rw [hk]; simp)] at h; cases h
  have := known_all (fun c => (classV c != 5) || (c == 5 || jumpB c)) (by decide +kernel) hk
  rw [h] at this
  simpa using this
theorem leaves_ret' {c : Int} (h : jumpB c = true) : retB c = false := by
  simp only [jumpB, Bool.or_eq_true, beq_iff_eq] at h
  simp only [retB, Bool.or_eq_false_iff, beq_eq_false_iff_ne]
  omega
/-- The goals of a jump in a program that is taken. -/
theorem goals_in {xs : List In} (h : (checkV xs).2 = 0) {k : Nat} (hk : k < xs.length) (hc : classV xs[k].code.toNat = 5) : yesG k xs[k] < xs.length ∧ noG k xs[k] < xs.length ∧ k + 1 < xs.length := by
  obtain ⟨-, -, hb, hl⟩ := taken h
  have z := bad_zero (hb k hk)
  have o := jumpBad_out z.2
  have hr : retB xs[k].code.toNat = false := by
    rcases class5 hc with e | e
    · rw [e]; rfl
    · have := leaves_ret' e
      exact this
  have hlast := last_ret hl hk hr
  unfold yesG noG
  rcases class5 hc with e | e
  · have h5 : ((xs[k].code.toNat : Int) == 5) = true := by rw [e]; rfl
    have := o.1 h5
    simp only [h5, if_true]
    omega
  · have h5 : ((xs[k].code.toNat : Int) == 5) = false := by
      cases h5 : ((xs[k].code.toNat : Int) == 5) with
      | false => rfl
      | true => rw [jump_not5 h5] at e; cases e
    have := o.2 e
    rw [h5]
    simp only [Bool.false_eq_true, if_false]
    omega

set_option maxHeartbeats 4000000 in
theorem begins_any (a : Option Addr) (ca : Nat) (xs : List In) (w : World) (ha : CV w a (flat xs)) (hT : (checkV xs).2 = 0) :
    Calls Try.prog 50 #[.slice a xs.length ca] w fun e w' => ∃ v, e = .returned v ∧ BOwns w' w.heap.size v (begTo xs xs.length) ∧ w.grownBy w' none := by
  obtain ⟨i0, hi, hz0, hz1, hz2⟩ := info_parts info4
  have H : Hid (CV w a (flat xs)) := ha
  have HG : Hid (∀ k (hk : k < xs.length), classV xs[k].code.toNat = 5 → yesG k xs[k] < xs.length ∧ noG k xs[k] < xs.length ∧ k + 1 < xs.length) := fun k hk hc => goals_in hT hk hc
  have hn := (taken hT).2.1
  clear ha hT
  have HL : Hid ((begTo xs xs.length).length = xs.length + 1) := begTo_len _ _
  go_enter Try.func50, Try.ntmps50
  go_wp2_with (at_make; refine wpList_make_full _ rfl (.tmp 10) (.tmp 10) 96 rfl w.heap.size 4 i0 (.bool false) 1 Try.underlying96 hi hz0 hz1 .i64 .i64 ((xs.length : Int) + 1) ((xs.length : Int) + 1) (xs.length + 1) rfl rfl (by omega) (by omega) ?q1 ?q2 ?q3 ?q4)
  case q1 => rw [hz2]; omega
  case q2 => unfold maxLen; omega
  case q3 => exact Nat.le_refl _
  case q4 =>
    intro w2 h2 K2
    rw [toList_madeCells_one] at h2
    have R2 : w2.ownsRow w.heap.size 4 1 (.slice (some ⟨w.heap.size, 0, none⟩) (xs.length + 1) (xs.length + 1)) (xs.length + 1) ((begTo xs 0).map Value.bool) := by simpa [begTo] using h2
    have hg : Hid (w.heap.size ≤ w.heap.size) := Nat.le_refl _
    clear h2
    obtain ⟨g, hgg⟩ : ∃ g, w.heap.size = g := ⟨_, rfl⟩
    have HGG : Hid (w.heap.size = g) := hgg
    rw [show (Value.slice (some ⟨w.heap.size, 0, none⟩) (xs.length + 1) (xs.length + 1)) = .slice (some ⟨g, 0, none⟩) (xs.length + 1) (xs.length + 1) by rw [hgg]] at *
    clear hgg hg
    go_wp2
    go_loopw [14] (fun i wr => ∃ j : Nat, j ≤ xs.length ∧ i = .int .i64 j ∧ wr.ownsRow w.heap.size 4 1 (.slice (some ⟨g, 0, none⟩) (xs.length + 1) (xs.length + 1)) (xs.length + 1) ((begTo xs j).map Value.bool) ∧ w.grownBy wr none) (fun i _ => xs.length - (intOf i).toNat)
    case atStart => exact ⟨0, Nat.zero_le _, rfl, R2, K2⟩
    case round =>
      clear R2 K2
      obtain ⟨j, hj, rfl, R, G⟩ := hrel
      by_cases hlt : j < xs.length
      · have hl : (j : Int) < (xs.length : Int) := by omega
        have HS : Hid (begTo xs (j + 1) = begStep xs[j] j (begTo xs j)) := begTo_succ hlt
        have hlen := begTo_len xs j
        obtain ⟨b, o, rfl, hc⟩ := (H.out.keptNone G).insns hlt
        obtain ⟨c0, c1, c2, c3⟩ := hc j hlt
        have hgl := HG.out j hlt
        clear hc
        generalize begTo xs j = bs at *
        generalize xs[j] = x at *
        have VX := GVt.alloc wr 46 #[.int .u16 (x.code.toNat : Int), .int .u8 (x.jt.toNat : Int), .int .u8 (x.jf.toNat : Int), .int .u32 (x.k.toNat : Int)]
        have GX : wr.grownBy (wr.alloc (.cells #[.int .u16 (x.code.toNat : Int), .int .u8 (x.jt.toNat : Int), .int .u8 (x.jf.toNat : Int), .int .u32 (x.k.toNat : Int)] 46)) none := World.grownBy_alloc _ _ _
        have RX := owns_keptNone R GX
        have GG := grown_trans G GX
        have hBg : wr.heap.size ≠ g := by have := (R.lt g rfl).2; omega
        go_upto_region 5 with fail
        generalize wr.alloc (.cells #[.int .u16 (x.code.toNat : Int), .int .u8 (x.jt.toNat : Int), .int .u8 (x.jf.toNat : Int), .int .u32 (x.k.toNat : Int)] 46) = wb at *
        generalize wr.heap.size = B at *
        have z0 : wb.cell? ⟨B, 0, none⟩ = some (.int .u16 (x.code.toNat : Int)) := VX.cell 0
        have z1 : wb.cell? ⟨B, 1, none⟩ = some (.int .u8 (x.jt.toNat : Int)) := VX.cell 1
        have z2 : wb.cell? ⟨B, 2, none⟩ = some (.int .u8 (x.jf.toNat : Int)) := VX.cell 2
        have z3 : wb.cell? ⟨B, 3, none⟩ = some (.int .u32 (x.k.toNat : Int)) := VX.cell 3
        clear R G GX c0 c1 c2 c3
        go_wp2_with fail
        refine (leaves_any x _).mono ?_
        rintro e w3 ⟨rfl, K3⟩
        have R3 := owns_keptNone RX K3
        have G3 := grown_trans GG K3
        have V3 := VX.kept K3
        clear RX GG K3 VX z0 z1 z2 z3
        cases hlv : leavesB x with
        | false =>
          have HE : Hid (begTo xs (j + 1) = bs) := by
            show _ = _
            rw [HS.out, begStep, if_pos hlv]
          go_wp2
          go_roundw
          case rel => exact ⟨j + 1, by omega, by go_num, by rw [HE.out]; exact R3, G3⟩
          case measure => simp [intOf]; omega
        | true =>
          obtain ⟨u1, hu1⟩ := (BlkN.ofRow R3).1.cell (i := j + 1) (by omega)
          have hf1 := (BlkN.ofRow R3).1.free (j + 1)
          have R4 := (R3.stored (j + 1) (.bool true)).1
          have K4 : w3.grownBy (w3.setCell ⟨g, j + 1, none⟩ (.bool true)) (some g) := grown_set1 w3 ⟨g, j + 1, none⟩ _
          have G4 := grown_trans_new G3 K4 (fun z e => by cases e; exact Nat.le_of_eq HGG.out)
          have V4 := V3.grown K4 (by simpa using Ne.symm hBg)
          rw [← List.map_set] at R4
          have hjl : (j : Int) + 1 < (xs.length : Int) + 1 := by omega
          have hjn : ((j : Int) + 1).toNat = j + 1 := by omega
          have HN : Hid (begTo xs (j + 1) = if (classV x.code.toNat == 5) = true then ((bs.set (j + 1) true).set (yesG j x) true).set (noG j x) true else bs.set (j + 1) true) := by
            show _ = _
            rw [HS.out, begStep, if_neg (by rw [hlv]; simp)]
          clear HS V3 G3 K4 R3
          go_upto_region 7 with fail
          generalize w3.setCell ⟨g, j + 1, none⟩ (.bool true) = w4 at *
          have z0 : w4.cell? ⟨B, 0, none⟩ = some (.int .u16 (x.code.toNat : Int)) := V4.cell 0
          clear hu1 hf1 hjl hjn
          go_wp2_with fail
          refine (class_any _ _ (code_lt x).1 (code_lt x).2).mono ?_
          rintro e w5 ⟨rfl, K5⟩
          have R5 := owns_keptNone R4 K5
          have G5 := grown_trans G4 K5
          have V5 := V4.kept K5
          clear R4 G4 V4 K5 z0
          cases h5 : (classV x.code.toNat == 5) with
          | false =>
            have HE : Hid (begTo xs (j + 1) = bs.set (j + 1) true) := HN.out.trans (if_neg (by rw [h5]; simp))
            clear HN
            go_wp2
            go_roundw
            case rel => exact ⟨j + 1, by omega, by go_num, by rw [HE.out]; exact R5, G5⟩
            case measure => simp [intOf]; omega
          | true =>
            obtain ⟨hy, hno, -⟩ := hgl (by simpa using h5)
            have HE : Hid (begTo xs (j + 1) = ((bs.set (j + 1) true).set (yesG j x) true).set (noG j x) true) := HN.out.trans (if_pos h5)
            have z0 : w5.cell? ⟨B, 0, none⟩ = some (.int .u16 (x.code.toNat : Int)) := V5.cell 0
            have z1 : w5.cell? ⟨B, 1, none⟩ = some (.int .u8 (x.jt.toNat : Int)) := V5.cell 1
            have z2 : w5.cell? ⟨B, 2, none⟩ = some (.int .u8 (x.jf.toNat : Int)) := V5.cell 2
            have z3 : w5.cell? ⟨B, 3, none⟩ = some (.int .u32 (x.k.toNat : Int)) := V5.cell 3
            have CG := goals_any j (by omega) x w5
            generalize yesG j x = ye at *
            generalize noG j x = nn at *
            clear HN hgl V5
            go_wp2_with fail
            refine CG.mono ?_
            rintro e w6 ⟨rfl, K6⟩
            have R6 := owns_keptNone R5 K6
            have G6 := grown_trans G5 K6
            clear R5 G5 K6 z0 z1 z2 z3 CG
            obtain ⟨u1, hu1⟩ := (BlkN.ofRow R6).1.cell (i := ye) (by omega)
            have hf1 := (BlkN.ofRow R6).1.free ye
            have R7 := (R6.stored ye (.bool true)).1
            have G7 := grown_trans_new G6 (grown_set1 w6 ⟨g, ye, none⟩ (.bool true)) (fun z e => by cases e; exact Nat.le_of_eq HGG.out)
            obtain ⟨u2, hu2⟩ := (BlkN.ofRow R7).1.cell (i := nn) (by omega)
            have hf2 := (BlkN.ofRow R7).1.free nn
            have R8 := (R7.stored nn (.bool true)).1
            have G8 := grown_trans_new G7 (grown_set1 (w6.setCell ⟨g, ye, none⟩ (.bool true)) ⟨g, nn, none⟩ (.bool true)) (fun z e => by cases e; exact Nat.le_of_eq HGG.out)
            rw [← List.map_set, ← List.map_set] at R8
            have i1 : (ye : Int) < (xs.length : Int) + 1 := by omega
            have i2 : (nn : Int) < (xs.length : Int) + 1 := by omega
            clear R6 G6 R7 G7
            go_wp2
            go_roundw
            case rel => exact ⟨j + 1, by omega, by go_num, by rw [HE.out]; exact R8, G8⟩
            case measure => simp [intOf]; omega
      · have hl : ¬ (j : Int) < (xs.length : Int) := by omega
        have hje : j = xs.length := by omega
        subst hje
        go_wp2
        go_ret
        have R' : BOwns wr w.heap.size (.slice (some ⟨g, 0, none⟩) (xs.length + 1) (xs.length + 1)) (begTo xs xs.length) := by
          unfold BOwns
          rw [HL.out]
          exact R
        exact ⟨_, rfl, R', G⟩

end Go.Proofs.Ytencoknpocipbaa

namespace Go.Proofs.Ytencoknpocipbaa
open Go.RowKit
set_option maxRecDepth 100000

theorem infoI3 : (Try.prog.info? 3).map (fun i => (i.zero, i.size, i.bytes)) = some (some (.int .i64 0), 1, 8) := by kernel_rfl

def iv (z : Int) : Value := .int .i64 z

abbrev ZOwns (w : World) (base : Nat) (v : Value) (bs : List Int) : Prop := w.ownsRow base 3 1 v bs.length (bs.map iv)

theorem CV.ints {w : World} {ao : Option Addr} {bs : List Int} (h : CV w ao (bs.map iv)) {k : Nat} (hk : k < bs.length) :
    ∃ b off, ao = some ⟨b, off, none⟩ ∧ ∀ i (hi : i < bs.length), w.cell? ⟨b, off + i, none⟩ = some (.int .i64 bs[i]) := by
  obtain ⟨b, off, hao, hc⟩ := h.addr (k := k) (by simpa using hk)
  exact ⟨b, off, hao, fun i hi => by rw [hc i (by simpa using hi)]; simp [iv]⟩

/-- The two loops of SpoilInts, behind its append. -/
def ZSpoilRel (w : World) (row : Option Nat) (g g' n n' : Nat) (wr : World) : Prop := BlkN wr 3 g n ∧ BlkN wr 3 g' n' ∧ w.grownBy wr row

theorem ZSpoilRel.set {w wr : World} {row : Option Nat} {g g' n n' : Nat} (h : ZSpoilRel w row g g' n n' wr) {p : Addr} (hp : row = some p.block ∨ w.heap.size ≤ p.block) (u : Value) : ZSpoilRel w row g g' n n' (wr.setCell p u) :=
  ⟨h.1.setCell _ _, h.2.1.setCell _ _, grown_setCell h.2.2 _ _ hp⟩

end Go.Proofs.Ytencoknpocipbaa
