/-
  Package graph as landed: a jump's goals; a copy of instructions; where blocks begin. Package graph as landed: where the blocks of a program begin. Package graph as landed: the numbers of the blocks.
-/
import Derived.Test.YtencoknpocipbaaGreatGrC
import Derived.Test.YtencoknpocipbaaGreatLotP4
import Derived.Test.YtencoknpocipbaaGreatLotP10
import Derived.Test.YtencoknpocipbaaGreatLotP12
namespace Go.Proofs.YtencoknpocipbaaGreat
open Go.RowKit
set_option maxRecDepth 100000

/-- The places at which a run goes on behind a jump. -/
def yesG (i : Nat) (x : In) : Nat := i + 1 + (if ((x.code.toNat : Int) == 5) = true then x.k.toNat else x.jt.toNat)
def noG (i : Nat) (x : In) : Nat := i + 1 + (if ((x.code.toNat : Int) == 5) = true then x.k.toNat else x.jf.toNat)

set_option maxHeartbeats 1000000 in
theorem goals_any (i : Nat) (hi : i ≤ 1000000) (x : In) (w : World) : Calls Tryz.prog 59 #[.int .i64 (i : Int), ginV x] w fun e w' => e = .returned (.tuple #[.int .i64 (yesG i x : Int), .int .i64 (noG i x : Int)]) ∧ w.grownBy w' none := by
  obtain ⟨Y, hY⟩ : ∃ Y, yesG i x = Y := ⟨_, rfl⟩
  obtain ⟨N, hN⟩ : ∃ N, noG i x = N := ⟨_, rfl⟩
  rw [hY, hN]
  have HY : Hid (yesG i x = Y) := hY
  have HN : Hid (noG i x = N) := hN
  clear hY hN
  have b1 := x.jt.toNat_lt
  have b2 := x.jf.toNat_lt
  have b3 := x.k.toNat_lt
  have C0 := cv_lit w 54 [.int .u16 (x.code.toNat : Int), .int .u8 (x.jt.toNat : Int), .int .u8 (x.jf.toNat : Int), .int .u32 (x.k.toNat : Int)]
  have G0 : w.grownBy (w.alloc (.cells #[.int .u16 (x.code.toNat : Int), .int .u8 (x.jt.toNat : Int), .int .u8 (x.jf.toNat : Int), .int .u32 (x.k.toNat : Int)] 54)) none := World.grownBy_alloc _ _ _
  go_enter Tryz.func59, Tryz.ntmps59
  go_upto_region 1 with fail
  have c0 : (w.alloc (.cells #[.int .u16 (x.code.toNat : Int), .int .u8 (x.jt.toNat : Int), .int .u8 (x.jf.toNat : Int), .int .u32 (x.k.toNat : Int)] 54)).cell? ⟨w.heap.size, 0, none⟩ = some (.int .u16 (x.code.toNat : Int)) := C0.2 _ rfl 0 (by simp)
  have c1 : (w.alloc (.cells #[.int .u16 (x.code.toNat : Int), .int .u8 (x.jt.toNat : Int), .int .u8 (x.jf.toNat : Int), .int .u32 (x.k.toNat : Int)] 54)).cell? ⟨w.heap.size, 1, none⟩ = some (.int .u8 (x.jt.toNat : Int)) := C0.2 _ rfl 1 (by simp)
  have c2 : (w.alloc (.cells #[.int .u16 (x.code.toNat : Int), .int .u8 (x.jt.toNat : Int), .int .u8 (x.jf.toNat : Int), .int .u32 (x.k.toNat : Int)] 54)).cell? ⟨w.heap.size, 2, none⟩ = some (.int .u8 (x.jf.toNat : Int)) := C0.2 _ rfl 2 (by simp)
  have c3 : (w.alloc (.cells #[.int .u16 (x.code.toNat : Int), .int .u8 (x.jt.toNat : Int), .int .u8 (x.jf.toNat : Int), .int .u32 (x.k.toNat : Int)] 54)).cell? ⟨w.heap.size, 3, none⟩ = some (.int .u32 (x.k.toNat : Int)) := C0.2 _ rfl 3 (by simp)
  clear C0
  generalize w.alloc (.cells #[.int .u16 (x.code.toNat : Int), .int .u8 (x.jt.toNat : Int), .int .u8 (x.jf.toNat : Int), .int .u32 (x.k.toNat : Int)] 54) = w1 at *
  generalize w.heap.size = B at *
  cases h5 : ((x.code.toNat : Int) == 5) with
  | true =>
    go_upto_region 3 with fail
    go_region
    go_wp2
    go_ret2
    refine ⟨?_, grown_trans G0 (grown_drewN _ _ none)⟩
    rw [← HY.out, ← HN.out, yesG, noG, h5]
    simp only [if_true]
    push_cast
    rfl
  | false =>
    go_upto_region 4 with fail
    go_region
    go_wp2
    go_ret2
    refine ⟨?_, grown_trans G0 (grown_drewN _ _ none)⟩
    rw [← HY.out, ← HN.out, yesG, noG, h5]
    simp only [Bool.false_eq_true, if_false]
    push_cast
    rfl

set_option maxHeartbeats 1000000 in
theorem copied_any (a : Option Addr) (ca : Nat) (xs : List In) (w : World) (ha : CV w a (flat xs)) (hc0 : a = none → ca = 0) (hm : xs.length * 8 ≤ 140737488355328) :
    Calls Tryz.prog 57 #[.slice a xs.length ca] w fun e w' => ∃ v, e = .returned v ∧ IOwns w' w.heap.size v xs ∧ w.grownBy w' none := by
  obtain ⟨i0, hi, hz0, hz1, hz2⟩ := info_parts info54
  have H : Hid (CV w a (flat xs)) := ha
  have HC : Hid (a = none → ca = 0) := hc0
  clear ha hc0
  go_enter Tryz.func57, Tryz.ntmps57
  go_wp2_with (at_builtin; refine wpList_append_cv rfl (.const (.slice none 0 0)) (.tmp 3) 24 rfl 54 i0 _ 4 8 Tryz.underlying24 hi hz0 hz1 hz2 rfl (by decide) w.heap.size _ 0 [] rfl ?q1 a xs.length ca (flat xs) rfl (flat_len xs) ?q7 ?q2 (flat_one xs) ?q3 ?q4 ?q5 ?q6)
  case q1 => exact World.ownsRow_nil _ _ _ _
  case q7 => exact HC.out
  case q2 => exact H.out
  case q3 => unfold maxLen; omega
  case q4 => omega
  case q5 => simp
  case q6 =>
    intro v' w' h1 h2
    have O : IOwns w' w.heap.size v' xs := by simpa using h1
    have G : w.grownBy w' none := h2
    clear h2 h1
    go_wp2
    go_ret
    exact ⟨v', rfl, O, G⟩

end Go.Proofs.YtencoknpocipbaaGreat

namespace Go.Proofs.YtencoknpocipbaaGreat
open Go.RowKit
set_option maxRecDepth 100000

/-- What an instruction says of where blocks begin. -/
def begStep (x : In) (i : Nat) (bs : List Bool) : List Bool :=
  if leavesB x = false then bs else if (classV x.code.toNat == 5) = true then ((bs.set (i + 1) true).set (yesG i x) true).set (noG i x) true else bs.set (i + 1) true
def begTo (xs : List In) : Nat → List Bool
  | 0 => List.replicate (xs.length + 1) false
  | k + 1 => match xs[k]? with
    | some x => begStep x k (begTo xs k)
    | none => begTo xs k
theorem begStep_len (x : In) (i : Nat) (bs : List Bool) : (begStep x i bs).length = bs.length := by
  unfold begStep
  split
  · rfl
  · split <;> simp
theorem begTo_len (xs : List In) (k : Nat) : (begTo xs k).length = xs.length + 1 := by
  induction k with
  | zero => simp [begTo]
  | succ k ih =>
    rw [begTo]
    cases xs[k]? with
    | none => exact ih
    | some x => rw [begStep_len]; exact ih
theorem begTo_succ {xs : List In} {k : Nat} (h : k < xs.length) : begTo xs (k + 1) = begStep xs[k] k (begTo xs k) := by
  rw [begTo, List.getElem?_eq_getElem h]

theorem class5 {c : Int} (h : classV c = 5) : c = 5 ∨ jumpB c = true := by
  have hk : knownB c = true := by
    cases hk : knownB c with
    | true => rfl
    | false => rw [classV, if_neg (by rw [hk]; simp)] at h; cases h
  have := known_all (fun c => (classV c != 5) || (c == 5 || jumpB c)) (by decide +kernel) hk
  rw [h] at this
  simpa using this
theorem leaves_ret' {c : Int} (h : jumpB c = true) : retB c = false := by
  simp only [jumpB, Bool.or_eq_true, beq_iff_eq] at h
  simp only [retB, Bool.or_eq_false_iff, beq_eq_false_iff_ne]
  omega
/-- The goals of a jump in a program that is taken. -/
theorem goals_in {xs : List In} (h : (checkV xs).2 = 0) {k : Nat} (hk : k < xs.length) (hc : classV xs[k].code.toNat = 5) : yesG k xs[k] < xs.length ∧ noG k xs[k] < xs.length ∧ k + 1 < xs.length := by
  obtain ⟨-, -, hb, hl⟩ := taken h
  have z := bad_zero (hb k hk)
  have o := jumpBad_out z.2
  have hr : retB xs[k].code.toNat = false := by
    rcases class5 hc with e | e
    · rw [e]; rfl
    · have := leaves_ret' e
      exact this
  have hlast := last_ret hl hk hr
  unfold yesG noG
  rcases class5 hc with e | e
  · have h5 : ((xs[k].code.toNat : Int) == 5) = true := by rw [e]; rfl
    have := o.1 h5
    simp only [h5, if_true]
    omega
  · have h5 : ((xs[k].code.toNat : Int) == 5) = false := by
      cases h5 : ((xs[k].code.toNat : Int) == 5) with
      | false => rfl
      | true => rw [jump_not5 h5] at e; cases e
    have := o.2 e
    rw [h5]
    simp only [Bool.false_eq_true, if_false]
    omega

set_option maxHeartbeats 4000000 in
theorem begins_any (a : Option Addr) (ca : Nat) (xs : List In) (w : World) (ha : CV w a (flat xs)) (hT : (checkV xs).2 = 0) :
    Calls Tryz.prog 55 #[.slice a xs.length ca] w fun e w' => ∃ v, e = .returned v ∧ BOwns w' w.heap.size v (begTo xs xs.length) ∧ w.grownBy w' none := by
  obtain ⟨i0, hi, hz0, hz1, hz2⟩ := info_parts info4
  have H : Hid (CV w a (flat xs)) := ha
  have HG : Hid (∀ k (hk : k < xs.length), classV xs[k].code.toNat = 5 → yesG k xs[k] < xs.length ∧ noG k xs[k] < xs.length ∧ k + 1 < xs.length) := fun k hk hc => goals_in hT hk hc
  have hn := (taken hT).2.1
  clear ha hT
  have HL : Hid ((begTo xs xs.length).length = xs.length + 1) := begTo_len _ _
  go_enter Tryz.func55, Tryz.ntmps55
  go_wp2_with (at_make; refine wpList_make_full _ rfl (.tmp 10) (.tmp 10) 117 rfl w.heap.size 4 i0 (.bool false) 1 Tryz.underlying117 hi hz0 hz1 .i64 .i64 ((xs.length : Int) + 1) ((xs.length : Int) + 1) (xs.length + 1) rfl rfl (by omega) (by omega) ?q1 ?q2 ?q3 ?q4)
  case q1 => rw [hz2]; omega
  case q2 => unfold maxLen; omega
  case q3 => exact Nat.le_refl _
  case q4 =>
    intro w2 h2 K2
    rw [toList_madeCells_one] at h2
    have R2 : w2.ownsRow w.heap.size 4 1 (.slice (some ⟨w.heap.size, 0, none⟩) (xs.length + 1) (xs.length + 1)) (xs.length + 1) ((begTo xs 0).map Value.bool) := by simpa [begTo] using h2
    have hg : Hid (w.heap.size ≤ w.heap.size) := Nat.le_refl _
    clear h2
    obtain ⟨g, hgg⟩ : ∃ g, w.heap.size = g := ⟨_, rfl⟩
    have HGG : Hid (w.heap.size = g) := hgg
    rw [show (Value.slice (some ⟨w.heap.size, 0, none⟩) (xs.length + 1) (xs.length + 1)) = .slice (some ⟨g, 0, none⟩) (xs.length + 1) (xs.length + 1) by rw [hgg]] at *
    clear hgg hg
    go_wp2
    go_loopw [14] (fun i wr => ∃ j : Nat, j ≤ xs.length ∧ i = .int .i64 j ∧ wr.ownsRow w.heap.size 4 1 (.slice (some ⟨g, 0, none⟩) (xs.length + 1) (xs.length + 1)) (xs.length + 1) ((begTo xs j).map Value.bool) ∧ w.grownBy wr none) (fun i _ => xs.length - (intOf i).toNat)
    case atStart => exact ⟨0, Nat.zero_le _, rfl, R2, K2⟩
    case round =>
      clear R2 K2
      obtain ⟨j, hj, rfl, R, G⟩ := hrel
      by_cases hlt : j < xs.length
      · have hl : (j : Int) < (xs.length : Int) := by omega
        have HS : Hid (begTo xs (j + 1) = begStep xs[j] j (begTo xs j)) := begTo_succ hlt
        have hlen := begTo_len xs j
        obtain ⟨b, o, rfl, hc⟩ := (H.out.keptNone G).insns hlt
        obtain ⟨c0, c1, c2, c3⟩ := hc j hlt
        have hgl := HG.out j hlt
        clear hc
        generalize begTo xs j = bs at *
        generalize xs[j] = x at *
        have VX := GVt.alloc wr 54 #[.int .u16 (x.code.toNat : Int), .int .u8 (x.jt.toNat : Int), .int .u8 (x.jf.toNat : Int), .int .u32 (x.k.toNat : Int)]
        have GX : wr.grownBy (wr.alloc (.cells #[.int .u16 (x.code.toNat : Int), .int .u8 (x.jt.toNat : Int), .int .u8 (x.jf.toNat : Int), .int .u32 (x.k.toNat : Int)] 54)) none := World.grownBy_alloc _ _ _
        have RX := owns_keptNone R GX
        have GG := grown_trans G GX
        have hBg : wr.heap.size ≠ g := by have := (R.lt g rfl).2; omega
        go_upto_region 5 with fail
        generalize wr.alloc (.cells #[.int .u16 (x.code.toNat : Int), .int .u8 (x.jt.toNat : Int), .int .u8 (x.jf.toNat : Int), .int .u32 (x.k.toNat : Int)] 54) = wb at *
        generalize wr.heap.size = B at *
        have z0 : wb.cell? ⟨B, 0, none⟩ = some (.int .u16 (x.code.toNat : Int)) := VX.cell 0
        have z1 : wb.cell? ⟨B, 1, none⟩ = some (.int .u8 (x.jt.toNat : Int)) := VX.cell 1
        have z2 : wb.cell? ⟨B, 2, none⟩ = some (.int .u8 (x.jf.toNat : Int)) := VX.cell 2
        have z3 : wb.cell? ⟨B, 3, none⟩ = some (.int .u32 (x.k.toNat : Int)) := VX.cell 3
        clear R G GX c0 c1 c2 c3
        go_wp2_with fail
        refine (leaves_any x _).mono ?_
        rintro e w3 ⟨rfl, K3⟩
        have R3 := owns_keptNone RX K3
        have G3 := grown_trans GG K3
        have V3 := VX.kept K3
        clear RX GG K3 VX z0 z1 z2 z3
        cases hlv : leavesB x with
        | false =>
          have HE : Hid (begTo xs (j + 1) = bs) := by
            show _ = _
            rw [HS.out, begStep, if_pos hlv]
          go_wp2
          go_roundw
          case rel => exact ⟨j + 1, by omega, by go_num, by rw [HE.out]; exact R3, G3⟩
          case measure => simp [intOf]; omega
        | true =>
          obtain ⟨u1, hu1⟩ := (BlkN.ofRow R3).1.cell (i := j + 1) (by omega)
          have hf1 := (BlkN.ofRow R3).1.free (j + 1)
          have R4 := (R3.stored (j + 1) (.bool true)).1
          have K4 : w3.grownBy (w3.setCell ⟨g, j + 1, none⟩ (.bool true)) (some g) := grown_set1 w3 ⟨g, j + 1, none⟩ _
          have G4 := grown_trans_new G3 K4 (fun z e => by cases e; exact Nat.le_of_eq HGG.out)
          have V4 := V3.grown K4 (by simpa using Ne.symm hBg)
          rw [← List.map_set] at R4
          have hjl : (j : Int) + 1 < (xs.length : Int) + 1 := by omega
          have hjn : ((j : Int) + 1).toNat = j + 1 := by omega
          have HN : Hid (begTo xs (j + 1) = if (classV x.code.toNat == 5) = true then ((bs.set (j + 1) true).set (yesG j x) true).set (noG j x) true else bs.set (j + 1) true) := by
            show _ = _
            rw [HS.out, begStep, if_neg (by rw [hlv]; simp)]
          clear HS V3 G3 K4 R3
          go_upto_region 7 with fail
          generalize w3.setCell ⟨g, j + 1, none⟩ (.bool true) = w4 at *
          have z0 : w4.cell? ⟨B, 0, none⟩ = some (.int .u16 (x.code.toNat : Int)) := V4.cell 0
          clear hu1 hf1 hjl hjn
          go_wp2_with fail
          refine (class_any _ _ (code_lt x).1 (code_lt x).2).mono ?_
          rintro e w5 ⟨rfl, K5⟩
          have R5 := owns_keptNone R4 K5
          have G5 := grown_trans G4 K5
          have V5 := V4.kept K5
          clear R4 G4 V4 K5 z0
          cases h5 : (classV x.code.toNat == 5) with
          | false =>
            have HE : Hid (begTo xs (j + 1) = bs.set (j + 1) true) := HN.out.trans (if_neg (by rw [h5]; simp))
            clear HN
            go_wp2
            go_roundw
            case rel => exact ⟨j + 1, by omega, by go_num, by rw [HE.out]; exact R5, G5⟩
            case measure => simp [intOf]; omega
          | true =>
            obtain ⟨hy, hno, -⟩ := hgl (by simpa using h5)
            have HE : Hid (begTo xs (j + 1) = ((bs.set (j + 1) true).set (yesG j x) true).set (noG j x) true) := HN.out.trans (if_pos h5)
            have z0 : w5.cell? ⟨B, 0, none⟩ = some (.int .u16 (x.code.toNat : Int)) := V5.cell 0
            have z1 : w5.cell? ⟨B, 1, none⟩ = some (.int .u8 (x.jt.toNat : Int)) := V5.cell 1
            have z2 : w5.cell? ⟨B, 2, none⟩ = some (.int .u8 (x.jf.toNat : Int)) := V5.cell 2
            have z3 : w5.cell? ⟨B, 3, none⟩ = some (.int .u32 (x.k.toNat : Int)) := V5.cell 3
            have CG := goals_any j (by omega) x w5
            generalize yesG j x = ye at *
            generalize noG j x = nn at *
            clear HN hgl V5
            go_wp2_with fail
            refine CG.mono ?_
            rintro e w6 ⟨rfl, K6⟩
            have R6 := owns_keptNone R5 K6
            have G6 := grown_trans G5 K6
            clear R5 G5 K6 z0 z1 z2 z3 CG
            obtain ⟨u1, hu1⟩ := (BlkN.ofRow R6).1.cell (i := ye) (by omega)
            have hf1 := (BlkN.ofRow R6).1.free ye
            have R7 := (R6.stored ye (.bool true)).1
            have G7 := grown_trans_new G6 (grown_set1 w6 ⟨g, ye, none⟩ (.bool true)) (fun z e => by cases e; exact Nat.le_of_eq HGG.out)
            obtain ⟨u2, hu2⟩ := (BlkN.ofRow R7).1.cell (i := nn) (by omega)
            have hf2 := (BlkN.ofRow R7).1.free nn
            have R8 := (R7.stored nn (.bool true)).1
            have G8 := grown_trans_new G7 (grown_set1 (w6.setCell ⟨g, ye, none⟩ (.bool true)) ⟨g, nn, none⟩ (.bool true)) (fun z e => by cases e; exact Nat.le_of_eq HGG.out)
            rw [← List.map_set, ← List.map_set] at R8
            have i1 : (ye : Int) < (xs.length : Int) + 1 := by omega
            have i2 : (nn : Int) < (xs.length : Int) + 1 := by omega
            clear R6 G6 R7 G7
            go_wp2
            go_roundw
            case rel => exact ⟨j + 1, by omega, by go_num, by rw [HE.out]; exact R8, G8⟩
            case measure => simp [intOf]; omega
      · have hl : ¬ (j : Int) < (xs.length : Int) := by omega
        have hje : j = xs.length := by omega
        subst hje
        go_wp2
        go_ret
        have R' : BOwns wr w.heap.size (.slice (some ⟨g, 0, none⟩) (xs.length + 1) (xs.length + 1)) (begTo xs xs.length) := by
          unfold BOwns
          rw [HL.out]
          exact R
        exact ⟨_, rfl, R', G⟩

end Go.Proofs.YtencoknpocipbaaGreat

namespace Go.Proofs.YtencoknpocipbaaGreat
open Go.RowKit
set_option maxRecDepth 100000

def nv (n : Nat) : Value := .int .i64 (n : Int)
/-- How many blocks begin up to a place, the first left out. -/
def numN (bs : List Bool) : Nat → Nat
  | 0 => 0
  | i + 1 => numN bs i + (if bs.getD (i + 1) false = true then 1 else 0)
theorem numN_le (bs : List Bool) (i : Nat) : numN bs i ≤ i := by
  induction i with
  | zero => exact Nat.le_refl _
  | succ i ih => rw [numN]; split <;> omega
def numL (bs : List Bool) (N k : Nat) : List Nat := (List.range N).map fun i => if i < k then numN bs i else 0
theorem numL_len (bs : List Bool) (N k : Nat) : (numL bs N k).length = N := by simp [numL]
theorem numL_get {bs : List Bool} {N k i : Nat} (hi : i < N) (hk : i < k) : (numL bs N k)[i]? = some (numN bs i) := by
  rw [numL, List.getElem?_map, List.getElem?_range hi]
  simp [hk]
theorem numL_set {bs : List Bool} {N k : Nat} : (numL bs N k).set k (numN bs k) = numL bs N (k + 1) := by
  apply List.ext_getElem?
  intro i
  rw [List.getElem?_set]
  by_cases h : k = i
  · subst h
    rw [if_pos rfl, numL_len]
    by_cases hi : k < N
    · rw [if_pos hi, numL_get hi (by omega)]
    · rw [if_neg hi, List.getElem?_eq_none (by rw [numL_len]; omega)]
  · rw [if_neg h]
    by_cases hi : i < N
    · unfold numL
      rw [List.getElem?_map, List.getElem?_map, List.getElem?_range hi]
      simp only [Option.map_some, Option.some.injEq]
      by_cases hk : i < k
      · rw [if_pos hk, if_pos (by omega)]
      · rw [if_neg hk, if_neg (by omega)]
    · rw [List.getElem?_eq_none (by rw [numL_len]; omega), List.getElem?_eq_none (by rw [numL_len]; omega)]
theorem numL_one (bs : List Bool) (N : Nat) : numL bs N 1 = List.replicate N 0 := by
  apply List.ext_getElem?
  intro i
  by_cases hi : i < N
  · rw [numL, List.getElem?_map, List.getElem?_range hi, List.getElem?_replicate, if_pos hi]
    simp only [Option.map_some]
    split
    · have : i = 0 := by omega
      subst this
      rfl
    · rfl
  · rw [List.getElem?_eq_none (by rw [numL_len]; omega), List.getElem?_eq_none (by simp; omega)]

set_option maxHeartbeats 4000000 in
theorem numbers_any (a : Option Addr) (ca : Nat) (xs : List In) (w : World) (ha : CV w a (flat xs)) (hT : (checkV xs).2 = 0) :
    Calls Tryz.prog 37 #[.slice a xs.length ca] w fun e w' => ∃ v, e = .returned v ∧ w'.ownsRow w.heap.size 3 1 v (xs.length + 1) ((numL (begTo xs xs.length) (xs.length + 1) (xs.length + 1)).map nv) ∧ w.grownBy w' none := by
  obtain ⟨i0, hi, hz0, hz1, hz2⟩ := info_parts infoI3
  have CB := begins_any a ca xs w ha hT
  have hn := (taken hT).2.1
  have hlb := begTo_len xs xs.length
  clear ha hT
  generalize begTo xs xs.length = bs at *
  unfold BOwns at CB
  rw [hlb] at CB
  have hN : xs.length + 1 ≤ 4097 := by omega
  have hN0 : 1 ≤ xs.length + 1 := by omega
  generalize xs.length + 1 = N at *
  go_enter Tryz.func37, Tryz.ntmps37
  go_wp2_with fail
  refine CB.mono ?_
  rintro e w1 ⟨v, rfl, RB, K1⟩
  obtain ⟨gb, cb, rfl, hcb1, hcb2, hgb1, hgb2⟩ := owns_head RB (by omega)
  go_wp2_with (at_make; refine wpList_make_full _ rfl (.tmp 9) (.tmp 9) 50 rfl w.heap.size 3 i0 (.int .i64 0) 1 Tryz.underlying50 hi hz0 hz1 .i64 .i64 (N : Int) (N : Int) N rfl rfl rfl rfl ?q1 ?q2 ?q3 ?q4)
  case q1 => rw [hz2]; omega
  case q2 => unfold maxLen; omega
  case q3 => exact K1.size
  case q4 =>
    intro w2 h2 K2
    rw [toList_madeCells_one] at h2
    have R2 : w2.ownsRow w.heap.size 3 1 (.slice (some ⟨w1.heap.size, 0, none⟩) N N) N ((numL bs N 1).map nv) := by
      rw [numL_one, List.map_replicate]
      exact h2
    have RB2 := owns_keptNone RB K2
    have G2 := grown_trans K1 K2
    have hgg : w1.heap.size ≠ gb := by omega
    have hgw : w.heap.size ≤ w1.heap.size := K1.size
    clear h2 K2 RB K1
    generalize w1.heap.size = g at *
    go_wp2
    go_loopw [5] (fun i wr => ∃ k : Nat, 1 ≤ k ∧ k ≤ N ∧ i = .int .i64 k ∧ wr.ownsRow w.heap.size 3 1 (.slice (some ⟨g, 0, none⟩) N N) N ((numL bs N k).map nv) ∧ wr.ownsRow w.heap.size 4 1 (.slice (some ⟨gb, 0, none⟩) N cb) N (bs.map Value.bool) ∧ w.grownBy wr none) (fun i _ => N - (intOf i).toNat)
    case atStart => exact ⟨1, Nat.le_refl _, hN0, rfl, R2, RB2, G2⟩
    case round =>
      clear R2 RB2 G2
      obtain ⟨k, hk1, hk, rfl, R, RB, G⟩ := hrel
      by_cases hlt : k < N
      · have hl : (k : Int) < (N : Int) := by omega
        obtain ⟨m, rfl⟩ : ∃ m, k = m + 1 := ⟨k - 1, by omega⟩
        have cm : wr.cell? ⟨g, m, none⟩ = some (.int .i64 (numN bs m : Int)) := by
          have := R.cells (g := g) rfl m (nv (numN bs m)) (by rw [List.getElem?_map, numL_get (by omega) (by omega)]; rfl)
          rw [Addr.add_lit, Nat.zero_add] at this
          exact this
        have cb1 : wr.cell? ⟨gb, m + 1, none⟩ = some (.bool (bs.getD (m + 1) false)) := by
          have := RB.cells (g := gb) rfl (m + 1) (.bool (bs.getD (m + 1) false)) (by rw [List.getElem?_map, List.getD_eq_getElem?_getD, List.getElem?_eq_getElem (by omega)]; rfl)
          rw [Addr.add_lit, Nat.zero_add] at this
          exact this
        obtain ⟨u1, hu1⟩ := (BlkN.ofRow R).1.cell (i := m + 1) (by omega)
        have hf1 := (BlkN.ofRow R).1.free (m + 1)
        have hnm := numN_le bs m
        have HN : Hid (numN bs (m + 1) = numN bs m + (if bs.getD (m + 1) false = true then 1 else 0)) := rfl
        have HS : Hid ((numL bs N (m + 1)).set (m + 1) (numN bs (m + 1)) = numL bs N (m + 1 + 1)) := numL_set
        have R3 := (R.stored (m + 1) (.int .i64 (numN bs m : Int))).1
        have G3 := grown_trans_new G (grown_set1 wr ⟨g, m + 1, none⟩ (.int .i64 (numN bs m : Int))) (fun z e => by cases e; exact hgw)
        have RB3 := RB.kept (grown_set1 wr ⟨g, m + 1, none⟩ (.int .i64 (numN bs m : Int))) (.inr (by simp [Value.ownBlock]; omega))
        have cb3 : (wr.setCell ⟨g, m + 1, none⟩ (.int .i64 (numN bs m : Int))).cell? ⟨gb, m + 1, none⟩ = some (.bool (bs.getD (m + 1) false)) := (grown_set1 wr ⟨g, m + 1, none⟩ (.int .i64 (numN bs m : Int))).cell cb1 (by simp; omega)
        have hm1 : ((m + 1 : Nat) : Int) - 1 = (m : Int) := by omega
        have hm2 : (m : Int) < (N : Int) := by omega
        have cz : (wr.setCell ⟨g, m + 1, none⟩ (.int .i64 (numN bs m : Int))).cell? ⟨g, m + 1, none⟩ = some (.int .i64 (numN bs m : Int)) := by
          have := R3.cells (g := g) rfl (m + 1) (.int .i64 (numN bs m : Int)) (by rw [List.getElem?_set_self (by rw [List.length_map, numL_len]; omega)])
          rw [Addr.add_lit, Nat.zero_add] at this
          exact this
        have hf3 := (BlkN.ofRow R3).1.free (m + 1)
        have hl' : (m : Int) + 1 < (N : Int) := by omega
        go_upto_region 7 with fail
        generalize wr.setCell ⟨g, m + 1, none⟩ (.int .i64 (numN bs m : Int)) = w3 at *
        clear cm cb1 hu1 hf1 R RB G
        cases hb : bs.getD (m + 1) false with
        | false =>
          rw [hb] at cb3
          have HE : Hid (numN bs (m + 1) = numN bs m) := by
            show _ = _
            rw [HN.out, if_neg (by rw [hb]; simp)]
            rfl
          have R4 : w3.ownsRow w.heap.size 3 1 (.slice (some ⟨g, 0, none⟩) N N) N ((numL bs N (m + 1 + 1)).map nv) := by
            rw [← HS.out, HE.out, List.map_set]
            exact R3
          clear R3 HN HS HE
          go_wp2
          go_roundw
          case rel => exact ⟨m + 1 + 1, by omega, by omega, by go_num, R4, RB3, G3⟩
          case measure => simp [intOf]; omega
        | true =>
          rw [hb] at cb3
          have HE : Hid (numN bs (m + 1) = numN bs m + 1) := by
            show _ = _
            rw [HN.out, if_pos hb]
          have R4 : (w3.setCell ⟨g, m + 1, none⟩ (.int .i64 ((numN bs m : Int) + 1))).ownsRow w.heap.size 3 1 (.slice (some ⟨g, 0, none⟩) N N) N ((numL bs N (m + 1 + 1)).map nv) := by
            have := (R3.stored (m + 1) (.int .i64 ((numN bs m : Int) + 1))).1
            rw [List.set_set] at this
            rw [← HS.out, HE.out, List.map_set]
            exact this
          have K4 := grown_set1 w3 ⟨g, m + 1, none⟩ (.int .i64 ((numN bs m : Int) + 1))
          have G4 := grown_trans_new G3 K4 (fun z e => by cases e; exact hgw)
          have RB4 := RB3.kept K4 (.inr (by simp [Value.ownBlock]; omega))
          clear R3 HN HS HE RB3 G3 K4
          go_wp2
          go_roundw
          case rel => exact ⟨m + 1 + 1, by omega, by omega, by go_num, R4, RB4, G4⟩
          case measure => simp [intOf]; omega
      · have hl : ¬ (k : Int) < (N : Int) := by omega
        have hke : k = N := by omega
        subst hke
        go_wp2
        go_ret
        exact ⟨_, rfl, R, G⟩

end Go.Proofs.YtencoknpocipbaaGreat
