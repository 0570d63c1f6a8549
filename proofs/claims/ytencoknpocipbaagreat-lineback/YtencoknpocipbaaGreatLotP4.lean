/-
  The document's own Check, walked. Lists of bools: SameBools, SpoilBools. The document's own Reach. The document's own Get. The document's own numbers of the machine: Shift, Operate, size, read.
-/
import Derived.Test.YtencoknpocipbaaGreatLotP3
import Derived.Test.YtencoknpocipbaaGreatLotP2
namespace Go.Proofs.YtencoknpocipbaaGreat
open Go.RowKit
set_option maxRecDepth 100000

/-- Does a jump go too far? room: how many instructions stand behind. -/
def jumpBad (c : Int) (t f k room : Nat) : Bool := (c == 5 && decide (room ≤ k)) || (jumpB c && (decide (room ≤ t) || decide (room ≤ f)))
/-- What is wrong with the instruction at place i of n. -/
def badV (n i : Nat) (x : In) : Int := if faultV x.code.toNat x.k.toNat = 0 then (if jumpBad x.code.toNat x.jt.toNat x.jf.toNat x.k.toNat (n - 1 - i) = true then 46 else 0) else faultV x.code.toNat x.k.toNat
/-- The first place where something is wrong. -/
def firstBad (n : Nat) : Nat → List In → Option (Nat × Int)
  | _, [] => none
  | i, x :: r => if badV n i x = 0 then firstBad n (i + 1) r else some (i, badV n i x)
def lastB (xs : List In) : Bool := match xs.getLast? with
  | some x => retB x.code.toNat
  | none => false
/-- What is said behind the search. -/
def endV (xs : List In) : Option (Nat × Int) → Nat × Int
  | some r => r
  | none => if lastB xs = true then (0, 0) else (xs.length - 1, 47)
/-- P4.1. -/
def checkV (xs : List In) : Nat × Int := if xs.length = 0 then (0, 40) else if 4096 < xs.length then (4096, 41) else endV xs (firstBad xs.length 0 xs)

theorem jump_not5 {c : Int} (h : (c == 5) = true) : jumpB c = false := by
  have e := eq_of_beq h
  subst e
  decide

set_option maxRecDepth 100000 in
set_option maxHeartbeats 2000000 in
theorem refcheck_any (a : Option Addr) (ca : Nat) (xs : List In) (w : World) (ha : CV w a (flat xs)) :
    Calls Tryz.prog 48 #[.slice a xs.length ca] w fun e w' => e = .returned (.tuple #[.int .i64 ((checkV xs).1 : Int), .int .i64 (checkV xs).2]) ∧ w.grownBy w' none := by
  have H : Hid (CV w a (flat xs)) := ha
  clear ha
  by_cases h0 : xs.length = 0
  · have e : checkV xs = (0, 40) := by rw [checkV, if_pos h0]
    rw [e]
    have h0' : ((xs.length : Int) == 0) = true := by rw [h0]; rfl
    have H0 : Hid (xs.length = 0) := h0
    clear h0
    go_enter Tryz.func48, Tryz.ntmps48
    go_wp2
    go_ret2
    exact ⟨rfl, World.grownBy.refl _ _⟩
  · have h0' : ((xs.length : Int) == 0) = false := by rw [beq_eq_false_iff_ne]; omega
    by_cases h4 : 4096 < xs.length
    · have e : checkV xs = (4096, 41) := by rw [checkV, if_neg h0, if_pos h4]
      rw [e]
      have h4' : (4096 : Int) < (xs.length : Int) := by omega
      go_enter Tryz.func48, Tryz.ntmps48
      go_wp2
      go_ret2
      exact ⟨rfl, World.grownBy.refl _ _⟩
    · have h4' : ¬ ((4096 : Int) < (xs.length : Int)) := by omega
      obtain ⟨ans, hans⟩ : ∃ ans, firstBad xs.length 0 xs = ans := ⟨_, rfl⟩
      have e : checkV xs = endV xs ans := by rw [checkV, if_neg h0, if_neg h4, hans]
      rw [e]
      have HF : Hid (firstBad xs.length 0 xs = ans) := hans
      clear hans e
      go_enter Tryz.func48, Tryz.ntmps48
      go_wp2
      go_loopw [5] (fun i wr => ∃ j : Nat, j ≤ xs.length ∧ i = .int .i64 j ∧ firstBad xs.length j (xs.drop j) = ans ∧ w.grownBy wr none) (fun i _ => xs.length - (intOf i).toNat)
      case atStart => exact ⟨0, Nat.zero_le _, rfl, HF.out, World.grownBy.refl _ _⟩
      case round =>
        obtain ⟨j, hj, rfl, hi, G⟩ := hrel
        have HI : Hid (firstBad xs.length j (xs.drop j) = ans) := hi
        clear hi
        by_cases hlt : j < xs.length
        · obtain ⟨b, o, rfl, hc⟩ := H.out.insns hlt
          obtain ⟨c0, c1, c2, c3⟩ := hc j hlt
          have HX : Hid (ans = if badV xs.length j xs[j] = 0 then firstBad xs.length (j + 1) (xs.drop (j + 1)) else some (j, badV xs.length j xs[j])) := by
            show ans = _
            rw [← HI.out, List.drop_eq_getElem_cons hlt, firstBad]
          clear hc
          generalize xs[j] = x at *
          have b0 := x.code.toNat_lt
          have b1 := x.jt.toNat_lt
          have b2 := x.jf.toNat_lt
          have b3 := x.k.toNat_lt
          have HBV : Hid (badV xs.length j x = if faultV x.code.toNat x.k.toNat = 0 then (if jumpBad x.code.toNat x.jt.toNat x.jf.toNat x.k.toNat (xs.length - 1 - j) = true then 46 else 0) else faultV x.code.toNat x.k.toNat) := rfl
          generalize badV xs.length j x = bd at *
          generalize x.code.toNat = c at *
          generalize x.jt.toNat = t at *
          generalize x.jf.toNat = f at *
          generalize x.k.toNat = k at *
          have hl : (j : Int) < (xs.length : Int) := by omega
          have g0 : wr.cell? ⟨b, o + j * 4, none⟩ = some (.int .u16 (c : Int)) := G.cell c0 (by simp)
          have g1 : wr.cell? ⟨b, o + j * 4 + 1, none⟩ = some (.int .u8 (t : Int)) := G.cell c1 (by simp)
          have g2 : wr.cell? ⟨b, o + j * 4 + 2, none⟩ = some (.int .u8 (f : Int)) := G.cell c2 (by simp)
          have g3 : wr.cell? ⟨b, o + j * 4 + 3, none⟩ = some (.int .u32 (k : Int)) := G.cell c3 (by simp)
          go_wp2_with fail
          refine (fault_any c t f k _).mono ?_
          rintro e w1 ⟨rfl, K1⟩
          have G1 := grown_trans G K1
          have y0 : w1.cell? ⟨b, o + j * 4, none⟩ = some (.int .u16 (c : Int)) := G1.cell c0 (by simp)
          have y1 : w1.cell? ⟨b, o + j * 4 + 1, none⟩ = some (.int .u8 (t : Int)) := G1.cell c1 (by simp)
          have y2 : w1.cell? ⟨b, o + j * 4 + 2, none⟩ = some (.int .u8 (f : Int)) := G1.cell c2 (by simp)
          have y3 : w1.cell? ⟨b, o + j * 4 + 3, none⟩ = some (.int .u32 (k : Int)) := G1.cell c3 (by simp)
          clear g0 g1 g2 g3 c0 c1 c2 c3 G K1
          obtain ⟨fv, hfv⟩ : ∃ fv, faultV c k = fv := ⟨_, rfl⟩
          rw [hfv]
          have HFV : Hid (faultV c k = fv) := hfv
          clear hfv
          by_cases hz : fv = 0
          · subst hz
            have rr : ((xs.length - 1 - j : Nat) : Int) = (xs.length : Int) - 1 - (j : Int) := by omega
            by_cases h5 : (c : Int) = 5
            · have h5b : ((c : Int) == 5) = true := by rw [h5]; rfl
              have hjb := jump_not5 h5b
              by_cases hr : xs.length - 1 - j ≤ k
              · have hr' : (xs.length : Int) - 1 - (j : Int) ≤ (k : Int) := by omega
                have HA : Hid (ans = some (j, 46)) := by
                  show ans = _
                  have e1 : bd = 46 := by rw [HBV.out, HFV.out, if_pos rfl, if_pos (by rw [jumpBad, h5b]; simp; omega)]
                  rw [HX.out, e1]
                  rfl
                go_wp2_with (go_at_call 32; refine (jump_any _ _).mono ?_; rintro e w' ⟨rfl, rfl⟩)
                go_ret2
                exact ⟨by rw [HA.out]; rfl, G1⟩
              · have hr' : ¬ ((xs.length : Int) - 1 - (j : Int) ≤ (k : Int)) := by omega
                have HA : Hid (ans = firstBad xs.length (j + 1) (xs.drop (j + 1))) := by
                  show ans = _
                  have e1 : bd = 0 := by rw [HBV.out, HFV.out, if_pos rfl, if_neg (by rw [show jumpBad c t f k (xs.length - 1 - j) = false by rw [jumpBad, hjb, decide_eq_false hr]; simp]; simp)]
                  rw [HX.out, e1, if_pos rfl]
                go_wp2_with (go_at_call 32; refine (jump_any _ _).mono ?_; rintro e w' ⟨rfl, rfl⟩)
                go_roundw
                case rel => exact ⟨j + 1, by omega, by go_num, HA.out.symm, G1⟩
                case measure => simp [intOf]; omega
            · have h5b : ((c : Int) == 5) = false := by rw [beq_eq_false_iff_ne]; exact h5
              cases hjb : jumpB c with
              | false =>
                have HA : Hid (ans = firstBad xs.length (j + 1) (xs.drop (j + 1))) := by
                  show ans = _
                  have e1 : bd = 0 := by rw [HBV.out, HFV.out, if_pos rfl, if_neg (by rw [show jumpBad c t f k (xs.length - 1 - j) = false by rw [jumpBad, hjb, h5b]; simp]; simp)]
                  rw [HX.out, e1, if_pos rfl]
                go_wp2_with (go_at_call 32; refine (jump_any _ _).mono ?_; rintro e w' ⟨rfl, rfl⟩)
                go_roundw
                case rel => exact ⟨j + 1, by omega, by go_num, HA.out.symm, G1⟩
                case measure => simp [intOf]; omega
              | true =>
                by_cases ht : xs.length - 1 - j ≤ t
                · have ht' : (xs.length : Int) - 1 - (j : Int) ≤ (t : Int) := by omega
                  have HA : Hid (ans = some (j, 46)) := by
                    show ans = _
                    have e1 : bd = 46 := by rw [HBV.out, HFV.out, if_pos rfl, if_pos (by rw [jumpBad, hjb, decide_eq_true ht]; simp)]
                    rw [HX.out, e1]
                    rfl
                  go_wp2_with (go_at_call 32; refine (jump_any _ _).mono ?_; rintro e w' ⟨rfl, rfl⟩)
                  go_ret2
                  exact ⟨by rw [HA.out]; rfl, G1⟩
                · have ht' : ¬ ((xs.length : Int) - 1 - (j : Int) ≤ (t : Int)) := by omega
                  have ht2 : decide ((xs.length : Int) - 1 - (j : Int) ≤ (t : Int)) = false := decide_eq_false ht'
                  by_cases hf : xs.length - 1 - j ≤ f
                  · have hf' : (xs.length : Int) - 1 - (j : Int) ≤ (f : Int) := by omega
                    have HA : Hid (ans = some (j, 46)) := by
                      show ans = _
                      have e1 : bd = 46 := by rw [HBV.out, HFV.out, if_pos rfl, if_pos (by rw [jumpBad, hjb, decide_eq_true hf]; simp)]
                      rw [HX.out, e1]
                      rfl
                    go_wp2_with (go_at_call 32; refine (jump_any _ _).mono ?_; rintro e w' ⟨rfl, rfl⟩)
                    go_ret2
                    exact ⟨by rw [HA.out]; rfl, G1⟩
                  · have hf' : ¬ ((xs.length : Int) - 1 - (j : Int) ≤ (f : Int)) := by omega
                    have HA : Hid (ans = firstBad xs.length (j + 1) (xs.drop (j + 1))) := by
                      show ans = _
                      have e1 : bd = 0 := by rw [HBV.out, HFV.out, if_pos rfl, if_neg (by rw [show jumpBad c t f k (xs.length - 1 - j) = false by rw [jumpBad, hjb, h5b, decide_eq_false ht, decide_eq_false hf]; rfl]; simp)]
                      rw [HX.out, e1, if_pos rfl]
                    go_wp2_with (go_at_call 32; refine (jump_any _ _).mono ?_; rintro e w' ⟨rfl, rfl⟩)
                    go_roundw
                    case rel => exact ⟨j + 1, by omega, by go_num, HA.out.symm, G1⟩
                    case measure => simp [intOf]; omega
          · have hzb : (fv != 0) = true := by rw [bne_iff_ne]; exact hz
            have HA : Hid (ans = some (j, fv)) := by
              show ans = _
              have e1 : bd = fv := by rw [HBV.out, HFV.out, if_neg hz]
              rw [HX.out, e1, if_neg hz]
            clear hz
            go_wp2
            go_ret2
            exact ⟨by rw [HA.out]; rfl, G1⟩
        · obtain rfl : j = xs.length := by omega
          have HA : Hid (ans = none) := by
            show ans = none
            rw [← HI.out, List.drop_length, firstBad]
          have hm : xs.length - 1 < xs.length := by omega
          obtain ⟨b, o, rfl, hc⟩ := H.out.insns hm
          obtain ⟨c0, -, -, -⟩ := hc (xs.length - 1) hm
          have HL : Hid (lastB xs = retB (xs[xs.length - 1].code.toNat)) := by
            show lastB xs = _
            rw [lastB, List.getLast?_eq_getElem?, List.getElem?_eq_getElem hm]
          clear hc
          generalize xs[xs.length - 1] = x at *
          have b0 := x.code.toNat_lt
          generalize x.code.toNat = c at *
          have g0 : wr.cell? ⟨b, o + (xs.length - 1) * 4, none⟩ = some (.int .u16 (c : Int)) := G.cell c0 (by simp)
          have i0 : (0 : Int) ≤ (xs.length : Int) - 1 := by omega
          have i1 : (xs.length : Int) - 1 < (xs.length : Int) := by omega
          have i2 : ((xs.length : Int) - 1).toNat = xs.length - 1 := by omega
          clear c0
          cases hrt : retB c with
          | true =>
            go_wp2_with (go_at_call 98; refine (retB_any _ _).mono ?_; rintro e w' ⟨rfl, rfl⟩)
            go_ret2
            exact ⟨by rw [HA.out, endV, HL.out, hrt]; rfl, G⟩
          | false =>
            go_wp2_with (go_at_call 98; refine (retB_any _ _).mono ?_; rintro e w' ⟨rfl, rfl⟩)
            go_ret2
            refine ⟨?_, G⟩
            rw [HA.out, endV, HL.out, hrt]
            have e9 : ((xs.length - 1 : Nat) : Int) = (xs.length : Int) - 1 := by omega
            simp only [Bool.false_eq_true, if_false, e9]
            rfl

end Go.Proofs.YtencoknpocipbaaGreat

namespace Go.Proofs.YtencoknpocipbaaGreat
open Go.RowKit
set_option maxRecDepth 100000

theorem info4 : (Tryz.prog.info? 4).map (fun i => (i.zero, i.size, i.bytes)) = some (some (.bool false), 1, 1) := by kernel_rfl

abbrev BOwns (w : World) (base : Nat) (v : Value) (bs : List Bool) : Prop := w.ownsRow base 4 1 v bs.length (bs.map Value.bool)

theorem CV.bools {w : World} {ao : Option Addr} {bs : List Bool} (h : CV w ao (bs.map Value.bool)) {k : Nat} (hk : k < bs.length) :
    ∃ b off, ao = some ⟨b, off, none⟩ ∧ ∀ i (hi : i < bs.length), w.cell? ⟨b, off + i, none⟩ = some (.bool bs[i]) := by
  obtain ⟨b, off, hao, hc⟩ := h.addr (k := k) (by simpa using hk)
  exact ⟨b, off, hao, fun i hi => by rw [hc i (by simpa using hi)]; simp⟩

/-- The two loops of SpoilBools, behind its append. -/
def BSpoilRel (w : World) (row : Option Nat) (g g' n n' : Nat) (wr : World) : Prop := BlkN wr 4 g n ∧ BlkN wr 4 g' n' ∧ w.grownBy wr row

theorem BSpoilRel.set {w wr : World} {row : Option Nat} {g g' n n' : Nat} (h : BSpoilRel w row g g' n n' wr) {p : Addr} (hp : row = some p.block ∨ w.heap.size ≤ p.block) (u : Value) : BSpoilRel w row g g' n n' (wr.setCell p u) :=
  ⟨h.1.setCell _ _, h.2.1.setCell _ _, grown_setCell h.2.2 _ _ hp⟩

end Go.Proofs.YtencoknpocipbaaGreat

namespace Go.Proofs.YtencoknpocipbaaGreat
open Go.RowKit
set_option maxRecDepth 100000

/-- What one instruction adds. -/
def stepB (x : In) (i : Nat) (bs : List Bool) : List Bool :=
  if bs.getD i false = false ∨ retB x.code.toNat = true then bs
  else if ((x.code.toNat : Int) == 5) = true then bs.set (i + 1 + x.k.toNat) true
  else if jumpB x.code.toNat = true then (bs.set (i + 1 + x.jt.toNat) true).set (i + 1 + x.jf.toNat) true
  else bs.set (i + 1) true
def reachTo (xs : List In) : Nat → List Bool
  | 0 => (List.replicate xs.length false).set 0 true
  | i + 1 => match xs[i]? with
    | some x => stepB x i (reachTo xs i)
    | none => reachTo xs i
/-- P4.2. -/
def reachV (xs : List In) : List Bool := if (checkV xs).2 = 0 then reachTo xs xs.length else []

theorem stepB_len (x : In) (i : Nat) (bs : List Bool) : (stepB x i bs).length = bs.length := by
  unfold stepB
  split
  · rfl
  · split
    · simp
    · split <;> simp

theorem reachTo_len (xs : List In) (i : Nat) : (reachTo xs i).length = xs.length := by
  induction i with
  | zero => simp [reachTo]
  | succ i ih =>
    rw [reachTo]
    cases xs[i]? with
    | none => exact ih
    | some x => rw [stepB_len, ih]

theorem reachTo_succ {xs : List In} {i : Nat} (h : i < xs.length) : reachTo xs (i + 1) = stepB xs[i] i (reachTo xs i) := by
  rw [reachTo, List.getElem?_eq_getElem h]

theorem firstBad_none {n i : Nat} {xs : List In} (h : firstBad n i xs = none) : ∀ j (hj : j < xs.length), badV n (i + j) xs[j] = 0 := by
  induction xs generalizing i with
  | nil => intro j hj; simp at hj
  | cons x xs ih =>
    rw [firstBad] at h
    split at h
    · rename_i h0
      intro j hj
      cases j with
      | zero => simpa using h0
      | succ j =>
        have := ih h j (by simpa using hj)
        simpa [Nat.add_assoc, Nat.add_comm, Nat.add_left_comm] using this
    · cases h

theorem firstBad_some {n i : Nat} {xs : List In} {r : Nat × Int} (h : firstBad n i xs = some r) : r.2 ≠ 0 := by
  induction xs generalizing i with
  | nil => simp [firstBad] at h
  | cons x xs ih =>
    rw [firstBad] at h
    split at h
    · exact ih h
    · rename_i h0
      simp only [Option.some.injEq] at h
      subst h
      exact h0

/-- A program that is taken. -/
theorem taken {xs : List In} (h : (checkV xs).2 = 0) : 0 < xs.length ∧ xs.length ≤ 4096 ∧ (∀ j (hj : j < xs.length), badV xs.length j xs[j] = 0) ∧ lastB xs = true := by
  unfold checkV at h
  split at h
  · simp at h
  · split at h
    · simp at h
    · cases hf : firstBad xs.length 0 xs with
      | some r => rw [hf] at h; exact absurd h (firstBad_some hf)
      | none =>
        rw [hf, endV] at h
        refine ⟨by omega, by omega, fun j hj => ?_, ?_⟩
        · have := firstBad_none hf j hj
          simpa using this
        · split at h
          · assumption
          · simp at h

theorem bad_zero {n i : Nat} {x : In} (h : badV n i x = 0) : faultV x.code.toNat x.k.toNat = 0 ∧ jumpBad x.code.toNat x.jt.toNat x.jf.toNat x.k.toNat (n - 1 - i) = false := by
  unfold badV at h
  split at h
  · rename_i h0
    split at h
    · simp at h
    · rename_i h1
      exact ⟨h0, by simpa using h1⟩
  · exact absurd h (by assumption)

theorem jumpBad_out {c : Int} {t f k room : Nat} (h : jumpBad c t f k room = false) : ((c == 5) = true → k < room) ∧ (jumpB c = true → t < room ∧ f < room) := by
  unfold jumpBad at h
  simp only [Bool.or_eq_false_iff, Bool.and_eq_false_iff, decide_eq_false_iff_not, Nat.not_le] at h
  refine ⟨fun h5 => ?_, fun hj => ?_⟩
  · rcases h.1 with q | q
    · rw [h5] at q; cases q
    · exact q
  · rcases h.2 with q | q
    · rw [hj] at q; cases q
    · exact q

theorem last_ret {xs : List In} (h : lastB xs = true) {j : Nat} (hj : j < xs.length) (hr : retB xs[j].code.toNat = false) : j + 1 < xs.length := by
  apply Classical.byContradiction
  intro hn
  obtain rfl : j = xs.length - 1 := by omega
  rw [lastB, List.getLast?_eq_getElem?, List.getElem?_eq_getElem hj] at h
  simp only at h
  rw [hr] at h
  cases h

end Go.Proofs.YtencoknpocipbaaGreat

namespace Go.Proofs.YtencoknpocipbaaGreat
open Go.RowKit
set_option maxRecDepth 100000

set_option maxHeartbeats 400000 in
theorem in_any (n : Nat) (p s : Int) (w : World) (hn : n ≤ 140737488355328) (hs : s = 1 ∨ s = 2 ∨ s = 4) :
    Calls Tryz.prog 118 #[.int .i64 n, .int .i64 p, .int .i64 s] w fun e w' => e = .returned (.bool (okB n p s)) ∧ w = w' := by
  rcases hs with rfl | rfl | rfl
  all_goals
    go_enter Tryz.func118, Tryz.ntmps118
    go_wp2
    all_goals
      go_ret
      first
        | exact ⟨ret_bool (okB_of (by omega)), rfl⟩
        | exact ⟨ret_bool (okB_no (by omega)), rfl⟩

set_option maxHeartbeats 400000 in
theorem refget_any (a : Option Addr) (ca : Nat) (xs : List UInt8) (p s : Int) (w : World) (ha : Cells w a xs) (hn : xs.length ≤ 140737488355328) :
    Calls Tryz.prog 100 #[.slice a xs.length ca, .int .i64 p, .int .i64 s] w fun e w' => e = .returned (.tuple #[.int .u32 (getV xs p s), .bool (okB xs.length p s)]) ∧ w = w' := by
  by_cases h : s = 1 ∨ s = 2 ∨ s = 4
  case neg =>
    have hok : okB xs.length p s = false := (okB_no (by omega)).symm
    have h1 : (s != 1) = true := by rw [bne_iff_ne]; omega
    have h2 : (s != 2) = true := by rw [bne_iff_ne]; omega
    have h3 : (s != 4) = true := by rw [bne_iff_ne]; omega
    have hg : getV xs p s = 0 := by simp [getV, hok]
    rw [hok, hg]
    clear hok hg
    go_enter Tryz.func100, Tryz.ntmps100
    go_wp2
    go_ret2
    exact ⟨rfl, rfl⟩
  case pos =>
    obtain ⟨S, rfl⟩ : ∃ S : Nat, s = S := ⟨s.toNat, by omega⟩
    have hS : (S : Int) = 1 ∨ (S : Int) = 2 ∨ (S : Int) = 4 := h
    have key := three_tests hS
    have HS : Hid ((S : Int) = 1 ∨ (S : Int) = 2 ∨ (S : Int) = 4) := hS
    clear hS h
    cases hok : okB xs.length p S with
    | false =>
      have hg : getV xs p S = 0 := by simp [getV, hok]
      rw [hg]
      clear hg
      rcases key with h1 | ⟨h1, h2⟩ | ⟨h1, h2, h3⟩
      all_goals
        go_enter Tryz.func100, Tryz.ntmps100
        go_wp2_with (go_at_call 118; refine (in_any xs.length p _ _ hn HS.out).mono ?_; rintro e w' ⟨rfl, rfl⟩)
        go_ret2
        exact ⟨rfl, rfl⟩
    | true =>
      have hy := okB_yes hok
      obtain ⟨P, rfl⟩ := Int.eq_ofNat_of_zero_le hy.2.1
      have hP : P + S ≤ xs.length := by omega
      have hS4 : S ≤ 4 := by omega
      clear hy
      have hg : getV xs P S = numAt xs P S := by simp [getV, hok]
      rw [hg]
      clear hg
      rcases key with h1 | ⟨h1, h2⟩ | ⟨h1, h2, h3⟩
      all_goals
        go_enter Tryz.func100, Tryz.ntmps100
        go_wp2_with (go_at_call 118; refine (in_any xs.length P _ _ hn HS.out).mono ?_; rintro e w' ⟨rfl, rfl⟩)
        go_loop [8, 9] (fun v i => ∃ k : Nat, k ≤ S ∧ i = .int .i64 k ∧ v = .int .u32 (numAt xs P k)) (fun _ i => S - (intOf i).toNat)
        case atStart => exact ⟨0, Nat.zero_le _, rfl, rfl⟩
        case round =>
          obtain ⟨k, hk, rfl, rfl⟩ := hrel
          by_cases hlt : k < S
          · obtain ⟨b, o, rfl, h1⟩ := ha.addr (k := P + k) (by omega)
            have c1 := h1 (P + k) (by omega)
            clear ha h1
            go_wp2
            go_round
            case rel => exact ⟨k + 1, by omega, by go_num, numAt_step xs P k (by omega) (by omega)⟩
            case measure => simp [intOf]; omega
          · obtain rfl : k = S := by omega
            go_wp2
            go_ret2
            exact ⟨rfl, rfl⟩

end Go.Proofs.YtencoknpocipbaaGreat

namespace Go.Proofs.YtencoknpocipbaaGreat
open Go.RowKit
set_option maxRecDepth 100000

/-- A number shifted. -/
def shiftV (a b : Nat) (left : Bool) : Nat := if 31 < b then 0 else if left = true then a * 2 ^ b % 4294967296 else a / 2 ^ b

set_option maxHeartbeats 400000 in
theorem shift_any (a b : Nat) (left : Bool) (w : World) (_ha : a ≤ 4294967295) (hb : b ≤ 4294967295) :
    Calls Tryz.prog 101 #[.int .u32 a, .int .u32 b, .bool left] w fun e w' => e = .returned (.int .u32 (shiftV a b left : Int)) ∧ w = w' := by
  by_cases h : 31 < b
  · have h' : (31 : Int) < (b : Int) := by omega
    have e : shiftV a b left = 0 := by simp [shiftV, h]
    rw [e]
    go_enter Tryz.func101, Tryz.ntmps101
    go_wp2
    go_ret
    exact ⟨rfl, rfl⟩
  · have h' : ¬ ((31 : Int) < (b : Int)) := by omega
    cases left with
    | true =>
      go_enter Tryz.func101, Tryz.ntmps101
      go_wp2
      go_ret
      exact ⟨ret_int (by simp [shiftV, h]), rfl⟩
    | false =>
      go_enter Tryz.func101, Tryz.ntmps101
      go_wp2
      go_ret
      exact ⟨ret_int (by simp [shiftV, h]), rfl⟩

theorem shiftV_le (a b : Nat) (left : Bool) (ha : a ≤ 4294967295) : shiftV a b left ≤ 4294967295 := by
  unfold shiftV
  split
  · omega
  · split
    · omega
    · exact Nat.le_trans (Nat.div_le_self _ _) ha

/-- Two numbers by an operation, its bit 8 struck: the number, the fault. -/
def operV (d : Int) (a b : Nat) : Nat × Int :=
  if d == 4 then ((a + b) % 4294967296, 0) else if d == 20 then ((a + 4294967296 - b) % 4294967296, 0) else if d == 36 then (a * b % 4294967296, 0)
  else if d == 68 then (a ||| b, 0) else if d == 84 then (a &&& b, 0) else if d == 164 then (a ^^^ b, 0) else if d == 100 then (shiftV a b true, 0) else if d == 116 then (shiftV a b false, 0)
  else if b == 0 then (0, 2) else if d == 52 then (a / b, 0) else (a % b, 0)

theorem ret_oper {x y : Int} {u v : Int} (h : x = y) (h' : u = v) : Ending.returned (.tuple #[.int .u32 x, .int .i64 u]) = .returned (.tuple #[.int .u32 y, .int .i64 v]) := by rw [h, h']

set_option maxHeartbeats 1000000 in
theorem operate_any (c : Int) (a b : Nat) (w : World) (ha : a ≤ 4294967295) (hb : b ≤ 4294967295) :
    Calls Tryz.prog 52 #[.int .u16 c, .int .u32 a, .int .u32 b] w fun e w' => e = .returned (.tuple #[.int .u32 ((operV (bits .andNot .u16 c 8) a b).1 : Int), .int .i64 (operV (bits .andNot .u16 c 8) a b).2]) ∧ w = w' := by
  generalize hd : bits .andNot .u16 c 8 = d
  have e1 := u32_or_nat a b (by omega) (by omega)
  have e2 := u32_and_nat a b (by omega) (by omega)
  have e3 := u32_xor_nat a b (by omega) (by omega)
  have hsub : ((a : Int) - (b : Int)) % 4294967296 = ((a + 4294967296 - b : Nat) : Int) % 4294967296 := by omega
  by_cases hb0 : b = 0
  · have hz : ((b : Int) == 0) = true := by rw [hb0]; rfl
    have hz2 : (b == 0) = true := by rw [hb0]; rfl
    clear hb0
    go_enter Tryz.func52, Tryz.ntmps52
    go_wp2_with (go_at_call 101; refine (shift_any a b _ _ ha hb).mono ?_; rintro e w' ⟨rfl, rfl⟩)
    all_goals
      go_ret2
      refine ⟨ret_oper ?_ ?_, rfl⟩
      all_goals first
        | (simp [operV, *]; done)
        | (simp [operV, *]; omega)
  · have hz : ((b : Int) == 0) = false := by rw [beq_eq_false_iff_ne]; omega
    have hz2 : (b == 0) = false := by rw [beq_eq_false_iff_ne]; exact hb0
    have hz3 : ¬ ((b : Int) = 0) := by omega
    have q0 : a / b ≤ a := Nat.div_le_self _ _
    have q3 : a % b ≤ a := Nat.mod_le _ _
    have q1 : (a : Int) / (b : Int) % 4294967296 = (a : Int) / (b : Int) := by
      rw [← Int.natCast_ediv]
      clear hsub e1 e2 e3
      generalize a / b = q at *
      omega
    have q2 : (a : Int) % (b : Int) % 4294967296 = (a : Int) % (b : Int) := by
      rw [← Int.natCast_emod]
      clear hsub e1 e2 e3
      generalize a % b = q at *
      omega
    clear q0 q3
    go_enter Tryz.func52, Tryz.ntmps52
    go_wp2_with (go_at_call 101; refine (shift_any a b _ _ ha hb).mono ?_; rintro e w' ⟨rfl, rfl⟩)
    all_goals
      go_ret2
      refine ⟨ret_oper ?_ ?_, rfl⟩
      all_goals first
        | (simp [operV, *]; done)
        | (simp [operV, *]; omega)

/-- How many bytes a load reads. -/
def sizeV (c : Int) : Nat := if (c == 32 || c == 64) = true then 4 else if (c == 40 || c == 72) = true then 2 else 1

set_option maxHeartbeats 400000 in
theorem size_any (c : Int) (w : World) : Calls Tryz.prog 51 #[.int .u16 c] w fun e w' => e = .returned (.int .i64 (sizeV c : Int)) ∧ w = w' := by
  go_enter Tryz.func51, Tryz.ntmps51
  go_wp2
  all_goals
    go_ret
    exact ⟨ret_int (by simp [sizeV, *]), rfl⟩

/-- A load from a place on: the number, the fault. -/
def readAtV (xs : List UInt8) (p S : Nat) : Nat × Int := if okB xs.length p S = true then (numAt xs p S, 0) else (0, 1)

set_option maxHeartbeats 400000 in
theorem read_at (a : Option Addr) (ca : Nat) (xs : List UInt8) (p S : Nat) (w : World) (ha : Cells w a xs) (hn : xs.length ≤ 140737488355328) (hp : p ≤ 18446744073709551615) :
    Calls Tryz.prog 50 #[.slice a xs.length ca, .int .u64 p, .int .i64 S] w fun e w' => e = .returned (.tuple #[.int .u32 ((readAtV xs p S).1 : Int), .int .i64 (readAtV xs p S).2]) ∧ w = w' := by
  by_cases h : xs.length < p
  · have h' : (xs.length : Int) < (p : Int) := by omega
    have hok : okB xs.length p S = false := decide_eq_false (by omega)
    have e : readAtV xs p S = (0, 1) := by rw [readAtV, hok]; rfl
    rw [e]
    clear ha
    go_enter Tryz.func50, Tryz.ntmps50
    go_wp2
    go_ret2
    exact ⟨rfl, rfl⟩
  · have h' : ¬ ((xs.length : Int) < (p : Int)) := by omega
    have HG := refget_any a ca xs p S w ha hn
    cases hok : okB xs.length p S with
    | true =>
      have e : readAtV xs p S = (numAt xs p S, 0) := by rw [readAtV, hok]; rfl
      have g : getV xs p S = numAt xs p S := by simp [getV, hok]
      rw [hok, g] at HG
      rw [e]
      have HGG : Hid (Calls Tryz.prog 100 #[.slice a xs.length ca, .int .i64 (p : Int), .int .i64 (S : Int)] w fun e w' => e = .returned (.tuple #[.int .u32 (numAt xs p S), .bool true]) ∧ w = w') := HG
      clear HG ha g
      go_enter Tryz.func50, Tryz.ntmps50
      go_wp2_with fail
      refine HGG.out.mono ?_
      rintro e w' ⟨rfl, rfl⟩
      go_wp2
      go_ret2
      exact ⟨rfl, rfl⟩
    | false =>
      have e : readAtV xs p S = (0, 1) := by rw [readAtV, hok]; rfl
      rw [hok] at HG
      rw [e]
      obtain ⟨q, hq⟩ : ∃ q, getV xs p S = q := ⟨_, rfl⟩
      rw [hq] at HG
      have HGG : Hid (Calls Tryz.prog 100 #[.slice a xs.length ca, .int .i64 (p : Int), .int .i64 (S : Int)] w fun e w' => e = .returned (.tuple #[.int .u32 q, .bool false]) ∧ w = w') := HG
      clear HG ha hq
      go_enter Tryz.func50, Tryz.ntmps50
      go_wp2_with fail
      refine HGG.out.mono ?_
      rintro e w' ⟨rfl, rfl⟩
      go_wp2
      go_ret2
      exact ⟨rfl, rfl⟩

end Go.Proofs.YtencoknpocipbaaGreat
