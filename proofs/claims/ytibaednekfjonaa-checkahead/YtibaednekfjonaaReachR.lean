/-
  The document's own Reach.
-/
import Derived.Test.YtibaednekfjonaaChk2
import Derived.Test.YtibaednekfjonaaBoolR
namespace Go.Proofs.Ytibaednekfjonaa
open Go.RowKit
set_option maxRecDepth 100000

/-- What one instruction adds. -/
def stepB (x : In) (i : Nat) (bs : List Bool) : List Bool :=
  if bs.getD i false = false ∨ retB x.code.toNat = true then bs
  else if ((x.code.toNat : Int) == 5) = true then bs.set (i + 1 + x.k.toNat) true
  else if jumpB x.code.toNat = true then (bs.set (i + 1 + x.jt.toNat) true).set (i + 1 + x.jf.toNat) true
  else bs.set (i + 1) true
def reachTo (xs : List In) : Nat → List Bool
  | 0 => (List.replicate xs.length false).set 0 true
  | i + 1 => match xs[i]? with
    | some x => stepB x i (reachTo xs i)
    | none => reachTo xs i
/-- P4.2. -/
def reachV (xs : List In) : List Bool := if (checkV xs).2 = 0 then reachTo xs xs.length else []

theorem stepB_len (x : In) (i : Nat) (bs : List Bool) : (stepB x i bs).length = bs.length := by
  unfold stepB
  split
  · rfl
  · split
    · simp
    · split <;> simp

theorem reachTo_len (xs : List In) (i : Nat) : (reachTo xs i).length = xs.length := by
  induction i with
  | zero => simp [reachTo]
  | succ i ih =>
    rw [reachTo]
    cases xs[i]? with
    | none => exact ih
    | some x => rw [stepB_len, ih]

theorem reachTo_succ {xs : List In} {i : Nat} (h : i < xs.length) : reachTo xs (i + 1) = stepB xs[i] i (reachTo xs i) := by
  rw [reachTo, List.getElem?_eq_getElem h]

theorem firstBad_none {n i : Nat} {xs : List In} (h : firstBad n i xs = none) : ∀ j (hj : j < xs.length), badV n (i + j) xs[j] = 0 := by
  induction xs generalizing i with
  | nil => intro j hj; simp at hj
  | cons x xs ih =>
    rw [firstBad] at h
    split at h
    · rename_i h0
      intro j hj
      cases j with
      | zero => simpa using h0
      | succ j =>
        have := ih h j (by simpa using hj)
        simpa [Nat.add_assoc, Nat.add_comm, Nat.add_left_comm] using this
    · cases h

theorem firstBad_some {n i : Nat} {xs : List In} {r : Nat × Int} (h : firstBad n i xs = some r) : r.2 ≠ 0 := by
  induction xs generalizing i with
  | nil => simp [firstBad] at h
  | cons x xs ih =>
    rw [firstBad] at h
    split at h
    · exact ih h
    · rename_i h0
      simp only [Option.some.injEq] at h
      subst h
      exact h0

/-- A program that is taken. -/
theorem taken {xs : List In} (h : (checkV xs).2 = 0) : 0 < xs.length ∧ xs.length ≤ 4096 ∧ (∀ j (hj : j < xs.length), badV xs.length j xs[j] = 0) ∧ lastB xs = true := by
  unfold checkV at h
  split at h
  · simp at h
  · split at h
    · simp at h
    · cases hf : firstBad xs.length 0 xs with
      | some r => rw [hf] at h; exact absurd h (firstBad_some hf)
      | none =>
        rw [hf, endV] at h
        refine ⟨by omega, by omega, fun j hj => ?_, ?_⟩
        · have := firstBad_none hf j hj
          simpa using this
        · split at h
          · assumption
          · simp at h

theorem bad_zero {n i : Nat} {x : In} (h : badV n i x = 0) : faultV x.code.toNat x.k.toNat = 0 ∧ jumpBad x.code.toNat x.jt.toNat x.jf.toNat x.k.toNat (n - 1 - i) = false := by
  unfold badV at h
  split at h
  · rename_i h0
    split at h
    · simp at h
    · rename_i h1
      exact ⟨h0, by simpa using h1⟩
  · exact absurd h (by assumption)

theorem jumpBad_out {c : Int} {t f k room : Nat} (h : jumpBad c t f k room = false) : ((c == 5) = true → k < room) ∧ (jumpB c = true → t < room ∧ f < room) := by
  unfold jumpBad at h
  simp only [Bool.or_eq_false_iff, Bool.and_eq_false_iff, decide_eq_false_iff_not, Nat.not_le] at h
  refine ⟨fun h5 => ?_, fun hj => ?_⟩
  · rcases h.1 with q | q
    · rw [h5] at q; cases q
    · exact q
  · rcases h.2 with q | q
    · rw [hj] at q; cases q
    · exact q

theorem last_ret {xs : List In} (h : lastB xs = true) {j : Nat} (hj : j < xs.length) (hr : retB xs[j].code.toNat = false) : j + 1 < xs.length := by
  apply Classical.byContradiction
  intro hn
  obtain rfl : j = xs.length - 1 := by omega
  rw [lastB, List.getLast?_eq_getElem?, List.getElem?_eq_getElem hj] at h
  simp only at h
  rw [hr] at h
  cases h

set_option maxRecDepth 100000 in
set_option maxHeartbeats 2000000 in
theorem refreach_any (a : Option Addr) (ca : Nat) (xs : List In) (w : World) (ha : CV w a (flat xs)) :
    Calls Try.prog 14 #[.slice a xs.length ca] w fun e w' => ∃ v, e = .returned (.tuple #[v, .int .i64 (checkV xs).2]) ∧ BOwns w' w.heap.size v (reachV xs) ∧ w.grownBy w' none := by
  obtain ⟨i0, hi, hz0, hz1, hz2⟩ := info_parts info4
  have H : Hid (CV w a (flat xs)) := ha
  clear ha
  obtain ⟨P, E, hPE⟩ : ∃ P E, checkV xs = (P, E) := ⟨_, _, rfl⟩
  have HC : Hid (∀ W : World, CV W a (flat xs) → Calls Try.prog 9 #[.slice a xs.length ca] W fun e w' => e = .returned (.tuple #[.int .i64 (P : Int), .int .i64 E]) ∧ W.grownBy w' none) := fun W h => by
    have k := refcheck_any a ca xs W h
    rw [hPE] at k
    exact k
  have hE : (checkV xs).2 = E := by rw [hPE]
  rw [hE]
  by_cases hz : E = 0
  · have hV : reachV xs = reachTo xs xs.length := by rw [reachV, if_pos (by rw [hE]; exact hz)]
    obtain ⟨t1, t2, t3, t4⟩ := taken (by rw [hE]; exact hz)
    have HT : Hid ((∀ j (hj : j < xs.length), badV xs.length j xs[j] = 0) ∧ lastB xs = true) := ⟨t3, t4⟩
    have HV : Hid (reachV xs = reachTo xs xs.length) := hV
    clear hPE hE hV t3 t4
    subst hz
    have t1' : (0 : Int) < (xs.length : Int) := by omega
    go_enter Try.func14, Try.ntmps14
    go_wp2_with fail
    refine (HC.out _ H.out).mono ?_
    rintro e w1 ⟨rfl, G1⟩
    go_wp2_with (at_make; refine wpList_make_full _ rfl (.tmp 17) (.tmp 17) 30 rfl w.heap.size 4 i0 (.bool false) 1 Try.underlying30 hi hz0 hz1 .i64 .i64 (xs.length : Int) (xs.length : Int) xs.length rfl rfl rfl rfl ?q1 ?q2 ?q3 ?q4)
    case q1 => rw [hz2]; omega
    case q2 => unfold maxLen; omega
    case q3 => exact G1.size
    case q4 =>
      intro w2 h2 K2
      rw [toList_madeCells_one] at h2
      have R2 : w2.ownsRow w.heap.size 4 1 (.slice (some ⟨w1.heap.size, 0, none⟩) xs.length xs.length) xs.length ((List.replicate xs.length false).map Value.bool) := by simpa using h2
      have G2 := grown_trans G1 K2
      have hg : w.heap.size ≤ w1.heap.size := G1.size
      clear h2 K2
      generalize w1.heap.size = g at *
      obtain ⟨u0, hu0⟩ := (BlkN.ofRow R2).1.cell (i := 0) (by omega)
      have hf0 := (BlkN.ofRow R2).1.free 0
      have R3 : (w2.setCell ⟨g, 0, none⟩ (.bool true)).ownsRow w.heap.size 4 1 (.slice (some ⟨g, 0, none⟩) xs.length xs.length) xs.length ((reachTo xs 0).map Value.bool) := by
        have := (R2.stored 0 (.bool true)).1
        rw [reachTo, List.map_set]
        exact this
      have G3 := grown_setCell G2 ⟨g, 0, none⟩ (.bool true) (.inr hg)
      clear R2 G2
      go_wp2
      go_loopw [7] (fun i wr => ∃ j : Nat, j ≤ xs.length ∧ i = .int .i64 j ∧ wr.ownsRow w.heap.size 4 1 (.slice (some ⟨g, 0, none⟩) xs.length xs.length) xs.length ((reachTo xs j).map Value.bool) ∧ w.grownBy wr none) (fun i _ => xs.length - (intOf i).toNat)
      case atStart => exact ⟨0, Nat.zero_le _, rfl, R3, G3⟩
      case round =>
        clear R3 G3 hu0 hf0
        obtain ⟨j, hj, rfl, R, G⟩ := hrel
        by_cases hlt : j < xs.length
        · have HS : Hid (reachTo xs (j + 1) = stepB xs[j] j (reachTo xs j)) := reachTo_succ hlt
          have hlen := reachTo_len xs j
          obtain ⟨b, o, rfl, hc⟩ := H.out.insns hlt
          obtain ⟨c0, c1, c2, c3⟩ := hc j hlt
          have z1 := bad_zero (HT.out.1 j hlt)
          have z2 := fun hr => last_ret HT.out.2 hlt hr
          have bl := (BlkN.ofRow R).1
          have hcell : wr.cell? ⟨g, j, none⟩ = some (.bool ((reachTo xs j).getD j false)) := by
            have := R.cells (g := g) rfl j (.bool ((reachTo xs j).getD j false)) (by simp [hlen, hlt])
            rw [Addr.add_lit, Nat.zero_add] at this
            exact this
          clear hc
          generalize reachTo xs j = bs at *
          generalize xs[j] = x at *
          obtain ⟨p1, p2⟩ := jumpBad_out z1.2
          have b0 := x.code.toNat_lt
          have b1 := x.jt.toNat_lt
          have b2 := x.jf.toNat_lt
          have b3 := x.k.toNat_lt
          have HST : Hid (reachTo xs (j + 1) = if bs.getD j false = false ∨ retB x.code.toNat = true then bs
            else if ((x.code.toNat : Int) == 5) = true then bs.set (j + 1 + x.k.toNat) true
            else if jumpB x.code.toNat = true then (bs.set (j + 1 + x.jt.toNat) true).set (j + 1 + x.jf.toNat) true
            else bs.set (j + 1) true) := HS.out
          clear HS z1
          generalize x.code.toNat = c at *
          generalize x.jt.toNat = t at *
          generalize x.jf.toNat = f at *
          generalize x.k.toNat = k at *
          have hl : (j : Int) < (xs.length : Int) := by omega
          have g0 : wr.cell? ⟨b, o + j * 4, none⟩ = some (.int .u16 (c : Int)) := G.cell c0 (by simp)
          have g1 : wr.cell? ⟨b, o + j * 4 + 1, none⟩ = some (.int .u8 (t : Int)) := G.cell c1 (by simp)
          have g2 : wr.cell? ⟨b, o + j * 4 + 2, none⟩ = some (.int .u8 (f : Int)) := G.cell c2 (by simp)
          have g3 : wr.cell? ⟨b, o + j * 4 + 3, none⟩ = some (.int .u32 (k : Int)) := G.cell c3 (by simp)
          cases hb : bs.getD j false with
          | false =>
            rw [hb] at hcell
            have e : reachTo xs (j + 1) = bs := by rw [HST.out, if_pos (.inl hb)]
            have HE : Hid (reachTo xs (j + 1) = bs) := e
            clear p1 p2 z2 e hb
            go_wp2_with (first | (go_at_call 21; refine (retB_any _ _).mono ?_; rintro e w' ⟨rfl, rfl⟩) | (go_at_call 22; refine (jump_any _ _).mono ?_; rintro e w' ⟨rfl, rfl⟩))
            go_roundw
            case rel => exact ⟨j + 1, by omega, by go_num, by rw [HE.out]; exact R, G⟩
            case measure => simp [intOf]; omega
          | true =>
            rw [hb] at hcell
            cases hr : retB c with
            | true =>
              have e : reachTo xs (j + 1) = bs := by rw [HST.out, if_pos (.inr hr)]
              have HE : Hid (reachTo xs (j + 1) = bs) := e
              clear p1 p2 z2 e hb
              go_wp2_with (first | (go_at_call 21; refine (retB_any _ _).mono ?_; rintro e w' ⟨rfl, rfl⟩) | (go_at_call 22; refine (jump_any _ _).mono ?_; rintro e w' ⟨rfl, rfl⟩))
              go_roundw
              case rel => exact ⟨j + 1, by omega, by go_num, by rw [HE.out]; exact R, G⟩
              case measure => simp [intOf]; omega
            | false =>
              have hj1 := z2 hr
              have HQ : Hid (¬ (bs.getD j false = false ∨ retB c = true)) := by
                show ¬ (bs.getD j false = false ∨ retB c = true)
                rw [hb, hr]; simp
              clear hb z2
              cases h5 : ((c : Int) == 5) with
              | true =>
                have hk := p1 h5
                have e : reachTo xs (j + 1) = bs.set (j + 1 + k) true := by rw [HST.out, if_neg HQ.out, if_pos h5]
                have s1 : (j : Int) + 1 + (k : Int) < (xs.length : Int) := by omega
                have s2 : (0 : Int) ≤ (j : Int) + 1 + (k : Int) := by omega
                have s3 : ((j : Int) + 1 + (k : Int)).toNat = j + 1 + k := by omega
                obtain ⟨u1, hu1⟩ := bl.cell (i := j + 1 + k) (by omega)
                have hf1 := bl.free (j + 1 + k)
                have R5 : (wr.setCell ⟨g, j + 1 + k, none⟩ (.bool true)).ownsRow w.heap.size 4 1 (.slice (some ⟨g, 0, none⟩) xs.length xs.length) xs.length ((reachTo xs (j + 1)).map Value.bool) := by
                  have := (R.stored (j + 1 + k) (.bool true)).1
                  rw [e, List.map_set]
                  exact this
                have G5 := grown_setCell G ⟨g, j + 1 + k, none⟩ (.bool true) (.inr hg)
                clear R G p1 p2 e bl
                go_wp2_with (first | (go_at_call 21; refine (retB_any _ _).mono ?_; rintro e w' ⟨rfl, rfl⟩) | (go_at_call 22; refine (jump_any _ _).mono ?_; rintro e w' ⟨rfl, rfl⟩))
                go_roundw
                case rel => exact ⟨j + 1, by omega, by go_num, R5, G5⟩
                case measure => simp [intOf]; omega
              | false =>
                cases hjb : jumpB c with
                | true =>
                  have hq := p2 hjb
                  have e : reachTo xs (j + 1) = (bs.set (j + 1 + t) true).set (j + 1 + f) true := by rw [HST.out, if_neg HQ.out, if_neg (by rw [h5]; simp), if_pos hjb]
                  have s1 : (j : Int) + 1 + (t : Int) < (xs.length : Int) := by omega
                  have s2 : (0 : Int) ≤ (j : Int) + 1 + (t : Int) := by omega
                  have s3 : ((j : Int) + 1 + (t : Int)).toNat = j + 1 + t := by omega
                  have s4 : (j : Int) + 1 + (f : Int) < (xs.length : Int) := by omega
                  have s5 : (0 : Int) ≤ (j : Int) + 1 + (f : Int) := by omega
                  have s6 : ((j : Int) + 1 + (f : Int)).toNat = j + 1 + f := by omega
                  obtain ⟨u1, hu1⟩ := bl.cell (i := j + 1 + t) (by omega)
                  have hf1 := bl.free (j + 1 + t)
                  have R4 := (R.stored (j + 1 + t) (.bool true)).1
                  have bl4 := (BlkN.ofRow R4).1
                  obtain ⟨u2, hu2⟩ := bl4.cell (i := j + 1 + f) (by omega)
                  have hf2 := bl4.free (j + 1 + f)
                  have R5 : ((wr.setCell ⟨g, j + 1 + t, none⟩ (.bool true)).setCell ⟨g, j + 1 + f, none⟩ (.bool true)).ownsRow w.heap.size 4 1 (.slice (some ⟨g, 0, none⟩) xs.length xs.length) xs.length ((reachTo xs (j + 1)).map Value.bool) := by
                    have := (R4.stored (j + 1 + f) (.bool true)).1
                    rw [e, List.map_set, List.map_set]
                    exact this
                  have G4 := grown_setCell G ⟨g, j + 1 + t, none⟩ (.bool true) (.inr hg)
                  have G5 := grown_setCell G4 ⟨g, j + 1 + f, none⟩ (.bool true) (.inr hg)
                  have y0 : (wr.setCell ⟨g, j + 1 + t, none⟩ (.bool true)).cell? ⟨b, o + j * 4 + 2, none⟩ = some (.int .u8 (f : Int)) := G4.cell c2 (by simp)
                  clear R R4 G4 p1 p2 e bl bl4
                  go_wp2_with (first | (go_at_call 21; refine (retB_any _ _).mono ?_; rintro e w' ⟨rfl, rfl⟩) | (go_at_call 22; refine (jump_any _ _).mono ?_; rintro e w' ⟨rfl, rfl⟩))
                  go_roundw
                  case rel => exact ⟨j + 1, by omega, by go_num, R5, G5⟩
                  case measure => simp [intOf]; omega
                | false =>
                  have e : reachTo xs (j + 1) = bs.set (j + 1) true := by rw [HST.out, if_neg HQ.out, if_neg (by rw [h5]; simp), if_neg (by rw [hjb]; simp)]
                  have s1 : (j : Int) + 1 < (xs.length : Int) := by omega
                  obtain ⟨u1, hu1⟩ := bl.cell (i := j + 1) (by omega)
                  have hf1 := bl.free (j + 1)
                  have R5 : (wr.setCell ⟨g, j + 1, none⟩ (.bool true)).ownsRow w.heap.size 4 1 (.slice (some ⟨g, 0, none⟩) xs.length xs.length) xs.length ((reachTo xs (j + 1)).map Value.bool) := by
                    have := (R.stored (j + 1) (.bool true)).1
                    rw [e, List.map_set]
                    exact this
                  have G5 := grown_setCell G ⟨g, j + 1, none⟩ (.bool true) (.inr hg)
                  clear R G p1 p2 e bl
                  go_wp2_with (first | (go_at_call 21; refine (retB_any _ _).mono ?_; rintro e w' ⟨rfl, rfl⟩) | (go_at_call 22; refine (jump_any _ _).mono ?_; rintro e w' ⟨rfl, rfl⟩))
                  go_roundw
                  case rel => exact ⟨j + 1, by omega, by go_num, R5, G5⟩
                  case measure => simp [intOf]; omega
        · obtain rfl : j = xs.length := by omega
          go_wp2
          go_ret2
          refine ⟨_, rfl, ?_, G⟩
          rw [HV.out]
          unfold BOwns
          rw [reachTo_len]
          exact R
  · have hV : reachV xs = [] := by rw [reachV, if_neg (by rw [hE]; exact hz)]
    rw [hV]
    have hzb : (E != 0) = true := by rw [bne_iff_ne]; exact hz
    clear hPE hE hV hz
    go_enter Try.func14, Try.ntmps14
    go_wp2_with fail
    refine (HC.out _ H.out).mono ?_
    rintro e w1 ⟨rfl, G1⟩
    go_wp2
    go_ret2
    exact ⟨_, rfl, World.ownsRow_nil _ _ _ _, G1⟩

end Go.Proofs.Ytibaednekfjonaa
