/-
  Package graph as landed: the numbers of the blocks.
-/
import Derived.Test.YtencoknpocipbaaLotP14
namespace Go.Proofs.Ytencoknpocipbaa
open Go.RowKit
set_option maxRecDepth 100000

def nv (n : Nat) : Value := .int .i64 (n : Int)
/-- How many blocks begin up to a place, the first left out. -/
def numN (bs : List Bool) : Nat → Nat
  | 0 => 0
  | i + 1 => numN bs i + (if bs.getD (i + 1) false = true then 1 else 0)
theorem numN_le (bs : List Bool) (i : Nat) : numN bs i ≤ i := by
  induction i with
  | zero => exact Nat.le_refl _
  | succ i ih => rw [numN]; split <;> omega
def numL (bs : List Bool) (N k : Nat) : List Nat := (List.range N).map fun i => if i < k then numN bs i else 0
theorem numL_len (bs : List Bool) (N k : Nat) : (numL bs N k).length = N := by simp [numL]
theorem numL_get {bs : List Bool} {N k i : Nat} (hi : i < N) (hk : i < k) : (numL bs N k)[i]? = some (numN bs i) := by
  rw [numL, List.getElem?_map, List.getElem?_range hi]
  simp [hk]
theorem numL_set {bs : List Bool} {N k : Nat} : (numL bs N k).set k (numN bs k) = numL bs N (k + 1) := by
  apply List.ext_getElem?
  intro i
  rw [List.getElem?_set]
  by_cases h : k = i
  · subst h
    rw [if_pos rfl, numL_len]
    by_cases hi : k < N
    · rw [if_pos hi, numL_get hi (by omega)]
    · rw [if_neg hi, List.getElem?_eq_none (by rw [numL_len]; omega)]
  · rw [if_neg h]
    by_cases hi : i < N
    · unfold numL
      rw [List.getElem?_map, List.getElem?_map, List.getElem?_range hi]
      simp only [Option.map_some, Option.some.injEq]
      by_cases hk : i < k
      · rw [if_pos hk, if_pos (by omega)]
      · rw [if_neg hk, if_neg (by omega)]
    · rw [List.getElem?_eq_none (by rw [numL_len]; omega), List.getElem?_eq_none (by rw [numL_len]; omega)]
theorem numL_one (bs : List Bool) (N : Nat) : numL bs N 1 = List.replicate N 0 := by
  apply List.ext_getElem?
  intro i
  by_cases hi : i < N
  · rw [numL, List.getElem?_map, List.getElem?_range hi, List.getElem?_replicate, if_pos hi]
    simp only [Option.map_some]
    split
    · have : i = 0 := by omega
      subst this
      rfl
    · rfl
  · rw [List.getElem?_eq_none (by rw [numL_len]; omega), List.getElem?_eq_none (by simp; omega)]

set_option maxHeartbeats 4000000 in
theorem numbers_any (a : Option Addr) (ca : Nat) (xs : List In) (w : World) (ha : CV w a (flat xs)) (hT : (checkV xs).2 = 0) :
    Calls Try.prog 30 #[.slice a xs.length ca] w fun e w' => ∃ v, e = .returned v ∧ w'.ownsRow w.heap.size 3 1 v (xs.length + 1) ((numL (begTo xs xs.length) (xs.length + 1) (xs.length + 1)).map nv) ∧ w.grownBy w' none := by
  obtain ⟨i0, hi, hz0, hz1, hz2⟩ := info_parts infoI3
  have CB := begins_any a ca xs w ha hT
  have hn := (taken hT).2.1
  have hlb := begTo_len xs xs.length
  clear ha hT
  generalize begTo xs xs.length = bs at *
  unfold BOwns at CB
  rw [hlb] at CB
  have hN : xs.length + 1 ≤ 4097 := by omega
  have hN0 : 1 ≤ xs.length + 1 := by omega
  generalize xs.length + 1 = N at *
  go_enter Try.func30, Try.ntmps30
  go_wp2_with fail
  refine CB.mono ?_
  rintro e w1 ⟨v, rfl, RB, K1⟩
  obtain ⟨gb, cb, rfl, hcb1, hcb2, hgb1, hgb2⟩ := owns_head RB (by omega)
  go_wp2_with (at_make; refine wpList_make_full _ rfl (.tmp 9) (.tmp 9) 40 rfl w.heap.size 3 i0 (.int .i64 0) 1 Try.underlying40 hi hz0 hz1 .i64 .i64 (N : Int) (N : Int) N rfl rfl rfl rfl ?q1 ?q2 ?q3 ?q4)
  case q1 => rw [hz2]; omega
  case q2 => unfold maxLen; omega
  case q3 => exact K1.size
  case q4 =>
    intro w2 h2 K2
    rw [toList_madeCells_one] at h2
    have R2 : w2.ownsRow w.heap.size 3 1 (.slice (some ⟨w1.heap.size, 0, none⟩) N N) N ((numL bs N 1).map nv) := by
      rw [numL_one, List.map_replicate]
      exact h2
    have RB2 := owns_keptNone RB K2
    have G2 := grown_trans K1 K2
    have hgg : w1.heap.size ≠ gb := by omega
    have hgw : w.heap.size ≤ w1.heap.size := K1.size
    clear h2 K2 RB K1
    generalize w1.heap.size = g at *
    go_wp2
    go_loopw [5] (fun i wr => ∃ k : Nat, 1 ≤ k ∧ k ≤ N ∧ i = .int .i64 k ∧ wr.ownsRow w.heap.size 3 1 (.slice (some ⟨g, 0, none⟩) N N) N ((numL bs N k).map nv) ∧ wr.ownsRow w.heap.size 4 1 (.slice (some ⟨gb, 0, none⟩) N cb) N (bs.map Value.bool) ∧ w.grownBy wr none) (fun i _ => N - (intOf i).toNat)
    case atStart => exact ⟨1, Nat.le_refl _, hN0, rfl, R2, RB2, G2⟩
    case round =>
      clear R2 RB2 G2
      obtain ⟨k, hk1, hk, rfl, R, RB, G⟩ := hrel
      by_cases hlt : k < N
      · have hl : (k : Int) < (N : Int) := by omega
        obtain ⟨m, rfl⟩ : ∃ m, k = m + 1 := ⟨k - 1, by omega⟩
        have cm : wr.cell? ⟨g, m, none⟩ = some (.int .i64 (numN bs m : Int)) := by
          have := R.cells (g := g) rfl m (nv (numN bs m)) (by rw [List.getElem?_map, numL_get (by omega) (by omega)]; rfl)
          rw [Addr.add_lit, Nat.zero_add] at this
          exact this
        have cb1 : wr.cell? ⟨gb, m + 1, none⟩ = some (.bool (bs.getD (m + 1) false)) := by
          have := RB.cells (g := gb) rfl (m + 1) (.bool (bs.getD (m + 1) false)) (by rw [List.getElem?_map, List.getD_eq_getElem?_getD, List.getElem?_eq_getElem (by omega)]; rfl)
          rw [Addr.add_lit, Nat.zero_add] at this
          exact this
        obtain ⟨u1, hu1⟩ := (BlkN.ofRow R).1.cell (i := m + 1) (by omega)
        have hf1 := (BlkN.ofRow R).1.free (m + 1)
        have hnm := numN_le bs m
        have HN : Hid (numN bs (m + 1) = numN bs m + (if bs.getD (m + 1) false = true then 1 else 0)) := rfl
        have HS : Hid ((numL bs N (m + 1)).set (m + 1) (numN bs (m + 1)) = numL bs N (m + 1 + 1)) := numL_set
        have R3 := (R.stored (m + 1) (.int .i64 (numN bs m : Int))).1
        have G3 := grown_trans_new G (grown_set1 wr ⟨g, m + 1, none⟩ (.int .i64 (numN bs m : Int))) (fun z e => by cases e; exact hgw)
        have RB3 := RB.kept (grown_set1 wr ⟨g, m + 1, none⟩ (.int .i64 (numN bs m : Int))) (.inr (by simp [Value.ownBlock]; omega))
        have cb3 : (wr.setCell ⟨g, m + 1, none⟩ (.int .i64 (numN bs m : Int))).cell? ⟨gb, m + 1, none⟩ = some (.bool (bs.getD (m + 1) false)) := (grown_set1 wr ⟨g, m + 1, none⟩ (.int .i64 (numN bs m : Int))).cell cb1 (by simp; omega)
        have hm1 : ((m + 1 : Nat) : Int) - 1 = (m : Int) := by omega
        have hm2 : (m : Int) < (N : Int) := by omega
        have cz : (wr.setCell ⟨g, m + 1, none⟩ (.int .i64 (numN bs m : Int))).cell? ⟨g, m + 1, none⟩ = some (.int .i64 (numN bs m : Int)) := by
          have := R3.cells (g := g) rfl (m + 1) (.int .i64 (numN bs m : Int)) (by rw [List.getElem?_set_self (by rw [List.length_map, numL_len]; omega)])
          rw [Addr.add_lit, Nat.zero_add] at this
          exact this
        have hf3 := (BlkN.ofRow R3).1.free (m + 1)
        have hl' : (m : Int) + 1 < (N : Int) := by omega
        go_upto_region 7 with fail
        generalize wr.setCell ⟨g, m + 1, none⟩ (.int .i64 (numN bs m : Int)) = w3 at *
        clear cm cb1 hu1 hf1 R RB G
        cases hb : bs.getD (m + 1) false with
        | false =>
          rw [hb] at cb3
          have HE : Hid (numN bs (m + 1) = numN bs m) := by
            show _ = _
            rw [HN.out, if_neg (by rw [hb]; simp)]
            rfl
          have R4 : w3.ownsRow w.heap.size 3 1 (.slice (some ⟨g, 0, none⟩) N N) N ((numL bs N (m + 1 + 1)).map nv) := by
            rw [← HS.out, HE.out, List.map_set]
            exact R3
          clear R3 HN HS HE
          go_wp2
          go_roundw
          case rel => exact ⟨m + 1 + 1, by omega, by omega, by go_num, R4, RB3, G3⟩
          case measure => simp [intOf]; omega
        | true =>
          rw [hb] at cb3
          have HE : Hid (numN bs (m + 1) = numN bs m + 1) := by
            show _ = _
            rw [HN.out, if_pos hb]
          have R4 : (w3.setCell ⟨g, m + 1, none⟩ (.int .i64 ((numN bs m : Int) + 1))).ownsRow w.heap.size 3 1 (.slice (some ⟨g, 0, none⟩) N N) N ((numL bs N (m + 1 + 1)).map nv) := by
            have := (R3.stored (m + 1) (.int .i64 ((numN bs m : Int) + 1))).1
            rw [List.set_set] at this
            rw [← HS.out, HE.out, List.map_set]
            exact this
          have K4 := grown_set1 w3 ⟨g, m + 1, none⟩ (.int .i64 ((numN bs m : Int) + 1))
          have G4 := grown_trans_new G3 K4 (fun z e => by cases e; exact hgw)
          have RB4 := RB3.kept K4 (.inr (by simp [Value.ownBlock]; omega))
          clear R3 HN HS HE RB3 G3 K4
          go_wp2
          go_roundw
          case rel => exact ⟨m + 1 + 1, by omega, by omega, by go_num, R4, RB4, G4⟩
          case measure => simp [intOf]; omega
      · have hl : ¬ (k : Int) < (N : Int) := by omega
        have hke : k = N := by omega
        subst hke
        go_wp2
        go_ret
        exact ⟨_, rfl, R, G⟩

end Go.Proofs.Ytencoknpocipbaa
