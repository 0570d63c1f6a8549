/-
  Package graph as landed: the numbers of the blocks. Package graph as landed: a Code's instructions asked one by one; a copy of them. What a range over a function keeps.
-/
import Derived.Test.YthffbogejcbdiaaLotP11
import Derived.Test.YthffbogejcbdiaaGrC
import Derived.Test.YthffbogejcbdiaaLotP3
import Derived.RangeFuncNested
import Derived.RangeFuncBound
import Derived.RangeFuncCalls
import Derived.RangeFuncLeaves
import Derived.RangeFuncBox
import Derived.Shelf.Abstract
import Derived.Shelf.RegionOpen
import Derived.WalkKit
import Derived.OwnWalkIn
import Derived.TacticsInMore
import Derived.LoopNIn
import Derived.LoopIn
import Derived.Test.YthffbogejcbdiaaLotP2
namespace Go.Proofs.Ythffbogejcbdiaa
open Go.RowKit
set_option maxRecDepth 100000

def nv (n : Nat) : Value := .int .i64 (n : Int)
/-- How many blocks begin up to a place, the first left out. -/
def numN (bs : List Bool) : Nat → Nat
  | 0 => 0
  | i + 1 => numN bs i + (if bs.getD (i + 1) false = true then 1 else 0)
theorem numN_le (bs : List Bool) (i : Nat) : numN bs i ≤ i := by
  induction i with
  | zero => exact Nat.le_refl _
  | succ i ih => rw [numN]; split <;> omega
def numL (bs : List Bool) (N k : Nat) : List Nat := (List.range N).map fun i => if i < k then numN bs i else 0
theorem numL_len (bs : List Bool) (N k : Nat) : (numL bs N k).length = N := by simp [numL]
theorem numL_get {bs : List Bool} {N k i : Nat} (hi : i < N) (hk : i < k) : (numL bs N k)[i]? = some (numN bs i) := by
  rw [numL, List.getElem?_map, List.getElem?_range hi]
  simp [hk]
theorem numL_set {bs : List Bool} {N k : Nat} : (numL bs N k).set k (numN bs k) = numL bs N (k + 1) := by
  apply List.ext_getElem?
  intro i
  rw [List.getElem?_set]
  by_cases h : k = i
  · subst h
    rw [if_pos rfl, numL_len]
    by_cases hi : k < N
    · rw [if_pos hi, numL_get hi (by omega)]
    · rw [if_neg hi, List.getElem?_eq_none (by rw [numL_len]; omega)]
  · rw [if_neg h]
    by_cases hi : i < N
    · unfold numL
      rw [List.getElem?_map, List.getElem?_map, List.getElem?_range hi]
      simp only [Option.map_some, Option.some.injEq]
      by_cases hk : i < k
      · rw [if_pos hk, if_pos (by omega)]
      · rw [if_neg hk, if_neg (by omega)]
    · rw [List.getElem?_eq_none (by rw [numL_len]; omega), List.getElem?_eq_none (by rw [numL_len]; omega)]
theorem numL_one (bs : List Bool) (N : Nat) : numL bs N 1 = List.replicate N 0 := by
  apply List.ext_getElem?
  intro i
  by_cases hi : i < N
  · rw [numL, List.getElem?_map, List.getElem?_range hi, List.getElem?_replicate, if_pos hi]
    simp only [Option.map_some]
    split
    · have : i = 0 := by omega
      subst this
      rfl
    · rfl
  · rw [List.getElem?_eq_none (by rw [numL_len]; omega), List.getElem?_eq_none (by simp; omega)]

set_option maxHeartbeats 4000000 in
theorem numbers_any (a : Option Addr) (ca : Nat) (xs : List In) (w : World) (ha : CV w a (flat xs)) (hT : (checkV xs).2 = 0) :
    Calls Try.prog 28 #[.slice a xs.length ca] w fun e w' => ∃ v, e = .returned v ∧ w'.ownsRow w.heap.size 3 1 v (xs.length + 1) ((numL (begTo xs xs.length) (xs.length + 1) (xs.length + 1)).map nv) ∧ w.grownBy w' none := by
  obtain ⟨i0, hi, hz0, hz1, hz2⟩ := info_parts info3
  have CB := begins_any a ca xs w ha hT
  have hn := (taken hT).2.1
  have hlb := begTo_len xs xs.length
  clear ha hT
  generalize begTo xs xs.length = bs at *
  unfold BOwns at CB
  rw [hlb] at CB
  have hN : xs.length + 1 ≤ 4097 := by omega
  have hN0 : 1 ≤ xs.length + 1 := by omega
  generalize xs.length + 1 = N at *
  go_enter Try.func28, Try.ntmps28
  go_wp2_with fail
  refine CB.mono ?_
  rintro e w1 ⟨v, rfl, RB, K1⟩
  obtain ⟨gb, cb, rfl, hcb1, hcb2, hgb1, hgb2⟩ := owns_head RB (by omega)
  go_wp2_with (at_make; refine wpList_make_full _ rfl (.tmp 9) (.tmp 9) 40 rfl w.heap.size 3 i0 (.int .i64 0) 1 Try.underlying40 hi hz0 hz1 .i64 .i64 (N : Int) (N : Int) N rfl rfl rfl rfl ?q1 ?q2 ?q3 ?q4)
  case q1 => rw [hz2]; omega
  case q2 => unfold maxLen; omega
  case q3 => exact K1.size
  case q4 =>
    intro w2 h2 K2
    rw [toList_madeCells_one] at h2
    have R2 : w2.ownsRow w.heap.size 3 1 (.slice (some ⟨w1.heap.size, 0, none⟩) N N) N ((numL bs N 1).map nv) := by
      rw [numL_one, List.map_replicate]
      exact h2
    have RB2 := owns_keptNone RB K2
    have G2 := grown_trans K1 K2
    have hgg : w1.heap.size ≠ gb := by omega
    have hgw : w.heap.size ≤ w1.heap.size := K1.size
    clear h2 K2 RB K1
    generalize w1.heap.size = g at *
    go_wp2
    go_loopw [5] (fun i wr => ∃ k : Nat, 1 ≤ k ∧ k ≤ N ∧ i = .int .i64 k ∧ wr.ownsRow w.heap.size 3 1 (.slice (some ⟨g, 0, none⟩) N N) N ((numL bs N k).map nv) ∧ wr.ownsRow w.heap.size 4 1 (.slice (some ⟨gb, 0, none⟩) N cb) N (bs.map Value.bool) ∧ w.grownBy wr none) (fun i _ => N - (intOf i).toNat)
    case atStart => exact ⟨1, Nat.le_refl _, hN0, rfl, R2, RB2, G2⟩
    case round =>
      clear R2 RB2 G2
      obtain ⟨k, hk1, hk, rfl, R, RB, G⟩ := hrel
      by_cases hlt : k < N
      · have hl : (k : Int) < (N : Int) := by omega
        obtain ⟨m, rfl⟩ : ∃ m, k = m + 1 := ⟨k - 1, by omega⟩
        have cm : wr.cell? ⟨g, m, none⟩ = some (.int .i64 (numN bs m : Int)) := by
          have := R.cells (g := g) rfl m (nv (numN bs m)) (by rw [List.getElem?_map, numL_get (by omega) (by omega)]; rfl)
          rw [Addr.add_lit, Nat.zero_add] at this
          exact this
        have cb1 : wr.cell? ⟨gb, m + 1, none⟩ = some (.bool (bs.getD (m + 1) false)) := by
          have := RB.cells (g := gb) rfl (m + 1) (.bool (bs.getD (m + 1) false)) (by rw [List.getElem?_map, List.getD_eq_getElem?_getD, List.getElem?_eq_getElem (by omega)]; rfl)
          rw [Addr.add_lit, Nat.zero_add] at this
          exact this
        obtain ⟨u1, hu1⟩ := (BlkN.ofRow R).1.cell (i := m + 1) (by omega)
        have hf1 := (BlkN.ofRow R).1.free (m + 1)
        have hnm := numN_le bs m
        have HN : Hid (numN bs (m + 1) = numN bs m + (if bs.getD (m + 1) false = true then 1 else 0)) := rfl
        have HS : Hid ((numL bs N (m + 1)).set (m + 1) (numN bs (m + 1)) = numL bs N (m + 1 + 1)) := numL_set
        have R3 := (R.stored (m + 1) (.int .i64 (numN bs m : Int))).1
        have G3 := grown_trans_new G (grown_set1 wr ⟨g, m + 1, none⟩ (.int .i64 (numN bs m : Int))) (fun z e => by cases e; exact hgw)
        have RB3 := RB.kept (grown_set1 wr ⟨g, m + 1, none⟩ (.int .i64 (numN bs m : Int))) (.inr (by simp [Value.ownBlock]; omega))
        have cb3 : (wr.setCell ⟨g, m + 1, none⟩ (.int .i64 (numN bs m : Int))).cell? ⟨gb, m + 1, none⟩ = some (.bool (bs.getD (m + 1) false)) := (grown_set1 wr ⟨g, m + 1, none⟩ (.int .i64 (numN bs m : Int))).cell cb1 (by simp; omega)
        have hm1 : ((m + 1 : Nat) : Int) - 1 = (m : Int) := by omega
        have hm2 : (m : Int) < (N : Int) := by omega
        have cz : (wr.setCell ⟨g, m + 1, none⟩ (.int .i64 (numN bs m : Int))).cell? ⟨g, m + 1, none⟩ = some (.int .i64 (numN bs m : Int)) := by
          have := R3.cells (g := g) rfl (m + 1) (.int .i64 (numN bs m : Int)) (by rw [List.getElem?_set_self (by rw [List.length_map, numL_len]; omega)])
          rw [Addr.add_lit, Nat.zero_add] at this
          exact this
        have hf3 := (BlkN.ofRow R3).1.free (m + 1)
        have hl' : (m : Int) + 1 < (N : Int) := by omega
        go_upto_region 7 with fail
        generalize wr.setCell ⟨g, m + 1, none⟩ (.int .i64 (numN bs m : Int)) = w3 at *
        clear cm cb1 hu1 hf1 R RB G
        cases hb : bs.getD (m + 1) false with
        | false =>
          rw [hb] at cb3
          have HE : Hid (numN bs (m + 1) = numN bs m) := by
            show _ = _
            rw [HN.out, if_neg (by rw [hb]; simp)]
            rfl
          have R4 : w3.ownsRow w.heap.size 3 1 (.slice (some ⟨g, 0, none⟩) N N) N ((numL bs N (m + 1 + 1)).map nv) := by
            rw [← HS.out, HE.out, List.map_set]
            exact R3
          clear R3 HN HS HE
          go_wp2
          go_roundw
          case rel => exact ⟨m + 1 + 1, by omega, by omega, by go_num, R4, RB3, G3⟩
          case measure => simp [intOf]; omega
        | true =>
          rw [hb] at cb3
          have HE : Hid (numN bs (m + 1) = numN bs m + 1) := by
            show _ = _
            rw [HN.out, if_pos hb]
          have R4 : (w3.setCell ⟨g, m + 1, none⟩ (.int .i64 ((numN bs m : Int) + 1))).ownsRow w.heap.size 3 1 (.slice (some ⟨g, 0, none⟩) N N) N ((numL bs N (m + 1 + 1)).map nv) := by
            have := (R3.stored (m + 1) (.int .i64 ((numN bs m : Int) + 1))).1
            rw [List.set_set] at this
            rw [← HS.out, HE.out, List.map_set]
            exact this
          have K4 := grown_set1 w3 ⟨g, m + 1, none⟩ (.int .i64 ((numN bs m : Int) + 1))
          have G4 := grown_trans_new G3 K4 (fun z e => by cases e; exact hgw)
          have RB4 := RB3.kept K4 (.inr (by simp [Value.ownBlock]; omega))
          clear R3 HN HS HE RB3 G3 K4
          go_wp2
          go_roundw
          case rel => exact ⟨m + 1 + 1, by omega, by omega, by go_num, R4, RB4, G4⟩
          case measure => simp [intOf]; omega
      · have hl : ¬ (k : Int) < (N : Int) := by omega
        have hke : k = N := by omega
        subst hke
        go_wp2
        go_ret
        exact ⟨_, rfl, R, G⟩

end Go.Proofs.Ythffbogejcbdiaa

namespace Go.Proofs.Ythffbogejcbdiaa
open Go.RowKit
set_option maxRecDepth 100000

set_option maxHeartbeats 1000000 in
theorem index_any (a : Option Addr) (ca : Nat) (xs : List In) (w : World) (ha : CV w a (flat xs)) (hm : xs.length ≤ 9223372036854775806) :
    Calls Try.prog 94 #[.slice a xs.length ca, .func (.func 48) #[] #[]] w fun e w' => (∃ r : Int, e = .returned (.int .i64 r) ∧ decide (0 ≤ r) = xs.any leavesB) ∧ w.grownBy w' none := by
  have H : Hid (CV w a (flat xs)) := ha
  clear ha
  go_enter Try.func94, Try.ntmps94
  go_wp2
  go_loopw [8] (fun i wr => ∃ k : Nat, k ≤ xs.length ∧ i = .int .i64 k ∧ Hid (∀ j (hj : j < xs.length), j < k → leavesB xs[j] = false) ∧ w.grownBy wr none) (fun i _ => xs.length - (intOf i).toNat)
  case atStart => exact ⟨0, Nat.zero_le _, rfl, (fun j _ h => absurd h (by omega)), World.grownBy.refl _ _⟩
  case round =>
    obtain ⟨k, hk, rfl, HN, G⟩ := hrel
    by_cases hlt : k < xs.length
    · obtain ⟨b1, o1, rfl, h1⟩ := (H.out.keptNone G).insns hlt
      obtain ⟨c1, c2, c3, c4⟩ := h1 k hlt
      have HN2 : Hid (leavesB xs[k] = false → ∀ j (hj : j < xs.length), j < k + 1 → leavesB xs[j] = false) := fun h j hj hl => by
        by_cases e : j = k
        · subst e; exact h
        · exact HN.out j hj (by omega)
      have HY : Hid (leavesB xs[k] = true → xs.any leavesB = true) := fun h => List.any_eq_true.2 ⟨xs[k], List.getElem_mem hlt, h⟩
      clear h1 HN
      generalize xs[k] = x at *
      have hl : (k : Int) < (xs.length : Int) := by omega
      go_wp2_with fail
      refine (leaves_any x _).mono ?_
      rintro e w1 ⟨rfl, K⟩
      have G1 := grown_trans G K
      clear G K c1 c2 c3 c4
      cases hb : leavesB x with
      | true =>
        go_wp2
        go_ret
        exact ⟨⟨_, rfl, by rw [HY.out hb]; simp⟩, G1⟩
      | false =>
        go_wp2
        go_roundw
        case rel => exact ⟨k + 1, by omega, by go_num, HN2.out hb, G1⟩
        case measure => simp [intOf]; omega
    · have hl : ¬ (k : Int) < (xs.length : Int) := by omega
      go_wp2
      go_ret
      refine ⟨⟨_, rfl, ?_⟩, G⟩
      have : xs.any leavesB = false := by
        rw [List.any_eq_false]
        intro x hx
        obtain ⟨j, hj, rfl⟩ := List.getElem_of_mem hx
        rw [HN.out j hj (by omega)]
        simp
      rw [this]
      rfl

theorem contains_any (a : Option Addr) (ca : Nat) (xs : List In) (w : World) (ha : CV w a (flat xs)) (hm : xs.length ≤ 9223372036854775806) :
    Calls Try.prog 52 #[.slice a xs.length ca, .func (.func 48) #[] #[]] w fun e w' => e = .returned (.bool (xs.any leavesB)) ∧ w.grownBy w' none := by
  have C := index_any a ca xs w ha hm
  clear ha
  go_enter Try.func52, Try.ntmps52
  go_wp2_with fail
  refine C.mono ?_
  rintro e w1 ⟨⟨r, rfl, hr⟩, K⟩
  have HR : Hid (decide (0 ≤ r) = xs.any leavesB) := hr
  clear hr
  go_wp2
  go_ret
  exact ⟨ret_bool HR.out, K⟩

end Go.Proofs.Ythffbogejcbdiaa

namespace Go.Proofs.Ythffbogejcbdiaa
open Go.RowKit Go.Shelf
set_option maxRecDepth 100000

theorem cell_same {w w' : World} (a : Addr) (h : w'.heap[a.block]? = w.heap[a.block]?) : w'.cell? a = w.cell? a := by unfold World.cell?; rw [h]
/-- What a round keeps: all below n, and some blocks of cells. -/
def Kp (n : Nat) (S : Nat → Prop) (W W' : World) : Prop := Below n W W' ∧ ∀ k o, S k → W.heap[k]? = some o → o.isCells = true → W'.heap[k]? = some o

theorem Kp.refl (n : Nat) (S : Nat → Prop) (W : World) : Kp n S W W := ⟨Below.refl _ _, fun _ _ _ h _ => h⟩
theorem Kp.trans {n : Nat} {S : Nat → Prop} {A B C : World} (h : Kp n S A B) (k : Kp n S B C) : Kp n S A C := ⟨h.1.trans k.1, fun i o hi ho hc => k.2 i o hi (h.2 i o hi ho hc) hc⟩
theorem Kp.book {n : Nat} {S : Nat → Prop} {w : World} (hn : n ≤ w.heap.size) (W : World) (l : Nat) (o o' : Obj) (hl : w.heap.size ≤ l) (h : W.heap[l]? = some o) (hc : o.isCells = false) (hw : o.isWalk = false) : Kp n S W (W.putObj l o') :=
  ⟨belowK_b hn W l o o' hl h hc hw, fun k o2 _ h2 hc2 => by
    by_cases e : k = l
    · subst e; rw [h] at h2; cases h2; rw [hc] at hc2; cases hc2
    · exact (World.putObj_heap_other e).trans h2⟩
theorem Kp.cell {n : Nat} {S : Nat → Prop} {W W' : World} (K : Kp n S W W') {a : Addr} {v : Value} (hs : a.block < n ∨ S a.block) (h : W.cell? a = some v) : W'.cell? a = some v := by
  rcases hs with hs | hs
  · exact (K.1.cell hs).trans h
  · obtain ⟨o, ho, hc⟩ : ∃ o : Obj, W.heap[a.block]? = some o ∧ o.isCells = true := by
      unfold World.cell? at h
      cases ho : W.heap[a.block]? with
      | none => simp [ho] at h
      | some o => exact ⟨o, rfl, by cases o <;> simp_all [Obj.isCells]⟩
    have e := K.2 a.block o hs ho hc
    rw [cell_same a (e.trans ho.symm)]
    exact h
theorem Kp.drewN {n : Nat} {S : Nat → Prop} (W : World) (m : Nat) (hn : n ≤ W.heap.size) : Kp n S W (W.drewN m) :=
  ⟨(Below.refl _ _).grown (grown_drewN W m none) hn (by simp), fun k o _ h _ => ((grown_drewN W m none).block k (Array.getElem?_eq_some_iff.1 h).1 (by simp)).trans h⟩
theorem Kp.none {n : Nat} {S : Nat → Prop} {W W' : World} (G : W.grownBy W' none) (hn : n ≤ W.heap.size) : Kp n S W W' :=
  ⟨(Below.refl _ _).grown G hn (by simp), fun k o _ h _ => (G.block k (Array.getElem?_eq_some_iff.1 h).1 (by simp)).trans h⟩

theorem box_keep {X Y : World} {row : Option Nat} {B : Nat} {t : TypeId} {v : Value} (h : Boxed X B t v) (hg : X.grownBy Y row) (hr : ∀ r, row = some r → ∃ o : Obj, X.heap[r]? = some o ∧ o.isCells = false) : Boxed Y B t v :=
  h.kept hg (fun e => by
    obtain ⟨o, ho, hc⟩ := hr B e.symm
    unfold Boxed at h
    rw [h] at ho
    cases ho
    cases hc)

theorem box_away {W : World} {B b i : Nat} {t : TypeId} {v : Value} (u : Value) (h : Boxed W B t v) (hb : B ≠ b) : Boxed (W.setCell ⟨b, i, none⟩ u) B t v := by
  unfold Boxed at *
  rw [heap_setCell_other _ _ _ _ hb]
  exact h

theorem hnew (W : World) (o : Obj) (k : Nat) (h : W.heap.size = k) : (W.alloc o).heap[k]? = some o := by subst h; exact heap_alloc_new W o
theorem hkeep {W : World} {k : Nat} {o : Obj} (h : W.heap[k]? = some o) (o' : Obj) : (W.alloc o').heap[k]? = some o :=
  (by show (W.heap.push o')[k]? = some o; rw [Array.getElem?_push, if_neg (Nat.ne_of_lt (Array.getElem?_eq_some_iff.1 h).1)]; exact h)

theorem below_of {w W : World} (G : w.grownBy W none) : Below w.heap.size w W := (Below.refl _ _).grown G (Nat.le_refl _) (by simp)
theorem grown_of {w W : World} (h : Below w.heap.size w W) : w.grownBy W none := ⟨h.os, h.tape, h.output, h.size, fun k hk _ => h.block k hk⟩

end Go.Proofs.Ythffbogejcbdiaa
