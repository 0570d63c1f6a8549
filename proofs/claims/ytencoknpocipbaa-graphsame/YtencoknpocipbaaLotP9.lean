/-
  Package graph as landed: a Code's instructions asked one by one; a copy of them. What a range over a function keeps. Package graph as landed: the parts of a Code.
-/
import Derived.Test.YtencoknpocipbaaGrC
import Derived.Test.YtencoknpocipbaaLotP3
import Derived.RangeFuncNested
import Derived.RangeFuncBound
import Derived.RangeFuncCalls
import Derived.RangeFuncLeaves
import Derived.RangeFuncBox
import Derived.Shelf.Abstract
import Derived.Shelf.RegionOpen
import Derived.WalkKit
import Derived.OwnWalkIn
import Derived.TacticsInMore
import Derived.LoopNIn
import Derived.LoopIn
import Derived.Test.YtencoknpocipbaaLotP2
namespace Go.Proofs.Ytencoknpocipbaa
open Go.RowKit
set_option maxRecDepth 100000

set_option maxHeartbeats 1000000 in
theorem index_any (a : Option Addr) (ca : Nat) (xs : List In) (w : World) (ha : CV w a (flat xs)) (hm : xs.length ≤ 9223372036854775806) :
    Calls Try.prog 97 #[.slice a xs.length ca, .func (.func 51) #[] #[]] w fun e w' => (∃ r : Int, e = .returned (.int .i64 r) ∧ decide (0 ≤ r) = xs.any leavesB) ∧ w.grownBy w' none := by
  have H : Hid (CV w a (flat xs)) := ha
  clear ha
  go_enter Try.func97, Try.ntmps97
  go_wp2
  go_loopw [8] (fun i wr => ∃ k : Nat, k ≤ xs.length ∧ i = .int .i64 k ∧ Hid (∀ j (hj : j < xs.length), j < k → leavesB xs[j] = false) ∧ w.grownBy wr none) (fun i _ => xs.length - (intOf i).toNat)
  case atStart => exact ⟨0, Nat.zero_le _, rfl, (fun j _ h => absurd h (by omega)), World.grownBy.refl _ _⟩
  case round =>
    obtain ⟨k, hk, rfl, HN, G⟩ := hrel
    by_cases hlt : k < xs.length
    · obtain ⟨b1, o1, rfl, h1⟩ := (H.out.keptNone G).insns hlt
      obtain ⟨c1, c2, c3, c4⟩ := h1 k hlt
      have HN2 : Hid (leavesB xs[k] = false → ∀ j (hj : j < xs.length), j < k + 1 → leavesB xs[j] = false) := fun h j hj hl => by
        by_cases e : j = k
        · subst e; exact h
        · exact HN.out j hj (by omega)
      have HY : Hid (leavesB xs[k] = true → xs.any leavesB = true) := fun h => List.any_eq_true.2 ⟨xs[k], List.getElem_mem hlt, h⟩
      clear h1 HN
      generalize xs[k] = x at *
      have hl : (k : Int) < (xs.length : Int) := by omega
      go_wp2_with fail
      refine (leaves_any x _).mono ?_
      rintro e w1 ⟨rfl, K⟩
      have G1 := grown_trans G K
      clear G K c1 c2 c3 c4
      cases hb : leavesB x with
      | true =>
        go_wp2
        go_ret
        exact ⟨⟨_, rfl, by rw [HY.out hb]; simp⟩, G1⟩
      | false =>
        go_wp2
        go_roundw
        case rel => exact ⟨k + 1, by omega, by go_num, HN2.out hb, G1⟩
        case measure => simp [intOf]; omega
    · have hl : ¬ (k : Int) < (xs.length : Int) := by omega
      go_wp2
      go_ret
      refine ⟨⟨_, rfl, ?_⟩, G⟩
      have : xs.any leavesB = false := by
        rw [List.any_eq_false]
        intro x hx
        obtain ⟨j, hj, rfl⟩ := List.getElem_of_mem hx
        rw [HN.out j hj (by omega)]
        simp
      rw [this]
      rfl

theorem contains_any (a : Option Addr) (ca : Nat) (xs : List In) (w : World) (ha : CV w a (flat xs)) (hm : xs.length ≤ 9223372036854775806) :
    Calls Try.prog 55 #[.slice a xs.length ca, .func (.func 51) #[] #[]] w fun e w' => e = .returned (.bool (xs.any leavesB)) ∧ w.grownBy w' none := by
  have C := index_any a ca xs w ha hm
  clear ha
  go_enter Try.func55, Try.ntmps55
  go_wp2_with fail
  refine C.mono ?_
  rintro e w1 ⟨⟨r, rfl, hr⟩, K⟩
  have HR : Hid (decide (0 ≤ r) = xs.any leavesB) := hr
  clear hr
  go_wp2
  go_ret
  exact ⟨ret_bool HR.out, K⟩

end Go.Proofs.Ytencoknpocipbaa

namespace Go.Proofs.Ytencoknpocipbaa
open Go.RowKit Go.Shelf
set_option maxRecDepth 100000

theorem cell_same {w w' : World} (a : Addr) (h : w'.heap[a.block]? = w.heap[a.block]?) : w'.cell? a = w.cell? a := by unfold World.cell?; rw [h]
/-- What a round keeps: all below n, and some blocks of cells. -/
def Kp (n : Nat) (S : Nat → Prop) (W W' : World) : Prop := Below n W W' ∧ ∀ k o, S k → W.heap[k]? = some o → o.isCells = true → W'.heap[k]? = some o

theorem Kp.refl (n : Nat) (S : Nat → Prop) (W : World) : Kp n S W W := ⟨Below.refl _ _, fun _ _ _ h _ => h⟩
theorem Kp.trans {n : Nat} {S : Nat → Prop} {A B C : World} (h : Kp n S A B) (k : Kp n S B C) : Kp n S A C := ⟨h.1.trans k.1, fun i o hi ho hc => k.2 i o hi (h.2 i o hi ho hc) hc⟩
theorem Kp.book {n : Nat} {S : Nat → Prop} {w : World} (hn : n ≤ w.heap.size) (W : World) (l : Nat) (o o' : Obj) (hl : w.heap.size ≤ l) (h : W.heap[l]? = some o) (hc : o.isCells = false) (hw : o.isWalk = false) : Kp n S W (W.putObj l o') :=
  ⟨belowK_b hn W l o o' hl h hc hw, fun k o2 _ h2 hc2 => by
    by_cases e : k = l
    · subst e; rw [h] at h2; cases h2; rw [hc] at hc2; cases hc2
    · exact (World.putObj_heap_other e).trans h2⟩
theorem Kp.cell {n : Nat} {S : Nat → Prop} {W W' : World} (K : Kp n S W W') {a : Addr} {v : Value} (hs : a.block < n ∨ S a.block) (h : W.cell? a = some v) : W'.cell? a = some v := by
  rcases hs with hs | hs
  · exact (K.1.cell hs).trans h
  · obtain ⟨o, ho, hc⟩ : ∃ o : Obj, W.heap[a.block]? = some o ∧ o.isCells = true := by
      unfold World.cell? at h
      cases ho : W.heap[a.block]? with
      | none => simp [ho] at h
      | some o => exact ⟨o, rfl, by cases o <;> simp_all [Obj.isCells]⟩
    have e := K.2 a.block o hs ho hc
    rw [cell_same a (e.trans ho.symm)]
    exact h
theorem Kp.drewN {n : Nat} {S : Nat → Prop} (W : World) (m : Nat) (hn : n ≤ W.heap.size) : Kp n S W (W.drewN m) :=
  ⟨(Below.refl _ _).grown (grown_drewN W m none) hn (by simp), fun k o _ h _ => ((grown_drewN W m none).block k (Array.getElem?_eq_some_iff.1 h).1 (by simp)).trans h⟩
theorem Kp.none {n : Nat} {S : Nat → Prop} {W W' : World} (G : W.grownBy W' none) (hn : n ≤ W.heap.size) : Kp n S W W' :=
  ⟨(Below.refl _ _).grown G hn (by simp), fun k o _ h _ => (G.block k (Array.getElem?_eq_some_iff.1 h).1 (by simp)).trans h⟩

theorem box_keep {X Y : World} {row : Option Nat} {B : Nat} {t : TypeId} {v : Value} (h : Boxed X B t v) (hg : X.grownBy Y row) (hr : ∀ r, row = some r → ∃ o : Obj, X.heap[r]? = some o ∧ o.isCells = false) : Boxed Y B t v :=
  h.kept hg (fun e => by
    obtain ⟨o, ho, hc⟩ := hr B e.symm
    unfold Boxed at h
    rw [h] at ho
    cases ho
    cases hc)

theorem box_away {W : World} {B b i : Nat} {t : TypeId} {v : Value} (u : Value) (h : Boxed W B t v) (hb : B ≠ b) : Boxed (W.setCell ⟨b, i, none⟩ u) B t v := by
  unfold Boxed at *
  rw [heap_setCell_other _ _ _ _ hb]
  exact h

theorem hnew (W : World) (o : Obj) (k : Nat) (h : W.heap.size = k) : (W.alloc o).heap[k]? = some o := by subst h; exact heap_alloc_new W o
theorem hkeep {W : World} {k : Nat} {o : Obj} (h : W.heap[k]? = some o) (o' : Obj) : (W.alloc o').heap[k]? = some o :=
  (by show (W.heap.push o')[k]? = some o; rw [Array.getElem?_push, if_neg (Nat.ne_of_lt (Array.getElem?_eq_some_iff.1 h).1)]; exact h)

theorem below_of {w W : World} (G : w.grownBy W none) : Below w.heap.size w W := (Below.refl _ _).grown G (Nat.le_refl _) (by simp)
theorem grown_of {w W : World} (h : Below w.heap.size w W) : w.grownBy W none := ⟨h.os, h.tape, h.output, h.size, fun k hk _ => h.block k hk⟩

end Go.Proofs.Ytencoknpocipbaa

namespace Go.Proofs.Ytencoknpocipbaa
open Go.RowKit Go.Shelf
set_option maxRecDepth 100000

attribute [local go_sem] Oper.semAt_some

set_option maxHeartbeats 1000000 in
theorem iclone_any (ad : Addr) (ca : Nat) (xs : List In) (w : World) (ha : CV w (some ad) (flat xs)) (hm : xs.length * 8 ≤ 140737488355328) :
    Calls Try.prog 57 #[.slice (some ad) xs.length ca] w fun e w' => ∃ v, e = .returned v ∧ IOwns w' w.heap.size v xs ∧ w.grownBy w' none := by
  obtain ⟨i0, hi, hz0, hz1, hz2⟩ := info_parts info46
  have H : Hid (CV w (some ad) (flat xs)) := ha
  have HNQ : ∀ W : World, (binOp .eql 22 (.slice (some ad) xs.length ca) (.slice none 0 0)).run Try.prog W = .ok (.bool false) W := fun W => by kernel_rfl
  clear ha
  go_enter Try.func57, Try.ntmps57
  go_wp2_with (at_builtin; refine wpList_append_cv rfl (.tmp 5) (.tmp 6) 22 rfl 46 i0 _ 4 8 Try.underlying22 hi hz0 hz1 hz2 rfl (by decide) w.heap.size _ 0 [] rfl ?q1 (some ad) xs.length ca (flat xs) rfl (flat_len xs) (by simp) ?q2 (flat_one xs) ?q3 ?q4 ?q5 ?q6)
  case q1 => exact World.ownsRow_made w #[] 0 (Nat.le_refl _) (Nat.zero_le _) rfl
  case q2 => exact H.out.keptNone (World.grownBy_alloc _ _ _)
  case q3 => unfold maxLen; omega
  case q4 => omega
  case q5 => simp
  case q6 =>
    intro v' w' h1 h2
    have G : w.grownBy w' none := grown_trans_new (World.grownBy_alloc w _ _) h2 (by intro x hx; simp [Value.ownBlock] at hx; omega)
    have O : IOwns w' w.heap.size v' xs := by simpa using h1
    clear h2 h1
    go_wp2
    go_ret
    exact ⟨v', rfl, O, G⟩

theorem chunk_any (v : Value) (m : Nat) (hm : 1 ≤ m) (w : World) (hv : v.oneCell' = true) :
    Calls Try.prog 56 #[v, .int .i64 (m : Int)] w fun e w' => e = .returned (.func (.func 98) #[] #[.pointer (some ⟨w.heap.size, 0, none⟩), .pointer (some ⟨w.heap.size + 1, 0, none⟩)]) ∧ w' = (w.alloc (.cells #[v] 22)).alloc (.cells #[.int .i64 (m : Int)] 3) := by
  have h1 : ¬ (m : Int) < 1 := by omega
  go_enter Try.func56, Try.ntmps56
  go_wp2
  go_ret
  exact ⟨rfl, rfl⟩

/-- A part: where it begins, and how long it is. -/
structure Ck (m N : Nat) where
  i : Nat
  l : Nat
  ok : 1 ≤ l ∧ l ≤ m ∧ i + l ≤ N
/-- The parts, in order. -/
def chunkL (m n : Nat) (hm : 1 ≤ m) : Nat → Nat → List (Ck m n)
  | 0, _ => []
  | f + 1, i => if h : i < n then ⟨i, min m (n - i), by omega⟩ :: chunkL m n hm f (i + m) else []
theorem chunkL_over (m n : Nat) (hm : 1 ≤ m) (f i : Nat) (h : ¬ i < n) : chunkL m n hm f i = [] := by cases f <;> simp [chunkL, h]
theorem chunkL_more (m n : Nat) (hm : 1 ≤ m) : ∀ f i, n ≤ f + i → i < n → ∀ L, min m (n - i) = L → ∀ ok, chunkL m n hm f i = ⟨i, L, ok⟩ :: chunkL m n hm (f - 1) (i + m)
  | 0, i, h, hi, _, _, _ => by omega
  | f + 1, i, h, hi, L, hL, ok => by subst hL; rw [chunkL, dif_pos hi, Nat.add_sub_cancel]
theorem chunkL_len (m n : Nat) (hm : 1 ≤ m) : ∀ f i, (chunkL m n hm f i).length ≤ f
  | 0, i => by simp [chunkL]
  | f + 1, i => by
    rw [chunkL]
    split
    · simp only [List.length_cons]
      have := chunkL_len m n hm f (i + m)
      omega
    · simp

abbrev encC {m N : Nat} (b o : Nat) (p : Ck m N) : Array Value := #[.slice (some ⟨b, o + p.i * 4, none⟩) p.l p.l]

set_option maxRecDepth 100000 in
set_option maxHeartbeats 2000000 in
theorem chunk1_in (n : Nat) (hn : 1 ≤ n) (l Bs Bm n₀ b o N ca m : Nat) (S : Nat → Prop) (hm : 1 ≤ m) (hm2 : m ≤ 4611686018427387904) (hN : N ≤ 4611686018427387904) (hca : N ≤ ca) (hS : S Bm ∨ Bm < n₀) (hSs : S Bs ∨ Bs < n₀) (J Jx : List (Ck m N) → World → Prop)
    (hY : ∀ pre x W, J pre W → pre.length < N → YieldAt Fence.wide (n - 1) Try.prog l (encC b o x) W fun e W' =>
      (e = .returned (.bool true) ∧ J (pre ++ [x]) W' ∧ Kp n₀ S W W') ∨ (e = .returned (.bool false) ∧ Jx (pre ++ [x]) W'))
    (W : World) (hJ : AbidesFrom W.heap.size J) (hBs : W.cell? ⟨Bs, 0, none⟩ = some (.slice (some ⟨b, o, none⟩) N ca)) (hBm : W.cell? ⟨Bm, 0, none⟩ = some (.int .i64 (m : Int))) (h0 : J [] W) :
    CallsIn Fence.wide n Try.prog 98 #[.func (.yield l) #[] #[], .pointer (some ⟨Bs, 0, none⟩), .pointer (some ⟨Bm, 0, none⟩)] W fun e W' => (∃ v, e = .returned v) ∧
      ((∃ ys, ys = chunkL m N hm N 0 ∧ J ys W') ∨ (∃ pre, pre <+: chunkL m N hm N 0 ∧ Jx pre W')) := by
  refine callsIn_of_wp Try.func98 rfl trivial ?_ rfl
  simp only [Try.ntmps98, List.size_toArray, List.length_cons, List.length_nil, Nat.reduceAdd, Nat.reduceSub, Array.replicate_succ, Array.replicate_zero, List.push_toArray, List.append_toArray, List.nil_append, List.cons_append]
  gi_wp2
  gi_loopw [4] (fun i wr => ∃ (pre : List (Ck m N)) (k : Nat), i = .int .i64 (k : Int) ∧ pre.length ≤ N ∧ pre.length ≤ k ∧ k ≤ N + m ∧ Hid (chunkL m N hm N 0 = pre ++ chunkL m N hm (N - pre.length) k) ∧ J pre wr ∧ wr.cell? ⟨Bm, 0, none⟩ = some (.int .i64 (m : Int)) ∧ wr.cell? ⟨Bs, 0, none⟩ = some (.slice (some ⟨b, o, none⟩) N ca) ∧ W.heap.size ≤ wr.heap.size) (fun i _ => N + 1 - (intOf i).toNat)
  case atStart => exact ⟨[], 0, rfl, Nat.zero_le _, Nat.zero_le _, by omega, (show chunkL m N hm N 0 = _ by simp), h0, hBm, hBs, Nat.le_refl _⟩
  case round =>
    clear h0 hBs hBm
    obtain ⟨pre, k, rfl, hp1, hp2, hk, HN, hJs, hcm, hcs, hsz⟩ := hrel
    by_cases hlt : k < N
    · have hl : (k : Int) < (N : Int) := by omega
      have hl2 : pre.length < N := by omega
      have hl3 : (k : Int) ≤ (N : Int) := by omega
      have hfol : Try.prog.follows Departure.mixedOrders = true := by kernel_rfl
      have hl4 : (k : Int) ≤ (ca : Int) := by omega
      have ha1 : (N : Int) ≤ (ca : Int) := by omega
      by_cases hmin : N - k < m
      · have hmin' : ((N - k : Nat) : Int) < (m : Int) := by omega
        have hLe : min m (N - k) = (N - k) := by omega
        have hsum : (k : Int) + (((N - k) : Nat) : Int) ≤ (N : Int) := by omega
        have hsum2 : (k : Int) + (((N - k) : Nat) : Int) ≤ (ca : Int) := by omega
        have hs0 : (k : Int) ≤ (k : Int) + (((N - k) : Nat) : Int) := by omega
        have hok : 1 ≤ (N - k) ∧ (N - k) ≤ m ∧ k + (N - k) ≤ N := by omega
        have HN3 : Hid (chunkL m N hm N 0 = (pre ++ [⟨k, (N - k), hok⟩]) ++ chunkL m N hm (N - (pre ++ [(⟨k, (N - k), hok⟩ : Ck m N)]).length) (k + m)) := by
          show _ = _
          rw [HN.out, chunkL_more m N hm _ k (by omega) hlt _ hLe hok]
          simp only [List.length_append, List.length_singleton, List.append_assoc, List.cons_append, List.nil_append, Nat.sub_sub]
        have HX : Hid (1 ≤ (N - k) ∧ k + (N - k) ≤ N) := ⟨by omega, by omega⟩
        gi_wp2
        gi_region_o
        gi_wp2
        have eL : ((k : Int) + (((N - k) : Nat) : Int)).toNat - k = (N - k) := by omega
        try rw [eL]
        generalize hLL : (N - k) = L at *
        have hJ1 : J pre (wr.drewN 1) := hJ pre wr _ none hJs (grown_drewN wr 1 none) (fun r e => by cases e)
        obtain ⟨fn, tmps, assign, body, hy, hR⟩ := hY pre ⟨k, L, hok⟩ (wr.drewN 1) hJ1 hl2
        dsimp only [encC] at hy
        have hcm1 : (wr.drewN 1).cell? ⟨Bm, 0, none⟩ = some (.int .i64 (m : Int)) := (grown_drewN wr 1 none).cell hcm (by simp)
        have hcs1 : (wr.drewN 1).cell? ⟨Bs, 0, none⟩ = some (.slice (some ⟨b, o, none⟩) N ca) := (grown_drewN wr 1 none).cell hcs (by simp)
        have hsz1 : W.heap.size ≤ (wr.drewN 1).heap.size := Nat.le_trans hsz (grown_drewN wr 1 none).size
        rw [show wr.drew = wr.drewN 1 from rfl]
        clear hJs hcm hcs HN hsz hJ1
        generalize wr.drewN 1 = wk at *
        rw [hy, Oper.uponIn_round]
        refine ⟨fun _ => hn, hR.mono ?_⟩
        rintro e W3 (⟨rfl, hJ3, hk3⟩ | ⟨rfl, hJx3⟩)
        · have hcm3 := hk3.cell (a := ⟨Bm, 0, none⟩) (hS.elim .inr .inl) hcm1
          have hcs3 := hk3.cell (a := ⟨Bs, 0, none⟩) (hSs.elim .inr .inl) hcs1
          have hsz3 : W.heap.size ≤ W3.heap.size := Nat.le_trans hsz1 hk3.1.size
          clear hcm1 hcs1 hsz1
          gi_wp2
          go_roundw
          case rel => exact ⟨pre ++ [⟨k, L, hok⟩], k + m, by simp, by simp; omega, by simp; omega, by omega, HN3, hJ3, hcm3, hcs3, hsz3⟩
          case measure => simp [intOf]; omega
        · gi_wp2
          refine bodyPost_ret (results_none rfl _ _ _) rfl ?_
          exact ⟨⟨_, rfl⟩, .inr ⟨pre ++ [⟨k, L, hok⟩], ⟨_, HN3.out.symm⟩, hJx3⟩⟩
      · have hmin' : ¬ ((N - k : Nat) : Int) < (m : Int) := by omega
        have hLe : min m (N - k) = m := by omega
        have hsum : (k : Int) + ((m : Nat) : Int) ≤ (N : Int) := by omega
        have hsum2 : (k : Int) + ((m : Nat) : Int) ≤ (ca : Int) := by omega
        have hs0 : (k : Int) ≤ (k : Int) + ((m : Nat) : Int) := by omega
        have hok : 1 ≤ m ∧ m ≤ m ∧ k + m ≤ N := by omega
        have HN3 : Hid (chunkL m N hm N 0 = (pre ++ [⟨k, m, hok⟩]) ++ chunkL m N hm (N - (pre ++ [(⟨k, m, hok⟩ : Ck m N)]).length) (k + m)) := by
          show _ = _
          rw [HN.out, chunkL_more m N hm _ k (by omega) hlt _ hLe hok]
          simp only [List.length_append, List.length_singleton, List.append_assoc, List.cons_append, List.nil_append, Nat.sub_sub]
        have HX : Hid (1 ≤ m ∧ k + m ≤ N) := ⟨by omega, by omega⟩
        gi_wp2
        gi_region_o
        gi_wp2
        have eL : ((k : Int) + ((m : Nat) : Int)).toNat - k = m := by omega
        try rw [eL]
        have hJ1 : J pre (wr.drewN 1) := hJ pre wr _ none hJs (grown_drewN wr 1 none) (fun r e => by cases e)
        obtain ⟨fn, tmps, assign, body, hy, hR⟩ := hY pre ⟨k, m, hok⟩ (wr.drewN 1) hJ1 hl2
        dsimp only [encC] at hy
        have hcm1 : (wr.drewN 1).cell? ⟨Bm, 0, none⟩ = some (.int .i64 (m : Int)) := (grown_drewN wr 1 none).cell hcm (by simp)
        have hcs1 : (wr.drewN 1).cell? ⟨Bs, 0, none⟩ = some (.slice (some ⟨b, o, none⟩) N ca) := (grown_drewN wr 1 none).cell hcs (by simp)
        have hsz1 : W.heap.size ≤ (wr.drewN 1).heap.size := Nat.le_trans hsz (grown_drewN wr 1 none).size
        rw [show wr.drew = wr.drewN 1 from rfl]
        clear hJs hcm hcs HN hsz hJ1
        generalize wr.drewN 1 = wk at *
        rw [hy, Oper.uponIn_round]
        refine ⟨fun _ => hn, hR.mono ?_⟩
        rintro e W3 (⟨rfl, hJ3, hk3⟩ | ⟨rfl, hJx3⟩)
        · have hcm3 := hk3.cell (a := ⟨Bm, 0, none⟩) (hS.elim .inr .inl) hcm1
          have hcs3 := hk3.cell (a := ⟨Bs, 0, none⟩) (hSs.elim .inr .inl) hcs1
          have hsz3 : W.heap.size ≤ W3.heap.size := Nat.le_trans hsz1 hk3.1.size
          clear hcm1 hcs1 hsz1
          gi_wp2
          go_roundw
          case rel => exact ⟨pre ++ [⟨k, m, hok⟩], k + m, by simp, by simp; omega, by simp; omega, by omega, HN3, hJ3, hcm3, hcs3, hsz3⟩
          case measure => simp [intOf]; omega
        · gi_wp2
          refine bodyPost_ret (results_none rfl _ _ _) rfl ?_
          exact ⟨⟨_, rfl⟩, .inr ⟨pre ++ [⟨k, m, hok⟩], ⟨_, HN3.out.symm⟩, hJx3⟩⟩
    · have hl : ¬ (k : Int) < (N : Int) := by omega
      have HN2 : Hid (pre = chunkL m N hm N 0) := by
        have := HN.out
        rw [chunkL_over _ _ _ _ _ hlt, List.append_nil] at this
        exact this.symm
      gi_wp2
      go_end0
      exact ⟨⟨_, rfl⟩, .inl (by rw [← HN2.out]; exact hJs)⟩

/-- The iterator over the parts. -/
theorem chunk_stops (n : Nat) (hn : 1 ≤ n) (Bs Bm n₀ b o N ca m : Nat) (S : Nat → Prop) (hm : 1 ≤ m) (hm2 : m ≤ 4611686018427387904) (hN : N ≤ 4611686018427387904) (hca : N ≤ ca) (hS : S Bm ∨ Bm < n₀) (hSs : S Bs ∨ Bs < n₀) (w : World)
    (hBs : w.cell? ⟨Bs, 0, none⟩ = some (.slice (some ⟨b, o, none⟩) N ca)) (hBm : w.cell? ⟨Bm, 0, none⟩ = some (.int .i64 (m : Int))) :
    SeqStopsK Fence.wide n Try.prog 98 #[.pointer (some ⟨Bs, 0, none⟩), .pointer (some ⟨Bm, 0, none⟩)] (encC b o) (Kp n₀ S) (fun ys => ys = chunkL m N hm N 0) (fun pre => pre <+: chunkL m N hm N 0) N w := fun l J Jx W hW hJ _ hY h0 => by
  have lt : ∀ {a : Addr} {v : Value}, w.cell? a = some v → a.block < w.heap.size := fun {a v} h => by
    by_cases hb : a.block < w.heap.size
    · exact hb
    · unfold World.cell? at h
      rw [Array.getElem?_eq_none (by omega)] at h
      simp at h
  exact chunk1_in n hn l Bs Bm n₀ b o N ca m S hm hm2 hN hca hS hSs J Jx hY W hJ ((hW.cell (p := ⟨Bs, 0, none⟩) (lt hBs)).trans hBs) ((hW.cell (p := ⟨Bm, 0, none⟩) (lt hBm)).trans hBm) h0

end Go.Proofs.Ytencoknpocipbaa
