/-
  The program's own Get. Package addr: the iterators over a text's parts and over an address's groups.
-/
import Derived.Test.YtbdmpjnlgdahmabGreatDoorLotP2
import Derived.RangeFuncNested
import Derived.RangeFuncBound
import Derived.RangeFuncCalls
import Derived.RangeFuncLeaves
import Derived.RangeFuncBox
import Derived.Shelf.Abstract
import Derived.Shelf.RegionOpen
import Derived.WalkKit
import Derived.OwnWalkIn
import Derived.TacticsInMore
import Derived.LoopNIn
import Derived.LoopIn
import Derived.Test.YtbdmpjnlgdahmabGreatDoorLotP21
import Derived.Test.YtbdmpjnlgdahmabGreatDoorLotP20
namespace Go.Proofs.YtbdmpjnlgdahmabGreatDoor
open Go.RowKit
set_option maxRecDepth 100000

set_option maxHeartbeats 400000 in
theorem holds_any (a : Option Addr) (ca n : Nat) (p s : Int) (w : World) (hn : n ≤ 140737488355328) :
    Calls Tryz.prog 106 #[.slice a n ca, .int .i64 p, .int .i64 s] w fun e w' => e = .returned (.bool (okB n p s)) ∧ w = w' := by
  by_cases h : s = 1 ∨ s = 2 ∨ s = 4
  · rcases h with rfl | rfl | rfl
    all_goals
      go_enter Tryz.func106, Tryz.ntmps106
      go_wp2
      · go_ret
        exact ⟨ret_bool (okB_of (by omega)), rfl⟩
      · go_ret
        exact ⟨ret_bool (okB_no (by omega)), rfl⟩
  · have h1 : (s != 1) = true := by rw [bne_iff_ne]; omega
    have h2 : (s != 2) = true := by rw [bne_iff_ne]; omega
    have h3 : (s != 4) = true := by rw [bne_iff_ne]; omega
    go_enter Tryz.func106, Tryz.ntmps106
    go_wp2
    go_ret
    exact ⟨ret_bool (okB_no (by omega)), rfl⟩

set_option maxHeartbeats 400000 in
theorem get_any (a : Option Addr) (ca : Nat) (xs : List UInt8) (p s : Int) (w : World) (ha : Cells w a xs) (hn : xs.length ≤ 140737488355328) :
    Calls Tryz.prog 100 #[.slice a xs.length ca, .int .i64 p, .int .i64 s] w fun e w' => e = .returned (.tuple #[.int .u32 (getV xs p s), .bool (okB xs.length p s)]) ∧ w = w' := by
  cases hok : okB xs.length p s with
  | false =>
    go_enter Tryz.func100, Tryz.ntmps100
    go_wp2_with (go_at_call 106; refine (holds_any a ca xs.length p s _ hn).mono ?_; rintro e w' ⟨rfl, rfl⟩)
    go_ret2
    simp [getV, hok]
  | true =>
    have hy := okB_yes hok
    obtain ⟨P, rfl⟩ := Int.eq_ofNat_of_zero_le hy.2.1
    obtain ⟨S, rfl⟩ : ∃ S : Nat, s = S := ⟨s.toNat, by omega⟩
    have hS : S = 1 ∨ S = 2 ∨ S = 4 := by omega
    have hP : P + S ≤ xs.length := by omega
    clear hy
    go_enter Tryz.func100, Tryz.ntmps100
    go_wp2_with (go_at_call 106; refine (holds_any a ca xs.length P S _ hn).mono ?_; rintro e w' ⟨rfl, rfl⟩)
    go_loop [8, 16, 9] (fun v i _ => ∃ k : Nat, k ≤ S ∧ i = .int .i64 k ∧ v = .int .u32 (numAt xs P k)) (fun _ i _ => S - (intOf i).toNat)
    case atStart => exact ⟨0, Nat.zero_le _, rfl, rfl⟩
    case round =>
      obtain ⟨k, hk, rfl, rfl⟩ := hrel
      by_cases hlt : k < S
      · obtain ⟨b, o, rfl, h1⟩ := ha.addr (k := P + k) (by omega)
        have c1 := h1 (P + k) (by omega)
        clear ha h1
        go_wp2
        go_round
        case rel => exact ⟨k + 1, by omega, by go_num, numAt_step xs P k (by omega) (by omega)⟩
        case measure => simp [intOf]; omega
      · obtain rfl : k = S := by omega
        go_wp2
        go_ret2
        simp [getV, hok]

end Go.Proofs.YtbdmpjnlgdahmabGreatDoor

namespace Go.Proofs.YtbdmpjnlgdahmabGreatDoor
open Go.RowKit Go.Shelf
set_option maxRecDepth 100000

attribute [local go_sem] Oper.semAt_some

/-- What a round keeps: all below n, and some blocks of cells. -/
def Kp (n : Nat) (S : Nat → Prop) (W W' : World) : Prop := Below n W W' ∧ ∀ k o, S k → W.heap[k]? = some o → o.isCells = true → W'.heap[k]? = some o

theorem Kp.refl (n : Nat) (S : Nat → Prop) (W : World) : Kp n S W W := ⟨Below.refl _ _, fun _ _ _ h _ => h⟩
theorem Kp.trans {n : Nat} {S : Nat → Prop} {A B C : World} (h : Kp n S A B) (k : Kp n S B C) : Kp n S A C := ⟨h.1.trans k.1, fun i o hi ho hc => k.2 i o hi (h.2 i o hi ho hc) hc⟩
theorem Kp.book {n : Nat} {S : Nat → Prop} {w : World} (hn : n ≤ w.heap.size) (W : World) (l : Nat) (o o' : Obj) (hl : w.heap.size ≤ l) (h : W.heap[l]? = some o) (hc : o.isCells = false) (hw : o.isWalk = false) : Kp n S W (W.putObj l o') :=
  ⟨belowK_b hn W l o o' hl h hc hw, fun k o2 _ h2 hc2 => by
    by_cases e : k = l
    · subst e; rw [h] at h2; cases h2; rw [hc] at hc2; cases hc2
    · exact (World.putObj_heap_other e).trans h2⟩
theorem Kp.cell {n : Nat} {S : Nat → Prop} {W W' : World} (K : Kp n S W W') {a : Addr} {v : Value} (hs : a.block < n ∨ S a.block) (h : W.cell? a = some v) : W'.cell? a = some v := by
  rcases hs with hs | hs
  · exact (K.1.cell hs).trans h
  · obtain ⟨o, ho, hc⟩ : ∃ o : Obj, W.heap[a.block]? = some o ∧ o.isCells = true := by
      unfold World.cell? at h
      cases ho : W.heap[a.block]? with
      | none => simp [ho] at h
      | some o => exact ⟨o, rfl, by cases o <;> simp_all [Obj.isCells]⟩
    have e := K.2 a.block o hs ho hc
    rw [cell_same a (e.trans ho.symm)]
    exact h
theorem Kp.drewN {n : Nat} {S : Nat → Prop} (W : World) (m : Nat) (hn : n ≤ W.heap.size) : Kp n S W (W.drewN m) :=
  ⟨(Below.refl _ _).grown (grown_drewN W m none) hn (by simp), fun k o _ h _ => ((grown_drewN W m none).block k (Array.getElem?_eq_some_iff.1 h).1 (by simp)).trans h⟩
theorem Kp.none {n : Nat} {S : Nat → Prop} {W W' : World} (G : W.grownBy W' none) (hn : n ≤ W.heap.size) : Kp n S W W' :=
  ⟨(Below.refl _ _).grown G hn (by simp), fun k o _ h _ => (G.block k (Array.getElem?_eq_some_iff.1 h).1 (by simp)).trans h⟩

/-- What comes of a numbered part. -/
abbrev encP (p : Nat × List UInt8) : Array Value := #[.int .i64 (p.1 : Int), str p.2]

set_option maxHeartbeats 1000000 in
theorem parts_any (s m : ByteArray) (w : World) :
    Calls Tryz.prog 90 #[.string s, .string m] w fun e w' => e = .returned (.func (.func 95) #[] #[.pointer (some ⟨w.heap.size, 0, none⟩), .pointer (some ⟨w.heap.size + 1, 0, none⟩)]) ∧ w' = (w.alloc (.cells #[.string s] 9)).alloc (.cells #[.string m] 9) := by
  go_enter Tryz.func90, Tryz.ntmps90
  go_wp2
  go_ret
  exact ⟨rfl, rfl⟩

/-- How much is left to do. -/
def leftP (r m : Value) : Nat := match m with
  | .bool true => strLen r + 1
  | _ => 0

theorem strLen_str (q : List UInt8) : strLen (str q) = q.length := by show (⟨q.toArray⟩ : ByteArray).size = _; rw [← sl_len]; rfl

set_option maxRecDepth 100000 in
set_option maxHeartbeats 2000000 in
theorem parts1_in (n : Nat) (hn : 1 ≤ n) (l Bs Bm n₀ : Nat) (S : Nat → Prop) (b : UInt8) (s : List UInt8) (hs : s.length ≤ 1048576) (hS : S Bm ∨ Bm < n₀) (h3 : 6 < n₀) (J Jx : List (Nat × List UInt8) → World → Prop)
    (hY : ∀ pre x W, J pre W → pre.length < (splitV b s).length → YieldAt Fence.wide (n - 1) Tryz.prog l (encP x) W fun e W' =>
      (e = .returned (.bool true) ∧ J (pre ++ [x]) W' ∧ Kp n₀ S W W') ∨ (e = .returned (.bool false) ∧ Jx (pre ++ [x]) W'))
    (W : World) (hJ : AbidesFrom W.heap.size J) (T : TabA W) (hBs : W.cell? ⟨Bs, 0, none⟩ = some (str s)) (hBm : W.cell? ⟨Bm, 0, none⟩ = some (.string ⟨#[b]⟩)) (h0 : J [] W) :
    CallsIn Fence.wide n Tryz.prog 95 #[.func (.yield l) #[] #[], .pointer (some ⟨Bs, 0, none⟩), .pointer (some ⟨Bm, 0, none⟩)] W fun e W' => (∃ v, e = .returned v) ∧
      ((∃ ys, ys = numF 0 (splitV b s) ∧ J ys W') ∨ (∃ pre, pre <+: numF 0 (splitV b s) ∧ Jx pre W')) := by
  refine callsIn_of_wp Tryz.func95 rfl trivial ?_ rfl
  simp only [Tryz.ntmps95, List.size_toArray, List.length_cons, List.length_nil, Nat.reduceAdd, Nat.reduceSub, Array.replicate_succ, Array.replicate_zero, List.push_toArray, List.append_toArray, List.nil_append, List.cons_append]
  gi_wp2
  gi_loopw [4, 5, 6] (fun r m i wr => ∃ (pre : List (Nat × List UInt8)) (q : List UInt8) (mo : Bool), r = str q ∧ m = .bool mo ∧ i = .int .i64 (pre.length : Int) ∧ q.length ≤ 1048576 ∧ Hid (numF 0 (splitV b s) = pre ++ (if mo = true then numF pre.length (splitV b q) else [])) ∧ J pre wr ∧ wr.cell? ⟨Bm, 0, none⟩ = some (.string ⟨#[b]⟩) ∧ Hid (TabA wr) ∧ W.heap.size ≤ wr.heap.size) (fun r m _ _ => leftP r m)
  case atStart => exact ⟨[], s, true, rfl, rfl, rfl, hs, (show numF 0 (splitV b s) = _ from rfl), h0, hBm, T, Nat.le_refl _⟩
  case round =>
    clear h0 hBs hBm T
    obtain ⟨pre, q, mo, rfl, rfl, rfl, hq, HN, hJs, hcm, HT, hsz⟩ := hrel
    cases mo with
    | false =>
      have HN2 : Hid (pre = numF 0 (splitV b s)) := by
        have := HN.out
        simp at this
        exact this.symm
      gi_wp2
      go_end0
      exact ⟨⟨_, rfl⟩, .inl ⟨pre, HN2.out, hJs⟩⟩
    | true =>
      have CC := cut1_any b q wr (by omega) HT.out
      have HL : Hid ((splitV b s).length = pre.length + (splitV b q).length) := by
        have := congrArg List.length HN.out
        simp only [if_true, List.length_append, numF_len] at this
        exact this
      have hm1 := splitG_many b [] s
      have hsl : (splitV b s).length ≤ 1048577 := by unfold splitV; omega
      clear hm1
      gi_wp2_with (refine ⟨trivial, ?_⟩; gi_at_call 92; refine (callsIn_wide.2 CC).mono ?_; rintro e w1 ⟨⟨x, y, m, rfl, hm⟩, k, rfl⟩)
      have hpos : 1 ≤ (splitV b q).length := by
        rcases hm with ⟨-, -, -, h⟩ | ⟨-, h, -⟩ <;> rw [h] <;> simp
      have hJ1 : J pre (wr.drewN k) := hJ pre wr _ none hJs (grown_drewN wr k none) (fun r e => by cases e)
      obtain ⟨fn, tmps, assign, body, hy, hR⟩ := hY pre (pre.length, x) (wr.drewN k) hJ1 (by have := HL.out; omega)
      dsimp only [encP] at hy
      have hpl : pre.length ≤ 1048577 := by have := HL.out; omega
      have HM : Hid ((m = false ∧ x = q ∧ y = [] ∧ splitV b q = [q]) ∨ (m = true ∧ splitV b q = x :: splitV b y ∧ x.length + y.length + 1 = q.length)) := hm
      have HTk : Hid (TabA (wr.drewN k)) := HT.out.grown (grown_drewN wr k none)
      have hcm1 : (wr.drewN k).cell? ⟨Bm, 0, none⟩ = some (.string ⟨#[b]⟩) := (grown_drewN wr k none).cell hcm (by simp)
      have hsz1 : W.heap.size ≤ (wr.drewN k).heap.size := Nat.le_trans hsz (grown_drewN wr k none).size
      have HN3 : Hid (numF 0 (splitV b s) = (pre ++ [(pre.length, x)]) ++ (if m = true then numF (pre ++ [(pre.length, x)]).length (splitV b y) else [])) := by
        show _ = _
        have h := HN.out
        simp only [if_true] at h
        rw [h]
        rcases hm with ⟨rfl, rfl, rfl, h⟩ | ⟨rfl, h, -⟩
        · rw [h]
          simp [numF]
        · rw [h]
          simp [numF]
      clear hm CC hcm hJs HN HT hsz hJ1
      generalize wr.drewN k = wk at *
      gi_wp2
      rw [hy, Oper.uponIn_round]
      refine ⟨fun _ => hn, hR.mono ?_⟩
      rintro e W3 (⟨rfl, hJ3, hk3⟩ | ⟨rfl, hJx3⟩)
      · have hcm3 := hk3.cell (a := ⟨Bm, 0, none⟩) (hS.elim .inr .inl) hcm1
        have HT3 : Hid (TabA W3) := HTk.out.below h3 hk3.1
        have hsz3 : W.heap.size ≤ W3.heap.size := Nat.le_trans hsz1 hk3.1.size
        clear hcm1 HTk hsz1
        gi_wp2
        go_roundw
        case rel =>
          refine ⟨pre ++ [(pre.length, x)], y, m, rfl, rfl, by simp, ?_, HN3, hJ3, hcm3, HT3, hsz3⟩
          rcases HM.out with ⟨-, -, rfl, -⟩ | ⟨-, -, h⟩
          · simp
          · omega
        case measure =>
          rcases HM.out with ⟨rfl, -, -, -⟩ | ⟨rfl, -, h⟩
          · show 0 < strLen (str q) + 1
            omega
          · show strLen (str y) + 1 < strLen (str q) + 1
            rw [strLen_str, strLen_str]
            omega
      · gi_wp2
        refine bodyPost_ret (results_none rfl _ _ _) rfl ?_
        exact ⟨⟨_, rfl⟩, .inr ⟨pre ++ [(pre.length, x)], ⟨_, HN3.out.symm⟩, hJx3⟩⟩

/-- The iterator over a text's parts. -/
theorem parts_stops (n : Nat) (hn : 1 ≤ n) (Bs Bm n₀ : Nat) (S : Nat → Prop) (b : UInt8) (s : List UInt8) (hs : s.length ≤ 1048576) (hS : S Bm ∨ Bm < n₀) (h3 : 6 < n₀) (w : World) (T : TabA w) (hBs : w.cell? ⟨Bs, 0, none⟩ = some (str s)) (hBm : w.cell? ⟨Bm, 0, none⟩ = some (.string ⟨#[b]⟩)) :
    SeqStopsK Fence.wide n Tryz.prog 95 #[.pointer (some ⟨Bs, 0, none⟩), .pointer (some ⟨Bm, 0, none⟩)] encP (Kp n₀ S) (fun ys => ys = numF 0 (splitV b s)) (fun pre => pre <+: numF 0 (splitV b s)) (splitV b s).length w := fun l J Jx W hW hJ _ hY h0 => by
  have lt : ∀ {a : Addr} {v : Value}, w.cell? a = some v → a.block < w.heap.size := fun {a v} h => by
    by_cases hb : a.block < w.heap.size
    · exact hb
    · unfold World.cell? at h
      rw [Array.getElem?_eq_none (by omega)] at h
      simp at h
  exact parts1_in n hn l Bs Bm n₀ S b s hs hS h3 J Jx hY W hJ (T.below T.size hW) ((hW.cell (p := ⟨Bs, 0, none⟩) (lt hBs)).trans hBs) ((hW.cell (p := ⟨Bm, 0, none⟩) (lt hBm)).trans hBm) h0

end Go.Proofs.YtbdmpjnlgdahmabGreatDoor
