/-
  Package addr: the iterators over a text's parts and over an address's groups. Package addr: the numbers of a text (octet, group), and groups laid into bytes.
-/
import Derived.RangeFuncNested
import Derived.RangeFuncBound
import Derived.RangeFuncCalls
import Derived.RangeFuncLeaves
import Derived.RangeFuncBox
import Derived.Shelf.Abstract
import Derived.Shelf.RegionOpen
import Derived.WalkKit
import Derived.OwnWalkIn
import Derived.TacticsInMore
import Derived.LoopNIn
import Derived.LoopIn
import Derived.Test.YtbdmpjnlgdahmaaGreatDoorLotP21
import Derived.Test.YtbdmpjnlgdahmaaGreatDoorLotP7
import Derived.Test.YtbdmpjnlgdahmaaGreatDoorLotP30
import Derived.Test.YtbdmpjnlgdahmaaGreatDoorLotP4
namespace Go.Proofs.YtbdmpjnlgdahmaaGreatDoor
open Go.RowKit Go.Shelf
set_option maxRecDepth 100000

attribute [local go_sem] Oper.semAt_some

/-- What a round keeps: all below n, and some blocks of cells. -/
def Kp (n : Nat) (S : Nat → Prop) (W W' : World) : Prop := Below n W W' ∧ ∀ k o, S k → W.heap[k]? = some o → o.isCells = true → W'.heap[k]? = some o

theorem Kp.refl (n : Nat) (S : Nat → Prop) (W : World) : Kp n S W W := ⟨Below.refl _ _, fun _ _ _ h _ => h⟩
theorem Kp.trans {n : Nat} {S : Nat → Prop} {A B C : World} (h : Kp n S A B) (k : Kp n S B C) : Kp n S A C := ⟨h.1.trans k.1, fun i o hi ho hc => k.2 i o hi (h.2 i o hi ho hc) hc⟩
theorem Kp.book {n : Nat} {S : Nat → Prop} {w : World} (hn : n ≤ w.heap.size) (W : World) (l : Nat) (o o' : Obj) (hl : w.heap.size ≤ l) (h : W.heap[l]? = some o) (hc : o.isCells = false) (hw : o.isWalk = false) : Kp n S W (W.putObj l o') :=
  ⟨belowK_b hn W l o o' hl h hc hw, fun k o2 _ h2 hc2 => by
    by_cases e : k = l
    · subst e; rw [h] at h2; cases h2; rw [hc] at hc2; cases hc2
    · exact (World.putObj_heap_other e).trans h2⟩
theorem Kp.cell {n : Nat} {S : Nat → Prop} {W W' : World} (K : Kp n S W W') {a : Addr} {v : Value} (hs : a.block < n ∨ S a.block) (h : W.cell? a = some v) : W'.cell? a = some v := by
  rcases hs with hs | hs
  · exact (K.1.cell hs).trans h
  · obtain ⟨o, ho, hc⟩ : ∃ o : Obj, W.heap[a.block]? = some o ∧ o.isCells = true := by
      unfold World.cell? at h
      cases ho : W.heap[a.block]? with
      | none => simp [ho] at h
      | some o => exact ⟨o, rfl, by cases o <;> simp_all [Obj.isCells]⟩
    have e := K.2 a.block o hs ho hc
    rw [cell_same a (e.trans ho.symm)]
    exact h
theorem Kp.drewN {n : Nat} {S : Nat → Prop} (W : World) (m : Nat) (hn : n ≤ W.heap.size) : Kp n S W (W.drewN m) :=
  ⟨(Below.refl _ _).grown (grown_drewN W m none) hn (by simp), fun k o _ h _ => ((grown_drewN W m none).block k (Array.getElem?_eq_some_iff.1 h).1 (by simp)).trans h⟩
theorem Kp.none {n : Nat} {S : Nat → Prop} {W W' : World} (G : W.grownBy W' none) (hn : n ≤ W.heap.size) : Kp n S W W' :=
  ⟨(Below.refl _ _).grown G hn (by simp), fun k o _ h _ => (G.block k (Array.getElem?_eq_some_iff.1 h).1 (by simp)).trans h⟩

/-- What comes of a numbered part. -/
abbrev encP (p : Nat × List UInt8) : Array Value := #[.int .i64 (p.1 : Int), str p.2]

set_option maxHeartbeats 1000000 in
theorem parts_any (s m : ByteArray) (w : World) :
    Calls Tryz.prog 172 #[.string s, .string m] w fun e w' => e = .returned (.func (.func 177) #[] #[.pointer (some ⟨w.heap.size, 0, none⟩), .pointer (some ⟨w.heap.size + 1, 0, none⟩)]) ∧ w' = (w.alloc (.cells #[.string s] 9)).alloc (.cells #[.string m] 9) := by
  go_enter Tryz.func172, Tryz.ntmps172
  go_wp2
  go_ret
  exact ⟨rfl, rfl⟩

/-- How much is left to do. -/
def leftP (r m : Value) : Nat := match m with
  | .bool true => strLen r + 1
  | _ => 0

theorem strLen_str (q : List UInt8) : strLen (str q) = q.length := by show (⟨q.toArray⟩ : ByteArray).size = _; rw [← sl_len]; rfl

set_option maxRecDepth 100000 in
set_option maxHeartbeats 2000000 in
theorem parts1_in (n : Nat) (hn : 1 ≤ n) (l Bs Bm n₀ : Nat) (S : Nat → Prop) (b : UInt8) (s : List UInt8) (hs : s.length ≤ 1048576) (hS : S Bm ∨ Bm < n₀) (h3 : 6 < n₀) (J Jx : List (Nat × List UInt8) → World → Prop)
    (hY : ∀ pre x W, J pre W → pre.length < (splitV b s).length → YieldAt Fence.wide (n - 1) Tryz.prog l (encP x) W fun e W' =>
      (e = .returned (.bool true) ∧ J (pre ++ [x]) W' ∧ Kp n₀ S W W') ∨ (e = .returned (.bool false) ∧ Jx (pre ++ [x]) W'))
    (W : World) (hJ : AbidesFrom W.heap.size J) (T : TabA W) (hBs : W.cell? ⟨Bs, 0, none⟩ = some (str s)) (hBm : W.cell? ⟨Bm, 0, none⟩ = some (.string ⟨#[b]⟩)) (h0 : J [] W) :
    CallsIn Fence.wide n Tryz.prog 177 #[.func (.yield l) #[] #[], .pointer (some ⟨Bs, 0, none⟩), .pointer (some ⟨Bm, 0, none⟩)] W fun e W' => (∃ v, e = .returned v) ∧
      ((∃ ys, ys = numF 0 (splitV b s) ∧ J ys W') ∨ (∃ pre, pre <+: numF 0 (splitV b s) ∧ Jx pre W')) := by
  refine callsIn_of_wp Tryz.func177 rfl trivial ?_ rfl
  simp only [Tryz.ntmps177, List.size_toArray, List.length_cons, List.length_nil, Nat.reduceAdd, Nat.reduceSub, Array.replicate_succ, Array.replicate_zero, List.push_toArray, List.append_toArray, List.nil_append, List.cons_append]
  gi_wp2
  gi_loopw [4, 5, 6] (fun r m i wr => ∃ (pre : List (Nat × List UInt8)) (q : List UInt8) (mo : Bool), r = str q ∧ m = .bool mo ∧ i = .int .i64 (pre.length : Int) ∧ q.length ≤ 1048576 ∧ Hid (numF 0 (splitV b s) = pre ++ (if mo = true then numF pre.length (splitV b q) else [])) ∧ J pre wr ∧ wr.cell? ⟨Bm, 0, none⟩ = some (.string ⟨#[b]⟩) ∧ Hid (TabA wr) ∧ W.heap.size ≤ wr.heap.size) (fun r m _ _ => leftP r m)
  case atStart => exact ⟨[], s, true, rfl, rfl, rfl, hs, (show numF 0 (splitV b s) = _ from rfl), h0, hBm, T, Nat.le_refl _⟩
  case round =>
    clear h0 hBs hBm T
    obtain ⟨pre, q, mo, rfl, rfl, rfl, hq, HN, hJs, hcm, HT, hsz⟩ := hrel
    cases mo with
    | false =>
      have HN2 : Hid (pre = numF 0 (splitV b s)) := by
        have := HN.out
        simp at this
        exact this.symm
      gi_wp2
      go_end0
      exact ⟨⟨_, rfl⟩, .inl ⟨pre, HN2.out, hJs⟩⟩
    | true =>
      have CC := cut1_any b q wr (by omega) HT.out
      have HL : Hid ((splitV b s).length = pre.length + (splitV b q).length) := by
        have := congrArg List.length HN.out
        simp only [if_true, List.length_append, numF_len] at this
        exact this
      have hm1 := splitG_many b [] s
      have hsl : (splitV b s).length ≤ 1048577 := by unfold splitV; omega
      clear hm1
      gi_wp2_with (refine ⟨trivial, ?_⟩; gi_at_call 174; refine (callsIn_wide.2 CC).mono ?_; rintro e w1 ⟨⟨x, y, m, rfl, hm⟩, k, rfl⟩)
      have hpos : 1 ≤ (splitV b q).length := by
        rcases hm with ⟨-, -, -, h⟩ | ⟨-, h, -⟩ <;> rw [h] <;> simp
      have hJ1 : J pre (wr.drewN k) := hJ pre wr _ none hJs (grown_drewN wr k none) (fun r e => by cases e)
      obtain ⟨fn, tmps, assign, body, hy, hR⟩ := hY pre (pre.length, x) (wr.drewN k) hJ1 (by have := HL.out; omega)
      dsimp only [encP] at hy
      have hpl : pre.length ≤ 1048577 := by have := HL.out; omega
      have HM : Hid ((m = false ∧ x = q ∧ y = [] ∧ splitV b q = [q]) ∨ (m = true ∧ splitV b q = x :: splitV b y ∧ x.length + y.length + 1 = q.length)) := hm
      have HTk : Hid (TabA (wr.drewN k)) := HT.out.grown (grown_drewN wr k none)
      have hcm1 : (wr.drewN k).cell? ⟨Bm, 0, none⟩ = some (.string ⟨#[b]⟩) := (grown_drewN wr k none).cell hcm (by simp)
      have hsz1 : W.heap.size ≤ (wr.drewN k).heap.size := Nat.le_trans hsz (grown_drewN wr k none).size
      have HN3 : Hid (numF 0 (splitV b s) = (pre ++ [(pre.length, x)]) ++ (if m = true then numF (pre ++ [(pre.length, x)]).length (splitV b y) else [])) := by
        show _ = _
        have h := HN.out
        simp only [if_true] at h
        rw [h]
        rcases hm with ⟨rfl, rfl, rfl, h⟩ | ⟨rfl, h, -⟩
        · rw [h]
          simp [numF]
        · rw [h]
          simp [numF]
      clear hm CC hcm hJs HN HT hsz hJ1
      generalize wr.drewN k = wk at *
      gi_wp2
      rw [hy, Oper.uponIn_round]
      refine ⟨fun _ => hn, hR.mono ?_⟩
      rintro e W3 (⟨rfl, hJ3, hk3⟩ | ⟨rfl, hJx3⟩)
      · have hcm3 := hk3.cell (a := ⟨Bm, 0, none⟩) (hS.elim .inr .inl) hcm1
        have HT3 : Hid (TabA W3) := HTk.out.below h3 hk3.1
        have hsz3 : W.heap.size ≤ W3.heap.size := Nat.le_trans hsz1 hk3.1.size
        clear hcm1 HTk hsz1
        gi_wp2
        go_roundw
        case rel =>
          refine ⟨pre ++ [(pre.length, x)], y, m, rfl, rfl, by simp, ?_, HN3, hJ3, hcm3, HT3, hsz3⟩
          rcases HM.out with ⟨-, -, rfl, -⟩ | ⟨-, -, h⟩
          · simp
          · omega
        case measure =>
          rcases HM.out with ⟨rfl, -, -, -⟩ | ⟨rfl, -, h⟩
          · show 0 < strLen (str q) + 1
            omega
          · show strLen (str y) + 1 < strLen (str q) + 1
            rw [strLen_str, strLen_str]
            omega
      · gi_wp2
        refine bodyPost_ret (results_none rfl _ _ _) rfl ?_
        exact ⟨⟨_, rfl⟩, .inr ⟨pre ++ [(pre.length, x)], ⟨_, HN3.out.symm⟩, hJx3⟩⟩

/-- The iterator over a text's parts. -/
theorem parts_stops (n : Nat) (hn : 1 ≤ n) (Bs Bm n₀ : Nat) (S : Nat → Prop) (b : UInt8) (s : List UInt8) (hs : s.length ≤ 1048576) (hS : S Bm ∨ Bm < n₀) (h3 : 6 < n₀) (w : World) (T : TabA w) (hBs : w.cell? ⟨Bs, 0, none⟩ = some (str s)) (hBm : w.cell? ⟨Bm, 0, none⟩ = some (.string ⟨#[b]⟩)) :
    SeqStopsK Fence.wide n Tryz.prog 177 #[.pointer (some ⟨Bs, 0, none⟩), .pointer (some ⟨Bm, 0, none⟩)] encP (Kp n₀ S) (fun ys => ys = numF 0 (splitV b s)) (fun pre => pre <+: numF 0 (splitV b s)) (splitV b s).length w := fun l J Jx W hW hJ _ hY h0 => by
  have lt : ∀ {a : Addr} {v : Value}, w.cell? a = some v → a.block < w.heap.size := fun {a v} h => by
    by_cases hb : a.block < w.heap.size
    · exact hb
    · unfold World.cell? at h
      rw [Array.getElem?_eq_none (by omega)] at h
      simp at h
  exact parts1_in n hn l Bs Bm n₀ S b s hs hS h3 J Jx hY W hJ (T.below T.size hW) ((hW.cell (p := ⟨Bs, 0, none⟩) (lt hBs)).trans hBs) ((hW.cell (p := ⟨Bm, 0, none⟩) (lt hBm)).trans hBm) h0

end Go.Proofs.YtbdmpjnlgdahmaaGreatDoor

namespace Go.Proofs.YtbdmpjnlgdahmaaGreatDoor
open Go.RowKit
set_option maxRecDepth 100000

theorem num_mono {m : Nat} : ∀ (v : Nat) (d : List UInt8) (n : Nat), numFrom m v d = some n → v ≤ n
  | v, [], n, h => by simp [numFrom] at h; omega
  | v, c :: d, n, h => by
    rw [numFrom] at h
    split at h
    · split at h
      · cases h
      · have := num_mono _ d n h; omega
    · cases h
/-- A number that is read up to b, then held against a. -/
theorem num_cut {a b : Nat} (hab : a ≤ b) : ∀ (d : List UInt8) (v : Nat), v ≤ a → numFrom a v d = (numFrom b v d).bind fun u => if a < u then none else some u
  | [], v, hv => by simp [numFrom]; omega
  | c :: d, v, hv => by
    rw [numFrom, numFrom]
    split
    · by_cases h1 : a < 10 * v + (c.toNat - 48)
      · rw [if_pos h1]
        split
        · rfl
        · cases hn : numFrom b (10 * v + (c.toNat - 48)) d with
          | none => rfl
          | some u =>
            have := num_mono _ d u hn
            simp only [Option.bind_some]
            rw [if_pos (by omega)]
      · rw [if_neg h1, if_neg (by omega)]
        exact num_cut hab d _ (by omega)
    · rfl

/-- What octet tells. -/
def OctPost (s : ByteArray) (e : Ending) : Prop := ∃ n : Nat, e = .returned (.tuple #[.int .u8 (n : Int), .bool (numberV 255 (sl s)).isSome]) ∧ n < 256 ∧ ∀ u, numberV 255 (sl s) = some u → n = u

theorem oct_none {s : ByteArray} {e : Ending} (h : numberV 255 (sl s) = none) (he : e = .returned (.tuple #[.int .u8 0, .bool false])) : OctPost s e :=
  ⟨0, by rw [h]; exact he, by decide, fun u hu => by rw [h] at hu; cases hu⟩

set_option maxHeartbeats 2000000 in
theorem octet_any (s : ByteArray) (w : World) :
    Calls Tryz.prog 173 #[.string s] w fun e w' => OctPost s e ∧ w = w' := by
  have hl := sl_len s
  by_cases h0 : s.size = 0
  · have hn : numberV 255 (sl s) = none := by
      have : sl s = [] := List.eq_nil_of_length_eq_zero (by rw [sl_len]; exact h0)
      simp [numberV, this]
    have HN : Hid (numberV 255 (sl s) = none) := hn
    have hq : (s.size : Int) < 1 := by omega
    clear hn
    go_enter Tryz.func173, Tryz.ntmps173
    go_wp2
    go_ret2
    exact ⟨oct_none HN.out rfl, rfl⟩
  · have hq : ¬ (s.size : Int) < 1 := by omega
    by_cases h3 : 3 < s.size
    · have hq3 : (3 : Int) < (s.size : Int) := by omega
      have hn : numberV 255 (sl s) = none := by
        rw [numberV]
        split
        · rfl
        · rename_i hh
          obtain ⟨a, b, c, d, r, hs⟩ : ∃ a b c d r, sl s = a :: b :: c :: d :: r := by
            match hm : sl s, hl with
            | a :: b :: c :: d :: r, _ => exact ⟨a, b, c, d, r, rfl⟩
            | [], hl => simp at hl; omega
            | [a], hl => simp at hl; omega
            | [a, b], hl => simp at hl; omega
            | [a, b, c], hl => simp at hl; omega
          rw [hs]
          simp only [hs, List.head?_cons, Option.some.injEq, List.length_cons] at hh
          have ha : a ≠ 48 := fun e => hh (.inr ⟨by omega, e⟩)
          simp only [numFrom]
          split
          · rename_i hd
            have h49 : 49 ≤ a.toNat := by
              have h48 : a.toNat ≠ 48 := fun e => ha (UInt8.toNat_inj.1 e)
              simp [isDig] at hd
              omega
            split
            · rfl
            · split
              · split
                · rfl
                · split
                  · split
                    · rfl
                    · split
                      · rw [if_pos (by omega)]
                      · rfl
                  · rfl
              · rfl
          · rfl
      have HN : Hid (numberV 255 (sl s) = none) := hn
      clear hn
      go_enter Tryz.func173, Tryz.ntmps173
      go_wp2
      go_ret2
      exact ⟨oct_none HN.out rfl, rfl⟩
    · have hq3 : ¬ (3 : Int) < (s.size : Int) := by omega
      obtain ⟨b, r, hbr⟩ : ∃ b r, sl s = b :: r := by
        cases h : sl s with
        | nil => rw [h] at hl; simp at hl; omega
        | cons b r => exact ⟨b, r, rfl⟩
      have hb0 : s[0]'(by omega) = b := by
        have := sl_drop s 0 (by omega)
        rw [hbr] at this
        simpa using this.symm
      by_cases hlead : 1 < s.size ∧ b = 48
      · have hn : numberV 255 (sl s) = none := by
          rw [numberV, if_pos]
          rw [hbr]
          right
          rw [hbr] at hl
          exact ⟨by omega, by rw [hlead.2]; rfl⟩
        have HN : Hid (numberV 255 (sl s) = none) := hn
        clear hn
        obtain ⟨h1, rfl⟩ := hlead
        have h1' : (1 : Int) < (s.size : Int) := by omega
        go_enter Tryz.func173, Tryz.ntmps173
        go_wp2
        go_ret2
        exact ⟨oct_none HN.out rfl, rfl⟩
      · have e : numberV 255 (sl s) = numFrom 255 0 (sl s) := by
          rw [numberV, if_neg]
          rw [hbr]
          rw [hbr] at hl
          simp only [reduceCtorEq, List.head?_cons, Option.some.injEq, false_or]
          intro ⟨x, y⟩
          exact hlead ⟨by omega, y⟩
        have e2 := num_cut (a := 255) (b := 999) (by decide) (sl s) 0 (by decide)
        have HE : Hid (numberV 255 (sl s) = (numFrom 999 0 (sl s)).bind fun u => if 255 < u then none else some u) := e.trans e2
        have hcase : ((b.toNat : Int) == 48) = false ∨ (((b.toNat : Int) == 48) = true ∧ ¬ (1 : Int) < (s.size : Int)) := by
          by_cases hb : b.toNat = 48
          · refine .inr ⟨by rw [hb]; rfl, fun h1 => hlead ⟨by omega, UInt8.toNat_inj.1 hb⟩⟩
          · refine .inl ?_
            rw [beq_eq_false_iff_ne]
            omega
        clear hlead hbr e e2
        rcases hcase with hcb | ⟨hcb, hca⟩
        all_goals
          go_enter Tryz.func173, Tryz.ntmps173
          go_wp2
          try clear hca
          clear hcb hb0
          go_loop [4, 26] (fun x i => ∃ k v : Nat, k ≤ s.size ∧ v < 10 ^ k ∧ i = .int .i64 k ∧ x = .int .i64 v ∧ Hid (numFrom 999 v ((sl s).drop k) = numFrom 999 0 (sl s))) (fun _ i => s.size - (intOf i).toNat)
          case atStart => exact ⟨0, 0, Nat.zero_le _, by decide, rfl, rfl, rfl⟩
          case round =>
            obtain ⟨k, v, hk, hv, rfl, rfl, HI⟩ := hrel
            by_cases hlt : k < s.size
            · have hki : (k : Int) < (s.size : Int) := by omega
              have HS : Hid ((sl s).drop k = s[k] :: (sl s).drop (k + 1)) := sl_drop s k hlt
              have hb := s[k].toNat_lt
              have hv99 : v ≤ 99 := by
                have : k = 0 ∨ k = 1 ∨ k = 2 := by omega
                rcases this with rfl | rfl | rfl <;> omega
              by_cases hd : isDig s[k] = true
              · have hd1 : 48 ≤ s[k].toNat := by simp [isDig] at hd; omega
                have hd2 : s[k].toNat ≤ 57 := by simp [isDig] at hd; omega
                have HN : Hid (numFrom 999 (10 * v + (s[k].toNat - 48)) ((sl s).drop (k + 1)) = numFrom 999 0 (sl s)) := by
                  show _ = _
                  rw [← HI.out, HS.out, numFrom, if_pos hd, if_neg (by omega)]
                have hv2 : 10 * v + (s[k].toNat - 48) < 10 ^ (k + 1) := by rw [Nat.pow_succ]; omega
                go_wp2
                go_round
                case rel => exact ⟨k + 1, 10 * v + (s[k].toNat - 48), by omega, hv2, by go_num, by rw [show ((10 * v + (s[k].toNat - 48) : Nat) : Int) = 10 * (v : Int) + ((s[k].toNat : Int) - 48) by omega], HN⟩
                case measure => simp [intOf]; omega
              · have HN : Hid (numberV 255 (sl s) = none) := by
                  show _ = none
                  rw [HE.out, ← HI.out, HS.out, numFrom, if_neg hd]
                  rfl
                have hd' : s[k].toNat < 48 ∨ 57 < s[k].toNat := by simp [isDig] at hd; omega
                rcases hd' with hd' | hd'
                all_goals
                  go_wp2
                  all_goals (first | (exfalso; omega) | (go_ret2; exact ⟨oct_none HN.out rfl, rfl⟩))
            · obtain rfl : k = s.size := by omega
              have HN : Hid (numberV 255 (sl s) = if 255 < v then none else some v) := by
                show _ = _
                rw [HE.out, ← HI.out, List.drop_eq_nil_of_le (by rw [sl_len]; omega)]
                rfl
              have hv999 : v ≤ 999 := by
                have : s.size = 1 ∨ s.size = 2 ∨ s.size = 3 := by omega
                rcases this with h | h | h <;> rw [h] at hv <;> omega
              by_cases h255 : v ≤ 255
              · have h255' : (v : Int) ≤ 255 := by omega
                go_wp2
                go_ret2
                exact ⟨⟨v, by rw [HN.out, if_neg (by omega)]; rfl, by omega, fun u hu => by rw [HN.out, if_neg (by omega)] at hu; exact Option.some.inj hu⟩, rfl⟩
              · have h255' : ¬ (v : Int) ≤ 255 := by omega
                have hw : IntKind.u8.wrap (v : Int) = ((v % 256 : Nat) : Int) := by rw [IntKind.wrap_u8]; omega
                go_wp2
                go_ret2
                exact ⟨⟨v % 256, by rw [HN.out, if_pos (by omega)]; first | rfl | (rw [← hw]; rfl), by omega, fun u hu => by rw [HN.out, if_pos (by omega)] at hu; cases hu⟩, rfl⟩

end Go.Proofs.YtbdmpjnlgdahmaaGreatDoor
