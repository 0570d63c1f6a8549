import Derived.Test.YtlfmddjppejmaaaGreatDoorqLotQ12
import Derived.ChangeKeysEq
import Derived.Test.YtlfmddjppejmaaaGreatDoorqLotQ3
import Derived.Test.YtlfmddjppejmaaaGreatDoorqLotQ2
import Derived.Test.YtlfmddjppejmaaaGreatDoorqLotQ1
import Derived.Laws.StructEq
import Derived.Deep.MidRow
import Derived.Test.YtlfmddjppejmaaaGreatDoorqLotQ6
import Derived.Lib.IndexMore
import Derived.Test.YtlfmddjppejmaaaGreatDoorqLotQ9
import Derived.Lib.LaidTab
import Derived.Shelf.Vars
import Derived.Lib.OwnKind
set_option maxHeartbeats 64000000
set_option maxRecDepth 100000
namespace Go.Proofs.YtlfmddjppejmaaaGreatDoor
open Go.RowKit
theorem a4e {P : Program} (d : Nat) (e : TypeId) (he : P.underlying e = some (.int .u8)) (hk : P.plainKey e = true) (xs ys : List UInt8) (w : World) (hl : xs.length = ys.length) :
  ∀ (m k : Nat), k + m = xs.length → (Op.eqItems (d + 1) e 1 (xs.map bv).toArray (ys.map bv).toArray (List.range' k m)).run P w = .ok (decide (xs.drop k = ys.drop k)) w
 | 0, k, h => by
  have e1 : xs.drop k = ys.drop k := by rw [List.drop_eq_nil_of_le (by omega), List.drop_eq_nil_of_le (by omega)]
  simp only [List.range'_zero, Op.eqItems, Sem.run_pure]
  rw [decide_eq_true e1]
 | m + 1, k, h => by
  have hx : k < xs.length := by omega
  have hy : k < ys.length := by omega
  have p1 := run_part_plain (P := P) w hk (xs := (xs.map bv).toArray) (off := k * 1) (v := bv xs[k]) (by simp [hx])
  have p2 := run_part_plain (P := P) w hk (xs := (ys.map bv).toArray) (off := k * 1) (v := bv ys[k]) (by simp [hy])
  have p3 : (Op.equalIn (d + 1) e (bv xs[k]) (bv ys[k])).run P w = .ok ((xs[k].toNat : Int) == (ys[k].toNat : Int)) w := run_equalIn_int w d e .u8 .u8 _ _ he
  have ih := a4e d e he hk xs ys w hl m (k + 1) (by omega)
  rw [List.range'_succ]
  simp only [Op.eqItems, Sem.run_bind, p1, p2, p3, Result.andThen_ok]
  rw [List.drop_eq_getElem_cons hx, List.drop_eq_getElem_cons hy]
  by_cases hq : xs[k] = ys[k]
  ·rw [hq, show ((ys[k].toNat : Int) == (ys[k].toNat : Int)) = true by simp]
   simp only [Bool.not_true, Bool.false_eq_true, if_false]
   rw [ih]
   simp only [List.cons.injEq, true_and]
  ·have : ((xs[k].toNat : Int) == (ys[k].toNat : Int)) = false := by
    rw [beq_eq_false_iff_ne]
    intro e
    exact hq (UInt8.toNat_inj.1 (by omega))
   rw [this]
   simp only [Bool.not_false, if_true, Sem.run_pure]
   rw [decide_eq_false (fun e => hq (List.cons.inj e).1)]
def adr (x : Nd) (i : Nat) : Value := .int .u8 ((x.addr.getD i 0).toNat : Int)
def Nd.cells (x : Nd) : List Value := [.int .i64 (x.kind : Int), .int .i64 (x.op : Int), .int .u32 (x.n : Int), .int .u32 (x.m : Int), .int .i64 (x.size : Int), .int .i64 (x.of : Int), .int .i64 (x.side : Int),
 adr x 0, adr x 1, adr x 2, adr x 3, adr x 4, adr x 5, adr x 6, adr x 7, adr x 8, adr x 9, adr x 10, adr x 11, adr x 12, adr x 13, adr x 14, adr x 15, .int .i64 (x.bits : Int)]
theorem Nd.cells_len (x : Nd) : x.cells.length = 24 := rfl
def y6 (xs : List Nd) : List Value := xs.flatMap Nd.cells
theorem a6Y : y6 [] = [] := rfl
theorem a2p (x : Nd) (xs : List Nd) : y6 (x :: xs) = x.cells ++ y6 xs := rfl
theorem a3T (xs ys : List Nd) : y6 (xs ++ ys) = y6 xs ++ y6 ys := by simp only [y6, List.flatMap_append]
theorem a3V (x : Nd) : y6 [x] = x.cells := by rw [a2p, a6Y, List.append_nil]
theorem a6X (xs : List Nd) : (y6 xs).length = xs.length * 24 := by
 induction xs with
 | nil => rfl
 | cons x xs ih => rw [a2p, List.length_append, ih, List.length_cons, Nd.cells_len]; omega
theorem a6W (xs : List Nd) (i j : Nat) (hi : i < xs.length) (hj : j < 24) : (y6 xs)[i * 24 + j]? = (xs[i].cells)[j]? := by
 induction xs generalizing i with
 | nil => simp at hi
 | cons x xs ih =>
  rw [a2p]
  have hl : x.cells.length = 24 := rfl
  cases i with
  | zero => rw [List.getElem?_append_left (by omega)]; simp
  | succ i =>
   rw [List.getElem?_append_right (by omega), hl, show (i + 1) * 24 + j - 24 = i * 24 + j by omega, ih i (by simpa using hi)]
   simp
theorem Nd.cells_one (x : Nd) : ∀ u ∈ x.cells, u.oneCell' = true := by
 intro u hu
 simp only [Nd.cells, adr, List.mem_cons, List.not_mem_nil, or_false] at hu
 rcases hu with rfl | rfl | rfl | rfl | rfl | rfl | rfl | rfl | rfl | rfl | rfl | rfl | rfl | rfl | rfl | rfl | rfl | rfl | rfl | rfl | rfl | rfl | rfl | rfl <;> rfl
theorem a3U (xs : List Nd) : ∀ u ∈ y6 xs, u.oneCell' = true := by
 intro u hu
 obtain ⟨x, _, hx⟩ := List.mem_flatMap.1 hu
 exact x.cells_one u hx
theorem CV.nodes {w : World} {ao : Option Addr} {xs : List Nd} (h : CV w ao (y6 xs)) {k : Nat} (hk : k < xs.length) :
  ∃ b off, ao = some ⟨b, off, none⟩ ∧ ∀ i (hi : i < xs.length), w.rangeAt b (off + i * 24) xs[i].cells := by
 have hl := a6X xs
 obtain ⟨b, off, hao, hc⟩ := h.addr (k := k * 24) (by omega)
 refine ⟨b, off, hao, fun i hi j v hv => ?_⟩
 have hj : j < 24 := (List.getElem?_eq_some_iff.1 hv).1
 rw [← a6W xs i j hi hj] at hv
 rw [Nat.add_assoc, hc (i * 24 + j) (by omega), ← hv, List.getElem?_eq_getElem (by omega)]
theorem a0W : (Tryz.prog.info? 54).map (·.size) = some 24 := by kernel_rfl
theorem a1K : (Tryz.prog.info? 54).map (fun i => (i.zero, i.size, i.bytes)) = some (some (.agg nd0.cells.toArray), 24, 72) := by kernel_rfl
abbrev S2 (w : World) (base : Nat) (v : Value) (xs : List Nd) : Prop := w.ownsRow base 54 24 v xs.length (y6 xs)
theorem a3M {P : Program} (d : Nat) (xs : Array Value) (w : World) : ∀ fs : List Field, (∀ f ∈ fs, ∃ a, (part f.type xs f.offset).run P w = .ok a w ∧ (Op.equalIn d f.type a a).run P w = .ok true w) → (Op.eqFields d xs xs fs).run P w = .ok true w
 | [], _ => by simp [Op.eqFields]
 | f :: fs, h => by
  obtain ⟨a, h1, h2⟩ := h f (List.mem_cons_self ..)
  have ih := a3M d xs w fs (fun g hg => h g (List.mem_cons_of_mem _ hg))
  unfold Op.eqFields
  split
  ·simp only [Sem.run_bind, h1, h2, Result.andThen_ok, Bool.not_true, Bool.false_eq_true, if_false]
   exact ih
  ·exact ih
theorem a6O {P : Program} {t e : TypeId} {n : Nat} {i : TypeInfo} (d : Nat) (hu : P.underlying t = some (.array n e)) (hi : P.info? e = some i) (he : P.underlying e = some (.int .u8)) (hk : P.plainKey e = true) (hc : P.cellsOf e = 1) (xs : List UInt8) (hx : xs.length = n) (w : World) :
  (Op.equalIn (d + 2) t (.agg (xs.map bv).toArray) (.agg (xs.map bv).toArray)).run P w = .ok true w := by
 rw [run_equalIn_array w (d + 1) _ _ hu hi, hc, List.range_eq_range', a4e d e he hk xs xs w rfl n 0 (by omega)]
 simp
def a3o (x : Nd) : List UInt8 := [x.addr.getD 0 0, x.addr.getD 1 0, x.addr.getD 2 0, x.addr.getD 3 0, x.addr.getD 4 0, x.addr.getD 5 0, x.addr.getD 6 0, x.addr.getD 7 0, x.addr.getD 8 0, x.addr.getD 9 0, x.addr.getD 10 0, x.addr.getD 11 0, x.addr.getD 12 0, x.addr.getD 13 0, x.addr.getD 14 0, x.addr.getD 15 0]
theorem a85 : (Tryz.prog.fieldsOf 54).toList.map (fun f => (f.type, f.offset)) = [(3, 0), (3, 1), (40, 2), (40, 3), (3, 4), (3, 5), (3, 6), (52, 7), (3, 23)] := by kernel_rfl
theorem a4C (x : Nd) (w : World) : (Op.equalIn 10000 54 (.agg x.cells.toArray) (.agg x.cells.toArray)).run Tryz.prog w = .ok true w := by
 obtain ⟨i0, hi, -⟩ := info_parts a2w
 rw [show (10000 : Nat) = 9999 + 1 from rfl, run_equalIn_struct w 9999 _ _ _ (by kernel_rfl) (by kernel_rfl)]
 refine a3M 9999 _ w _ (fun f hf => ?_)
 have hm : (f.type, f.offset) ∈ (Tryz.prog.fieldsOf 54).toList.map (fun f => (f.type, f.offset)) := List.mem_map_of_mem hf
 rw [a85] at hm
 generalize f.type = ft at *
 generalize f.offset = fo at *
 simp only [List.mem_cons, Prod.mk.injEq, List.not_mem_nil, or_false] at hm
 rcases hm with ⟨rfl, rfl⟩ | ⟨rfl, rfl⟩ | ⟨rfl, rfl⟩ | ⟨rfl, rfl⟩ | ⟨rfl, rfl⟩ | ⟨rfl, rfl⟩ | ⟨rfl, rfl⟩ | ⟨rfl, rfl⟩ | ⟨rfl, rfl⟩
 ·exact ⟨.int .i64 (x.kind : Int), by kernel_rfl, by rw [run_equalIn_int w 9998 _ _ .i64 _ _ Tryz.underlying3]; simp⟩
 ·exact ⟨.int .i64 (x.op : Int), by kernel_rfl, by rw [run_equalIn_int w 9998 _ _ .i64 _ _ Tryz.underlying3]; simp⟩
 ·exact ⟨.int .u32 (x.n : Int), by kernel_rfl, by rw [run_equalIn_int w 9998 _ _ .u32 _ _ Tryz.underlying40]; simp⟩
 ·exact ⟨.int .u32 (x.m : Int), by kernel_rfl, by rw [run_equalIn_int w 9998 _ _ .u32 _ _ Tryz.underlying40]; simp⟩
 ·exact ⟨.int .i64 (x.size : Int), by kernel_rfl, by rw [run_equalIn_int w 9998 _ _ .i64 _ _ Tryz.underlying3]; simp⟩
 ·exact ⟨.int .i64 (x.of : Int), by kernel_rfl, by rw [run_equalIn_int w 9998 _ _ .i64 _ _ Tryz.underlying3]; simp⟩
 ·exact ⟨.int .i64 (x.side : Int), by kernel_rfl, by rw [run_equalIn_int w 9998 _ _ .i64 _ _ Tryz.underlying3]; simp⟩
 ·exact ⟨.agg ((a3o x).map bv).toArray, by kernel_rfl, a6O 9997 Tryz.underlying52 hi Tryz.underlying5 (by kernel_rfl) (by kernel_rfl) (a3o x) rfl w⟩
 ·exact ⟨.int .i64 (x.bits : Int), by kernel_rfl, by rw [run_equalIn_int w 9998 _ _ .i64 _ _ Tryz.underlying3]; simp⟩
theorem a4c : (Tryz.prog.info? 3).map (fun i => (i.zero, i.size, i.bytes)) = some (some (.int .i64 0), 1, 8) := by kernel_rfl
def iv (z : Int) : Value := .int .i64 z
abbrev U6 (w : World) (base : Nat) (v : Value) (bs : List Int) : Prop := w.ownsRow base 3 1 v bs.length (bs.map iv)
theorem CV.ints {w : World} {ao : Option Addr} {bs : List Int} (h : CV w ao (bs.map iv)) {k : Nat} (hk : k < bs.length) :
  ∃ b off, ao = some ⟨b, off, none⟩ ∧ ∀ i (hi : i < bs.length), w.cell? ⟨b, off + i, none⟩ = some (.int .i64 bs[i]) := by
 obtain ⟨b, off, hao, hc⟩ := h.addr (k := k) (by simpa using hk)
 exact ⟨b, off, hao, fun i hi => by rw [hc i (by simpa using hi)]; simp [iv]⟩
theorem a3d (a b : Option Addr) (ca cb : Nat) (xs : List Int) (w : World) (ha : CV w a (xs.map iv)) (hb : CV w b (xs.map iv)) (hm : xs.length ≤ 9223372036854775807) :
  Calls Tryz.prog 7 #[.slice a xs.length ca, .slice b xs.length cb] w fun e w' => e = .returned (.bool true) ∧ ∃ n, w' = w.drewN n := by
 have hne : ((xs.length : Int) != (xs.length : Int)) = false := by simp
 go_enter Tryz.func7, Tryz.ntmps7
 go_wp2
 go_loopw [5] (fun i wr => ∃ k : Nat, k ≤ xs.length ∧ i = .int .i64 k ∧ ∃ n, wr = w.drewN n) (fun i _ => xs.length - (intOf i).toNat)
 case atStart => exact ⟨0, Nat.zero_le _, rfl, 0, rfl⟩
 case round =>
  obtain ⟨k, hk, rfl, n, rfl⟩ := hrel
  by_cases hlt : k < xs.length
  ·obtain ⟨b1, o1, rfl, h1⟩ := ha.ints hlt
   obtain ⟨b2, o2, rfl, h2⟩ := hb.ints hlt
   have c1 := h1 k hlt
   have c2 := h2 k hlt
   clear ha hb h1 h2
   generalize xs[k] = z at *
   have hl : (k : Int) < (xs.length : Int) := by omega
   go_wp2
   go_quiet (fail)
   go_wp2
   go_roundw
   case rel => exact ⟨k + 1, by omega, by go_num, _, by rfl⟩
   case measure => simp [intOf]; omega
  ·go_wp2
   go_ret
   exact ⟨rfl, n, rfl⟩
def a03 (w : World) (row : Option Nat) (g g' n n' : Nat) (wr : World) : Prop := s6 wr 3 g n ∧ s6 wr 3 g' n' ∧ w.grownBy wr row
theorem a03.set {w wr : World} {row : Option Nat} {g g' n n' : Nat} (h : a03 w row g g' n n' wr) {p : Addr} (hp : row = some p.block ∨ w.heap.size ≤ p.block) (u : Value) : a03 w row g g' n n' (wr.setCell p u) :=
 ⟨h.1.setCell _ _, h.2.1.setCell _ _, L5 h.2.2 _ _ hp⟩
theorem ai7 (g n cap : Nat) (w : World) (hb : s6 w 3 g (cap * 1)) (hn : n ≤ cap) (hcm : cap ≤ maxLen) (hm : (n + 1) * 8 ≤ 140737488355328) :
  Calls Tryz.prog 9 #[.slice (some ⟨g, 0, none⟩) n cap] w fun e w' => e = .returned (.tuple #[]) ∧ w.grownBy w' (some g) := by
 obtain ⟨i0, hi, hz0, hz1, hz2⟩ := info_parts a4c
 have H : Hid (s6 w 3 g (cap * 1)) := hb
 clear hb
 go_enter Tryz.func9, Tryz.ntmps9
 go_wp2_with (at_builtin; refine a5D rfl (.tmp 5) (.tmp 6) 23 rfl 3 i0 (.int .i64 0) 1 8 Tryz.underlying23 hi hz0 hz1 hz2 rfl (by decide) g n cap rfl ?q1 hn hcm ⟨w.heap.size, 0, none⟩ 1 1 [.int .i64 (-77)] rfl rfl ?q2 (by simp [Value.oneCell']) ?q3 ?q4 ?q5)
 case q1 => exact H.out.kept (World.grownBy_alloc _ _ none) (by simp)
 case q2 => exact m8 w _ _
 case q3 => unfold maxLen; omega
 case q4 => omega
 case q5 =>
  intro g' cap' w1 hg' hb1 hb2 hc' hcm' hgr
  have R : a03 w (some g) g g' (cap * 1) (cap' * 1) w1 := ⟨by rw [Nat.mul_one]; exact hb1, by rw [Nat.mul_one]; exact hb2, d5 (World.grownBy_alloc _ _ _) hgr⟩
  have hp : some g = some g' ∨ w.heap.size ≤ g' := by
   rcases hg' with e | e
   ·exact .inl (by rw [e])
   ·right; omega
  clear hg' hb1 hb2 hgr
  unfold maxLen at hcm hcm'
  go_wp2
  go_loopw [3] (fun i wr => ∃ k : Nat, k ≤ n + 1 ∧ i = .int .i64 k ∧ a03 w (some g) g g' (cap * 1) (cap' * 1) wr) (fun i _ => n + 1 - (intOf i).toNat)
  case atStart => exact ⟨0, Nat.zero_le _, rfl, R⟩
  case round =>
   clear R
   obtain ⟨k, hk, rfl, R⟩ := hrel
   by_cases hlt : k < n + 1
   ·obtain ⟨u0, hu0⟩ := R.2.1.cell (i := k) (by omega)
    have hf0 := R.2.1.free k
    have R' := R.set (p := ⟨g', k, none⟩) hp (.int .i64 (-77))
    clear R
    go_wp2
    go_roundw
    case rel => exact ⟨k + 1, by omega, by go_num, R'⟩
    case measure => simp [intOf]; omega
   ·go_wp2
    clear hk hlt
    go_loopw [4] (fun i wr => ∃ k : Nat, k ≤ n ∧ i = .int .i64 k ∧ a03 w (some g) g g' (cap * 1) (cap' * 1) wr) (fun i _ => n - (intOf i).toNat)
    case atStart => exact ⟨0, Nat.zero_le _, rfl, R⟩
    case round =>
     clear R
     obtain ⟨k, hk, rfl, R⟩ := hrel
     by_cases hlt : k < n
     ·obtain ⟨u0, hu0⟩ := R.1.cell (i := k) (by omega)
      have hf0 := R.1.free k
      have R' := R.set (p := ⟨g, k, none⟩) (.inl rfl) (.int .i64 (-77))
      clear R
      go_wp2
      go_roundw
      case rel => exact ⟨k + 1, by omega, by go_num, R'⟩
      case measure => simp [intOf]; omega
     ·go_wp2
      go_end0
      exact ⟨rfl, R.2.2⟩
theorem ai8 (w : World) :
  Calls Tryz.prog 9 #[.slice none 0 0] w fun e w' => e = .returned (.tuple #[]) ∧ w.grownBy w' none := by
 obtain ⟨i0, hi, hz0, hz1, hz2⟩ := info_parts a4c
 go_enter Tryz.func9, Tryz.ntmps9
 go_wp2_with (at_builtin; refine Y5 rfl (.tmp 5) (.tmp 6) 23 rfl 3 i0 (.int .i64 0) 1 8 Tryz.underlying23 hi hz0 hz1 hz2 rfl (by decide) w.heap.size _ 0 [] rfl ?q1 (some ⟨w.heap.size, 0, none⟩) 1 1 [.int .i64 (-77)] rfl rfl (by simp) ?q2 (by simp [Value.oneCell']) ?q3 ?q4 ?q5 ?q6)
 case q1 => exact World.ownsRow_nil _ _ _ _
 case q2 => exact m8 w _ _
 case q3 => unfold maxLen; omega
 case q4 => omega
 case q5 => simp
 case q6 =>
  intro v' w1 h1 h2
  obtain ⟨g', cap', hv, hc, hcm, hg1, hg2⟩ := a1X h1 (by omega)
  subst hv
  have hb2 : s6 w1 3 g' (cap' * 1) := (s6.ofRow (n := 1) h1).1
  have hgr : w.grownBy w1 none := d5 (World.grownBy_alloc _ _ _) h2
  have R : a03 w none g' g' (cap' * 1) (cap' * 1) w1 := ⟨hb2, hb2, hgr⟩
  have hp : none = some g' ∨ w.heap.size ≤ g' := .inr hg1
  clear hb2 hgr h1 h2
  unfold maxLen at hcm
  go_wp2
  go_loopw [3] (fun i wr => ∃ k : Nat, k ≤ 1 ∧ i = .int .i64 k ∧ a03 w none g' g' (cap' * 1) (cap' * 1) wr) (fun i _ => 1 - (intOf i).toNat)
  case atStart => exact ⟨0, Nat.zero_le _, rfl, R⟩
  case round =>
   clear R
   obtain ⟨k, hk, rfl, R⟩ := hrel
   by_cases hlt : k < 1
   ·obtain rfl : k = 0 := by omega
    obtain ⟨u0, hu0⟩ := R.2.1.cell (i := 0) (by omega)
    have hf0 := R.2.1.free 0
    have R' := R.set (p := ⟨g', 0, none⟩) hp (.int .i64 (-77))
    clear R
    go_wp2
    go_roundw
    case rel => exact ⟨1, by omega, by go_num, R'⟩
    case measure => simp [intOf]
   ·obtain rfl : k = 1 := by omega
    go_wp2
    refine wp_loop_rounds 1 ?_
    rw [rounds_succ]
    go_wp2
    go_end0
    exact ⟨rfl, R.2.2⟩
theorem ai9 {base : Nat} {v : Value} {xs : List Int} (w : World) (h : U6 w base v xs) (hm : (xs.length + 1) * 8 ≤ 140737488355328) :
  Calls Tryz.prog 9 #[v] w fun e w' => e = .returned (.tuple #[]) ∧ w.grownBy w' v.ownBlock := by
 rcases h.2 with ⟨rfl, _⟩ | ⟨g, cap, cur, rfl, hb, hg, hc, hcm, hs, ht⟩
 ·exact ai8 w
 ·exact ai7 g xs.length cap w ⟨cur, hg, hs⟩ hc hcm hm
structure GB (w w' : World) (S : Nat → Prop) : Prop where
 os : w'.os = w.os
 tape : w'.tape = w.tape
 output : w'.output = w.output
 size : w.heap.size ≤ w'.heap.size
 block : ∀ i, i < w.heap.size → ¬ S i → w'.heap[i]? = w.heap[i]?
theorem GB.of {w w' : World} {row : Option Nat} {S : Nat → Prop} (h : w.grownBy w' row) (hs : ∀ x, row = some x → S x) : GB w w' S :=
 ⟨h.os, h.tape, h.output, h.size, fun i hi hn => h.block i hi (fun e => hn (hs i e.symm))⟩
theorem GB.non {w w' : World} {S : Nat → Prop} (h : w.grownBy w' none) : GB w w' S := GB.of h (fun x hx => by cases hx)
theorem GB.refl (w : World) (S : Nat → Prop) : GB w w S := ⟨rfl, rfl, rfl, Nat.le_refl _, fun _ _ _ => rfl⟩
theorem GB.trans {w w1 w2 : World} {S S' : Nat → Prop} (h : GB w w1 S) (k : GB w1 w2 S') (hs : ∀ x, x < w.heap.size → S' x → S x) : GB w w2 S :=
 ⟨k.os.trans h.os, k.tape.trans h.tape, k.output.trans h.output, Nat.le_trans h.size k.size, fun i hi hn => (k.block i (Nat.lt_of_lt_of_le hi h.size) (fun e => hn (hs i hi e))).trans (h.block i hi hn)⟩
theorem GB.mono {w w' : World} {S S' : Nat → Prop} (h : GB w w' S) (hs : ∀ x, S x → S' x) : GB w w' S' := ⟨h.os, h.tape, h.output, h.size, fun i hi hn => h.block i hi (fun e => hn (hs i e))⟩
theorem GB.grown {w w' : World} {S : Nat → Prop} (h : GB w w' S) (hs : ∀ x, x < w.heap.size → ¬ S x) : w.grownBy w' none := ⟨h.os, h.tape, h.output, h.size, fun i hi _ => h.block i hi (hs i hi)⟩
theorem GB.vat {w w' : World} {S : Nat → Prop} {g t : Nat} {cs : Array Value} (h : GB w w' S) (A : VAt w g t cs) (hg : ¬ S g) : VAt w' g t cs := by
 have := h.block g A.lt hg
 unfold VAt at *
 rw [this, A]
theorem GB.owns {w w' : World} {S : Nat → Prop} {base e size n : Nat} {v : Value} {vs : List Value} (h : GB w w' S) (O : w.ownsRow base e size v n vs) (hv : ∀ x, v.ownBlock = some x → ¬ S x) : w'.ownsRow base e size v n vs := by
 refine ⟨O.1, ?_⟩
 rcases O.2 with h0 | ⟨g, cap, cur, hv', hb, hg, r⟩
 ·exact .inl h0
 ·right
  refine ⟨g, cap, cur, hv', hb, ?_, r⟩
  have hlt : g < w.heap.size := by
   by_cases hh : g < w.heap.size
   ·exact hh
   ·rw [Array.getElem?_eq_none (by omega)] at hg; cases hg
  rw [h.block g hlt (hv g (by rw [hv']; rfl)), hg]
theorem GB.cell {w w' : World} {S : Nat → Prop} {ad : Addr} {v : Value} (h : GB w w' S) (hc : w.cell? ad = some v) (ha : ¬ S ad.block) (hlt : ad.block < w.heap.size) : w'.cell? ad = some v := by
 have := h.block ad.block hlt ha
 unfold World.cell? at *
 rw [this]
 exact hc
theorem GB.cells {w w' : World} {S : Nat → Prop} {ao : Option Addr} {xs : List UInt8} (h : GB w w' S) (hc : z8 w ao xs) (ha : ∀ ad, ao = some ad → xs ≠ [] → ¬ S ad.block) : z8 w' ao xs := by
 have hu := hc.under
 refine hc.same fun b off i hb hi => ?_
 have hne : xs ≠ [] := by
  intro e
  rw [e] at hi
  simp at hi
 have h1 := ha _ hb hne
 have h2 := hu _ hb hne
 have := h.block b h2 h1
 unfold World.cell?
 simp only [this]
theorem a7f (b : UInt8) (s : List UInt8) (h : b ∉ s) : Lib.index s [b] = -1 := by
 induction s with
 | nil => rfl
 | cons c r ih =>
  have hc : (b == c) = false := by rw [beq_eq_false_iff_ne]; intro e; exact h (by rw [e]; simp)
  rw [Lib.index, show ([b] : List UInt8).isPrefixOf (c :: r) = false by simp [List.isPrefixOf, hc], ih (fun e => h (by simp [e]))]
  rfl
theorem a7e (b : UInt8) (x y : List UInt8) (h : b ∉ x) : Lib.index (x ++ b :: y) [b] = (x.length : Int) := by
 induction x with
 | nil => simp [Lib.index, List.isPrefixOf]
 | cons c r ih =>
  have hc : (b == c) = false := by rw [beq_eq_false_iff_ne]; intro e; exact h (by rw [e]; simp)
  rw [List.cons_append, Lib.index, show ([b] : List UInt8).isPrefixOf (c :: (r ++ b :: y)) = false by simp [List.isPrefixOf, hc], ih (fun e => h (by simp [e]))]
  have : ((r.length : Int) == -1) = false := by rw [beq_eq_false_iff_ne]; omega
  rw [this]
  simp
theorem a6H (b : UInt8) (s : List UInt8) : (Lib.cut s [b] = (s, [], false) ∧ f9 b s = [s]) ∨ (∃ x y, Lib.cut s [b] = (x, y, true) ∧ f9 b s = x :: f9 b y ∧ x.length + y.length + 1 = s.length) := by
 by_cases h : b ∈ s
 ·right
  obtain ⟨x, y, rfl, hx⟩ := List.eq_append_cons_of_mem h
  refine ⟨x, y, ?_, ?_, ?_⟩
  ·rw [Lib.cut, a7e b x y hx, if_pos (by omega)]
   simp only [Int.toNat_natCast, List.take_left, List.length_cons, List.length_nil]
   rw [← List.drop_drop, List.drop_left]
   rfl
  ·unfold f9
   rw [ag5 b [] x y hx]
   rfl
  ·simp
   omega
 ·left
  refine ⟨?_, ?_⟩
  ·rw [Lib.cut, a7f b s h, if_neg (by decide)]
  ·unfold f9
   rw [ag6 b [] s h]
   rfl
theorem a49 (s : List UInt8) : Lib.index s [58, 58] = T8 (x7 s) := by
 induction s with
 | nil => rfl
 | cons a r ih =>
  rw [Lib.index, x7, ih]
  by_cases h : a = 58 ∧ r.head? = some 58
  ·rw [if_pos h]
   obtain ⟨rfl, h2⟩ := h
   cases r with
   | nil => cases h2
   | cons c r =>
    simp only [List.head?_cons, Option.some.injEq] at h2
    subst h2
    rw [if_pos (by simp [List.isPrefixOf])]
    rfl
  ·rw [if_neg h]
   have hp : ([58, 58] : List UInt8).isPrefixOf (a :: r) = false := by
    cases r with
    | nil => simp [List.isPrefixOf]
    | cons c r =>
     simp only [List.head?_cons, Option.some.injEq] at h
     by_cases ha : a = 58
     ·have hc : ((58 : UInt8) == c) = false := by rw [beq_eq_false_iff_ne]; intro e; exact h ⟨ha, e.symm⟩
      simp [List.isPrefixOf, hc]
     ·have hc : ((58 : UInt8) == a) = false := by rw [beq_eq_false_iff_ne]; intro e; exact ha e.symm
      simp [List.isPrefixOf, hc]
   rw [hp]
   cases x7 r with
   | none => rfl
   | some k =>
    have : (((k : Nat) : Int) == -1) = false := by rw [beq_eq_false_iff_ne]; omega
    simp only [T8, Option.map_some, this, Bool.false_eq_true, if_false]
    omega
theorem a6F (s : List UInt8) (h : x7 s = none) : Lib.cut s [58, 58] = (s, [], false) := by
 rw [Lib.cut, a49, h]
 rfl
theorem a6G (s : List UInt8) (k : Nat) (h : x7 s = some k) : Lib.cut s [58, 58] = (s.take k, s.drop (k + 2), true) := by
 rw [Lib.cut, a49, h]
 simp [T8]
def y7 {α : Type} : Nat → List α → List (Nat × α)
 | _, [] => []
 | i, x :: r => (i, x) :: y7 (i + 1) r
theorem a4G {α : Type} (i : Nat) (l : List α) : (y7 i l).length = l.length := by
 induction l generalizing i with
 | nil => rfl
 | cons x r ih => rw [y7, List.length_cons, List.length_cons, ih]
theorem a2J {α : Type} (i : Nat) (l : List α) : (y7 i l).map (·.2) = l := by
 induction l generalizing i with
 | nil => rfl
 | cons x r ih => rw [y7, List.map_cons, ih]
theorem a4F {α : Type} (i : Nat) (l : List α) (j : Nat) (h : j < l.length) : (y7 i l)[j]? = some (i + j, l[j]) := by
 induction l generalizing i j with
 | nil => simp at h
 | cons x r ih =>
  cases j with
  | zero => rfl
  | succ j =>
   rw [y7, List.getElem?_cons_succ, ih (i + 1) j (by simpa using h)]
   simp
   omega
theorem a3J {w w' : World} (a : Addr) (h : w'.heap[a.block]? = w.heap[a.block]?) : w'.cell? a = w.cell? a := by unfold World.cell?; rw [h]
def x5 (w : World) : Prop := ∃ m, w.cell? ⟨6, 0, none⟩ = some (.int .i64 m)
theorem x5.len {w : World} (T : x5 w) : ∃ m, w.cell? ⟨6, 0, none⟩ = some (.int .i64 m) := T
theorem x5.size {w : World} (T : x5 w) : 6 < w.heap.size := by
 obtain ⟨m, this⟩ := T
 by_cases h : 6 < w.heap.size
 ·exact h
 ·unfold World.cell? at this
  rw [Array.getElem?_eq_none (by simpa using h)] at this
  simp at this
theorem x5.blocks {w w' : World} (T : x5 w) (h : ∀ k, k ≤ 6 → w'.heap[k]? = w.heap[k]?) : x5 w' := by
 obtain ⟨m, hm⟩ := T
 exact ⟨m, by rw [a3J ⟨6, 0, none⟩ (h 6 (Nat.le_refl _))]; exact hm⟩
theorem x5.grown {w w' : World} (T : x5 w) (G : w.grownBy w' none) : x5 w' := T.blocks (fun k hk => G.block k (by have := T.size; omega) (by simp))
theorem x5.below {w w' : World} {B : Nat} (T : x5 w) (hB : 6 < B) (h : Below B w w') : x5 w' := T.blocks (fun k hk => h.block k (by omega))
def Ap (B : Nat) (w w' : World) : Prop := Below B w w' ∧ Lib.OthersKept 5 none w w'
theorem Ap.refl (B : Nat) (w : World) : Ap B w w := ⟨Below.refl _ _, Lib.OthersKept.refl _ _ _⟩
theorem Ap.trans {B : Nat} {a b c : World} (h : Ap B a b) (k : Ap B b c) : Ap B a c := ⟨h.1.trans k.1, h.2.trans k.2⟩
theorem Ap.heap {B : Nat} {w w' : World} (h : Ap B w w') {b : Nat} {cs : Array Value} {e : TypeId} {fz : Nat × Nat} (hb : w.heap[b]? = some (.cells cs e fz)) (he : e ≠ 5) : w'.heap[b]? = some (.cells cs e fz) :=
 h.2 b _ hb (by simp) (fun c f hc => he (by injection hc))
theorem Ap.size {B : Nat} {w w' : World} (h : Ap B w w') : w.heap.size ≤ w'.heap.size := h.1.size
theorem a6D (b : UInt8) (s : List UInt8) (w : World) (hs : s.length < 4294967281) (T : x5 w) :
  Calls Tryz.prog 131 #[str s, .string ⟨#[b]⟩] w fun e w' => (∃ x y m, e = .returned (.tuple #[str x, str y, .bool m]) ∧ ((m = false ∧ x = s ∧ y = [] ∧ f9 b s = [s]) ∨ (m = true ∧ f9 b s = x :: f9 b y ∧ x.length + y.length + 1 = s.length))) ∧ ∃ n, w' = w.drewN n := by
 obtain ⟨m, hm⟩ := T.len
 refine (Tryz.strings_Cut ⟨s.toArray⟩ ⟨#[b]⟩ m w (by rw [← j0]; exact hs) hm).mono ?_
 rintro e w' ⟨rfl, n, rfl⟩
 refine ⟨?_, n, rfl⟩
 show ∃ x y m, Ending.returned (.tuple #[str (Lib.cut s [b]).1, str (Lib.cut s [b]).2.1, .bool (Lib.cut s [b]).2.2]) = _ ∧ _
 rcases a6H b s with ⟨h1, h2⟩ | ⟨x, y, h1, h2, h3⟩
 ·rw [h1]
  exact ⟨s, [], false, rfl, .inl ⟨rfl, rfl, rfl, h2⟩⟩
 ·rw [h1]
  exact ⟨x, y, true, rfl, .inr ⟨rfl, h2, h3⟩⟩
theorem a6E (s : List UInt8) (w : World) (hs : s.length < 4294967281) (T : x5 w) :
  Calls Tryz.prog 131 #[str s, .string ⟨#[58, 58]⟩] w fun e w' => (∃ x y m, e = .returned (.tuple #[str x, str y, .bool m]) ∧ ((m = false ∧ x7 s = none ∧ x = s ∧ y = []) ∨ (m = true ∧ ∃ k, x7 s = some k ∧ x = s.take k ∧ y = s.drop (k + 2)))) ∧ ∃ n, w' = w.drewN n := by
 obtain ⟨m, hm⟩ := T.len
 refine (Tryz.strings_Cut ⟨s.toArray⟩ ⟨#[58, 58]⟩ m w (by rw [← j0]; exact hs) hm).mono ?_
 rintro e w' ⟨rfl, n, rfl⟩
 refine ⟨?_, n, rfl⟩
 show ∃ x y m, Ending.returned (.tuple #[str (Lib.cut s [58, 58]).1, str (Lib.cut s [58, 58]).2.1, .bool (Lib.cut s [58, 58]).2.2]) = _ ∧ _
 cases hg : x7 s with
 | none =>
  rw [a6F s hg]
  exact ⟨s, [], false, rfl, .inl ⟨rfl, rfl, rfl, rfl⟩⟩
 | some k =>
  rw [a6G s k hg]
  exact ⟨_, _, true, rfl, .inr ⟨rfl, k, rfl, rfl, rfl⟩⟩

end Go.Proofs.YtlfmddjppejmaaaGreatDoor
