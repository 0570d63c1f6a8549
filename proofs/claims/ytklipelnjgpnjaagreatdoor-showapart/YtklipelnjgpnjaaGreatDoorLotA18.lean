import Derived.Test.YtklipelnjgpnjaaGreatDoorLotA17
import Derived.Laws.CopyOwn
import Derived.Test.YtklipelnjgpnjaaGreatDoorLotA3
import Derived.Test.YtklipelnjgpnjaaGreatDoorLotA1
import Derived.Test.YtklipelnjgpnjaaGreatDoorLotA4
namespace Go.Proofs.YtklipelnjgpnjaaGreatDoor
open Go.RowKit
set_option maxRecDepth 100000
theorem splice_all4 (ys : List UInt8) (h : ys.length = 4) : splice (List.replicate 4 (.int .u8 0 : Value)) 0 (ys.map bv) = ys.map bv := by
 unfold splice
 rw [List.take_zero, List.nil_append, Nat.zero_add, List.length_map, h, List.drop_eq_nil_of_le (by simp), List.append_nil]
theorem wpList_index_agg {P : Program} {ops : Array Oper} {rest : List Oper} {o : Oper} {a : Act} {w : World} {Q : Exit → Act → World → Prop} (hgd : o.guard = none) (ty : TypeId) (x i : Operand) (ho : o.op = .index ty x i) (y j v : Value) (hx : a.eval x = y) (hj : a.eval i = j)
  (hr : (Instr.index ty y j).run P w = .ok v w) (h : wpList P ops Q rest (a.put o.dst v) w) : wpList P ops Q (o :: rest) a w :=
 wpList_plain hgd fun _ hK => by
  unfold Oper.wp execOp
  simp only [ho, hx, hj, hr, Sem.run_bind, Sem.run_pure, Result.andThen_ok]
  exact hK _ _ h
theorem ix4 (a b c d : Value) (w : World) : (Instr.index 114 (.agg #[a, b, c, d]) (.int .i64 0)).run Tryz.prog w = .ok a w ∧ (Instr.index 114 (.agg #[a, b, c, d]) (.int .i64 1)).run Tryz.prog w = .ok b w ∧ (Instr.index 114 (.agg #[a, b, c, d]) (.int .i64 2)).run Tryz.prog w = .ok c w ∧ (Instr.index 114 (.agg #[a, b, c, d]) (.int .i64 3)).run Tryz.prog w = .ok d w :=
 ⟨by kernel_rfl, by kernel_rfl, by kernel_rfl, by kernel_rfl⟩
set_option maxRecDepth 100000 in
set_option maxHeartbeats 4000000 in
theorem print4_any (xs : List UInt8) (w : World) (h4 : xs.length = 4) (T : TabA w) :
  Calls Tryz.prog 167 #[.agg (xs.map bv).toArray] w fun e w' => e = .returned (str (print4V xs)) ∧ w.grownBy w' none := by
 obtain ⟨i0, hi, hz0, hz1, hz2⟩ := info_parts info5
 have HT : Hid (TabA w) := T
 have h3 := T.size
 clear T
 obtain ⟨a, b, c, d, rfl⟩ : ∃ a b c d, xs = [a, b, c, d] := by
  match xs, h4 with
  | [a, b, c, d], _ => exact ⟨a, b, c, d, rfl⟩
 clear h4
 rw [show (([a, b, c, d] : List UInt8).map bv).toArray = #[.int .u8 (a.toNat : Int), .int .u8 (b.toNat : Int), .int .u8 (c.toNat : Int), .int .u8 (d.toNat : Int)] from rfl]
 have HTW : Hid (∀ X : World, Ap w.heap.size w X → TabA X) := fun X h => HT.out.below h3 h.1
 have A0 : Ap w.heap.size w (w.alloc (.cells #[.int .u8 (a.toNat : Int), .int .u8 (b.toNat : Int), .int .u8 (c.toNat : Int), .int .u8 (d.toNat : Int)] 114)) := Ap.ofNone (Nat.le_refl _) (World.grownBy_alloc _ _ _)
 have da := dec_len a.toNat
 have db := dec_len b.toNat
 have dc := dec_len c.toNat
 have dd := dec_len d.toNat
 have la := a.toNat_lt
 have lb := b.toNat_lt
 have lc := c.toNat_lt
 have ld := d.toNat_lt
 have HP : Hid (print4V [a, b, c, d] = ((dec a.toNat ++ [46] ++ dec b.toNat) ++ [46] ++ dec c.toNat) ++ [46] ++ dec d.toNat) := by
  show _ = _
  simp [print4V, joinV]
 go_enter Tryz.func167, Tryz.ntmps167
 go_wp2
 go_loopw [3, 7] (fun v i wr => ∃ (j : Nat) (t : List UInt8), j ≤ 4 ∧ i = .int .i64 j ∧ Owns wr w.heap.size v t ∧ Ap w.heap.size w wr ∧ t.length ≤ 21 * j ∧ Hid (t = if j = 0 then [] else if j = 1 then dec a.toNat else if j = 2 then dec a.toNat ++ [46] ++ dec b.toNat else if j = 3 then (dec a.toNat ++ [46] ++ dec b.toNat) ++ [46] ++ dec c.toNat else ((dec a.toNat ++ [46] ++ dec b.toNat) ++ [46] ++ dec c.toNat) ++ [46] ++ dec d.toNat)) (fun _ i _ => 4 - (intOf i).toNat)
 case atStart => exact ⟨0, [], Nat.zero_le _, rfl, World.ownsRow_nil _ _ _ _, A0, Nat.le_refl _, rfl⟩
 case round =>
  clear A0
  obtain ⟨j, t, hj, rfl, O, A, htl, HTx⟩ := hrel
  have hsz := A.size
  have hj5 : j = 0 ∨ j = 1 ∨ j = 2 ∨ j = 3 ∨ j = 4 := by omega
  rcases hj5 with rfl | rfl | rfl | rfl | rfl
  ·have ht : t = [] := HTx.out
   subst ht
   rw [show ((0 : Nat) : Int) = 0 from rfl]
   go_wp2_with (first | (refine wpList_index_agg rfl 114 (.tmp 6) (.tmp 7) rfl _ _ _ rfl rfl (ix4 _ _ _ _ _).1 ?_) | (go_at_call 185; refine (append_uint w.heap.size a.toNat _ [] _ (by omega) O hsz (by simp) (HTW.out _ A)).mono ?_; rintro e w2 ⟨v2, rfl, O2, A2⟩))
   go_roundw
   case rel => exact ⟨1, dec a.toNat, by omega, by go_num, O2, A.trans A2, by omega, rfl⟩
   case measure => simp [intOf]
  ·obtain ⟨ap, cap, rfl, -⟩ := cv_of_row O
   rw [show ((1 : Nat) : Int) = 1 from rfl]
   go_wp2_with (first | (refine wpList_index_agg rfl 114 (.tmp 6) (.tmp 7) rfl _ _ _ rfl rfl (ix4 _ _ _ _ _).2.1 ?_) | (at_builtin; refine wpList_append_cv rfl (.tmp 13) (.tmp 14) 115 rfl 5 i0 (.int .u8 0) 1 1 Tryz.underlying115 hi hz0 hz1 hz2 rfl (by decide) w.heap.size _ t.length (t.map bv) rfl ?q1b (some ⟨wr.heap.size, 0, none⟩) 1 1 [bv 46] rfl rfl (by simp) ?q2b (by simp [Value.oneCell', bv]) ?q3b ?q4b ?q5b ?q6b))
   case q1b => exact O.alloc _
   case q2b => exact cv_lit wr _ _
   case q3b => unfold maxLen; omega
   case q4b => omega
   case q5b => first | omega | (simp; omega)
   case q6b =>
    intro v1 w1 O1 K1
    have A1 : Ap w.heap.size w w1 := (A.trans (Ap.ofNone hsz (World.grownBy_alloc _ _ none))).trans (Ap.ofOwn (O.alloc _) (by simp; omega) K1)
    have O1' : Owns w1 w.heap.size v1 (t ++ [46]) := by
     unfold Owns
     rw [List.length_append, List.map_append]
     exact O1
    have hs1 := A1.size
    clear O1 K1 O A
    go_wp2_with (go_at_call 185; refine (append_uint w.heap.size b.toNat _ (t ++ [46]) _ (by omega) O1' hs1 (by rw [List.length_append]; simp only [List.length_cons, List.length_nil]; omega) (HTW.out _ A1)).mono ?_; rintro e w2 ⟨v2, rfl, O2, A2⟩)
    go_roundw
    case rel => exact ⟨2, t ++ [46] ++ dec b.toNat, by omega, by go_num, O2, A1.trans A2, by simp only [List.length_append, List.length_cons, List.length_nil]; omega, by rw [show t = _ from HTx.out]; rfl⟩
    case measure => simp [intOf]
  ·obtain ⟨ap, cap, rfl, -⟩ := cv_of_row O
   rw [show ((2 : Nat) : Int) = 2 from rfl]
   go_wp2_with (first | (refine wpList_index_agg rfl 114 (.tmp 6) (.tmp 7) rfl _ _ _ rfl rfl (ix4 _ _ _ _ _).2.2.1 ?_) | (at_builtin; refine wpList_append_cv rfl (.tmp 13) (.tmp 14) 115 rfl 5 i0 (.int .u8 0) 1 1 Tryz.underlying115 hi hz0 hz1 hz2 rfl (by decide) w.heap.size _ t.length (t.map bv) rfl ?q1c (some ⟨wr.heap.size, 0, none⟩) 1 1 [bv 46] rfl rfl (by simp) ?q2c (by simp [Value.oneCell', bv]) ?q3c ?q4c ?q5c ?q6c))
   case q1c => exact O.alloc _
   case q2c => exact cv_lit wr _ _
   case q3c => unfold maxLen; omega
   case q4c => omega
   case q5c => first | omega | (simp; omega)
   case q6c =>
    intro v1 w1 O1 K1
    have A1 : Ap w.heap.size w w1 := (A.trans (Ap.ofNone hsz (World.grownBy_alloc _ _ none))).trans (Ap.ofOwn (O.alloc _) (by simp; omega) K1)
    have O1' : Owns w1 w.heap.size v1 (t ++ [46]) := by
     unfold Owns
     rw [List.length_append, List.map_append]
     exact O1
    have hs1 := A1.size
    clear O1 K1 O A
    go_wp2_with (go_at_call 185; refine (append_uint w.heap.size c.toNat _ (t ++ [46]) _ (by omega) O1' hs1 (by rw [List.length_append]; simp only [List.length_cons, List.length_nil]; omega) (HTW.out _ A1)).mono ?_; rintro e w2 ⟨v2, rfl, O2, A2⟩)
    go_roundw
    case rel => exact ⟨3, t ++ [46] ++ dec c.toNat, by omega, by go_num, O2, A1.trans A2, by simp only [List.length_append, List.length_cons, List.length_nil]; omega, by rw [show t = _ from HTx.out]; rfl⟩
    case measure => simp [intOf]
  ·obtain ⟨ap, cap, rfl, -⟩ := cv_of_row O
   rw [show ((3 : Nat) : Int) = 3 from rfl]
   go_wp2_with (first | (refine wpList_index_agg rfl 114 (.tmp 6) (.tmp 7) rfl _ _ _ rfl rfl (ix4 _ _ _ _ _).2.2.2 ?_) | (at_builtin; refine wpList_append_cv rfl (.tmp 13) (.tmp 14) 115 rfl 5 i0 (.int .u8 0) 1 1 Tryz.underlying115 hi hz0 hz1 hz2 rfl (by decide) w.heap.size _ t.length (t.map bv) rfl ?q1d (some ⟨wr.heap.size, 0, none⟩) 1 1 [bv 46] rfl rfl (by simp) ?q2d (by simp [Value.oneCell', bv]) ?q3d ?q4d ?q5d ?q6d))
   case q1d => exact O.alloc _
   case q2d => exact cv_lit wr _ _
   case q3d => unfold maxLen; omega
   case q4d => omega
   case q5d => first | omega | (simp; omega)
   case q6d =>
    intro v1 w1 O1 K1
    have A1 : Ap w.heap.size w w1 := (A.trans (Ap.ofNone hsz (World.grownBy_alloc _ _ none))).trans (Ap.ofOwn (O.alloc _) (by simp; omega) K1)
    have O1' : Owns w1 w.heap.size v1 (t ++ [46]) := by
     unfold Owns
     rw [List.length_append, List.map_append]
     exact O1
    have hs1 := A1.size
    clear O1 K1 O A
    go_wp2_with (go_at_call 185; refine (append_uint w.heap.size d.toNat _ (t ++ [46]) _ (by omega) O1' hs1 (by rw [List.length_append]; simp only [List.length_cons, List.length_nil]; omega) (HTW.out _ A1)).mono ?_; rintro e w2 ⟨v2, rfl, O2, A2⟩)
    go_roundw
    case rel => exact ⟨4, t ++ [46] ++ dec d.toNat, by omega, by go_num, O2, A1.trans A2, by simp only [List.length_append, List.length_cons, List.length_nil]; omega, by rw [show t = _ from HTx.out]; rfl⟩
    case measure => simp [intOf]
  ·have hp : print4V [a, b, c, d] = t := by rw [HP.out, show t = _ from HTx.out]; rfl
   have HPT : Hid (print4V [a, b, c, d] = t) := hp
   have hcv := run_str (P := Tryz.prog) O 115 9 Tryz.underlying115 Tryz.underlying5 Tryz.underlying9
   clear hp HP HTx
   rw [show ((4 : Nat) : Int) = 4 from rfl]
   go_wp2
   go_ret
   exact ⟨by rw [HPT.out]; rfl, A.none⟩

open Go.RowKit Go.Shelf

attribute [local go_sem] Oper.semAt_some
abbrev encQ (p : Nat × Nat) : Array Value := #[.int .i64 (p.1 : Int), .int .u32 (p.2 : Int)]
theorem pairs_half : ∀ xs : List UInt8, (pairsG xs).length = xs.length / 2
 | [] => rfl
 | [_] => by simp [pairsG]
 | h :: l :: r => by
  rw [pairsG, List.length_cons, pairs_half r]
  simp only [List.length_cons]
  omega
theorem pairs_atG : ∀ (xs : List UInt8) (j : Nat) (h : j < (pairsG xs).length), numAt xs (2 * j) 2 = (pairsG xs)[j]
 | [], j, h => by simp [pairsG] at h
 | [_], j, h => by simp [pairsG] at h
 | a :: b :: r, 0, h => by simp [pairsG, numAt]; omega
 | a :: b :: r, j + 1, h => by
  have ih := pairs_atG r j (by simpa [pairsG] using h)
  simp only [pairsG, List.getElem_cons_succ]
  rw [← ih]
  simp only [numAt, show 2 * (j + 1) + 0 = 2 * j + 0 + 1 + 1 by omega, show 2 * (j + 1) + 1 = 2 * j + 1 + 1 + 1 by omega, List.getD_cons_succ]
  rfl
theorem get_pair (xs : List UInt8) (j : Nat) (h : j < (pairsG xs).length) : getV xs (2 * (j : Int)) 2 = ((pairsG xs)[j] : Int) := by
 have hl := pairs_half xs
 rw [getV, if_pos (by simp [okB]; omega), show (2 * (j : Int)).toNat = 2 * j by omega]
 exact congrArg _ (pairs_atG xs j h)
set_option maxHeartbeats 1000000 in
theorem pairs_any (ao : Option Addr) (n ca : Nat) (w : World) :
  Calls Tryz.prog 203 #[.slice ao n ca] w fun e w' => e = .returned (.func (.func 213) #[] #[.pointer (some ⟨w.heap.size, 0, none⟩)]) ∧ w' = w.alloc (.cells #[.slice ao n ca] 115) := by
 go_enter Tryz.func203, Tryz.ntmps203
 go_wp2
 go_ret
 exact ⟨rfl, rfl⟩
theorem Kp.cells {n : Nat} {S : Nat → Prop} {W W' : World} (K : Kp n S W W') {ao : Option Addr} {xs : List UInt8} (hs : ∀ ad, ao = some ad → xs ≠ [] → ad.block < n ∨ S ad.block) (h : Cells W ao xs) : Cells W' ao xs :=
 ⟨h.1, fun ad had i hi => K.cell (a := ad.add i) (by rw [show (ad.add i).block = ad.block by unfold Addr.add; split <;> rfl]; exact hs ad had (fun e => by subst e; simp at hi)) (h.2 ad had i hi)⟩
set_option maxRecDepth 100000 in
set_option maxHeartbeats 2000000 in
theorem pairs1_in (n : Nat) (hn : 1 ≤ n) (l Bb n₀ : Nat) (S : Nat → Prop) (ao : Option Addr) (ca : Nat) (xs : List UInt8) (hs : xs.length ≤ 1048576) (hS : S Bb ∨ Bb < n₀) (hA : ∀ ad, ao = some ad → xs ≠ [] → ad.block < n₀ ∨ S ad.block) (J Jx : List (Nat × Nat) → World → Prop)
  (hY : ∀ pre x W, J pre W → pre.length < (pairsG xs).length → YieldAt Fence.wide (n - 1) Tryz.prog l (encQ x) W fun e W' =>
   (e = .returned (.bool true) ∧ J (pre ++ [x]) W' ∧ Kp n₀ S W W') ∨ (e = .returned (.bool false) ∧ Jx (pre ++ [x]) W'))
  (W : World) (hBb : W.cell? ⟨Bb, 0, none⟩ = some (.slice ao xs.length ca)) (hc : Cells W ao xs) (h0 : J [] W) :
  CallsIn Fence.wide n Tryz.prog 213 #[.func (.yield l) #[] #[], .pointer (some ⟨Bb, 0, none⟩)] W fun e W' => (∃ v, e = .returned v) ∧
   ((∃ ys, ys = numF 0 (pairsG xs) ∧ J ys W') ∨ (∃ pre, pre <+: numF 0 (pairsG xs) ∧ Jx pre W')) := by
 have HH : Hid ((pairsG xs).length = xs.length / 2) := pairs_half xs
 have HC : Hid (Cells W ao xs) := hc
 clear hc
 have hq : (xs.length : Int) / 2 = (((pairsG xs).length : Nat) : Int) := by have := HH.out; omega
 refine callsIn_of_wp Tryz.func213 rfl trivial ?_ rfl
 simp only [Tryz.ntmps213, List.size_toArray, List.length_cons, List.length_nil, Nat.reduceAdd, Nat.reduceSub, Array.replicate_succ, Array.replicate_zero, List.push_toArray, List.append_toArray, List.nil_append, List.cons_append]
 gi_wp2
 gi_loopw [9] (fun i wr => ∃ k : Nat, k ≤ (pairsG xs).length ∧ i = .int .i64 k ∧ J (numF 0 ((pairsG xs).take k)) wr ∧ Hid (Cells wr ao xs) ∧ wr.cell? ⟨Bb, 0, none⟩ = some (.slice ao xs.length ca)) (fun i _ => (pairsG xs).length - (intOf i).toNat)
 case atStart => exact ⟨0, Nat.zero_le _, rfl, h0, HC, hBb⟩
 case round =>
  clear h0 hBb HC
  obtain ⟨k, hk, rfl, hJs, HCr, hb⟩ := hrel
  by_cases hlt : k < (pairsG xs).length
  ·have hki : (k : Int) < (((pairsG xs).length : Nat) : Int) := by omega
   have CG := get_any ao ca xs (2 * (k : Int)) 2 wr HCr.out (by omega)
   rw [get_pair xs k hlt] at CG
   generalize okB xs.length (2 * (k : Int)) 2 = ok at *
   have HT : Hid (numF 0 ((pairsG xs).take k) ++ [(k, (pairsG xs)[k])] = numF 0 ((pairsG xs).take (k + 1))) := by
    show _ = _
    rw [List.take_succ_eq_append_getElem hlt, numF_append, List.length_take, Nat.min_eq_left hk, Nat.zero_add]
    rfl
   have HP : Hid (numF 0 ((pairsG xs).take (k + 1)) <+: numF 0 (pairsG xs)) := by
    refine ⟨numF (0 + ((pairsG xs).take (k + 1)).length) ((pairsG xs).drop (k + 1)), ?_⟩
    rw [← numF_append, List.take_append_drop]
   obtain ⟨fn, tmps, assign, body, hy, hR⟩ := hY _ (k, (pairsG xs)[k]) wr hJs (by rw [numF_len, List.length_take]; omega)
   rw [HT.out] at hR
   dsimp only [encQ] at hy
   generalize (pairsG xs)[k] = g at *
   clear HT
   gi_wp2_with (refine ⟨trivial, ?_⟩; gi_at_call 214; refine (callsIn_wide.2 CG).mono ?_; rintro e w1 ⟨rfl, rfl⟩)
   refine hR.mono ?_
   clear CG hy hR
   rintro e W3 (⟨rfl, hJ3, hk3⟩ | ⟨rfl, hJx3⟩)
   ·have hb3 := hk3.cell (a := ⟨Bb, 0, none⟩) (hS.elim .inr .inl) hb
    have HC3 : Hid (Cells W3 ao xs) := hk3.cells hA HCr.out
    clear hb HCr hJs
    gi_wp2
    go_roundw
    case rel => exact ⟨k + 1, by omega, by simp, hJ3, HC3, hb3⟩
    case measure => simp [intOf]; omega
   ·gi_wp2
    refine bodyPost_ret (results_none rfl _ _ _) rfl ?_
    exact ⟨⟨_, rfl⟩, .inr ⟨_, HP.out, hJx3⟩⟩
  ·obtain rfl : k = (pairsG xs).length := by omega
   rw [List.take_length] at hJs
   gi_wp2
   go_end0
   exact ⟨⟨_, rfl⟩, .inl ⟨_, rfl, hJs⟩⟩
theorem pairs_stops (n : Nat) (hn : 1 ≤ n) (Bb n₀ : Nat) (S : Nat → Prop) (ao : Option Addr) (ca : Nat) (xs : List UInt8) (hs : xs.length ≤ 1048576) (hS : S Bb ∨ Bb < n₀) (hA : ∀ ad, ao = some ad → xs ≠ [] → ad.block < n₀ ∨ S ad.block) (w : World) (hBb : w.cell? ⟨Bb, 0, none⟩ = some (.slice ao xs.length ca)) (hc : Cells w ao xs) :
  SeqStopsK Fence.wide n Tryz.prog 213 #[.pointer (some ⟨Bb, 0, none⟩)] encQ (Kp n₀ S) (fun ys => ys = numF 0 (pairsG xs)) (fun pre => pre <+: numF 0 (pairsG xs)) (pairsG xs).length w := fun l J Jx W hW _ _ hY h0 => by
 have lt : ∀ {a : Addr} {v : Value}, w.cell? a = some v → a.block < w.heap.size := fun {a v} h => by
  by_cases hb : a.block < w.heap.size
  ·exact hb
  ·unfold World.cell? at h
   rw [Array.getElem?_eq_none (by omega)] at h
   simp at h
 refine pairs1_in n hn l Bb n₀ S ao ca xs hs hS hA J Jx hY W ((hW.cell (p := ⟨Bb, 0, none⟩) (lt hBb)).trans hBb) ?_ h0
 exact ⟨hc.1, fun ad had i hi => by
  have h := hc.2 ad had i hi
  exact (hW.cell (p := ad.add i) (lt h)).trans h⟩

open Go.RowKit Go.Shelf

attribute [local go_sem] Oper.semAt_some
abbrev encU (p : Nat × UInt16) : Array Value := #[.int .i64 (p.1 : Int), .int .u32 (p.2.toNat : Int)]
def numU (gs : List Nat) : List (Nat × UInt16) := (numF 0 gs).map fun p => (p.1, UInt16.ofNat p.2)
theorem numU_len (gs : List Nat) : (numU gs).length = gs.length := by rw [numU, List.length_map, numF_len]
theorem numU_snoc (gs : List Nat) (g : Nat) : numU (gs ++ [g]) = numU gs ++ [(gs.length, UInt16.ofNat g)] := by
 unfold numU
 rw [numF_append, List.map_append, Nat.zero_add]
 rfl
theorem numU_pre {a b : List Nat} (h : a <+: b) : numU a <+: numU b := by
 obtain ⟨t, rfl⟩ := h
 refine ⟨(numF (0 + a.length) t).map fun p => (p.1, UInt16.ofNat p.2), ?_⟩
 unfold numU
 rw [numF_append, List.map_append]
set_option maxRecDepth 100000 in
set_option maxHeartbeats 2000000 in
theorem pairsU1_in (n : Nat) (hn : 1 ≤ n) (l Bb n₀ : Nat) (S : Nat → Prop) (ao : Option Addr) (ca : Nat) (xs : List UInt8) (hs : xs.length ≤ 1048576) (hS : S Bb ∨ Bb < n₀) (hA : ∀ ad, ao = some ad → xs ≠ [] → ad.block < n₀ ∨ S ad.block) (J Jx : List (Nat × UInt16) → World → Prop)
  (hY : ∀ pre x W, J pre W → pre.length < (pairsG xs).length → YieldAt Fence.wide (n - 1) Tryz.prog l (encU x) W fun e W' =>
   (e = .returned (.bool true) ∧ J (pre ++ [x]) W' ∧ Kp n₀ S W W') ∨ (e = .returned (.bool false) ∧ Jx (pre ++ [x]) W'))
  (W : World) (hBb : W.cell? ⟨Bb, 0, none⟩ = some (.slice ao xs.length ca)) (hc : Cells W ao xs) (h0 : J [] W) :
  CallsIn Fence.wide n Tryz.prog 213 #[.func (.yield l) #[] #[], .pointer (some ⟨Bb, 0, none⟩)] W fun e W' => (∃ v, e = .returned v) ∧
   ((∃ ys, ys = numU (pairsG xs) ∧ J ys W') ∨ (∃ pre, pre <+: numU (pairsG xs) ∧ Jx pre W')) := by
 have HH : Hid ((pairsG xs).length = xs.length / 2) := pairs_half xs
 have HC : Hid (Cells W ao xs) := hc
 clear hc
 have hq : (xs.length : Int) / 2 = (((pairsG xs).length : Nat) : Int) := by have := HH.out; omega
 refine callsIn_of_wp Tryz.func213 rfl trivial ?_ rfl
 simp only [Tryz.ntmps213, List.size_toArray, List.length_cons, List.length_nil, Nat.reduceAdd, Nat.reduceSub, Array.replicate_succ, Array.replicate_zero, List.push_toArray, List.append_toArray, List.nil_append, List.cons_append]
 gi_wp2
 gi_loopw [9] (fun i wr => ∃ k : Nat, k ≤ (pairsG xs).length ∧ i = .int .i64 k ∧ J (numU ((pairsG xs).take k)) wr ∧ Hid (Cells wr ao xs) ∧ wr.cell? ⟨Bb, 0, none⟩ = some (.slice ao xs.length ca)) (fun i _ => (pairsG xs).length - (intOf i).toNat)
 case atStart => exact ⟨0, Nat.zero_le _, rfl, h0, HC, hBb⟩
 case round =>
  clear h0 hBb HC
  obtain ⟨k, hk, rfl, hJs, HCr, hb⟩ := hrel
  by_cases hlt : k < (pairsG xs).length
  ·have hki : (k : Int) < (((pairsG xs).length : Nat) : Int) := by omega
   have CG := get_any ao ca xs (2 * (k : Int)) 2 wr HCr.out (by omega)
   rw [get_pair xs k hlt] at CG
   generalize okB xs.length (2 * (k : Int)) 2 = ok at *
   have HT : Hid (numU ((pairsG xs).take k) ++ [(k, UInt16.ofNat (pairsG xs)[k])] = numU ((pairsG xs).take (k + 1))) := by
    show _ = _
    rw [List.take_succ_eq_append_getElem hlt, numU_snoc, List.length_take, Nat.min_eq_left hk]
   have HP : Hid (numU ((pairsG xs).take (k + 1)) <+: numU (pairsG xs)) := by
    exact numU_pre (List.take_prefix _ _)
   obtain ⟨fn, tmps, assign, body, hy, hR⟩ := hY _ (k, UInt16.ofNat (pairsG xs)[k]) wr hJs (by rw [numU_len, List.length_take]; omega)
   rw [HT.out] at hR
   dsimp only [encU] at hy
   rw [UInt16.toNat_ofNat_of_lt' (pairs_lt xs _ (List.getElem_mem hlt))] at hy
   generalize (pairsG xs)[k] = g at *
   clear HT
   gi_wp2_with (refine ⟨trivial, ?_⟩; gi_at_call 214; refine (callsIn_wide.2 CG).mono ?_; rintro e w1 ⟨rfl, rfl⟩)
   refine hR.mono ?_
   clear CG hy hR
   rintro e W3 (⟨rfl, hJ3, hk3⟩ | ⟨rfl, hJx3⟩)
   ·have hb3 := hk3.cell (a := ⟨Bb, 0, none⟩) (hS.elim .inr .inl) hb
    have HC3 : Hid (Cells W3 ao xs) := hk3.cells hA HCr.out
    clear hb HCr hJs
    gi_wp2
    go_roundw
    case rel => exact ⟨k + 1, by omega, by simp, hJ3, HC3, hb3⟩
    case measure => simp [intOf]; omega
   ·gi_wp2
    refine bodyPost_ret (results_none rfl _ _ _) rfl ?_
    exact ⟨⟨_, rfl⟩, .inr ⟨_, HP.out, hJx3⟩⟩
  ·obtain rfl : k = (pairsG xs).length := by omega
   rw [List.take_length] at hJs
   gi_wp2
   go_end0
   exact ⟨⟨_, rfl⟩, .inl ⟨_, rfl, hJs⟩⟩
theorem pairsU_stops (n : Nat) (hn : 1 ≤ n) (Bb n₀ : Nat) (S : Nat → Prop) (ao : Option Addr) (ca : Nat) (xs : List UInt8) (hs : xs.length ≤ 1048576) (hS : S Bb ∨ Bb < n₀) (hA : ∀ ad, ao = some ad → xs ≠ [] → ad.block < n₀ ∨ S ad.block) (w : World) (hBb : w.cell? ⟨Bb, 0, none⟩ = some (.slice ao xs.length ca)) (hc : Cells w ao xs) :
  SeqStopsK Fence.wide n Tryz.prog 213 #[.pointer (some ⟨Bb, 0, none⟩)] encU (Kp n₀ S) (fun ys => ys = numU (pairsG xs)) (fun pre => pre <+: numU (pairsG xs)) (pairsG xs).length w := fun l J Jx W hW _ _ hY h0 => by
 have lt : ∀ {a : Addr} {v : Value}, w.cell? a = some v → a.block < w.heap.size := fun {a v} h => by
  by_cases hb : a.block < w.heap.size
  ·exact hb
  ·unfold World.cell? at h
   rw [Array.getElem?_eq_none (by omega)] at h
   simp at h
 refine pairsU1_in n hn l Bb n₀ S ao ca xs hs hS hA J Jx hY W ((hW.cell (p := ⟨Bb, 0, none⟩) (lt hBb)).trans hBb) ?_ h0
 exact ⟨hc.1, fun ad had i hi => by
  have h := hc.2 ad had i hi
  exact (hW.cell (p := ad.add i) (lt h)).trans h⟩
def hexM : Nat → Nat → List UInt8
 | 0, n => [hexD (n % 16)]
 | f + 1, n => if n < 16 then [hexD n] else hexM f (n / 16) ++ [hexD (n % 16)]
theorem hexD_zero : hexD 0 = 48 := by decide
theorem hexD_ne {n : Nat} (h : n < 16) (h0 : n ≠ 0) : hexD n ≠ 48 := fun e => h0 ((hexD_dig h).2.2.2 e)
theorem hexM_short (n : Nat) (h : n < 65536) : hexM 3 n = shortV n := by
 unfold shortV fullV
 simp only [hexM]
 by_cases h1 : n < 16
 ·rw [if_pos h1, show n / 4096 % 16 = 0 by omega, show n / 256 % 16 = 0 by omega, show n / 16 % 16 = 0 by omega, show n % 16 = n by omega, hexD_zero]
  simp [stripV]
 ·rw [if_neg h1]
  by_cases h2 : n / 16 < 16
  ·rw [if_pos h2, show n / 4096 % 16 = 0 by omega, show n / 256 % 16 = 0 by omega, show n / 16 % 16 = n / 16 by omega, hexD_zero]
   have := hexD_ne h2 (by omega)
   simp [stripV, this]
  ·rw [if_neg h2]
   by_cases h3 : n / 16 / 16 < 16
   ·rw [if_pos h3, show n / 4096 % 16 = 0 by omega, show n / 256 % 16 = n / 16 / 16 by omega, hexD_zero]
    have := hexD_ne h3 (by omega)
    simp [stripV, this]
   ·rw [if_neg h3, show n / 4096 % 16 = n / 16 / 16 / 16 % 16 by omega, show n / 256 % 16 = n / 16 / 16 % 16 by omega]
    have := hexD_ne (n := n / 16 / 16 / 16 % 16) (by omega) (by omega)
    simp [stripV, this]
theorem hexM_step (f n : Nat) (h : 16 ≤ n) : hexM (f + 1) n = hexM f (n / 16) ++ [hexD (n % 16)] := by rw [hexM, if_neg (by omega)]
theorem hexM_last (f n : Nat) (h : n < 16) : hexM f n = [hexD n] := by
 cases f with
 | zero => rw [hexM, Nat.mod_eq_of_lt h]
 | succ f => rw [hexM, if_pos h]
def hexT36 : ByteArray := ⟨#[48, 49, 50, 51, 52, 53, 54, 55, 56, 57, 97, 98, 99, 100, 101, 102, 103, 104, 105, 106, 107, 108, 109, 110, 111, 112, 113, 114, 115, 116, 117, 118, 119, 120, 121, 122]⟩
theorem hexT36_key : ∀ j : Fin 16, hexT36[j.val]'(Nat.lt_of_lt_of_le j.isLt (by decide)) = hexD j.val := by decide +kernel
theorem hexT36_at (i : Nat) (h : i < hexT36.size) (h' : i < 16) : hexT36[i] = hexD i := hexT36_key ⟨i, h'⟩
theorem u64_and15 (v : Nat) (h : v < 65536) : bits .and .u64 (v : Int) 15 = ((v % 16 : Nat) : Int) := by
 have e : bits .and .u64 (v : Int) ((15 : Nat) : Int) = _ := u64_and_nat v 15 (by omega) (by omega)
 rw [show (15 : Int) = ((15 : Nat) : Int) from rfl, e]
 congr 1
 exact Nat.and_two_pow_sub_one_eq_mod v 4
set_option maxHeartbeats 1000000 in
theorem tz_any (w : World) (T : TabA w) :
  Calls Tryz.prog 212 #[.int .u64 16] w fun e w' => e = .returned (.int .i64 4) ∧ w = w' := by
 have h := T.2.1
 clear T
 have e1 : IntKind.u64.wrap (-16) = 18446744073709551600 := by decide +kernel
 have e2 : bits .and .u64 16 18446744073709551600 = 16 := by decide +kernel
 have e3 : IntKind.u64.wrap (16 * 285870213051353865) = 4573923408821661840 := by decide +kernel
 have C : Calls Tryz.prog 217 #[.int .u64 16] w fun e w' => e = .returned (.int .i64 4) ∧ w = w' := by
  go_enter Tryz.func217, Tryz.ntmps217
  go_wp2
  go_ret
  exact ⟨rfl, rfl⟩
 go_enter Tryz.func212, Tryz.ntmps212
 go_wp2_with fail
 refine C.mono ?_
 rintro e w' ⟨rfl, rfl⟩
 go_wp2
 go_ret
 exact ⟨rfl, rfl⟩
def arr65 (ds : List UInt8) : List UInt8 := List.replicate (65 - ds.length) 0 ++ ds
theorem arr65_set (ds : List UInt8) (u : UInt8) (h : ds.length < 65) : (arr65 ds).set (65 - ds.length - 1) u = arr65 (u :: ds) := by
 unfold arr65
 rw [List.set_append_left _ _ (by rw [List.length_replicate]; omega)]
 rw [show 65 - ds.length = (65 - (ds.length + 1)) + 1 by omega, List.replicate_succ', Nat.add_sub_cancel, List.set_append_right _ _ (by rw [List.length_replicate]; exact Nat.le_refl _), List.length_replicate, Nat.sub_self, List.set_cons_zero, List.length_cons, List.append_assoc]
 rfl
theorem arr65_len (ds : List UInt8) (h : ds.length ≤ 65) : (arr65 ds).length = 65 := by unfold arr65; rw [List.length_append, List.length_replicate]; omega
theorem arr65_cv {w : World} {g t : Nat} {ds : List UInt8} (A : AAt w g t (arr65 ds)) (h : ds.length ≤ 65) : CV w (some ⟨g, 65 - ds.length, none⟩) (ds.map bv) := by
 refine ⟨fun e => (by cases e), fun ad e i hi => ?_⟩
 cases e
 rw [List.length_map] at hi
 rw [Addr.add_lit]
 have := A.cell (i := 65 - ds.length + i) (by rw [arr65_len ds h]; omega)
 rw [this]
 simp only [arr65, List.getElem_map]
 rw [List.getElem_append_right (by rw [List.length_replicate]; omega)]
 simp only [List.length_replicate, Nat.add_sub_cancel_left]
 rfl
set_option maxRecDepth 100000 in
set_option maxHeartbeats 4000000 in
theorem format_hex (B u : Nat) (v : Value) (xs : List UInt8) (w : World) (hu : u < 65536) (O : Owns w B v xs) (hB : B ≤ w.heap.size) (hl : xs.length + 20 ≤ 140737488355328) (T : TabA w) :
  Calls Tryz.prog 202 #[v, .int .u64 u, .int .i64 16, .bool false, .bool true] w fun e w' => ∃ v', e = .returned (.tuple #[v', .string ⟨#[]⟩]) ∧ Owns w' B v' (xs ++ shortV u) ∧ Ap B w w' := by
 obtain ⟨i0, hi, hz0, hz1, hz2⟩ := info_parts info5
 have HT : Hid (TabA w) := T
 have HO : Hid (Owns w B v xs) := O
 have HU : Hid (hexM 3 u = shortV u) := hexM_short u hu
 clear T O
 have e0 : (bits .and .i64 16 15) = 0 := by decide +kernel
 go_enter Tryz.func202, Tryz.ntmps202
 go_upto_region 4 with fail
 have A0 := AAt.alloc w 211 (List.replicate 65 0)
 have G0 := World.grownBy_alloc w (.cells ((List.replicate 65 (0 : UInt8)).map bv).toArray 211) none
 have hz65 : Tryz.zeroCells211 = ((List.replicate 65 (0 : UInt8)).map bv).toArray := by kernel_rfl
 rw [← hz65] at A0 G0
 have A1 : AAt (w.alloc (.cells Tryz.zeroCells211 211)) w.heap.size 211 (arr65 []) := A0
 obtain ⟨g, hg, hgw⟩ : ∃ g, w.heap.size = g ∧ w.heap.size ≤ g := ⟨_, rfl, Nat.le_refl _⟩
 rw [hg] at A1
 rw [show (Value.pointer (some ⟨w.heap.size, 0, none⟩)) = .pointer (some ⟨g, 0, none⟩) by rw [hg]]
 clear hz65 A0 hg
 generalize w.alloc (.cells Tryz.zeroCells211 211) = w1 at *
 go_wp2_with (first | (go_at_call 212; refine (tz_any _ (HT.out.grown G0)).mono ?_; rintro e w' ⟨rfl, rfl⟩) | go_in)
 go_loopw [1, 13] (fun x i wr => ∃ (k y : Nat) (ds : List UInt8), k ≤ 3 ∧ Hid (ds.length = k) ∧ x = .int .u64 y ∧ i = .int .i64 ((65 - k : Nat) : Int) ∧ y < 65536 / 16 ^ k ∧ Hid (hexM (3 - k) y ++ ds = shortV u) ∧ AAt wr g 211 (arr65 ds) ∧ w.grownBy wr none) (fun x _ _ => (intOf x).toNat)
 case atStart => exact ⟨0, u, [], Nat.zero_le _, rfl, rfl, rfl, by simpa using hu, by rw [List.append_nil]; exact HU, A1, G0⟩
 case round =>
  clear A1 G0
  obtain ⟨k, y, ds, hk, HK, rfl, rfl, hy, HD, A, G⟩ := hrel
  have hy6 : y < 65536 := Nat.lt_of_lt_of_le hy (Nat.div_le_self _ _)
  have hb := u64_and15 y hy6
  have HL : Hid ((arr65 ds).length = 65) := arr65_len ds (by have := HK.out; omega)
  have hfr := A.free (65 - k - 1)
  have hix : wrap64 (((65 - k : Nat) : Int) - 1) = ((65 - k - 1 : Nat) : Int) := by unfold wrap64; omega
  have hc : wr.cell? ⟨g, 65 - k - 1, none⟩ = some (.int .u8 (((arr65 ds)[65 - k - 1]'(by have := HL.out; omega)).toNat : Int)) := A.cell (i := 65 - k - 1) (by have := HL.out; omega)
  generalize ((arr65 ds)[65 - k - 1]'(by have := HL.out; omega)).toNat = old at hc
  have hS : ∀ d : UInt8, AAt (wr.setCell ⟨g, 65 - k - 1, none⟩ (.int .u8 (d.toNat : Int))) g 211 (arr65 (d :: ds)) := fun d => by
   have := A.set (65 - k - 1) d.toNat d.toNat_lt
   rw [UInt8.ofNat_toNat, ← HK.out, arr65_set ds d (by have := HK.out; omega)] at this
   rw [← HK.out]
   exact this
  have HS : Hid (∀ d : UInt8, AAt (wr.setCell ⟨g, 65 - k - 1, none⟩ (.int .u8 (d.toNat : Int))) g 211 (arr65 (d :: ds))) := hS
  have hik : 65 - k - 1 < 65 := by omega
  clear hS
  by_cases hge : 16 ≤ y
  ·have hge' : (16 : Int) ≤ (y : Int) := by omega
   have hk3 : k < 3 := by
    rcases Nat.lt_or_ge k 3 with h | h
    ·exact h
    ·obtain rfl : k = 3 := by omega
     simp at hy
     omega
   have hm : y % 16 < 16 := by omega
   have e1 : (⟨#[48, 49, 50, 51, 52, 53, 54, 55, 56, 57, 97, 98, 99, 100, 101, 102, 103, 104, 105, 106, 107, 108, 109, 110, 111, 112, 113, 114, 115, 116, 117, 118, 119, 120, 121, 122]⟩ : ByteArray)[y % 16]'(by show _ < 36; omega) = hexD (y % 16) := hexT36_at _ _ hm
   have HD2 : Hid (hexM (3 - (k + 1)) (y / 16) ++ (hexD (y % 16) :: ds) = shortV u) := by
    show _ = _
    rw [← HD.out, show 3 - k = 3 - (k + 1) + 1 by omega, hexM_step _ _ hge, List.append_assoc]
    rfl
   have A2 := HS.out (hexD (y % 16))
   have G2 := grown_setCell G ⟨g, 65 - k - 1, none⟩ (.int .u8 ((hexD (y % 16)).toNat : Int)) (.inr hgw)
   have hy2 : y / 16 < 65536 / 16 ^ (k + 1) := by
    rw [Nat.pow_succ, ← Nat.div_div_eq_div_mul]
    have : k = 0 ∨ k = 1 ∨ k = 2 := by omega
    rcases this with rfl | rfl | rfl <;> simp at hy ⊢ <;> omega
   clear HS HD A G
   go_wp2
   go_roundw
   case rel => exact ⟨k + 1, y / 16, hexD (y % 16) :: ds, by omega, (by have := HK.out; simp; omega : (hexD (y % 16) :: ds).length = k + 1), by go_num, by rw [show ((65 - (k + 1) : Nat) : Int) = ((65 - k : Nat) : Int) - 1 by omega], hy2, HD2, A2, G2⟩
   case measure => simp [intOf]; omega
  ·have hge' : ¬ (16 : Int) ≤ (y : Int) := by omega
   have hy16 : y < 16 := by omega
   have e1 : (⟨#[48, 49, 50, 51, 52, 53, 54, 55, 56, 57, 97, 98, 99, 100, 101, 102, 103, 104, 105, 106, 107, 108, 109, 110, 111, 112, 113, 114, 115, 116, 117, 118, 119, 120, 121, 122]⟩ : ByteArray)[y]'(by show _ < 36; omega) = hexD y := hexT36_at _ _ hy16
   have HD2 : Hid (hexD y :: ds = shortV u) := by
    show _ = _
    rw [← HD.out, hexM_last _ _ hy16]
    rfl
   have A2 := HS.out (hexD y)
   have G2 := grown_setCell G ⟨g, 65 - k - 1, none⟩ (.int .u8 ((hexD y).toNat : Int)) (.inr hgw)
   have CVs := arr65_cv A2 (by have := HK.out; simp; omega)
   have HC : Hid (CV (wr.setCell ⟨g, 65 - k - 1, none⟩ (.int .u8 ((hexD y).toNat : Int))) (some ⟨g, 65 - (k + 1), none⟩) ((shortV u).map bv)) := by
    rw [HD2.out] at CVs
    rw [← HD2.out] at CVs
    rw [← HD2.out]
    have e : (hexD y :: ds).length = k + 1 := by have := HK.out; simp; omega
    rw [e] at CVs
    exact CVs
   have HZ : Hid ((shortV u).length = k + 1) := by
    show _ = _
    rw [← HD2.out]
    have := HK.out
    simp
    omega
   have hBw : B ≤ wr.heap.size := Nat.le_trans hB G.size
   clear HS HD A G CVs A2 HD2 HK HL HU
   have hk4 : k = 0 ∨ k = 1 ∨ k = 2 ∨ k = 3 := by omega
   rcases hk4 with rfl | rfl | rfl | rfl
   ·go_wp2_with (at_builtin; refine wpList_append_cv rfl (.tmp 95) (.tmp 97) 115 rfl 5 i0 (.int .u8 0) 1 1 Tryz.underlying115 hi hz0 hz1 hz2 rfl (by decide) B v xs.length (xs.map bv) rfl ?q1a _ _ _ ((shortV u).map bv) rfl ?q0a (by simp) ?q2a (bv_one (shortV u)) ?q3a ?q4a ?q5a ?q6a)
    case q1a => exact owns_keptNone HO.out G2
    case q0a => first | exact HZ.out | (rw [List.length_map]; exact HZ.out) | simpa using HZ.out
    case q2a => exact HC.out
    case q3a => unfold maxLen; omega
    case q4a => omega
    case q6a =>
     intro y2 w2 O2 K2
     have AP : Ap B w w2 := (Ap.ofNone hB G2).trans (Ap.ofOwn (owns_keptNone HO.out G2) (by have := G2.size; omega) K2)
     have O3 : Owns w2 B y2 (xs ++ shortV u) := by
      unfold Owns
      rw [List.length_append, List.map_append, HZ.out]
      exact O2
     clear O2 K2
     go_wp2
     go_ret2
     exact ⟨_, rfl, O3, AP⟩
   ·go_wp2_with (at_builtin; refine wpList_append_cv rfl (.tmp 95) (.tmp 97) 115 rfl 5 i0 (.int .u8 0) 1 1 Tryz.underlying115 hi hz0 hz1 hz2 rfl (by decide) B v xs.length (xs.map bv) rfl ?q1b _ _ _ ((shortV u).map bv) rfl ?q0b (by simp) ?q2b (bv_one (shortV u)) ?q3b ?q4b ?q5b ?q6b)
    case q1b => exact owns_keptNone HO.out G2
    case q0b => first | exact HZ.out | (rw [List.length_map]; exact HZ.out) | simpa using HZ.out
    case q2b => exact HC.out
    case q3b => unfold maxLen; omega
    case q4b => omega
    case q6b =>
     intro y2 w2 O2 K2
     have AP : Ap B w w2 := (Ap.ofNone hB G2).trans (Ap.ofOwn (owns_keptNone HO.out G2) (by have := G2.size; omega) K2)
     have O3 : Owns w2 B y2 (xs ++ shortV u) := by
      unfold Owns
      rw [List.length_append, List.map_append, HZ.out]
      exact O2
     clear O2 K2
     go_wp2
     go_ret2
     exact ⟨_, rfl, O3, AP⟩
   ·go_wp2_with (at_builtin; refine wpList_append_cv rfl (.tmp 95) (.tmp 97) 115 rfl 5 i0 (.int .u8 0) 1 1 Tryz.underlying115 hi hz0 hz1 hz2 rfl (by decide) B v xs.length (xs.map bv) rfl ?q1c _ _ _ ((shortV u).map bv) rfl ?q0c (by simp) ?q2c (bv_one (shortV u)) ?q3c ?q4c ?q5c ?q6c)
    case q1c => exact owns_keptNone HO.out G2
    case q0c => first | exact HZ.out | (rw [List.length_map]; exact HZ.out) | simpa using HZ.out
    case q2c => exact HC.out
    case q3c => unfold maxLen; omega
    case q4c => omega
    case q6c =>
     intro y2 w2 O2 K2
     have AP : Ap B w w2 := (Ap.ofNone hB G2).trans (Ap.ofOwn (owns_keptNone HO.out G2) (by have := G2.size; omega) K2)
     have O3 : Owns w2 B y2 (xs ++ shortV u) := by
      unfold Owns
      rw [List.length_append, List.map_append, HZ.out]
      exact O2
     clear O2 K2
     go_wp2
     go_ret2
     exact ⟨_, rfl, O3, AP⟩
   ·go_wp2_with (at_builtin; refine wpList_append_cv rfl (.tmp 95) (.tmp 97) 115 rfl 5 i0 (.int .u8 0) 1 1 Tryz.underlying115 hi hz0 hz1 hz2 rfl (by decide) B v xs.length (xs.map bv) rfl ?q1d _ _ _ ((shortV u).map bv) rfl ?q0d (by simp) ?q2d (bv_one (shortV u)) ?q3d ?q4d ?q5d ?q6d)
    case q1d => exact owns_keptNone HO.out G2
    case q0d => first | exact HZ.out | (rw [List.length_map]; exact HZ.out) | simpa using HZ.out
    case q2d => exact HC.out
    case q3d => unfold maxLen; omega
    case q4d => omega
    case q6d =>
     intro y2 w2 O2 K2
     have AP : Ap B w w2 := (Ap.ofNone hB G2).trans (Ap.ofOwn (owns_keptNone HO.out G2) (by have := G2.size; omega) K2)
     have O3 : Owns w2 B y2 (xs ++ shortV u) := by
      unfold Owns
      rw [List.length_append, List.map_append, HZ.out]
      exact O2
     clear O2 K2
     go_wp2
     go_ret2
     exact ⟨_, rfl, O3, AP⟩
set_option maxHeartbeats 1000000 in
theorem append_hex (B u : Nat) (v : Value) (xs : List UInt8) (w : World) (hu : u < 65536) (O : Owns w B v xs) (hB : B ≤ w.heap.size) (hl : xs.length + 20 ≤ 140737488355328) (T : TabA w) :
  Calls Tryz.prog 185 #[v, .int .u64 u, .int .i64 16] w fun e w' => ∃ v', e = .returned v' ∧ Owns w' B v' (xs ++ shortV u) ∧ Ap B w w' := by
 have C : Hid (Calls Tryz.prog 204 #[v, .int .u64 u, .int .i64 16] w fun e w' => ∃ v', e = .returned v' ∧ Owns w' B v' (xs ++ shortV u) ∧ Ap B w w') := by
  show Calls _ _ _ _ _
  have C := format_hex B u v xs w hu O hB hl T
  clear O T
  go_enter Tryz.func204, Tryz.ntmps204
  go_wp2_with fail
  refine C.mono ?_
  rintro e w' ⟨v', rfl, O', A'⟩
  clear C
  go_wp2
  go_ret
  exact ⟨v', rfl, O', A'⟩
 clear O T
 go_enter Tryz.func185, Tryz.ntmps185
 go_wp2_with fail
 refine C.out.mono ?_
 rintro e w' ⟨v', rfl, O', A'⟩
 clear C
 go_wp2
 go_ret
 exact ⟨v', rfl, O', A'⟩

end Go.Proofs.YtklipelnjgpnjaaGreatDoor
