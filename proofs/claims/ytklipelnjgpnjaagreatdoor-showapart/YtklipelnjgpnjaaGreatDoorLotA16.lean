import Derived.Test.YtklipelnjgpnjaaGreatDoorLotA15
import Derived.Test.YtklipelnjgpnjaaGreatDoorLotA2
import Derived.Test.YtklipelnjgpnjaaGreatDoorLotA1
import Derived.Test.YtklipelnjgpnjaaGreatDoorLotA3
import Derived.Lib.AppendIntMem
import Derived.Test.YtklipelnjgpnjaaGreatDoorLotA5
import Derived.Test.YtklipelnjgpnjaaGreatDoorLotA9
namespace Go.Proofs.YtklipelnjgpnjaaGreatDoor
open Go.RowKit
set_option maxRecDepth 100000
def rowG (x : Ng) : Int :=
 if x.kind = 8 then 1 else if x.kind = 7 then 2 else if x.kind = 9 then 3 else if x.kind = 6 then 4 else if x.kind = 5 then 11 else if x.kind ≠ 4 then 12
 else if x.op = 7 then 5 else if x.op = 8 then 6 else if x.op = 6 then 7 else if x.op = 9 ∨ x.op = 10 then 8 else if x.op = 1 ∨ x.op = 2 then 9 else 10
def nameT (k : Int) : List UInt8 :=
 if k = 1 then [112, 112, 112] else if k = 2 then [105, 112] else if k = 3 then [105, 112, 54] else if k = 4 then [116, 99, 112] else if k = 5 then [117, 100, 112] else if k = 6 then [105, 99, 109, 112] else if k = 7 then [105, 99, 109, 112, 54] else if k = 8 then [108, 99, 112] else if k = 9 then [112, 97, 112] else if k = 10 then [99, 104, 97, 112] else if k = 11 then [105, 112, 99, 112] else if k = 12 then [105, 112, 54, 99, 112] else if k = 13 then [109, 112] else []
def relT (k : Int) : List UInt8 :=
 if k = 1 then [61] else if k = 2 then [33, 61] else if k = 3 then [60] else if k = 4 then [60, 61] else if k = 5 then [62] else if k = 6 then [62, 61] else []
def opT13 (k : Int) : List UInt8 :=
 if k = 1 then [43] else if k = 2 then [45] else if k = 3 then [42] else if k = 4 then [47] else if k = 5 then [37] else if k = 6 then [38] else if k = 7 then [124] else if k = 8 then [94] else if k = 9 then [60, 60] else if k = 10 then [62, 62] else []
def signT (x : Ng) : List UInt8 := if x.kind = 7 then [97, 110, 100] else if x.kind = 8 then [111, 114] else if x.kind = 6 then relT x.op else opT13 x.op
def sideT (k : Int) : List UInt8 := if k = 1 then [115, 114, 99, 32] else if k = 2 then [100, 115, 116, 32] else []
def adrT (x : Ng) : List UInt8 := if x.of = 3 then print6V (pairsG (adgs x)) else print4V ((adgs x).take 4)
def leafT (x : Ng) : List UInt8 :=
 if x.kind = 1 then dec x.n
 else if x.kind = 2 then [108, 101, 110]
 else if x.kind = 10 then (if x.side = 1 then [105, 110, 98, 111, 117, 110, 100] else [111, 117, 116, 98, 111, 117, 110, 100])
 else if x.kind = 11 then nameT x.of
 else if x.kind = 12 then [112, 114, 111, 116, 111, 32] ++ dec x.n
 else if x.kind = 13 then nameT x.of ++ [32, 112, 114, 111, 116, 111, 32] ++ dec x.n
 else if x.kind = 14 then sideT x.side ++ [104, 111, 115, 116, 32] ++ adrT x
 else if x.kind = 15 then sideT x.side ++ [110, 101, 116, 32] ++ adrT x ++ [47] ++ dec x.bits.toNat
 else (if x.of = 0 then [] else nameT x.of ++ [32]) ++ sideT x.side ++ (if x.n = x.m then [112, 111, 114, 116, 32] ++ dec x.n else [112, 111, 114, 116, 114, 97, 110, 103, 101, 32] ++ dec x.n ++ [45] ++ dec x.m)
def sizeT (n : Int) : List UInt8 := if n = 1 then [] else [58] ++ dec n.toNat

inductive Tr where
 | leaf (x : Ng)
 | one (x : Ng) (p : Tr)
 | two (x : Ng) (p q : Tr)
def Tr.root : Tr → Ng
 | .leaf x => x
 | .one x _ => x
 | .two x _ _ => x
def Tr.flat : Tr → List Ng
 | .leaf x => [x]
 | .one x p => p.flat ++ [x]
 | .two x p q => p.flat ++ q.flat ++ [x]
def Tr.Wf : Tr → Prop
 | .leaf x => arG x.kind = some 0
 | .one x p => arG x.kind = some 1 ∧ p.Wf
 | .two x p q => arG x.kind = some 2 ∧ p.Wf ∧ q.Wf
def putT (want : Bool) (r : List UInt8 × Nat) : List UInt8 × Nat := if want = true then ([40] ++ r.1 ++ [41], r.2 + 1) else r
def wantT (full : Bool) (row least : Int) : Bool := (full && decide (row < 12)) || decide (row < least)
def Tr.txt (full : Bool) : Tr → List UInt8 × Nat
 | .leaf x => (leafT x, 0)
 | .one x p =>
  if x.kind = 3 then (nameT x.of ++ [91] ++ (p.txt full).1 ++ sizeT x.size ++ [93], (p.txt full).2 + 1)
  else ((if x.kind = 9 then [110, 111, 116, 32] else [45]) ++ (putT (wantT full (rowG p.root) (rowG x)) (p.txt full)).1, (putT (wantT full (rowG p.root) (rowG x)) (p.txt full)).2 + 1)
 | .two x p q =>
  ((putT (wantT full (rowG p.root) (if rowG x = 4 then 5 else rowG x)) (p.txt full)).1 ++ [32] ++ signT x ++ [32] ++ (putT (wantT full (rowG q.root) (rowG x + 1)) (q.txt full)).1,
   max (putT (wantT full (rowG p.root) (if rowG x = 4 then 5 else rowG x)) (p.txt full)).2 (putT (wantT full (rowG q.root) (rowG x + 1)) (q.txt full)).2)
theorem Tr.flat_last (T : Tr) : ∃ l, T.flat = l ++ [T.root] := by
 cases T with
 | leaf x => exact ⟨[], rfl⟩
 | one x p => exact ⟨p.flat, rfl⟩
 | two x p q => exact ⟨p.flat ++ q.flat, rfl⟩
theorem Tr.flat_ne (T : Tr) : T.flat ≠ [] := by
 obtain ⟨l, h⟩ := T.flat_last
 rw [h]
 simp
theorem Tr.flat_left : ∀ {T : Tr}, T.Wf → leftG 0 T.flat = some 1
 | .leaf x, h => by
  have h : arG x.kind = some 0 := h
  simp [Tr.flat, leftG, h]
 | .one x p, h => by
  obtain ⟨h1, h2⟩ : arG x.kind = some 1 ∧ p.Wf := h
  refine left_join p.flat [x] 0 1 1 (Tr.flat_left h2) ?_
  simp [leftG, h1]
 | .two x p q, h => by
  obtain ⟨h1, h2, h3⟩ : arG x.kind = some 2 ∧ p.Wf ∧ q.Wf := h
  refine left_join (p.flat ++ q.flat) [x] 0 2 1 (left_join p.flat q.flat 0 1 2 (Tr.flat_left h2) ?_) ?_
  ·exact left_frame q.flat 0 1 1 (Tr.flat_left h3)
  ·simp [leftG, h1]
theorem tree_of : ∀ (n : Nat) (t : List Ng), t.length ≤ n → leftG 0 t = some 1 → ∃ T : Tr, T.Wf ∧ T.flat = t
 | 0, t, hn, h => by
  obtain rfl : t = [] := List.eq_nil_of_length_eq_zero (by omega)
  cases h
 | n + 1, t, hn, h => by
  obtain ⟨pss, hp⟩ := parts_left.1 h
  obtain ⟨x, a, ht, ha, hl, -⟩ := parts_lists hp
  have htr := parts_trees hp
  have hlen : pss.flatten.length ≤ n := by
   have := congrArg List.length ht
   rw [List.length_append, List.length_singleton] at this
   omega
  match pss, hl, ht, htr, hlen with
  | [], hl, ht, _, _ =>
   exact ⟨.leaf x, by show arG x.kind = some 0; rw [ha, ← hl]; rfl, by rw [ht]; rfl⟩
  | [p], hl, ht, htr, hlen =>
   obtain ⟨P, hP, hPf⟩ := tree_of n p (by simpa using hlen) (htr p (by simp))
   exact ⟨.one x P, ⟨by rw [ha, ← hl]; rfl, hP⟩, by rw [ht, Tr.flat, hPf]; simp⟩
  | [p, q], hl, ht, htr, hlen =>
   simp only [List.flatten_cons, List.flatten_nil, List.append_nil, List.length_append] at hlen
   obtain ⟨P, hP, hPf⟩ := tree_of n p (by omega) (htr p (by simp))
   obtain ⟨Q, hQ, hQf⟩ := tree_of n q (by omega) (htr q (by simp))
   exact ⟨.two x P Q, ⟨by rw [ha, ← hl]; rfl, hP, hQ⟩, by rw [ht, Tr.flat, hPf, hQf]; simp⟩
  | p :: q :: r :: s, hl, _, _, _ =>
   have := arG_le ha
   simp only [List.length_cons] at hl
   omega

open Go.RowKit Go.Sort
theorem grow_none (w : World) (k : Nat) (os : Array Obj) : w.grownBy (grow (w.drewN k) os) none :=
 ⟨rfl, rfl, rfl, by simp [grow], fun i hi _ => Lib.heap_grow_old w k os i hi⟩
set_option maxRecDepth 100000 in
set_option maxHeartbeats 2000000 in
theorem fmtu_any (u : Nat) (hu : u ≤ 4294967295) (w : World) (T : TabA w) :
  Calls Tryz.prog 182 #[.int .u64 (u : Int), .int .i64 10] w fun e w' => e = .returned (str (dec u)) ∧ w.grownBy w' none := by
 have h20 : u < 10 ^ 20 := by omega
 rw [← decDigits_dec u h20]
 by_cases hs : u < 100
 ·have CS := Tryz.internal_strconv_small u hs
  clear T
  go_enter Tryz.func182, Tryz.ntmps182
  go_wp2_with fail
  refine (CS _).mono ?_
  rintro e w' ⟨rfl, rfl⟩
  go_wp2
  go_ret
  exact ⟨rfl, World.grownBy.refl _ _⟩
 ·have hu1 : 1 ≤ u := by omega
  have hu64 : u < 18446744073709551616 := by omega
  have hnd20 : Lib.nDigits u ≤ 20 := by have := Lib.numDigits_eq u hu1 hu64; split at this <;> omega
  have hal : Tryz.prog.arrayLen 198 = 24 := by simp [Program.arrayLen, Tryz.underlying198]
  have hsl1 : ∀ W, (Instr.sliceAt 198 (.pointer (some ⟨w.heap.size, 0, none⟩)) none (some (.int .i64 (Lib.nDigits u : Int))) none).run Tryz.prog W = .ok (.slice (some ⟨w.heap.size, 0, none⟩) (Lib.nDigits u) 24) W := fun W => by
   rw [run_sliceAt_array_h W 198 ⟨w.heap.size, 0, none⟩ (by simp [Program.arrayLen, Program.elem, Tryz.underlying198]) .i64 (Lib.nDigits u : Int) (by omega) (by rw [hal]; omega)]
   go_simp
  have hH0 := Lib.holds_zero0 w 198 (Lib.nDigits u) (by omega)
  have hfmt := Tryz.internal_strconv_formatBase10 w.heap.size 0 24 u (Array.replicate (Lib.nDigits u) 0) (w.alloc (.cells Lib.zeros24 198)) hH0 (by rw [Array.size_replicate]; exact Lib.lt_pow_nDigits u) hu64 (by rw [Array.size_replicate]; omega)
  rw [Array.size_replicate] at hfmt
  have HH0 := Lib.hid hH0
  have CN := Tryz.internal_strconv_numDigits u hu1 hu64 _ (Lib.tabIs_alloc T.1 (.cells Lib.zeros24 198))
  clear hH0 hal T
  go_enter Tryz.func182, Tryz.ntmps182
  go_wp2_with fail
  refine CN.mono ?_
  rintro e w' ⟨rfl, rfl⟩
  go_wp2_with fail
  refine hfmt.mono ?_
  rintro e w' ⟨rfl, k, v', dk, rfl, hF⟩
  have hcv : (convert 115 9 (.slice (some ⟨w.heap.size, 0, none⟩) (Lib.nDigits u) 24)).run Tryz.prog ((putRow (fun (b : UInt8) => Value.int .u8 (b.toNat : Int)) (w.alloc (.cells Lib.zeros24 198)) w.heap.size 0 dk).drewN k) = .ok (.string ⟨(Lib.decDigits u).toArray⟩) ((putRow (fun (b : UInt8) => Value.int .u8 (b.toNat : Int)) (w.alloc (.cells Lib.zeros24 198)) w.heap.size 0 dk).drewN k) := by
   have h := run_convert_bytes_back (P := Tryz.prog) ((putRow (fun (b : UInt8) => Value.int .u8 (b.toNat : Int)) (w.alloc (.cells Lib.zeros24 198)) w.heap.size 0 dk).drewN k) 115 9 5 ⟨w.heap.size, 0, none⟩ 24 (Lib.decDigits u) Tryz.underlying115 Tryz.underlying5 Tryz.underlying9 (fun j hj => by
    rw [Lib.row_is_numeral hF j hj, Lib.add_plain, World.cell?_drewN]
    exact cell?_putRow (fun (b : UInt8) => Value.int .u8 (b.toNat : Int)) _ w.heap.size 0 _ dk HH0.out (by rw [hF.size, Array.size_replicate]) j (by rw [hF.size]; rw [Lib.decDigits_length] at hj; exact hj))
   rw [Lib.decDigits_length] at h
   exact h
  go_wp2
  go_ret
  obtain ⟨os, eo⟩ := Lib.fin_at w (.cells Lib.zeros24 198) dk k 0
  refine ⟨rfl, ?_⟩
  rw [eo]
  exact grow_none _ _ _
set_option maxRecDepth 100000 in
set_option maxHeartbeats 2000000 in
theorem shdec_any (n : Nat) (hn : n ≤ 4294967295) (w : World) (T : TabA w) :
  Calls Tryz.prog 134 #[.int .u32 (n : Int)] w fun e w' => e = .returned (str (dec n)) ∧ w.grownBy w' none := by
 have CF : Calls Tryz.prog 163 #[.int .u64 (n : Int), .int .i64 10] w fun e w' => e = .returned (str (dec n)) ∧ w.grownBy w' none := by
  have C := fmtu_any n hn w T
  go_enter Tryz.func163, Tryz.ntmps163
  go_wp2_with fail
  refine C.mono ?_
  rintro e w' ⟨rfl, G⟩
  go_wp2
  go_ret
  exact ⟨rfl, G⟩
 have hw : IntKind.u64.wrap (n : Int) = (n : Int) := by rw [IntKind.wrap_u64]; omega
 clear T
 go_enter Tryz.func134, Tryz.ntmps134
 go_wp2_with fail
 refine CF.mono ?_
 rintro e w' ⟨rfl, G⟩
 go_wp2
 go_ret
 exact ⟨rfl, G⟩
theorem itoa_dec {n : Nat} (h : n < 10 ^ 20) : Lib.itoa (n : Int) = dec n := by rw [Lib.itoa_nonneg, decDigits_dec n h]
set_option maxRecDepth 100000 in
set_option maxHeartbeats 2000000 in
theorem itoa_any (n : Nat) (hn : n ≤ 4294967295) (w : World) (T : TabA w) :
  Calls Tryz.prog 130 #[.int .i64 (n : Int)] w fun e w' => e = .returned (str (dec n)) ∧ w.grownBy w' none := by
 refine (Tryz.strconv_Itoa (n : Int) (by omega) (by omega) w T.1).mono ?_
 rintro e w' ⟨rfl, k, os, rfl⟩
 rw [itoa_dec (by omega)]
 exact ⟨rfl, grow_none _ _ _⟩
set_option maxRecDepth 100000 in
set_option maxHeartbeats 2000000 in
theorem size13_any (n : Int) (hn : 0 ≤ n ∧ n ≤ 4294967295) (w : World) (T : TabA w) :
  Calls Tryz.prog 100 #[.int .i64 n] w fun e w' => e = .returned (str (sizeT n)) ∧ w.grownBy w' none := by
 obtain ⟨m, rfl⟩ : ∃ m : Nat, n = m := ⟨n.toNat, by omega⟩
 have C := itoa_any m (by omega) w T
 have hl := dec_len m
 clear T
 by_cases h1 : (m : Int) = 1
 ·rw [show sizeT (m : Int) = [] by unfold sizeT; rw [if_pos h1]]
  rw [h1] at C ⊢
  clear h1
  go_enter Tryz.func100, Tryz.ntmps100
  go_wp2
  go_ret
  exact ⟨rfl, World.grownBy.refl _ _⟩
 ·rw [show sizeT (m : Int) = [58] ++ dec m by unfold sizeT; rw [if_neg h1]; rfl]
  obtain ⟨S, hS⟩ : ∃ S : ByteArray, (⟨(dec m).toArray⟩ : ByteArray) = S := ⟨_, rfl⟩
  have hz : S.size ≤ 20 := by rw [← hS]; simpa [ByteArray.size] using hl
  have HS : Hid ((⟨(dec m).toArray⟩ : ByteArray) = S) := hS
  have C' : Calls Tryz.prog 130 #[.int .i64 (m : Int)] w fun e w' => e = .returned (.string S) ∧ w.grownBy w' none := by rw [← hS]; exact C
  clear C hS
  go_enter Tryz.func100, Tryz.ntmps100
  go_wp2_with fail
  refine C'.mono ?_
  rintro e w' ⟨rfl, G⟩
  go_wp2
  go_ret
  refine ⟨?_, G⟩
  rw [← HS.out]
  exact congrArg Ending.returned (str_cat [58] (dec m))
def wv (acc x : List UInt8) : List UInt8 := if x = [] then acc else if acc = [] then x else acc ++ 32 :: x
def wordsV (xs : List (List UInt8)) : List UInt8 := xs.foldl wv []
theorem words_take {xs : List (List UInt8)} {k : Nat} (h : k < xs.length) : wordsV (xs.take (k + 1)) = wv (wordsV (xs.take k)) xs[k] := by
 unfold wordsV
 rw [List.take_succ_eq_append_getElem h, List.foldl_append]
 rfl
theorem grown_below {w w' : World} (h : Below w.heap.size w w') : w.grownBy w' none := ⟨h.os, h.tape, h.output, h.size, fun k hk _ => h.block k hk⟩
theorem strCells_bv (x : List UInt8) : Lib.strCells ⟨x.toArray⟩ = Lib.byteCells x := rfl
set_option maxRecDepth 100000 in
set_option maxHeartbeats 4000000 in
theorem words_any (ao : Option Addr) (cap : Nat) (xs : List (List UInt8)) (w : World) (C : CV w ao (xs.map str)) (hn : xs.length ≤ 1000) (hl : ∀ x ∈ xs, x.length ≤ 100000) :
  Calls Tryz.prog 136 #[.slice ao xs.length cap] w fun e w' => e = .returned (str (wordsV xs)) ∧ w.grownBy w' none := by
 have HC : Hid (CV w ao (xs.map str)) := C
 have HLX : Hid (∀ x ∈ xs, x.length ≤ 100000) := hl
 have HF := Lib.fresh_isBuilder 150 5 w
 have HB0 : Below w.heap.size w (w.alloc (.cells #[.pointer none, .slice none 0 0] 150)) := (Below.refl _ _).alloc (Nat.le_refl _) _
 clear C hl
 go_enter Tryz.func136, Tryz.ntmps136
 go_wp2
 generalize w.alloc (.cells #[.pointer none, .slice none 0 0] 150) = w0 at *
 have HI0 : Hid (∃ acc : List UInt8, acc = wordsV (xs.take 0) ∧ acc.length ≤ 100001 * 0 ∧ IsBld w.heap.size w.heap.size (Lib.byteCells acc) w0 ∧ Below w.heap.size w w0) := ⟨[], rfl, Nat.le_refl _, HF, HB0⟩
 obtain ⟨B, hB⟩ : ∃ B, w.heap.size = B := ⟨_, rfl⟩
 rw [hB] at HI0 ⊢
 have HB : Hid (w.heap.size = B) := hB
 clear HF HB0 hB
 go_loopw [8] (fun i wr => ∃ k : Nat, k ≤ xs.length ∧ i = .int .i64 k ∧ Hid (∃ acc : List UInt8, acc = wordsV (xs.take k) ∧ acc.length ≤ 100001 * k ∧ IsBld B B (Lib.byteCells acc) wr ∧ Below B w wr)) (fun i _ => xs.length - (intOf i).toNat)
 case atStart => exact ⟨0, Nat.zero_le _, rfl, HI0.out⟩
 case round =>
  clear HI0
  obtain ⟨k, hk, rfl, HI⟩ := hrel
  obtain ⟨acc, hacc, hal, hbl, hbe⟩ := HI.out
  clear HI
  by_cases hlt : k < xs.length
  ·obtain ⟨b, o, hao, hcell⟩ := HC.out.addr (k := k) (by simpa using hlt)
   subst hao
   have hbb : Below w.heap.size w wr := by rw [HB.out]; exact hbe
   obtain ⟨b', o', e', hc'⟩ := (HC.out.below hbb).addr (k := k) (by simpa using hlt)
   simp only [Option.some.injEq, Addr.mk.injEq] at e'
   obtain ⟨rfl, rfl, -⟩ := e'
   have c1 : wr.cell? ⟨b, o + k, none⟩ = some (str xs[k]) := by have := hc' k (by simpa using hlt); simpa using this
   have HXL : Hid (xs[k].length ≤ 100000) := HLX.out _ (List.getElem_mem hlt)
   have HWT : Hid (wordsV (xs.take (k + 1)) = wv acc xs[k]) := by rw [hacc]; exact words_take hlt
   have hl1 : (k : Int) < (xs.length : Int) := by omega
   have w1 : IntKind.i64.wrap ((k : Int) + 1) = (k : Int) + 1 := by rw [IntKind.wrap_i64]; omega
   generalize xs[k] = x at c1 HXL HWT
   clear hc' hcell hbb hacc
   cases x with
   | nil =>
    rw [show str [] = .string ⟨#[]⟩ from rfl] at c1
    go_wp2
    go_roundw
    case rel => exact ⟨k + 1, hlt, by go_num, acc, HWT.out.symm, by omega, hbl, hbe⟩
    case measure => simp only [intOf]; omega
   | cons a l =>
    obtain ⟨S, hS⟩ : ∃ S : ByteArray, (⟨(a :: l).toArray⟩ : ByteArray) = S := ⟨_, rfl⟩
    rw [show str (a :: l) = .string S by rw [← hS]] at c1
    have HS : Hid ((⟨(a :: l).toArray⟩ : ByteArray) = S) := hS
    have hse : S.toList.isEmpty = false := by rw [ByteArray.toList_eq, ← hS]; rfl
    have hsz : S.size = (a :: l).length := by rw [← hS]; simp [ByteArray.size]
    have hlen1 : S.size ≤ 100000 := by rw [hsz]; exact HXL.out
    have CL := Tryz.Builder_Len B B (Lib.byteCells acc) wr hbl
    rw [show (Lib.byteCells acc).length = acc.length by simp [Lib.byteCells]] at CL
    have hBw : B ≤ wr.heap.size := by have := hbe.size; rw [HB.out] at this; exact this
    have hk5 : acc.length ≤ 100001000 := by have : 100001 * k ≤ 100001 * 1000 := Nat.mul_le_mul_left _ (by omega); omega
    clear hS
    go_wp2_with fail
    refine CL.mono ?_
    rintro e w2 ⟨rfl, rfl⟩
    clear CL c1
    cases acc with
    | nil =>
     have CW := bwrite_any B B (Lib.byteCells []) S w2 hbl (by simp [Lib.byteCells]; omega) hBw
     go_wp2_with fail
     refine CW.mono ?_
     rintro e w3 ⟨rfl, hb3, hbe3⟩
     have HN : Hid (IsBld B B (Lib.byteCells (a :: l)) w3) := by
      refine .inr ?_
      rw [← HS.out] at hb3
      exact hb3
     clear CW hb3
     go_wp2
     go_roundw
     case rel => exact ⟨k + 1, hlt, by go_num, a :: l, by rw [HWT.out]; rfl, by have := HXL.out; omega, HN.out, hbe.trans hbe3⟩
     case measure => simp only [intOf]; omega
    | cons d m =>
     have hpos : (0 : Int) < ((d :: m).length : Int) := by simp only [List.length_cons]; omega
     have CB := bbyte_any B B (Lib.byteCells (d :: m)) 32 w2 hbl (by rw [show (Lib.byteCells (d :: m)).length = (d :: m).length by simp [Lib.byteCells]]; omega) hBw
     obtain ⟨A, hA⟩ : ∃ A, d :: m = A := ⟨_, rfl⟩
     have HA : Hid (d :: m = A) := hA
     rw [hA] at CB hpos hk5 ⊢
     clear hbl
     go_wp2_with fail
     refine CB.mono ?_
     rintro e w3 ⟨rfl, hb3, hbe3⟩
     clear CB
     have CW := bwrite_any B B (Lib.byteCells A ++ [.int .u8 32]) S w3 (.inr hb3) (by rw [List.length_append, show (Lib.byteCells A).length = A.length by simp [Lib.byteCells]]; simp only [List.length_cons, List.length_nil]; omega) (Nat.le_trans hBw hbe3.size)
     go_wp2_with fail
     refine CW.mono ?_
     rintro e w4 ⟨rfl, hb4, hbe4⟩
     have HN : Hid (IsBld B B (Lib.byteCells (A ++ 32 :: a :: l)) w4) := by
      refine .inr ?_
      rw [← HS.out] at hb4
      have e : Lib.byteCells (A ++ 32 :: a :: l) = Lib.byteCells A ++ [.int .u8 32] ++ Lib.strCells ⟨(a :: l).toArray⟩ := by
       rw [strCells_bv]
       simp [Lib.byteCells]
      rw [e]
      exact hb4
     clear CW hb3 hb4
     go_wp2
     go_roundw
     case rel => exact ⟨k + 1, hlt, by go_num, A ++ 32 :: a :: l, by rw [HWT.out, ← HA.out]; rfl, by have := HXL.out; rw [← HA.out] at *; simp only [List.length_append, List.length_cons] at *; omega, HN.out, (hbe.trans hbe3).trans hbe4⟩
     case measure => simp only [intOf]; omega
  ·have hl1 : ¬ ((k : Int) < (xs.length : Int)) := by omega
   obtain rfl : k = xs.length := by omega
   have CS := Tryz.Builder_String_any B B acc wr hbl (by rw [← HB.out]; exact hbe.size)
   have HE : Hid (wordsV xs = acc) := by show wordsV xs = acc; rw [hacc, List.take_length]
   go_wp2_with fail
   refine CS.mono ?_
   rintro e w2 ⟨rfl, hb2⟩
   go_wp2
   go_ret
   refine ⟨by rw [HE.out]; rfl, grown_below ?_⟩
   rw [HB.out]
   exact hbe.trans hb2
def portsT (n m : Nat) : List UInt8 := if n = m then [112, 111, 114, 116, 32] ++ dec n else [112, 111, 114, 116, 114, 97, 110, 103, 101, 32] ++ dec n ++ [45] ++ dec m
theorem dec_nil (n : Nat) (h : n ≤ 4294967295) : dec n ≠ [] := dec_ne n (by omega)
theorem words_two {a b : List UInt8} (ha : a ≠ []) (hb : b ≠ []) : wordsV [a, b] = a ++ 32 :: b := by
 show wv (wv [] a) b = _
 have e : wv [] a = a := by unfold wv; rw [if_neg ha, if_pos rfl]
 rw [e]
 unfold wv
 rw [if_neg hb, if_neg ha]
theorem portsT_len (n m : Nat) : (portsT n m).length ≤ 60 := by
 have h1 := dec_len n
 have h2 := dec_len m
 unfold portsT
 split <;> simp only [List.length_append, List.length_cons, List.length_nil] <;> omega
set_option maxRecDepth 100000 in
set_option maxHeartbeats 4000000 in
theorem shports_any (n m : Nat) (hn : n ≤ 4294967295) (hm : m ≤ 4294967295) (w : World) (T : TabA w) :
  Calls Tryz.prog 139 #[.int .u32 (n : Int), .int .u32 (m : Int)] w fun e w' => e = .returned (str (portsT n m)) ∧ w.grownBy w' none := by
 have HT : Hid (TabA w) := T
 clear T
 have ln := dec_len n
 have lm := dec_len m
 by_cases h : n = m
 ·subst h
  have C1 := shdec_any n hn w HT.out
  have HW : Hid (∀ W : World, Calls Tryz.prog 136 #[.slice (some ⟨W.heap.size, 0, none⟩) 2 2] (W.alloc (.cells #[.string ⟨#[112, 111, 114, 116]⟩, str (dec n)] 9)) fun e w' => e = .returned (str (portsT n n)) ∧ (W.alloc (.cells #[.string ⟨#[112, 111, 114, 116]⟩, str (dec n)] 9)).grownBy w' none) := fun W => by
   have := words_any (some ⟨W.heap.size, 0, none⟩) 2 [[112, 111, 114, 116], dec n] (W.alloc (.cells ([str [112, 111, 114, 116], str (dec n)] : List Value).toArray 9)) (cv_lit W _ _) (by simp) (fun x hx => by
    simp only [List.mem_cons, List.not_mem_nil, or_false] at hx
    rcases hx with rfl | rfl
    ·decide
    ·omega)
   rw [words_two (by simp) (dec_nil n hn)] at this
   rw [show portsT n n = [112, 111, 114, 116] ++ 32 :: dec n by unfold portsT; rw [if_pos rfl]; simp]
   exact this
  go_enter Tryz.func139, Tryz.ntmps139
  go_wp2_with fail
  refine C1.mono ?_
  rintro e w1 ⟨rfl, G1⟩
  clear C1
  go_wp2_with fail
  refine (HW.out w1).mono ?_
  rintro e w2 ⟨rfl, G2⟩
  have G := grown_trans (grown_trans G1 (World.grownBy_alloc _ _ none)) G2
  go_wp2
  go_ret
  exact ⟨rfl, G⟩
 ·have hne : ((n : Int) == (m : Int)) = false := by rw [beq_eq_false_iff_ne]; omega
  have C1 := shdec_any n hn w HT.out
  have HD2 : Hid (∀ W : World, w.grownBy W none → Calls Tryz.prog 134 #[.int .u32 (m : Int)] W fun e w' => e = .returned (str (dec m)) ∧ W.grownBy w' none) := fun W G => shdec_any m hm W (HT.out.grown G)
  obtain ⟨X, hX⟩ : ∃ X : ByteArray, (⟨(dec n).toArray⟩ : ByteArray) = X := ⟨_, rfl⟩
  obtain ⟨Y, hY⟩ : ∃ Y : ByteArray, (⟨(dec m).toArray⟩ : ByteArray) = Y := ⟨_, rfl⟩
  have hxz : X.size ≤ 20 := by rw [← hX]; simpa [ByteArray.size] using ln
  have hyz : Y.size ≤ 20 := by rw [← hY]; simpa [ByteArray.size] using lm
  have HW : Hid (∀ W : World, Calls Tryz.prog 136 #[.slice (some ⟨W.heap.size, 0, none⟩) 2 2] (W.alloc (.cells #[.string ⟨#[112, 111, 114, 116, 114, 97, 110, 103, 101]⟩, .string (X ++ ⟨#[45]⟩ ++ Y)] 9)) fun e w' => e = .returned (str (portsT n m)) ∧ (W.alloc (.cells #[.string ⟨#[112, 111, 114, 116, 114, 97, 110, 103, 101]⟩, .string (X ++ ⟨#[45]⟩ ++ Y)] 9)).grownBy w' none) := fun W => by
   have := words_any (some ⟨W.heap.size, 0, none⟩) 2 [[112, 111, 114, 116, 114, 97, 110, 103, 101], dec n ++ [45] ++ dec m] (W.alloc (.cells ([str [112, 111, 114, 116, 114, 97, 110, 103, 101], str (dec n ++ [45] ++ dec m)] : List Value).toArray 9)) (cv_lit W _ _) (by simp) (fun x hx => by
    simp only [List.mem_cons, List.not_mem_nil, or_false] at hx
    rcases hx with rfl | rfl
    ·decide
    ·simp only [List.length_append, List.length_cons, List.length_nil]; omega)
   rw [words_two (by simp) (by simp)] at this
   rw [show portsT n m = [112, 111, 114, 116, 114, 97, 110, 103, 101] ++ 32 :: (dec n ++ [45] ++ dec m) by unfold portsT; rw [if_neg h]; simp]
   rw [show (X ++ (⟨#[45]⟩ : ByteArray) ++ Y) = ⟨(dec n ++ [45] ++ dec m).toArray⟩ by rw [← hX, ← hY, show (⟨#[45]⟩ : ByteArray) = ⟨([45] : List UInt8).toArray⟩ from rfl, cat, cat]]
   exact this
  have C1' : Calls Tryz.prog 134 #[.int .u32 (n : Int)] w fun e w' => e = .returned (.string X) ∧ w.grownBy w' none := by rw [← hX]; exact C1
  have HD2' : Hid (∀ W : World, w.grownBy W none → Calls Tryz.prog 134 #[.int .u32 (m : Int)] W fun e w' => e = .returned (.string Y) ∧ W.grownBy w' none) := fun W G => by rw [← hY]; exact HD2.out W G
  clear C1 HD2 hX hY h
  go_enter Tryz.func139, Tryz.ntmps139
  go_wp2_with fail
  refine C1'.mono ?_
  rintro e w1 ⟨rfl, G1⟩
  clear C1'
  go_wp2_with fail
  refine (HD2'.out _ G1).mono ?_
  rintro e w2 ⟨rfl, G2⟩
  go_wp2_with fail
  refine (HW.out w2).mono ?_
  rintro e w3 ⟨rfl, G3⟩
  have G := grown_trans (grown_trans (grown_trans G1 G2) (World.grownBy_alloc _ _ none)) G3
  go_wp2
  go_ret
  exact ⟨rfl, G⟩

end Go.Proofs.YtklipelnjgpnjaaGreatDoor
