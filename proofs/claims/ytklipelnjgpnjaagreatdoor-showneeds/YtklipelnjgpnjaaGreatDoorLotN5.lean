import Derived.Test.YtklipelnjgpnjaaGreatDoorNAb
import Derived.Test.YtklipelnjgpnjaaGreatDoorLotN4
import Derived.Deep.RegionHeld3
import Derived.Test.YtklipelnjgpnjaaGreatDoorLotN3
import Derived.Test.YtklipelnjgpnjaaGreatDoorLotN1
import Derived.Laws.CopyOwn
import Derived.Maps.AppendAt
import Derived.Deep.RegionLaw
import Derived.BigQuiet
set_option maxHeartbeats 64000000
set_option maxRecDepth 100000
namespace Go.Proofs.YtklipelnjgpnjaaGreatDoor
open Go.RowKit
def ptC (p : Pt) : List Value := [.int .i64 (if p.truth = true then 0 else 1), .bool p.fixed, .int .u32 (p.val : Int)]
def pqC (p : Pt) : List Value := [.bool p.truth, .bool p.fixed, .int .u32 (p.val : Int)]
def r9 (c : Pt → List Value) (ps : List Pt) : List Value := ps.flatMap c
theorem ar0 (c : Pt → List Value) : r9 c [] = [] := rfl
theorem a2Q (c : Pt → List Value) (p : Pt) (ps : List Pt) : r9 c (p :: ps) = c p ++ r9 c ps := rfl
theorem a84 (c : Pt → List Value) (xs ys : List Pt) : r9 c (xs ++ ys) = r9 c xs ++ r9 c ys := by simp only [r9, List.flatMap_append]
theorem a86 (c : Pt → List Value) (p : Pt) : r9 c [p] = c p := by rw [a2Q, ar0, List.append_nil]
theorem a5D {c : Pt → List Value} (hc : ∀ p, (c p).length = 3) (xs : List Pt) : (r9 c xs).length = xs.length * 3 := by
 induction xs with
 | nil => rfl
 | cons x xs ih => rw [a2Q, List.length_append, ih, List.length_cons, hc]; omega
theorem aq9 {c : Pt → List Value} (hc : ∀ p, (c p).length = 3) (xs : List Pt) (i j : Nat) (hi : i < xs.length) (hj : j < 3) : (r9 c xs)[i * 3 + j]? = (c xs[i])[j]? := by
 induction xs generalizing i with
 | nil => simp at hi
 | cons x xs ih =>
  rw [a2Q]
  have hl := hc x
  cases i with
  | zero => rw [List.getElem?_append_left (by omega)]; simp
  | succ i =>
   rw [List.getElem?_append_right (by omega), hl, show (i + 1) * 3 + j - 3 = i * 3 + j by omega, ih i (by simpa using hi)]
   simp
theorem a1Q (p : Pt) : (ptC p).length = 3 := rfl
theorem a4E (p : Pt) : ∀ u ∈ ptC p, u.oneCell' = true := by
 intro u hu
 simp only [ptC, List.mem_cons, List.not_mem_nil, or_false] at hu
 rcases hu with rfl | rfl | rfl <;> rfl
theorem CV.pts {c : Pt → List Value} (hc : ∀ p, (c p).length = 3) {w : World} {ao : Option Addr} {xs : List Pt} (h : CV w ao (r9 c xs)) {k : Nat} (hk : k < xs.length) :
  ∃ b off, ao = some ⟨b, off, none⟩ ∧ ∀ i (hi : i < xs.length), w.rangeAt b (off + i * 3) (c xs[i]) := by
 have hl := a5D hc xs
 obtain ⟨b, off, hao, hcc⟩ := h.addr (k := k * 3) (by omega)
 refine ⟨b, off, hao, fun i hi j v hv => ?_⟩
 have hj : j < 3 := by have := (List.getElem?_eq_some_iff.1 hv).1; rw [hc] at this; exact this
 rw [← aq9 hc xs i j hi hj] at hv
 rw [Nat.add_assoc, hcc (i * 3 + j) (by omega), ← hv, List.getElem?_eq_getElem (by omega)]
theorem a7V (op : Int) (w : World) : Calls Tryz.prog 143 #[.int .i64 op] w fun e w' => e = .returned (.bool (U8 op)) ∧ w = w' := by
 unfold U8
 obtain ⟨E, hE⟩ : ∃ E : Bool, decide (op = 4 ∨ op = 5) = E := ⟨_, rfl⟩
 rw [hE]
 have HE : Hid (decide (op = 4 ∨ op = 5) = E) := hE
 clear hE
 by_cases h1 : op = 4
 ·have e1 : (op == 4) = true := by simpa using h1
  have HQ : Hid (op = 4) := h1
  clear h1
  go_enter Tryz.func143, Tryz.ntmps143
  go_wp2
  go_ret
  exact ⟨W7 (by rw [← HE.out, decide_eq_true (.inl HQ.out)]), rfl⟩
 ·have e1 : (op == 4) = false := by simpa using h1
  have HQ : Hid (¬ op = 4) := h1
  by_cases h2 : op = 5
  ·have e2 : (op == 5) = true := by simpa using h2
   have HQ2 : Hid (op = 5) := h2
   clear h1 h2
   go_enter Tryz.func143, Tryz.ntmps143
   go_wp2
   go_ret
   exact ⟨W7 (by rw [← HE.out, decide_eq_true (.inr HQ2.out)]), rfl⟩
  ·have e2 : (op == 5) = false := by simpa using h2
   have HQ2 : Hid (¬ op = 5) := h2
   clear h1 h2
   go_enter Tryz.func143, Tryz.ntmps143
   go_wp2
   go_ret
   exact ⟨W7 (by rw [← HE.out, decide_eq_false (fun h => h.elim HQ.out HQ2.out)]), rfl⟩
theorem aC4 (a : Nat) (ha : a ≤ 4294967295) (w : World) : Calls Tryz.prog 110 #[.int .u32 (a : Int)] w fun e w' => e = .returned (.int .u32 (a2h a : Int)) ∧ w = w' := by
 have h : (-(a : Int)) % 4294967296 = (a2h a : Int) := by unfold a2h; omega
 obtain ⟨E, hE⟩ : ∃ E, a2h a = E := ⟨_, rfl⟩
 rw [hE] at h ⊢
 clear hE
 go_enter Tryz.func110, Tryz.ntmps110
 go_wp2
 go_ret
 exact ⟨L5 h, rfl⟩
theorem a2v {x y : Int} (h : x = y) : Ending.returned (.tuple #[.int .u32 x, .bool true]) = .returned (.tuple #[.int .u32 y, .bool true]) := by rw [h]
theorem aS0 {a b : Nat} : (a : Int) * 2 ^ min b 32 % 4294967296 = (a1h a b true : Int) := by
 unfold a1h
 by_cases h : 31 < b
 ·rw [if_pos h, show min b 32 = 32 by omega]
  omega
 ·rw [if_neg h, if_pos rfl, show min b 32 = b by omega]
  simp
theorem aR9 {a b : Nat} (ha : a ≤ 4294967295) : (a : Int) / 2 ^ min b 32 = (a1h a b false : Int) := by
 unfold a1h
 by_cases h : 31 < b
 ·rw [if_pos h, show min b 32 = 32 by omega]
  omega
 ·rw [if_neg h, if_neg (by decide), show min b 32 = b by omega]
  simp
theorem ag3 (op : Int) (a b : Nat) (ha : a ≤ 4294967295) (hb : b ≤ 4294967295) (ho : 1 ≤ op ∧ op ≤ 10) (hz : U8 op = true → b ≠ 0) (w : World) :
  Calls Tryz.prog 109 #[.int .i64 op, .int .u32 (a : Int), .int .u32 (b : Int)] w fun e w' => e = .returned (.tuple #[.int .u32 (D4 op a b : Int), .bool true]) ∧ w = w' := by
 have e1 := u32_or_nat a b (by omega) (by omega)
 have e2 := u32_and_nat a b (by omega) (by omega)
 have e3 := u32_xor_nat a b (by omega) (by omega)
 have C0 := a7V op w
 have : op = 1 ∨ op = 2 ∨ op = 3 ∨ op = 6 ∨ op = 7 ∨ op = 8 ∨ op = 9 ∨ op = 10 ∨ op = 4 ∨ op = 5 := by omega
 have HB : Hid (b ≤ 4294967295) := hb
 have HA : Hid (a ≤ 4294967295) := ha
 clear ho ha hb
 rcases this with rfl | rfl | rfl | rfl | rfl | rfl | rfl | rfl | rfl | rfl
 ·have h : ((a : Int) + (b : Int)) % 4294967296 = (D4 1 a b : Int) := by simp [D4]
  generalize D4 1 a b = E at *
  clear hz e1 e2 e3
  rw [show U8 1 = false from rfl] at C0
  go_enter Tryz.func109, Tryz.ntmps109
  go_wp2_with fail
  refine C0.mono ?_
  rintro e w' ⟨rfl, rfl⟩
  go_wp2
  go_ret2
  exact ⟨a2v h, rfl⟩
 ·have h : ((a : Int) - (b : Int)) % 4294967296 = (D4 2 a b : Int) := by have := HB.out; simp [D4]; omega
  generalize D4 2 a b = E at *
  clear hz e1 e2 e3
  rw [show U8 2 = false from rfl] at C0
  go_enter Tryz.func109, Tryz.ntmps109
  go_wp2_with fail
  refine C0.mono ?_
  rintro e w' ⟨rfl, rfl⟩
  go_wp2
  go_ret2
  exact ⟨a2v h, rfl⟩
 ·have h : ((a : Int) * (b : Int)) % 4294967296 = (D4 3 a b : Int) := by simp [D4]
  generalize D4 3 a b = E at *
  clear hz e1 e2 e3
  rw [show U8 3 = false from rfl] at C0
  go_enter Tryz.func109, Tryz.ntmps109
  go_wp2_with fail
  refine C0.mono ?_
  rintro e w' ⟨rfl, rfl⟩
  go_wp2
  go_ret2
  exact ⟨a2v h, rfl⟩
 ·have h : bits .and .u32 (a : Int) (b : Int) = (D4 6 a b : Int) := by rw [e2]; simp [D4]
  generalize D4 6 a b = E at *
  clear hz e1 e2 e3
  rw [show U8 6 = false from rfl] at C0
  go_enter Tryz.func109, Tryz.ntmps109
  go_wp2_with fail
  refine C0.mono ?_
  rintro e w' ⟨rfl, rfl⟩
  go_wp2
  go_ret2
  exact ⟨rfl, rfl⟩
 ·have h : bits .or .u32 (a : Int) (b : Int) = (D4 7 a b : Int) := by rw [e1]; simp [D4]
  generalize D4 7 a b = E at *
  clear hz e1 e2 e3
  rw [show U8 7 = false from rfl] at C0
  go_enter Tryz.func109, Tryz.ntmps109
  go_wp2_with fail
  refine C0.mono ?_
  rintro e w' ⟨rfl, rfl⟩
  go_wp2
  go_ret2
  exact ⟨rfl, rfl⟩
 ·have h : bits .xor .u32 (a : Int) (b : Int) = (D4 8 a b : Int) := by rw [e3]; simp [D4]
  generalize D4 8 a b = E at *
  clear hz e1 e2 e3
  rw [show U8 8 = false from rfl] at C0
  go_enter Tryz.func109, Tryz.ntmps109
  go_wp2_with fail
  refine C0.mono ?_
  rintro e w' ⟨rfl, rfl⟩
  go_wp2
  go_ret2
  exact ⟨rfl, rfl⟩
 ·have HV : Hid (D4 9 a b = a1h a b true) := rfl
  obtain ⟨E, hE⟩ : ∃ E, D4 9 a b = E := ⟨_, rfl⟩
  rw [hE] at HV ⊢
  clear hz e1 e2 e3 hE
  rw [show U8 9 = false from rfl] at C0
  go_enter Tryz.func109, Tryz.ntmps109
  go_wp2_with fail
  refine C0.mono ?_
  rintro e w' ⟨rfl, rfl⟩
  go_wp2
  go_ret2
  exact ⟨a2v (by rw [HV.out]; exact aS0), rfl⟩
 ·have HV : Hid (D4 10 a b = a1h a b false) := rfl
  obtain ⟨E, hE⟩ : ∃ E, D4 10 a b = E := ⟨_, rfl⟩
  rw [hE] at HV ⊢
  clear hz e1 e2 e3 hE
  rw [show U8 10 = false from rfl] at C0
  go_enter Tryz.func109, Tryz.ntmps109
  go_wp2_with fail
  refine C0.mono ?_
  rintro e w' ⟨rfl, rfl⟩
  go_wp2
  go_ret2
  exact ⟨a2v (by rw [HV.out]; exact aR9 HA.out), rfl⟩
 ·have hb0 : ((b : Int) == 0) = false := by have := hz rfl; simpa using this
  have hb1 : ¬ b = 0 := hz rfl
  have h : (a : Int) / (b : Int) = (D4 4 a b : Int) := by simp [D4]
  have HE : Hid (D4 4 a b ≤ 4294967295) := Nat.le_trans (Nat.div_le_self a b) HA.out
  generalize D4 4 a b = E at *
  clear hz e1 e2 e3
  rw [show U8 4 = true from rfl] at C0
  go_enter Tryz.func109, Tryz.ntmps109
  go_wp2_with fail
  refine C0.mono ?_
  rintro e w' ⟨rfl, rfl⟩
  go_wp2
  go_ret2
  exact ⟨a2v (by have := HE.out; omega), rfl⟩
 ·have hb0 : ((b : Int) == 0) = false := by have := hz rfl; simpa using this
  have hb1 : ¬ b = 0 := hz rfl
  have h : (a : Int) % (b : Int) = (D4 5 a b : Int) := by simp [D4]
  generalize D4 5 a b = E at *
  clear hz e1 e2 e3
  rw [show U8 5 = true from rfl] at C0
  go_enter Tryz.func109, Tryz.ntmps109
  go_wp2_with fail
  refine C0.mono ?_
  rintro e w' ⟨rfl, rfl⟩
  go_wp2
  go_ret2
  exact ⟨a2v h, rfl⟩
def a03 (x : Ng) (ps : List Pt) : Value := match a1C x ps with
 | some v => .tuple #[.int .u32 (v : Int), .bool true]
 | none => .tuple #[.int .u32 0, .bool false]
theorem ax1 (x : Ng) (ps : List Pt) (v : Value) (w : World) (hk : x.kind = 1) : Calls Tryz.prog 51 #[.agg x.cells.toArray, v] w fun e w' => e = .returned (a03 x ps) ∧ w.grownBy w' none := by
 have e0 : a03 x ps = .tuple #[.int .u32 (x.n : Int), .bool true] := by rw [a03, a1C, if_pos hk]
 rw [e0]
 clear hk e0
 have HBX := s8 x
 have h1 := NB.alloc w x
 have h3 := World.grownBy_alloc w (.cells x.cells.toArray 43) none
 have c2 := h1.n
 obtain ⟨X, hX⟩ : ∃ X, x.cells.toArray = X := ⟨_, rfl⟩
 rw [hX] at HBX ⊢
 go_enter Tryz.func51, Tryz.ntmps51
 go_upto_region 1 with fail
 rw [← hX] at *
 generalize w.alloc (.cells x.cells.toArray 43) = w1 at *
 generalize w.heap.size = B at *
 clear HBX hX X
 go_wp2
 go_ret2
 exact ⟨rfl, h3⟩
theorem a0F (x : Ng) (ps : List Pt) (v : Value) (w : World) (hk : x.kind ≠ 1 ∧ x.kind ≠ 4 ∧ x.kind ≠ 5) : Calls Tryz.prog 53 #[.agg x.cells.toArray, v] w fun e w' => e = .returned (a03 x ps) ∧ w.grownBy w' none := by
 have e0 : a03 x ps = .tuple #[.int .u32 0, .bool false] := by rw [a03, a1C, if_neg hk.1, if_neg hk.2.1, if_neg hk.2.2]
 rw [e0]
 clear hk e0
 have HBX := s8 x
 have h3 := World.grownBy_alloc w (.cells x.cells.toArray 43) none
 obtain ⟨X, hX⟩ : ∃ X, x.cells.toArray = X := ⟨_, rfl⟩
 rw [hX] at HBX ⊢
 go_enter Tryz.func53, Tryz.ntmps53
 go_upto_region 1 with fail
 rw [← hX] at *
 generalize w.alloc (.cells x.cells.toArray 43) = w1 at *
 generalize w.heap.size = B at *
 clear HBX hX X
 go_wp2
 go_ret2
 exact ⟨rfl, h3⟩
theorem aE7 (x : Ng) (p : Pt) (ao : Option Addr) (cap : Nat) (w : World) (C : CV w ao (r9 ptC [p])) (hp : p.val ≤ 4294967295) (hk : x.kind = 5) : Calls Tryz.prog 60 #[.agg x.cells.toArray, .slice ao 1 cap] w fun e w' => e = .returned (a03 x [p]) ∧ w.grownBy w' none := by
 have e0 : a03 x [p] = .tuple #[.int .u32 (a2h p.val : Int), .bool true] := by rw [a03, a1C, if_neg (by omega), if_neg (by omega), if_pos hk]; rfl
 rw [e0]
 clear hk e0
 have HBX := s8 x
 have h3 := World.grownBy_alloc w (.cells x.cells.toArray 43) none
 obtain ⟨b, o, rfl, hc⟩ := (C.keptNone h3).pts a1Q (k := 0) (by simp)
 have c2 := hc 0 (by simp) 2 (.int .u32 (p.val : Int)) rfl
 simp only [Nat.zero_mul, Nat.add_zero] at c2
 clear C hc
 generalize p.val = pv at *
 obtain ⟨X, hX⟩ : ∃ X, x.cells.toArray = X := ⟨_, rfl⟩
 rw [hX] at HBX ⊢
 go_enter Tryz.func60, Tryz.ntmps60
 go_upto_region 1 with fail
 rw [← hX] at *
 generalize w.alloc (.cells x.cells.toArray 43) = w1 at *
 generalize w.heap.size = B at *
 clear HBX hX X
 go_wp2_with fail
 refine (aC4 pv hp _).mono ?_
 rintro e w' ⟨rfl, rfl⟩
 go_wp2
 go_ret2
 exact ⟨rfl, h3⟩
theorem aO2 (x : Ng) (p q : Pt) (ao : Option Addr) (cap : Nat) (w : World) (C : CV w ao (r9 ptC [p, q])) (hp : p.val ≤ 4294967295) (hq : q.val ≤ 4294967295) (hk : x.kind = 4) (ho : 1 ≤ x.op ∧ x.op ≤ 10) (hz : U8 x.op = true → q.val ≠ 0) :
  Calls Tryz.prog 59 #[.agg x.cells.toArray, .slice ao 2 cap] w fun e w' => e = .returned (a03 x [p, q]) ∧ w.grownBy w' none := by
 have e0 : a03 x [p, q] = .tuple #[.int .u32 (D4 x.op p.val q.val : Int), .bool true] := by rw [a03, a1C, if_neg (by omega), if_pos hk]; rfl
 rw [e0]
 clear hk e0
 have HBX := s8 x
 have h1 := NB.alloc w x
 have h3 := World.grownBy_alloc w (.cells x.cells.toArray 43) none
 obtain ⟨b, o, rfl, hc⟩ := (C.keptNone h3).pts a1Q (k := 0) (by simp)
 have c2 := hc 0 (by simp) 2 (.int .u32 (p.val : Int)) rfl
 have c5 := hc 1 (by simp) 2 (.int .u32 (q.val : Int)) rfl
 have c1 := h1.op
 simp only [Nat.zero_mul, Nat.add_zero, Nat.one_mul] at c2 c5
 obtain ⟨X, hX⟩ : ∃ X, x.cells.toArray = X := ⟨_, rfl⟩
 rw [hX] at HBX ⊢
 clear C hc
 have CA : ∀ W : World, Calls Tryz.prog 109 #[.int .i64 x.op, .int .u32 (p.val : Int), .int .u32 (q.val : Int)] W fun e w' => e = .returned (.tuple #[.int .u32 (D4 x.op p.val q.val : Int), .bool true]) ∧ w' = W := fun W => (ag3 x.op p.val q.val hp hq ho hz W).mono fun e w' h => ⟨h.1, h.2.symm⟩
 generalize D4 x.op p.val q.val = E at *
 generalize p.val = pv at *
 generalize q.val = qv at *
 clear hp hq ho hz
 go_enter Tryz.func59, Tryz.ntmps59
 go_upto_region 1 with fail
 rw [← hX] at *
 generalize w.alloc (.cells x.cells.toArray 43) = w1 at *
 generalize w.heap.size = B at *
 clear HBX hX X h1
 generalize x.op = op at *
 go_quiet ((go_at_call 109; exact Calls.quiet_of_same (CA _)))
 go_wp2
 go_ret2
 exact ⟨rfl, d3 h3 (f9 _ _ none)⟩
def a1q (l : Int) : Nat := min l.toNat 8
def ac3 (k : Nat) : Nat := 255 - 255 / 2 ^ k
theorem af9 : ∀ (x : Fin 256) (k : Fin 9), bits .and .u8 ((x.val : Nat) : Int) ((ac3 k.val : Nat) : Int) = (((a0E k.val (UInt8.ofNat x.val)).toNat : Nat) : Int) := by decide +kernel
theorem aB4 (l : Int) (w : World) :
  Calls Tryz.prog 144 #[.int .i64 l] w fun e w' => e = .returned (.int .u8 ((ac3 (a1q l) : Nat) : Int)) ∧ w = w' := by
 by_cases h0 : l ≤ 0
 ·have e : a1q l = 0 := by unfold a1q; omega
  rw [e]
  have h1 : ¬ l > 0 := by omega
  have h2 : (if (0 : Int) > l then (0 : Int) else l) = 0 := by split <;> omega
  go_enter Tryz.func144, Tryz.ntmps144
  go_wp2
  go_ret
  first | exact ⟨rfl, rfl⟩ | (refine ⟨?_, rfl⟩; rw [show max l 0 = 0 by omega]; rfl)
 ·by_cases h8 : 8 ≤ l
  ·have e : a1q l = 8 := by unfold a1q; omega
   rw [e]
   have h2 : (if (0 : Int) > l then (0 : Int) else l) = l := by split <;> omega
   have h3 : (if (8 : Int) < l then (8 : Int) else l) = 8 := by split <;> omega
   go_enter Tryz.func144, Tryz.ntmps144
   go_wp2
   go_ret
   first | exact ⟨rfl, rfl⟩ | (refine ⟨?_, rfl⟩; rw [show max l 0 = l by omega, show min l 8 = 8 by omega]; rfl)
  ·have : l = 1 ∨ l = 2 ∨ l = 3 ∨ l = 4 ∨ l = 5 ∨ l = 6 ∨ l = 7 := by omega
   clear h0 h8
   rcases this with rfl | rfl | rfl | rfl | rfl | rfl | rfl
   all_goals
    go_enter Tryz.func144, Tryz.ntmps144
    go_wp2
    go_ret
    exact ⟨rfl, rfl⟩
theorem aY4 (k : Nat) (x : UInt8) (h : 8 ≤ k) : a0E k x = a0E 8 x := by
 unfold a0E
 rw [if_neg (by omega), if_neg (by omega), if_neg (by omega), if_neg (by omega)]
theorem aY3 (n j : Nat) (x : UInt8) : a0E (a1q ((n : Int) - 8 * (j : Int))) x = a0E (n - 8 * j) x := by
 have e : ((n : Int) - 8 * (j : Int)).toNat = n - 8 * j := by omega
 unfold a1q
 rw [e]
 by_cases h : 8 ≤ n - 8 * j
 ·rw [show min (n - 8 * j) 8 = 8 by omega, ← aY4 _ x h]
 ·rw [show min (n - 8 * j) 8 = n - 8 * j by omega]
def a10 (n : Nat) (xs : List UInt8) (j : Nat) : List UInt8 := (W5 n xs).take j ++ List.replicate (xs.length - j) 0
theorem aE9 (n : Nat) (xs : List UInt8) (j : Nat) (h : j < xs.length) : a10 n xs (j + 1) = (a10 n xs j).set j (a0E (n - 8 * j) xs[j]) := by
 have hl : (List.take j (W5 n xs)).length = j := by rw [List.length_take, a1J]; omega
 unfold a10
 rw [List.set_append_right _ _ (by omega), hl, Nat.sub_self, List.take_succ_eq_append_getElem (by rw [a1J]; exact h), aB5 n xs j h, show xs.length - j = (xs.length - (j + 1)) + 1 by omega, List.replicate_succ, List.set_cons_zero]
 simp
theorem aF0 (a : Option Addr) (ca : Nat) (xs : List UInt8) (bits : Int) (w : World) (ha : Cells w a xs) (hc0 : a = none → ca = 0) (hx : xs.length ≤ 140737488355328) :
  Calls Tryz.prog 114 #[.slice a xs.length ca, .int .i64 bits] w fun e w' => ∃ v, e = .returned (.tuple #[v, .int .i64 (a0Z xs.length bits)]) ∧ m9 w' w.heap.size v (a1w xs bits) ∧ w.grownBy w' none := by
 obtain ⟨i0, hi, hz0, hz1, hz2⟩ := info_parts a1f
 by_cases h4 : xs.length ≠ 4 ∧ xs.length ≠ 16
 ·have e : a0Z xs.length bits = 60 := by rw [a0Z, if_pos h4]
  have e2 : a1w xs bits = [] := by rw [a1w, if_neg (by rw [e]; decide)]
  rw [e, e2]
  have b1 : ((xs.length : Int) != 4) = true := by rw [bne_iff_ne]; omega
  have b2 : ((xs.length : Int) != 16) = true := by rw [bne_iff_ne]; omega
  clear ha e e2
  go_enter Tryz.func114, Tryz.ntmps114
  go_wp2
  go_ret2
  exact ⟨_, rfl, World.ownsRow_nil _ _ _ _, World.grownBy.refl _ _⟩
 ·have hlen : xs.length = 4 ∨ xs.length = 16 := by omega
  have hb : ((xs.length : Int) != 4) = false ∨ (((xs.length : Int) != 4) = true ∧ ((xs.length : Int) != 16) = false) := by
   rcases hlen with h | h
   ·left; rw [h]; rfl
   ·right; rw [h]; exact ⟨rfl, rfl⟩
  have hl16 : xs.length ≤ 16 := by omega
  by_cases hbad : bits < 0 ∨ 8 * (xs.length : Int) < bits
  ·have e : a0Z xs.length bits = 61 := by rw [a0Z, if_neg h4, if_pos hbad]
   have e2 : a1w xs bits = [] := by rw [a1w, if_neg (by rw [e]; decide)]
   rw [e, e2]
   have hbb : bits < 0 ∨ (¬ bits < 0 ∧ 8 * (xs.length : Int) < bits) := by omega
   clear ha e e2 h4 hlen hbad
   rcases hb with hb | ⟨hb, hb2⟩
   all_goals
    rcases hbb with hq | ⟨hq, hq2⟩
    all_goals
     go_enter Tryz.func114, Tryz.ntmps114
     go_wp2
     go_ret2
     exact ⟨_, rfl, World.ownsRow_nil _ _ _ _, World.grownBy.refl _ _⟩
  ·have e : a0Z xs.length bits = 0 := by rw [a0Z, if_neg h4, if_neg hbad]
   have e2 : a1w xs bits = W5 bits.toNat xs := by rw [a1w, if_pos e]
   rw [e, e2]
   have hq : ¬ bits < 0 := by omega
   have hq2 : ¬ 8 * (xs.length : Int) < bits := by omega
   obtain ⟨n, rfl⟩ := Int.eq_ofNat_of_zero_le (show 0 ≤ bits by omega)
   rw [Int.toNat_natCast]
   have H : Hid (Cells w a xs) := ha
   have hn : n ≤ 128 := by omega
   clear ha e e2 h4 hlen hbad
   rcases hb with hb | ⟨hb, hb2⟩
   all_goals
    go_enter Tryz.func114, Tryz.ntmps114
    go_wp2_with (at_make; refine wpList_make_full _ rfl (.tmp 27) (.tmp 27) 115 rfl w.heap.size 5 i0 (.int .u8 0) 1 Tryz.underlying115 hi hz0 hz1 .i64 .i64 (xs.length : Int) (xs.length : Int) xs.length rfl rfl rfl rfl ?q1 ?q2 ?q3 ?q4)
    case q1 => omega
    case q2 => unfold maxLen; omega
    case q4 =>
     intro w2 h2 K2
     rw [toList_madeCells_one] at h2
     have R2 : w2.ownsRow w.heap.size 5 1 (.slice (some ⟨w.heap.size, 0, none⟩) xs.length xs.length) xs.length ((a10 n xs 0).map bv) := by
      have : a10 n xs 0 = List.replicate xs.length 0 := by simp [a10]
      rw [this]
      simpa [bv] using h2
     clear h2
     obtain ⟨g, hg, hgw⟩ : ∃ g, w.heap.size = g ∧ w.heap.size ≤ g := ⟨_, rfl, Nat.le_refl _⟩
     rw [show (Value.slice (some ⟨w.heap.size, 0, none⟩) xs.length xs.length) = .slice (some ⟨g, 0, none⟩) xs.length xs.length by rw [hg]] at R2
     rw [show (Value.slice (some ⟨w.heap.size, 0, none⟩) xs.length xs.length) = .slice (some ⟨g, 0, none⟩) xs.length xs.length by rw [hg]]
     clear hg
     go_wp2
     go_loopw [31] (fun i wr => ∃ j : Nat, j ≤ xs.length ∧ i = .int .i64 j ∧ wr.ownsRow w.heap.size 5 1 (.slice (some ⟨g, 0, none⟩) xs.length xs.length) xs.length ((a10 n xs j).map bv) ∧ w.grownBy wr none) (fun i _ => xs.length - (intOf i).toNat)
     case atStart => exact ⟨0, Nat.zero_le _, rfl, R2, K2⟩
     case round =>
      clear R2 K2
      obtain ⟨j, hj, rfl, R, G⟩ := hrel
      by_cases hlt : j < xs.length
      ·have hl : (j : Int) < (xs.length : Int) := by omega
       obtain ⟨b, o, rfl, hc⟩ := H.out.addr hlt
       have hcj : wr.cell? ⟨b, o + j, none⟩ = some (.int .u8 (xs[j].toNat : Int)) := G.cell (hc j hlt) (by simp)
       have bl := (J9.ofRow R).1
       have hfr := bl.free j
       obtain ⟨u0, hu0⟩ := bl.cell (i := j) (by omega)
       have hy := xs[j].toNat_lt
       have HB := af9 ⟨xs[j].toNat, hy⟩ ⟨a1q ((n : Int) - 8 * (j : Int)), by unfold a1q; omega⟩
       rw [aY3] at HB
       simp only [UInt8.ofNat_toNat] at HB
       have R3 := (R.stored j (.int .u8 ((a0E (n - 8 * j) xs[j]).toNat : Int))).1
       rw [show (((a10 n xs j).map bv).set j (.int .u8 ((a0E (n - 8 * j) xs[j]).toNat : Int))) = (a10 n xs (j + 1)).map bv by rw [aE9 n xs j hlt, List.map_set]; rfl] at R3
       have G3 := N8 G ⟨g, j, none⟩ (.int .u8 ((a0E (n - 8 * j) xs[j]).toNat : Int)) (.inr hgw)
       generalize (a0E (n - 8 * j) xs[j]).toNat = t at *
       generalize xs[j].toNat = y at *
       clear hc bl R G
       go_wp2_with (go_at_call 144; refine (aB4 _ _).mono ?_; rintro e w' ⟨rfl, rfl⟩)
       go_roundw
       case rel => exact ⟨j + 1, by omega, by go_num, R3, G3⟩
       case measure => simp [intOf]; omega
      ·obtain rfl : j = xs.length := by omega
       have R4 : m9 wr w.heap.size (.slice (some ⟨g, 0, none⟩) xs.length xs.length) (W5 n xs) := by
        unfold m9
        rw [a1J]
        have : a10 n xs xs.length = W5 n xs := by
         unfold a10
         rw [Nat.sub_self, List.replicate_zero, List.append_nil, List.take_of_length_le (by rw [a1J]; exact Nat.le_refl _)]
        rw [this] at R
        exact R
       go_wp2
       go_ret2
       exact ⟨_, rfl, R4, G⟩
theorem a9K {P : Program} {w : World} {ao : Option Addr} {cap : Nat} {ys : List UInt8} (hc : Cells w ao ys) (src dst : TypeId) (hs : P.underlying src = some (.slice 5)) (he : P.underlying 5 = some (.int .u8)) (hd : P.underlying dst = some .string) :
  (convert src dst (.slice ao ys.length cap)).run P w = .ok (.string ⟨ys.toArray⟩) w := by
 cases ao with
 | none =>
  have e := hc.1 rfl
  subst e
  show (convert src dst (.slice none 0 cap)).run P w = _
  rw [run_convert_bytes_string w src dst 5 none 0 cap hs he hd]
  simp [Conv.bytesToString]
  rfl
 | some ad => exact run_convert_bytes_back w src dst 5 ad cap ys hs he hd (fun j hj => hc.2 ad rfl j hj)
theorem ap6 (a b : Option Addr) (ca cb : Nat) (xs ys : List UInt8) (w : World) (ha : Cells w a xs) (hb : Cells w b ys) :
  Calls Tryz.prog 115 #[.slice a xs.length ca, .slice b ys.length cb] w fun e w' => e = .returned (.bool (decide (xs = ys))) ∧ w = w' := by
 have h1 := a9K (P := Tryz.prog) (cap := ca) ha 115 9 Tryz.underlying115 Tryz.underlying5 Tryz.underlying9
 have h2 := a9K (P := Tryz.prog) (cap := cb) hb 115 9 Tryz.underlying115 Tryz.underlying5 Tryz.underlying9
 clear ha hb
 obtain ⟨S, hS⟩ : ∃ S : ByteArray, ⟨xs.toArray⟩ = S := ⟨_, rfl⟩
 obtain ⟨T, hT⟩ : ∃ T : ByteArray, ⟨ys.toArray⟩ = T := ⟨_, rfl⟩
 have e : decide (xs = ys) = (S.toList == T.toList) := by
  rw [← hS, ← hT, ByteArray.toList_eq, ByteArray.toList_eq]
  show decide (xs = ys) = (xs == ys)
  by_cases h : xs = ys
  ·subst h; simp
  ·rw [decide_eq_false h, Eq.comm, beq_eq_false_iff_ne]; exact h
 rw [e]
 rw [hS] at h1
 rw [hT] at h2
 clear hS hT e
 go_enter Tryz.func115, Tryz.ntmps115
 go_wp2
 go_ret
 exact ⟨rfl, rfl⟩
theorem a06 (x : Ng) : (k8 x).length = 16 := rfl
theorem a3W (x : Ng) : (l0 x).length = if x.of = 2 then 4 else 16 := by
 unfold l0
 split <;> simp [a06]
theorem aN9 {w : World} {b o : Nat} {xs : List UInt8} (h : w.rangeAt b o (xs.map bv)) : Cells w (some ⟨b, o, none⟩) xs := by
 refine ⟨fun e => (by cases e), fun ad had j hj => ?_⟩
 cases had
 rw [Addr.add_lit]
 exact h j _ (by simp [hj])
theorem aO0 {w : World} {b o n : Nat} {xs : List UInt8} (h : Cells w (some ⟨b, o, none⟩) xs) : Cells w (some ⟨b, o, none⟩) (xs.take n) := by
 refine ⟨fun e => (by cases e), fun ad had j hj => ?_⟩
 rw [List.length_take] at hj
 rw [h.2 ad had j (by omega), List.getElem_take]
theorem a7a (x : Ng) (w : World) : Calls Tryz.prog 112 #[.agg x.cells.toArray] w fun e w' => ∃ B, e = .returned (.slice (some ⟨B, 7, none⟩) (l0 x).length 16) ∧ Cells w' (some ⟨B, 7, none⟩) (l0 x) ∧ w.heap.size ≤ B ∧ w.grownBy w' none := by
 have HBX := s8 x
 have h1 := NB.alloc w x
 have h3 := World.grownBy_alloc w (.cells x.cells.toArray 43) none
 have c5 := h1.of
 have HA : Hid (Cells _ _ (k8 x)) := aN9 h1.addr
 have HB : Hid (w.heap.size ≤ w.heap.size) := Nat.le_refl _
 obtain ⟨L, hL⟩ : ∃ L, (l0 x).length = L := ⟨_, rfl⟩
 rw [hL]
 have HL : Hid ((l0 x).length = L) := hL
 clear hL
 obtain ⟨X, hX⟩ : ∃ X, x.cells.toArray = X := ⟨_, rfl⟩
 rw [hX] at HBX ⊢
 by_cases q : x.of = 2
 ·have HQ : Hid (l0 x = (k8 x).take 4) := by show l0 x = _; rw [l0, if_pos q]
  have e1 : (x.of == 2) = true := by simpa using q
  have HL2 : Hid (L = 4) := by show L = 4; rw [← HL.out, HQ.out]; rfl
  clear q
  go_enter Tryz.func112, Tryz.ntmps112
  go_upto_region 1 with fail
  rw [← hX] at *
  generalize w.alloc (.cells x.cells.toArray 43) = w1 at *
  obtain ⟨B, hB⟩ : ∃ B, w.heap.size = B := ⟨_, rfl⟩
  have HB2 : Hid (w.heap.size ≤ B) := Nat.le_of_eq hB
  rw [hB] at c5 HA ⊢
  clear HBX hX X h1 HB hB
  go_wp2
  go_ret
  refine ⟨B, ?_, ?_, HB2.out, h3⟩
  ·rw [HL2.out]; rfl
  ·rw [HQ.out]; exact aO0 HA.out
 ·have HQ : Hid (l0 x = k8 x) := by show l0 x = _; rw [l0, if_neg q]
  have e1 : (x.of == 2) = false := by simpa using q
  have HL2 : Hid (L = 16) := by show L = 16; rw [← HL.out, HQ.out]; rfl
  clear q
  go_enter Tryz.func112, Tryz.ntmps112
  go_upto_region 1 with fail
  rw [← hX] at *
  generalize w.alloc (.cells x.cells.toArray 43) = w1 at *
  obtain ⟨B, hB⟩ : ∃ B, w.heap.size = B := ⟨_, rfl⟩
  have HB2 : Hid (w.heap.size ≤ B) := Nat.le_of_eq hB
  rw [hB] at c5 HA ⊢
  clear HBX hX X h1 HB hB
  go_wp2
  go_ret
  refine ⟨B, ?_, ?_, HB2.out, h3⟩
  ·rw [HL2.out]; rfl
  ·rw [HQ.out]; exact HA.out
def a0k (x : Ng) : List UInt8 := splice ((j1 16)) 0 (l0 x)
theorem au5 (x : Ng) : (inG x.of 2 3 && inG x.side 0 2 && decide (k8 x = a0k x)) = a1I x := by
 unfold a1I a0k l0
 by_cases h : x.of = 2
 ·rw [if_pos h]
  have e : (x.of == 3) = false := by rw [h]; rfl
  rw [e, Bool.false_or]
  congr 1
  apply decide_eq_decide.2
  constructor
  ·intro h2
   have := congrArg (List.drop 4) h2
   simpa [splice, j1, a06] using this
  ·intro h2
   have : splice (j1 16) 0 ((k8 x).take 4) = (k8 x).take 4 ++ j1 12 := by simp [splice, j1, a06]
   rw [this, ← h2, List.take_append_drop]
 ·rw [if_neg h]
  have : splice (j1 16) 0 (k8 x) = k8 x := by simp [splice, j1, a06]
  rw [this, decide_eq_true rfl, Bool.and_true]
  by_cases h3 : x.of = 3
  ·rw [h3]; simp
  ·have : inG x.of 2 3 = false := by unfold inG; by_cases h4 : (2 : Int) ≤ x.of <;> simp [h4] <;> omega
   rw [this]; rfl
theorem aj3 (W : World) : (Instr.alloc 41 true (.tuple #[])).run Tryz.prog W = .ok (.pointer (some ⟨W.heap.size, 0, none⟩)) (W.alloc (.cells ((j1 16).map bv).toArray 41)) := by kernel_rfl
theorem aU5 : (Tryz.prog.info? 5).map (·.size) = some 1 := by kernel_rfl
theorem aU6 (xs : List UInt8) (h : xs.length = 16) : (Tryz.prog.info? 41).map (·.size) = some (xs.map bv).toArray.size := by rw [List.size_toArray, List.length_map, h]; kernel_rfl
theorem a9i (x : Ng) : (a0k x).length = 16 := by
 have := a3W x
 unfold a0k
 simp only [splice, j1]
 rw [List.length_append, List.length_append, List.length_take, List.length_drop, List.length_replicate]
 split at this <;> omega
theorem aI2 (x : Ng) : splice ((j1 16).map bv) 0 ((l0 x).map bv) = (a0k x).map bv := by simp [a0k, splice, j1]
theorem af4 (x : Ng) (w : World) : (Op.equalIn 10000 41 (.agg ((k8 x).map bv).toArray) (.agg ((a0k x).map bv).toArray)).run Tryz.prog w = .ok (decide (k8 x = a0k x)) w := by
 obtain ⟨i0, hi, -⟩ := info_parts a1f
 exact ap5 Tryz.underlying41 hi Tryz.underlying5 (by kernel_rfl) (by kernel_rfl) _ _ (a06 x) (a9i x) w
theorem a2H {P : Program} {ops : Array Oper} {rest : List Oper} {op : Oper} {a : Act} {w : World} {Q : Exit → Act → World → Prop} (hw : Region.wanted op (yielded ops a.tmps) = true) (ty : TypeId) (x : Operand) (ho : op.op = .load ty x)
  (b o : Nat) (hx : a.eval x = .pointer (some ⟨b, o, none⟩)) (cs : List Value) (d : TypeDesc) (hc : w.rangeAt b o cs)
  (hu : P.underlying ty = some d) (hd : d.isRow = true) (hi : (P.info? ty).map (·.size) = some cs.length)
  (h : wpList P ops Q rest (a.put op.dst (.agg cs.toArray)) w) : wpList P ops Q (op :: rest) a w :=
 BigFrame.wpList_want hw fun _ hK => wp_load_mid ty x ho b o hx cs d hc hu hd hi (hK _ _ h)
theorem a8Z (x : Ng) (w : World) : Calls Tryz.prog 72 #[.agg x.cells.toArray] w fun e w' => e = .returned (.bool (a1I x)) ∧ w.grownBy w' none := by
 rw [← au5]
 obtain ⟨E, hE⟩ : ∃ E : Bool, (inG x.of 2 3 && inG x.side 0 2 && decide (k8 x = a0k x)) = E := ⟨_, rfl⟩
 rw [hE]
 have HE : Hid ((inG x.of 2 3 && inG x.side 0 2 && decide (k8 x = a0k x)) = E) := hE
 clear hE
 have HBX := s8 x
 have HAR := aj3
 have HZ : Hid ((Tryz.prog.info? 43).map (·.size) = some x.cells.toArray.size) := E8 x
 have HAD : Hid (∀ W : World, Calls Tryz.prog 112 #[.agg x.cells.toArray] W fun e w' => ∃ B, e = .returned (.slice (some ⟨B, 7, none⟩) (l0 x).length 16) ∧ Cells w' (some ⟨B, 7, none⟩) (l0 x) ∧ W.heap.size ≤ B ∧ W.grownBy w' none) := fun W => a7a x W
 have HC1 : Hid (∀ W : World, Calls Tryz.prog 68 #[.agg x.cells.toArray] W fun e w' => e = .returned (.bool (inG x.of 2 3)) ∧ W.grownBy w' none) := fun W => a90 x W
 have HC2 : Hid (∀ W : World, Calls Tryz.prog 113 #[.agg x.cells.toArray] W fun e w' => e = .returned (.bool (inG x.side 0 2)) ∧ W.grownBy w' none) := fun W => a91 x W
 have HEQ := af4 x
 have HLA : Hid ((l0 x).length ≤ 16 ∧ (l0 x).length = Nat.min (l0 x).length 16) := by
  have := a3W x
  have h : (l0 x).length ≤ 16 := by rw [this]; split <;> omega
  exact ⟨h, (Nat.min_eq_left h).symm⟩
 obtain ⟨X, hX⟩ : ∃ X, x.cells.toArray = X := ⟨_, rfl⟩
 have HXX : Hid (x.cells.toArray = X) := hX
 rw [hX] at HBX HZ HAD HC1 HC2 ⊢
 have V1 := VAt.alloc w 43 X
 have G1 := World.grownBy_alloc w (.cells X 43) none
 go_enter Tryz.func72, Tryz.ntmps72
 go_upto_region 1 with fail
 generalize w.alloc (.cells X 43) = w1 at *
 obtain ⟨B, hB⟩ : ∃ B, w.heap.size = B := ⟨_, rfl⟩
 have HB2 : Hid (w.heap.size ≤ B) := Nat.le_of_eq hB
 rw [hB] at V1 ⊢
 clear HBX hX hB
 have V2 := VAt.alloc w1 41 ((j1 16).map bv).toArray
 have G2 := World.grownBy_alloc w1 (.cells ((j1 16).map bv).toArray 41) none
 go_upto_region 2 with fail
 rw [show #[.int .u8 0, .int .u8 0, .int .u8 0, .int .u8 0, .int .u8 0, .int .u8 0, .int .u8 0, .int .u8 0, .int .u8 0, .int .u8 0, .int .u8 0, .int .u8 0, .int .u8 0, .int .u8 0, .int .u8 0, .int .u8 0] = ((j1 16).map bv).toArray from rfl]
 generalize w1.alloc (.cells ((j1 16).map bv).toArray 41) = w2 at *
 obtain ⟨A, hA⟩ : ∃ A, w1.heap.size = A := ⟨_, rfl⟩
 have HA : Hid (B < A ∧ w.heap.size ≤ A) := by have := V1.lt; have := HB2.out; exact ⟨by omega, by omega⟩
 rw [hA] at V2 ⊢
 have HS0 : Hid (VAt w2.drew B 43 X ∧ VAt w2.drew A 41 ((j1 16).map bv).toArray ∧ w.grownBy w2.drew none) := ⟨(V1.kept G2).kept (f9 w2 1 none), V2.kept (f9 w2 1 none), d3 G1 (d3 G2 (f9 w2 1 none))⟩
 clear hA V1 V2 G1 G2 HAR
 refine wp_region_held_drew (S := fun W => VAt W B 43 X) (by kernel_rfl) HS0.out.1 (fun hHeld => ?_)
 refine wpT (i := 0) (v := .slice (some ⟨A, 0, none⟩) 16 16) rfl (Or.inl ⟨by rfl, fun W hW => ?_⟩) hHeld ?_
 ·clear hW
  go_simp
 try simp only [Act.put, a0, a1, a3, a4, a5]
 refine wpT (i := 1) (v := .agg X) rfl (J3 (by rfl) _ _ rfl B rfl 43 X _ (fun W hW => hW) Tryz.underlying43 rfl HZ.out) hHeld ?_
 try simp only [Act.put, a0, a1, a2, a3, a4, a5]
 refine wpR (rs := [2]) (AllReadyH.cons rfl (fun K hK => ?_) AllReadyH.nil)
 go_simp
 refine (HAD.out _).mono ?_
 rintro e wc ⟨B2, rfl, C2, hB2, K2⟩
 go_wp2_with fail
 have V2 := HS0.out.2.1.kept K2
 have G2 := d3 HS0.out.2.2 K2
 refine hK.out _ _ (hHeld.kept K2) (fun hHeld => ?_)
 clear hK K K2 HS0
 try simp only [Act.put, a0, a1, a2, a3, a4, a5]
 refine wpR (rs := [3]) (AllReadyH.cons rfl (fun K hK => ?_) AllReadyH.nil)
 refine step_copy_splice rfl (.tmp 4) (.tmp 6) 115 115 rfl 5 Tryz.underlying115 aU5 (some ⟨A, 0, none⟩) (some ⟨B2, 7, none⟩) 16 16 (l0 x).length 16 rfl rfl A 0 ((j1 16).map bv) 41 V2 ((l0 x).map bv) (by rw [List.length_map]; exact HLA.out.2) (fun _ => ⟨rfl, _, rfl, ?_⟩) (by rw [List.length_map, List.length_map, b0C]; have := HLA.out.1; omega) (a0p _) A wc (Below.refl _ _) (Nat.le_refl _) ?_
 ·intro j v hv
  obtain ⟨hlt, e⟩ := List.getElem?_eq_some_iff.1 hv
  rw [List.length_map] at hlt
  rw [C2.2 _ rfl j hlt, ← e]
  simp
 intro w3 hc3 hb3
 have V3 : VAt w3 B 43 X := by have := hb3.block B HA.out.1; unfold VAt; rw [this]; exact hHeld
 have P3 : VAt w3 A 41 ((a0k x).map bv).toArray := by have := hc3.out; rw [aI2] at this; exact this
 have G3 : w.grownBy w3 none := ⟨hb3.os.trans G2.os, hb3.tape.trans G2.tape, hb3.output.trans G2.output, Nat.le_trans G2.size hb3.size, fun k hk _ => (hb3.block k (Nat.lt_of_lt_of_le hk HA.out.2)).trans (G2.block k hk (by simp))⟩
 refine hK.out _ _ V3 (fun hHeld => ?_)
 clear hK K hb3 hc3 G2 V2 C2 hB2
 try simp only [Act.put, a0, a1, a2, a3, a4, a5]
 refine wpAnyH_done (by kernel_rfl) ?_ _
 clear hHeld
 have LV := V3
 have HV3 : Hid (VAt w3 B 43 X ∧ VAt w3 A 41 ((a0k x).map bv).toArray) := ⟨V3, P3⟩
 have HZA : Hid ((Tryz.prog.info? 41).map (·.size) = some ((a0k x).map bv).toArray.size) := aU6 _ (a9i x)
 have HZB : Hid ((Tryz.prog.info? 41).map (·.size) = some ((k8 x).map bv).length) := a4N x
 clear V3 P3 HAD HLA
 go_wp2_with (refine wpList_load_row rfl 43 (.tmp 1) rfl B rfl 43 X (0, 0) _ LV Tryz.underlying43 rfl HZ.out ?_)
 refine (HC1.out _).mono ?_
 rintro e w4 ⟨rfl, K4⟩
 have LV := HV3.out.1.kept K4
 have G4 := d3 G3 K4
 cases q1 : inG x.of 2 3 with
 | false =>
  have HQ : Hid (inG x.of 2 3 = false) := q1
  clear q1
  go_wp2
  go_ret
  exact ⟨W7 (by rw [← HE.out, HQ.out]; rfl), G4⟩
 | true =>
  have HQ : Hid (inG x.of 2 3 = true) := q1
  clear q1
  go_wp2_with (refine a55 (by rfl) 43 (.tmp 1) rfl B rfl 43 X (0, 0) _ LV Tryz.underlying43 rfl HZ.out ?_)
  refine (HC2.out _).mono ?_
  rintro e w5 ⟨rfl, K5⟩
  have LV5 := LV.kept K5
  have LA5 := (HV3.out.2.kept K4).kept K5
  have G5 := d3 G4 K5
  have HR : Hid (w5.rangeAt B 7 ((k8 x).map bv)) := by
   have : NB w5 B x := by unfold NB; rw [HXX.out]; exact LV5
   exact this.addr
  clear LV K4 K5
  cases q2 : inG x.side 0 2 with
  | false =>
   have HQ2 : Hid (inG x.side 0 2 = false) := q2
   clear q2
   go_wp2
   go_ret
   exact ⟨W7 (by rw [← HE.out, HQ.out, HQ2.out]; rfl), G5⟩
  | true =>
   have HQ2 : Hid (inG x.side 0 2 = true) := q2
   clear q2
   go_wp2_with (first | refine a55 (by rfl) 41 (.tmp 3) rfl A rfl 41 ((a0k x).map bv).toArray (0, 0) _ LA5 Tryz.underlying41 rfl HZA.out ?_ | refine a2H (by rfl) 41 (.tmp 15) rfl B 7 rfl ((k8 x).map bv) _ HR.out Tryz.underlying41 rfl HZB.out ?_)
   go_ret
   exact ⟨W7 (by rw [← HE.out, HQ.out, HQ2.out]; rfl), G5⟩
theorem aE8 (x : Ng) (b : Int) : a0Z (l0 x).length b = if ¬ (0 ≤ b ∧ b ≤ 8 * ((l0 x).length : Int)) then 61 else 0 := by
 have h := a3W x
 have h4 : ¬ ((l0 x).length ≠ 4 ∧ (l0 x).length ≠ 16) := by split at h <;> omega
 rw [a0Z, if_neg h4]
 by_cases hb : b < 0 ∨ 8 * ((l0 x).length : Int) < b
 ·rw [if_pos hb, if_pos (by omega)]
 ·rw [if_neg hb, if_neg (by omega)]
theorem aj9 (x : Ng) (w : World) (hk : x.kind = 15) : Calls Tryz.prog 74 #[.agg x.cells.toArray] w fun e w' => e = .returned (.int .i64 (m4 x)) ∧ w.grownBy w' none := by
 obtain ⟨E, hE⟩ : ∃ E : Int, m4 x = E := ⟨_, rfl⟩
 rw [hE]
 have HE : Hid ((if ¬ (0 ≤ x.bits ∧ x.bits ≤ 8 * ((l0 x).length : Int)) then 124 else if W5 x.bits.toNat (l0 x) = l0 x then 0 else 125) = E) := by
  have := hE
  rw [m4, if_neg (show ¬ x.kind = 3 by omega), if_neg (show ¬ x.kind = 12 by omega), if_neg (show ¬ x.kind = 13 by omega), if_neg (show ¬ x.kind = 16 by omega), if_pos hk] at this
  exact this
 clear hE hk
 have HBX := s8 x
 have HZ : Hid ((Tryz.prog.info? 43).map (·.size) = some x.cells.toArray.size) := E8 x
 have HAD : Hid (∀ W : World, Calls Tryz.prog 112 #[.agg x.cells.toArray] W fun e w' => ∃ B, e = .returned (.slice (some ⟨B, 7, none⟩) (l0 x).length 16) ∧ Cells w' (some ⟨B, 7, none⟩) (l0 x) ∧ W.heap.size ≤ B ∧ W.grownBy w' none) := fun W => a7a x W
 have HLA : Hid ((l0 x).length ≤ 16) := by
  have := a3W x
  show _ ≤ _
  rw [this]; split <;> omega
 have HNE : Hid _ := aE8 x x.bits
 obtain ⟨X, hX⟩ : ∃ X, x.cells.toArray = X := ⟨_, rfl⟩
 have HXX : Hid (x.cells.toArray = X) := hX
 rw [hX] at HBX HZ HAD ⊢
 have V1 := VAt.alloc w 43 X
 have G1 := World.grownBy_alloc w (.cells X 43) none
 go_enter Tryz.func74, Tryz.ntmps74
 go_upto_region 1 with fail
 generalize w.alloc (.cells X 43) = w1 at *
 generalize w.heap.size = B at V1 ⊢
 clear HBX hX
 go_wp2_with (refine wpList_load_row rfl 43 (.tmp 1) rfl B rfl 43 X (0, 0) _ V1 Tryz.underlying43 rfl HZ.out ?_)
 refine (HAD.out _).mono ?_
 rintro e w2 ⟨B2, rfl, C2, -, K2⟩
 have c8 : w2.cell? ⟨B, 23, none⟩ = some (.int .i64 x.bits) := by
  have : NB w2 B x := by unfold NB; rw [HXX.out]; exact V1.kept K2
  exact this.bits
 have G2 := d3 G1 K2
 have CN := aF0 (some ⟨B2, 7, none⟩) 16 (l0 x) x.bits w2 C2 (by simp) (by have := HLA.out; omega)
 have HC2 : Hid (Cells w2 (some ⟨B2, 7, none⟩) (l0 x)) := C2
 clear V1 G1 K2 HAD C2
 rw [HNE.out] at CN
 by_cases hb : 0 ≤ x.bits ∧ x.bits ≤ 8 * ((l0 x).length : Int)
 ·rw [if_neg (fun h => h hb)] at CN
  have HQ : Hid (0 ≤ x.bits ∧ x.bits ≤ 8 * ((l0 x).length : Int)) := hb
  have hn : a0Z (l0 x).length x.bits = 0 := by rw [HNE.out, if_neg (fun h => h hb)]
  have hv : a1w (l0 x) x.bits = W5 x.bits.toNat (l0 x) := by rw [a1w, if_pos hn]
  rw [hv] at CN
  clear hb hv hn HNE
  go_wp2_with fail
  refine CN.mono ?_
  rintro e w3 ⟨v3, rfl, O3, K3⟩
  obtain ⟨a3, k3, rfl, C3, -⟩ := O3.rd
  have CE := ap6 a3 (some ⟨B2, 7, none⟩) k3 16 _ _ w3 C3 (HC2.out.keptNone K3)
  have G3 := d3 G2 K3
  rw [a1J] at CE
  clear CN K3 O3 C3 G2
  by_cases hm : W5 x.bits.toNat (l0 x) = l0 x
  ·rw [decide_eq_true hm] at CE
   have HM : Hid (W5 x.bits.toNat (l0 x) = l0 x) := hm
   clear hm
   rw [a1J]
   go_wp2_with fail
   refine CE.mono ?_
   rintro e w' ⟨rfl, rfl⟩
   go_wp2
   go_ret
   exact ⟨L5 (by rw [← HE.out, if_neg (fun h => h HQ.out), if_pos HM.out]), G3⟩
  ·rw [decide_eq_false hm] at CE
   have HM : Hid (¬ W5 x.bits.toNat (l0 x) = l0 x) := hm
   clear hm
   rw [a1J]
   go_wp2_with fail
   refine CE.mono ?_
   rintro e w' ⟨rfl, rfl⟩
   go_wp2
   go_ret
   exact ⟨L5 (by rw [← HE.out, if_neg (fun h => h HQ.out), if_neg HM.out]), G3⟩
 ·rw [if_pos hb] at CN
  have HQ : Hid (¬ (0 ≤ x.bits ∧ x.bits ≤ 8 * ((l0 x).length : Int))) := hb
  clear hb HNE
  go_wp2_with fail
  refine CN.mono ?_
  rintro e w3 ⟨v3, rfl, O3, K3⟩
  have G3 := d3 G2 K3
  clear CN K3 O3 G2
  go_wp2
  go_ret
  exact ⟨L5 (by rw [← HE.out, if_pos HQ.out]), G3⟩
theorem a4P {P : Program} {ops : Array Oper} {o : Oper} {a : Act} {w : World} {K : Act → World → Prop} {Q : Exit → Act → World → Prop} {E : Prop}
  (hgd : o.guard = none) (t : TypeId) (n : Nat) (ps : Array (Nat × Operand)) (ho : o.op = .buildSlice t n ps) (qs : Array (Nat × Value)) (hq : ps.map (fun (i, x) => (i, a.eval x)) = qs) (cs : List Value) (e : TypeId)
  (hr : ∀ W : World, (Instr.buildSlice t n qs).run P W = .ok (.slice (some ⟨W.heap.size, 0, none⟩) n n) (W.alloc (.cells cs.toArray e)))
  (hK : ∀ ad w', CV w' (some ad) cs → w.grownBy w' none → K (a.put o.dst (.slice (some ad) n n)) w') :
  if Region.wanted o (yielded ops a.tmps) = true then Oper.wp P o a w K Q else E := by
 have hw : Region.wanted o (yielded ops a.tmps) = true := by simp [Region.wanted, hgd]
 rw [if_pos hw]
 unfold Oper.wp execOp
 have hr' := hr w
 rw [← hq] at hr'
 simp only [ho, Sem.run_bind, Sem.run_pure, Result.andThen_ok, hr']
 exact hK _ _ (o4 w e cs) (World.grownBy_alloc _ _ _)
theorem a3e {P : Program} {ops : Array Oper} {o : Oper} {a : Act} {w : World} {K : Act → World → Prop} {Q : Exit → Act → World → Prop} {E : Prop}
  (hgd : o.guard = none) (s x : Operand) (t : TypeId) (ho : o.op = .call { callee := .builtin .append, args := #[s, x], argTypes := #[t, t] })
  (e : TypeId) (i : TypeInfo) (z : Value) (size bytes : Nat) (ht : P.underlying t = some (.slice e)) (hi : P.info? e = some i) (hz : i.zero = some z) (hsize : i.size = size) (hby : i.bytes = bytes) (hzs : z.cells.size = size) (hsz : 0 < size)
  (base : Nat) (v : Value) (n : Nat) (vs : List Value) (hs : a.eval s = v) (hown : w.ownsRow base e size v n vs)
  (ad : Addr) (m c : Nat) (us : List Value) (hx : a.eval x = .slice (some ad) m c) (hl : us.length = m * size) (hus : CV w (some ad) us) (h1 : ∀ u ∈ us, u.oneCell' = true)
  (h63 : n + m ≤ maxLen) (hbytes : (n + m) * bytes ≤ 140737488355328) (hbase : base ≤ w.heap.size)
  (hK : ∀ v' w', w'.ownsRow base e size v' (n + m) (vs ++ us) → w.grownBy w' v.ownBlock → (v'.ownBlock = v.ownBlock ∨ v'.ownBlock = some w.heap.size) → K (a.put o.dst v') w') :
  if Region.wanted o (yielded ops a.tmps) = true then Oper.wp P o a w K Q else E := by
 have hw : Region.wanted o (yielded ops a.tmps) = true := by simp [Region.wanted, hgd]
 rw [if_pos hw]
 obtain ⟨v', w', hr, h2, h3, _, h5⟩ := run_append_own_at (P := P) w base t o.type e i z size bytes ht hi hz hsize hby hzs hsz v n vs hown ad m c us hl (by
  intro j u hj
  obtain ⟨hlt, e⟩ := List.getElem?_eq_some_iff.1 hj
  rw [hus.2 ad rfl j hlt, e]) h1 h63 hbytes hbase
 unfold Oper.wp execOp
 simp only [ho, resolve, invoke, builtin, Sem.run_bind, Sem.run_pure, Result.andThen_ok, List.map_toArray, List.map_cons, List.map_nil, hs, hx, hr]
 exact hK v' w' h2 h3 h5
theorem a2o {w : World} {base e size n : Nat} {v : Value} {vs : List Value} (h : w.ownsRow base e size v n vs) : ∃ a l k, v = .slice a l k := by
 rcases h.2 with ⟨rfl, -⟩ | ⟨g, cap, cur, rfl, -⟩
 ·exact ⟨_, _, _, rfl⟩
 ·exact ⟨_, _, _, rfl⟩
theorem b0y {P : Program} {ops : Array Oper} {rest : List Oper} {op : Oper} {a : Act} {w : World} {Q : Exit → Act → World → Prop} (hw : Region.wanted op (yielded ops a.tmps) = true)
  (t : TypeId) (n : Nat) (ps : Array (Nat × Operand)) (ho : op.op = .buildSlice t n ps) (qs : Array (Nat × Value)) (hq : ps.map (fun (i, x) => (i, a.eval x)) = qs) (cs : List Value) (e : TypeId)
  (hr : ∀ W : World, (Instr.buildSlice t n qs).run P W = .ok (.slice (some ⟨W.heap.size, 0, none⟩) n n) (W.alloc (.cells cs.toArray e)))
  (h : ∀ V w', CV w' (some ⟨V, 0, none⟩) cs → w.grownBy w' none → wpList P ops Q rest (a.put op.dst (.slice (some ⟨V, 0, none⟩) n n)) w') : wpList P ops Q (op :: rest) a w :=
 BigFrame.wpList_want hw fun _ hK => by
  unfold Oper.wp execOp
  have hr' := hr w
  rw [← hq] at hr'
  simp only [ho, Sem.run_bind, Sem.run_pure, Result.andThen_ok, hr']
  exact hK _ _ (h _ _ (o4 w e cs) (World.grownBy_alloc _ _ _))
theorem aI1 {w : World} {base e size g n cap m : Nat} {vs : List Value} (h : w.ownsRow base e size (.slice (some ⟨g, 0, none⟩) n cap) n vs) (hm : m ≤ n) : w.ownsRow base e size (.slice (some ⟨g, 0, none⟩) m cap) m (vs.take (m * size)) := by
 have h0 := h.1
 rcases h.2 with ⟨h, _⟩ | ⟨g', cap', cur, hv, hb, hg, hc, hmx, hs, ht⟩
 ·cases h
 ·simp only [Value.slice.injEq, Option.some.injEq, Addr.mk.injEq] at hv
  obtain ⟨⟨rfl, _⟩, _, rfl⟩ := hv
  have hle : m * size ≤ n * size := Nat.mul_le_mul_right _ hm
  refine ⟨by rw [List.length_take, h0]; omega, .inr ⟨g, cap, cur, rfl, hb, hg, by omega, hmx, hs, ?_⟩⟩
  rw [← ht, List.take_take, Nat.min_eq_left hle]
theorem a6j {w : World} {base e size n x : Nat} {v : Value} {vs : List Value} (h : w.ownsRow base e size v n vs) (hx : v.ownBlock = some x) : ∃ cur, w.heap[x]? = some (.cells cur e (0, 0)) := by
 rcases h.2 with ⟨rfl, -⟩ | ⟨g, cap, cur, rfl, -, hg, -⟩
 ·cases hx
 ·cases hx
  exact ⟨cur, hg⟩
theorem aH8 {w : World} {base e size n x base' e' size' n' : Nat} {v v' : Value} {vs vs' : List Value} (h : w.ownsRow base e size v n vs) (h' : w.ownsRow base' e' size' v' n' vs') (he : e ≠ e') (hx : v.ownBlock = some x) : ¬ v'.ownBlock = some x := fun hy => by
 obtain ⟨c1, k1⟩ := a6j h hx
 obtain ⟨c2, k2⟩ := a6j h' hy
 rw [k1] at k2
 injection k2 with k2
 injection k2 with _ k3
 exact he k3
theorem a13 {w : World} {base e size n g t : Nat} {v : Value} {vs : List Value} {cs : Array Value} (h : w.ownsRow base e size v n vs) (A : VAt w g t cs) (he : e ≠ t) : ¬ v.ownBlock = some g := fun hx => by
 obtain ⟨c1, k1⟩ := a6j h hx
 unfold VAt at A
 rw [k1] at A
 injection A with A
 injection A with _ A
 exact he A
theorem a0j {w w' : World} {base e size n g : Nat} {v : Value} {vs : List Value} (h : w.ownsRow base e size v n vs) (K : w.grownBy w' (some g)) (hne : ¬ v.ownBlock = some g) : w'.ownsRow base e size v n vs := h.kept K (.inr hne)

end Go.Proofs.YtklipelnjgpnjaaGreatDoor
