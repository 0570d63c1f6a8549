import Derived.Test.YtcodofamdhcfiaaGreatTyF
import Derived.Deep.RegionHeld3
import Derived.Test.YtcodofamdhcfiaaGreatLotP7
import Derived.Test.YtcodofamdhcfiaaGreatLotP5
import Derived.Handy
import Derived.Test.YtcodofamdhcfiaaGreatLotP1
import Derived.Test.YtcodofamdhcfiaaGreatLotP6
import Derived.Test.YtcodofamdhcfiaaGreatLotP2
namespace Go.Proofs.YtcodofamdhcfiaaGreat
open Go.RowKit
set_option maxRecDepth 100000
def ptC (p : Pt) : List Value := [.int .i64 (if p.truth = true then 0 else 1), .bool p.fixed, .int .u32 (p.val : Int)]
def pqC (p : Pt) : List Value := [.bool p.truth, .bool p.fixed, .int .u32 (p.val : Int)]
def flat3 (c : Pt → List Value) (ps : List Pt) : List Value := ps.flatMap c
theorem flat3_nil (c : Pt → List Value) : flat3 c [] = [] := rfl
theorem flat3_cons (c : Pt → List Value) (p : Pt) (ps : List Pt) : flat3 c (p :: ps) = c p ++ flat3 c ps := rfl
theorem flat3_append (c : Pt → List Value) (xs ys : List Pt) : flat3 c (xs ++ ys) = flat3 c xs ++ flat3 c ys := by simp only [flat3, List.flatMap_append]
theorem flat3_one (c : Pt → List Value) (p : Pt) : flat3 c [p] = c p := by rw [flat3_cons, flat3_nil, List.append_nil]
theorem flat3_len {c : Pt → List Value} (hc : ∀ p, (c p).length = 3) (xs : List Pt) : (flat3 c xs).length = xs.length * 3 := by
 induction xs with
 | nil => rfl
 | cons x xs ih => rw [flat3_cons, List.length_append, ih, List.length_cons, hc]; omega
theorem flat3_get {c : Pt → List Value} (hc : ∀ p, (c p).length = 3) (xs : List Pt) (i j : Nat) (hi : i < xs.length) (hj : j < 3) : (flat3 c xs)[i * 3 + j]? = (c xs[i])[j]? := by
 induction xs generalizing i with
 | nil => simp at hi
 | cons x xs ih =>
  rw [flat3_cons]
  have hl := hc x
  cases i with
  | zero => rw [List.getElem?_append_left (by omega)]; simp
  | succ i =>
   rw [List.getElem?_append_right (by omega), hl, show (i + 1) * 3 + j - 3 = i * 3 + j by omega, ih i (by simpa using hi)]
   simp
theorem ptC_len (p : Pt) : (ptC p).length = 3 := rfl
theorem pqC_len (p : Pt) : (pqC p).length = 3 := rfl
theorem ptC_one (p : Pt) : ∀ u ∈ ptC p, u.oneCell' = true := by
 intro u hu
 simp only [ptC, List.mem_cons, List.not_mem_nil, or_false] at hu
 rcases hu with rfl | rfl | rfl <;> rfl
theorem pqC_one (p : Pt) : ∀ u ∈ pqC p, u.oneCell' = true := by
 intro u hu
 simp only [pqC, List.mem_cons, List.not_mem_nil, or_false] at hu
 rcases hu with rfl | rfl | rfl <;> rfl
theorem CV.pts {c : Pt → List Value} (hc : ∀ p, (c p).length = 3) {w : World} {ao : Option Addr} {xs : List Pt} (h : CV w ao (flat3 c xs)) {k : Nat} (hk : k < xs.length) :
  ∃ b off, ao = some ⟨b, off, none⟩ ∧ ∀ i (hi : i < xs.length), w.rangeAt b (off + i * 3) (c xs[i]) := by
 have hl := flat3_len hc xs
 obtain ⟨b, off, hao, hcc⟩ := h.addr (k := k * 3) (by omega)
 refine ⟨b, off, hao, fun i hi j v hv => ?_⟩
 have hj : j < 3 := by have := (List.getElem?_eq_some_iff.1 hv).1; rw [hc] at this; exact this
 rw [← flat3_get hc xs i j hi hj] at hv
 rw [Nat.add_assoc, hcc (i * 3 + j) (by omega), ← hv, List.getElem?_eq_getElem (by omega)]
set_option maxHeartbeats 400000 in
theorem divides_any (op : Int) (w : World) : Calls Tryz.prog 157 #[.int .i64 op] w fun e w' => e = .returned (.bool (divG op)) ∧ w = w' := by
 unfold divG
 obtain ⟨E, hE⟩ : ∃ E : Bool, decide (op = 4 ∨ op = 5) = E := ⟨_, rfl⟩
 rw [hE]
 have HE : Hid (decide (op = 4 ∨ op = 5) = E) := hE
 clear hE
 by_cases h1 : op = 4
 ·have e1 : (op == 4) = true := by simpa using h1
  have HQ : Hid (op = 4) := h1
  clear h1
  go_enter Tryz.func157, Tryz.ntmps157
  go_wp2
  go_ret
  exact ⟨ret_bool (by rw [← HE.out, decide_eq_true (.inl HQ.out)]), rfl⟩
 ·have e1 : (op == 4) = false := by simpa using h1
  have HQ : Hid (¬ op = 4) := h1
  by_cases h2 : op = 5
  ·have e2 : (op == 5) = true := by simpa using h2
   have HQ2 : Hid (op = 5) := h2
   clear h1 h2
   go_enter Tryz.func157, Tryz.ntmps157
   go_wp2
   go_ret
   exact ⟨ret_bool (by rw [← HE.out, decide_eq_true (.inr HQ2.out)]), rfl⟩
  ·have e2 : (op == 5) = false := by simpa using h2
   have HQ2 : Hid (¬ op = 5) := h2
   clear h1 h2
   go_enter Tryz.func157, Tryz.ntmps157
   go_wp2
   go_ret
   exact ⟨ret_bool (by rw [← HE.out, decide_eq_false (fun h => h.elim HQ.out HQ2.out)]), rfl⟩
set_option maxHeartbeats 400000 in
theorem minus_any (a : Nat) (ha : a ≤ 4294967295) (w : World) : Calls Tryz.prog 133 #[.int .u32 (a : Int)] w fun e w' => e = .returned (.int .u32 (minusG a : Int)) ∧ w = w' := by
 have h : (-(a : Int)) % 4294967296 = (minusG a : Int) := by unfold minusG; omega
 obtain ⟨E, hE⟩ : ∃ E, minusG a = E := ⟨_, rfl⟩
 rw [hE] at h ⊢
 clear hE
 go_enter Tryz.func133, Tryz.ntmps133
 go_wp2
 go_ret
 exact ⟨ret_int h, rfl⟩
theorem ret_ar {x y : Int} (h : x = y) : Ending.returned (.tuple #[.int .u32 x, .bool true]) = .returned (.tuple #[.int .u32 y, .bool true]) := by rw [h]
theorem shift_true {a b : Nat} : (a : Int) * 2 ^ min b 32 % 4294967296 = (shiftV a b true : Int) := by
 unfold shiftV
 by_cases h : 31 < b
 ·rw [if_pos h, show min b 32 = 32 by omega]
  omega
 ·rw [if_neg h, if_pos rfl, show min b 32 = b by omega]
  simp
theorem shift_false {a b : Nat} (ha : a ≤ 4294967295) : (a : Int) / 2 ^ min b 32 = (shiftV a b false : Int) := by
 unfold shiftV
 by_cases h : 31 < b
 ·rw [if_pos h, show min b 32 = 32 by omega]
  omega
 ·rw [if_neg h, if_neg (by decide), show min b 32 = b by omega]
  simp
set_option maxHeartbeats 2000000 in
theorem arith_any (op : Int) (a b : Nat) (ha : a ≤ 4294967295) (hb : b ≤ 4294967295) (ho : 1 ≤ op ∧ op ≤ 10) (hz : divG op = true → b ≠ 0) (w : World) :
  Calls Tryz.prog 132 #[.int .i64 op, .int .u32 (a : Int), .int .u32 (b : Int)] w fun e w' => e = .returned (.tuple #[.int .u32 (arithG op a b : Int), .bool true]) ∧ w = w' := by
 have e1 := u32_or_nat a b (by omega) (by omega)
 have e2 := u32_and_nat a b (by omega) (by omega)
 have e3 := u32_xor_nat a b (by omega) (by omega)
 have C0 := divides_any op w
 have : op = 1 ∨ op = 2 ∨ op = 3 ∨ op = 6 ∨ op = 7 ∨ op = 8 ∨ op = 9 ∨ op = 10 ∨ op = 4 ∨ op = 5 := by omega
 have HB : Hid (b ≤ 4294967295) := hb
 have HA : Hid (a ≤ 4294967295) := ha
 clear ho ha hb
 rcases this with rfl | rfl | rfl | rfl | rfl | rfl | rfl | rfl | rfl | rfl
 ·have h : ((a : Int) + (b : Int)) % 4294967296 = (arithG 1 a b : Int) := by simp [arithG]
  generalize arithG 1 a b = E at *
  clear hz e1 e2 e3
  rw [show divG 1 = false from rfl] at C0
  go_enter Tryz.func132, Tryz.ntmps132
  go_wp2_with fail
  refine C0.mono ?_
  rintro e w' ⟨rfl, rfl⟩
  go_wp2
  go_ret2
  exact ⟨ret_ar h, rfl⟩
 ·have h : ((a : Int) - (b : Int)) % 4294967296 = (arithG 2 a b : Int) := by have := HB.out; simp [arithG]; omega
  generalize arithG 2 a b = E at *
  clear hz e1 e2 e3
  rw [show divG 2 = false from rfl] at C0
  go_enter Tryz.func132, Tryz.ntmps132
  go_wp2_with fail
  refine C0.mono ?_
  rintro e w' ⟨rfl, rfl⟩
  go_wp2
  go_ret2
  exact ⟨ret_ar h, rfl⟩
 ·have h : ((a : Int) * (b : Int)) % 4294967296 = (arithG 3 a b : Int) := by simp [arithG]
  generalize arithG 3 a b = E at *
  clear hz e1 e2 e3
  rw [show divG 3 = false from rfl] at C0
  go_enter Tryz.func132, Tryz.ntmps132
  go_wp2_with fail
  refine C0.mono ?_
  rintro e w' ⟨rfl, rfl⟩
  go_wp2
  go_ret2
  exact ⟨ret_ar h, rfl⟩
 ·have h : bits .and .u32 (a : Int) (b : Int) = (arithG 6 a b : Int) := by rw [e2]; simp [arithG]
  generalize arithG 6 a b = E at *
  clear hz e1 e2 e3
  rw [show divG 6 = false from rfl] at C0
  go_enter Tryz.func132, Tryz.ntmps132
  go_wp2_with fail
  refine C0.mono ?_
  rintro e w' ⟨rfl, rfl⟩
  go_wp2
  go_ret2
  exact ⟨rfl, rfl⟩
 ·have h : bits .or .u32 (a : Int) (b : Int) = (arithG 7 a b : Int) := by rw [e1]; simp [arithG]
  generalize arithG 7 a b = E at *
  clear hz e1 e2 e3
  rw [show divG 7 = false from rfl] at C0
  go_enter Tryz.func132, Tryz.ntmps132
  go_wp2_with fail
  refine C0.mono ?_
  rintro e w' ⟨rfl, rfl⟩
  go_wp2
  go_ret2
  exact ⟨rfl, rfl⟩
 ·have h : bits .xor .u32 (a : Int) (b : Int) = (arithG 8 a b : Int) := by rw [e3]; simp [arithG]
  generalize arithG 8 a b = E at *
  clear hz e1 e2 e3
  rw [show divG 8 = false from rfl] at C0
  go_enter Tryz.func132, Tryz.ntmps132
  go_wp2_with fail
  refine C0.mono ?_
  rintro e w' ⟨rfl, rfl⟩
  go_wp2
  go_ret2
  exact ⟨rfl, rfl⟩
 ·have HV : Hid (arithG 9 a b = shiftV a b true) := rfl
  obtain ⟨E, hE⟩ : ∃ E, arithG 9 a b = E := ⟨_, rfl⟩
  rw [hE] at HV ⊢
  clear hz e1 e2 e3 hE
  rw [show divG 9 = false from rfl] at C0
  go_enter Tryz.func132, Tryz.ntmps132
  go_wp2_with fail
  refine C0.mono ?_
  rintro e w' ⟨rfl, rfl⟩
  go_wp2
  go_ret2
  exact ⟨ret_ar (by rw [HV.out]; exact shift_true), rfl⟩
 ·have HV : Hid (arithG 10 a b = shiftV a b false) := rfl
  obtain ⟨E, hE⟩ : ∃ E, arithG 10 a b = E := ⟨_, rfl⟩
  rw [hE] at HV ⊢
  clear hz e1 e2 e3 hE
  rw [show divG 10 = false from rfl] at C0
  go_enter Tryz.func132, Tryz.ntmps132
  go_wp2_with fail
  refine C0.mono ?_
  rintro e w' ⟨rfl, rfl⟩
  go_wp2
  go_ret2
  exact ⟨ret_ar (by rw [HV.out]; exact shift_false HA.out), rfl⟩
 ·have hb0 : ((b : Int) == 0) = false := by have := hz rfl; simpa using this
  have hb1 : ¬ b = 0 := hz rfl
  have h : (a : Int) / (b : Int) = (arithG 4 a b : Int) := by simp [arithG]
  have HE : Hid (arithG 4 a b ≤ 4294967295) := Nat.le_trans (Nat.div_le_self a b) HA.out
  generalize arithG 4 a b = E at *
  clear hz e1 e2 e3
  rw [show divG 4 = true from rfl] at C0
  go_enter Tryz.func132, Tryz.ntmps132
  go_wp2_with fail
  refine C0.mono ?_
  rintro e w' ⟨rfl, rfl⟩
  go_wp2
  go_ret2
  exact ⟨ret_ar (by have := HE.out; omega), rfl⟩
 ·have hb0 : ((b : Int) == 0) = false := by have := hz rfl; simpa using this
  have hb1 : ¬ b = 0 := hz rfl
  have h : (a : Int) % (b : Int) = (arithG 5 a b : Int) := by simp [arithG]
  generalize arithG 5 a b = E at *
  clear hz e1 e2 e3
  rw [show divG 5 = true from rfl] at C0
  go_enter Tryz.func132, Tryz.ntmps132
  go_wp2_with fail
  refine C0.mono ?_
  rintro e w' ⟨rfl, rfl⟩
  go_wp2
  go_ret2
  exact ⟨ret_ar h, rfl⟩
def valR (x : Ng) (ps : List Pt) : Value := match valG x ps with
 | some v => .tuple #[.int .u32 (v : Int), .bool true]
 | none => .tuple #[.int .u32 0, .bool false]
set_option maxHeartbeats 400000 in
theorem itself_any (x : Ng) (ps : List Pt) (v : Value) (w : World) (hk : x.kind = 1) : Calls Tryz.prog 77 #[.agg x.cells.toArray, v] w fun e w' => e = .returned (valR x ps) ∧ w.grownBy w' none := by
 have e0 : valR x ps = .tuple #[.int .u32 (x.n : Int), .bool true] := by rw [valR, valG, if_pos hk]
 rw [e0]
 clear hk e0
 have HBX := box_ng x
 have h1 := NB.alloc w x
 have h3 := World.grownBy_alloc w (.cells x.cells.toArray 52) none
 have c2 := h1.n
 obtain ⟨X, hX⟩ : ∃ X, x.cells.toArray = X := ⟨_, rfl⟩
 rw [hX] at HBX ⊢
 go_enter Tryz.func77, Tryz.ntmps77
 go_upto_region 1 with fail
 rw [← hX] at *
 generalize w.alloc (.cells x.cells.toArray 52) = w1 at *
 generalize w.heap.size = B at *
 clear HBX hX X
 go_wp2
 go_ret2
 exact ⟨rfl, h3⟩
set_option maxHeartbeats 400000 in
theorem unknown_any (x : Ng) (ps : List Pt) (v : Value) (w : World) (hk : x.kind ≠ 1 ∧ x.kind ≠ 4 ∧ x.kind ≠ 5) : Calls Tryz.prog 79 #[.agg x.cells.toArray, v] w fun e w' => e = .returned (valR x ps) ∧ w.grownBy w' none := by
 have e0 : valR x ps = .tuple #[.int .u32 0, .bool false] := by rw [valR, valG, if_neg hk.1, if_neg hk.2.1, if_neg hk.2.2]
 rw [e0]
 clear hk e0
 have HBX := box_ng x
 have h3 := World.grownBy_alloc w (.cells x.cells.toArray 52) none
 obtain ⟨X, hX⟩ : ∃ X, x.cells.toArray = X := ⟨_, rfl⟩
 rw [hX] at HBX ⊢
 go_enter Tryz.func79, Tryz.ntmps79
 go_upto_region 1 with fail
 rw [← hX] at *
 generalize w.alloc (.cells x.cells.toArray 52) = w1 at *
 generalize w.heap.size = B at *
 clear HBX hX X
 go_wp2
 go_ret2
 exact ⟨rfl, h3⟩
set_option maxHeartbeats 400000 in
theorem negated_any (x : Ng) (p : Pt) (ao : Option Addr) (cap : Nat) (w : World) (C : CV w ao (flat3 ptC [p])) (hp : p.val ≤ 4294967295) (hk : x.kind = 5) : Calls Tryz.prog 86 #[.agg x.cells.toArray, .slice ao 1 cap] w fun e w' => e = .returned (valR x [p]) ∧ w.grownBy w' none := by
 have e0 : valR x [p] = .tuple #[.int .u32 (minusG p.val : Int), .bool true] := by rw [valR, valG, if_neg (by omega), if_neg (by omega), if_pos hk]; rfl
 rw [e0]
 clear hk e0
 have HBX := box_ng x
 have h3 := World.grownBy_alloc w (.cells x.cells.toArray 52) none
 obtain ⟨b, o, rfl, hc⟩ := (C.keptNone h3).pts ptC_len (k := 0) (by simp)
 have c2 := hc 0 (by simp) 2 (.int .u32 (p.val : Int)) rfl
 simp only [Nat.zero_mul, Nat.add_zero] at c2
 clear C hc
 generalize p.val = pv at *
 obtain ⟨X, hX⟩ : ∃ X, x.cells.toArray = X := ⟨_, rfl⟩
 rw [hX] at HBX ⊢
 go_enter Tryz.func86, Tryz.ntmps86
 go_upto_region 1 with fail
 rw [← hX] at *
 generalize w.alloc (.cells x.cells.toArray 52) = w1 at *
 generalize w.heap.size = B at *
 clear HBX hX X
 go_wp2_with fail
 refine (minus_any pv hp _).mono ?_
 rintro e w' ⟨rfl, rfl⟩
 go_wp2
 go_ret2
 exact ⟨rfl, h3⟩
set_option maxHeartbeats 1000000 in
theorem reckoned_any (x : Ng) (p q : Pt) (ao : Option Addr) (cap : Nat) (w : World) (C : CV w ao (flat3 ptC [p, q])) (hp : p.val ≤ 4294967295) (hq : q.val ≤ 4294967295) (hk : x.kind = 4) (ho : 1 ≤ x.op ∧ x.op ≤ 10) (hz : divG x.op = true → q.val ≠ 0) :
  Calls Tryz.prog 85 #[.agg x.cells.toArray, .slice ao 2 cap] w fun e w' => e = .returned (valR x [p, q]) ∧ w.grownBy w' none := by
 have e0 : valR x [p, q] = .tuple #[.int .u32 (arithG x.op p.val q.val : Int), .bool true] := by rw [valR, valG, if_neg (by omega), if_pos hk]; rfl
 rw [e0]
 clear hk e0
 have HBX := box_ng x
 have h1 := NB.alloc w x
 have h3 := World.grownBy_alloc w (.cells x.cells.toArray 52) none
 obtain ⟨b, o, rfl, hc⟩ := (C.keptNone h3).pts ptC_len (k := 0) (by simp)
 have c2 := hc 0 (by simp) 2 (.int .u32 (p.val : Int)) rfl
 have c5 := hc 1 (by simp) 2 (.int .u32 (q.val : Int)) rfl
 have c1 := h1.op
 simp only [Nat.zero_mul, Nat.add_zero, Nat.one_mul] at c2 c5
 obtain ⟨X, hX⟩ : ∃ X, x.cells.toArray = X := ⟨_, rfl⟩
 rw [hX] at HBX ⊢
 clear C hc
 have CA : ∀ W : World, Calls Tryz.prog 132 #[.int .i64 x.op, .int .u32 (p.val : Int), .int .u32 (q.val : Int)] W fun e w' => e = .returned (.tuple #[.int .u32 (arithG x.op p.val q.val : Int), .bool true]) ∧ w' = W := fun W => (arith_any x.op p.val q.val hp hq ho hz W).mono fun e w' h => ⟨h.1, h.2.symm⟩
 generalize arithG x.op p.val q.val = E at *
 generalize p.val = pv at *
 generalize q.val = qv at *
 clear hp hq ho hz
 go_enter Tryz.func85, Tryz.ntmps85
 go_upto_region 1 with fail
 rw [← hX] at *
 generalize w.alloc (.cells x.cells.toArray 52) = w1 at *
 generalize w.heap.size = B at *
 clear HBX hX X h1
 generalize x.op = op at *
 go_quiet ((go_at_call 132; exact Calls.quiet_of_same (CA _)))
 go_wp2
 go_ret2
 exact ⟨rfl, grown_trans h3 (grown_drewN _ _ none)⟩
def pmC (p : Pm) : Array Value := #[.int .i64 p.how, .int .u32 (p.val : Int)]
abbrev pmA (p : Pm) : Value := .agg (pmC p)
set_option maxHeartbeats 400000 in
theorem mknown_any (v : Nat) (w : World) : Calls Tryz.prog 114 #[.int .u32 (v : Int)] w fun e w' => e = .returned (pmA ⟨1, v⟩) ∧ w.grownBy w' none := by
 have h3 := World.grownBy_alloc w (.cells (pmC ⟨1, v⟩) 55) none
 go_enter Tryz.func114, Tryz.ntmps114
 go_wp2
 go_returns
 exact ⟨rfl, h3⟩
theorem judged_any (b : Bool) (w : World) : Calls Tryz.prog 146 #[.bool b] w fun e w' => e = .returned (.int .i64 (jdg b)) ∧ w = w' := by
 cases b
 ·go_enter Tryz.func146, Tryz.ntmps146
  go_wp2
  go_ret
  exact ⟨rfl, rfl⟩
 ·go_enter Tryz.func146, Tryz.ntmps146
  go_wp2
  go_ret
  exact ⟨rfl, rfl⟩
theorem both_any (a b : Int) (w : World) : Calls Tryz.prog 120 #[.int .i64 a, .int .i64 b] w fun e w' => e = .returned (.int .i64 (andM a b)) ∧ w = w' := by
 by_cases h : a = 1
 ·have e1 : (a != 1) = false := by simpa using h
  have e2 : andM a b = b := by simp [andM, h]
  rw [e2]
  clear h e2
  go_enter Tryz.func120, Tryz.ntmps120
  go_wp2
  go_ret
  exact ⟨rfl, rfl⟩
 ·have e1 : (a != 1) = true := by simpa using h
  have e2 : andM a b = a := by simp [andM, h]
  rw [e2]
  clear h e2
  go_enter Tryz.func120, Tryz.ntmps120
  go_wp2
  go_ret
  exact ⟨rfl, rfl⟩
theorem either_any (a b : Int) (w : World) : Calls Tryz.prog 121 #[.int .i64 a, .int .i64 b] w fun e w' => e = .returned (.int .i64 (orM a b)) ∧ w = w' := by
 by_cases h : a = 0
 ·have e1 : (a != 0) = false := by simpa using h
  have e2 : orM a b = b := by simp [orM, h]
  rw [e2]
  clear h e2
  go_enter Tryz.func121, Tryz.ntmps121
  go_wp2
  go_ret
  exact ⟨rfl, rfl⟩
 ·have e1 : (a != 0) = true := by simpa using h
  have e2 : orM a b = a := by simp [orM, h]
  rw [e2]
  clear h e2
  go_enter Tryz.func121, Tryz.ntmps121
  go_wp2
  go_ret
  exact ⟨rfl, rfl⟩
theorem other_any (a : Int) (w : World) : Calls Tryz.prog 122 #[.int .i64 a] w fun e w' => e = .returned (.int .i64 (notM a)) ∧ w = w' := by
 by_cases h : a = 1
 ·subst h
  go_enter Tryz.func122, Tryz.ntmps122
  go_wp2
  go_ret
  exact ⟨rfl, rfl⟩
 ·by_cases h0 : a = 0
  ·subst h0
   go_enter Tryz.func122, Tryz.ntmps122
   go_wp2
   go_ret
   exact ⟨rfl, rfl⟩
  ·have e1 : (a == 1) = false := by simpa using h
   have e3 : (a == 0) = false := by simpa using h0
   have e2 : notM a = a := by simp [notM, h, h0]
   rw [e2]
   clear h h0 e2
   go_enter Tryz.func122, Tryz.ntmps122
   go_wp2
   go_ret
   exact ⟨rfl, rfl⟩
theorem sided_any (s a b : Int) (w : World) : Calls Tryz.prog 160 #[.int .i64 s, .int .i64 a, .int .i64 b] w fun e w' => e = .returned (.int .i64 (sidedM s a b)) ∧ w = w' := by
 by_cases h : s = 1
 ·subst h
  go_enter Tryz.func160, Tryz.ntmps160
  go_wp2
  go_ret
  exact ⟨rfl, rfl⟩
 ·by_cases h0 : s = 2
  ·subst h0
   go_enter Tryz.func160, Tryz.ntmps160
   go_wp2
   go_ret
   exact ⟨rfl, rfl⟩
  ·have e1 : (s == 1) = false := by simpa using h
   have e3 : (s == 2) = false := by simpa using h0
   have e2 : sidedM s a b = orM a b := by simp [sidedM, h, h0]
   rw [e2]
   clear h h0 e2
   go_enter Tryz.func160, Tryz.ntmps160
   go_wp2_with fail
   refine (either_any a b _).mono ?_
   rintro e w' ⟨rfl, rfl⟩
   go_wp2
   go_ret
   exact ⟨rfl, rfl⟩
theorem wayOf_any (s : Int) (w : World) : Calls Tryz.prog 148 #[.int .i64 s] w fun e w' => e = .returned (.int .i64 (wayM s)) ∧ w = w' := by
 by_cases h : s = 1
 ·subst h
  go_enter Tryz.func148, Tryz.ntmps148
  go_wp2
  go_ret
  exact ⟨rfl, rfl⟩
 ·have e1 : (s == 1) = false := by simpa using h
  have e2 : wayM s = 1 := by simp [wayM, h]
  rw [e2]
  clear h e2
  go_enter Tryz.func148, Tryz.ntmps148
  go_wp2
  go_ret
  exact ⟨rfl, rfl⟩
def endsA (of : Int) : Array Value := #[.int .i64 (srcM of : Int), .int .i64 (dstM of : Int), .int .i64 (longM of : Int)]
set_option maxHeartbeats 400000 in
theorem endsOf_any (of : Int) (w : World) : Calls Tryz.prog 150 #[.int .i64 of] w fun e w' => e = .returned (.agg (endsA of)) ∧ w.grownBy w' none := by
 have h3 := World.grownBy_alloc w (.cells (endsA of) 172) none
 by_cases h : of = 2
 ·subst h
  go_enter Tryz.func150, Tryz.ntmps150
  go_wp2
  go_returns
  exact ⟨rfl, h3⟩
 ·have e1 : (of == 2) = false := by simpa using h
  have e2 : endsA of = #[.int .i64 8, .int .i64 24, .int .i64 16] := by simp [endsA, srcM, dstM, longM, h]
  rw [e2] at h3 ⊢
  clear h e2
  go_enter Tryz.func150, Tryz.ntmps150
  go_wp2
  go_returns
  exact ⟨rfl, h3⟩
set_option maxHeartbeats 1000000 in
theorem compare_any (op : Int) (a b : Nat) (w : World) : Calls Tryz.prog 147 #[.int .i64 op, .int .u32 (a : Int), .int .u32 (b : Int)] w fun e w' => e = .returned (.bool (cmpM op a b)) ∧ w = w' := by
 have q1 : ((a : Int) == (b : Int)) = decide (a = b) := by rw [Bool.eq_iff_iff]; simp; omega
 have q2 : ((a : Int) != (b : Int)) = decide (a ≠ b) := by rw [Bool.eq_iff_iff]; simp; omega
 have : op = 1 ∨ op = 2 ∨ op = 3 ∨ op = 4 ∨ op = 5 ∨ (op ≠ 1 ∧ op ≠ 2 ∧ op ≠ 3 ∧ op ≠ 4 ∧ op ≠ 5) := by omega
 rcases this with rfl | rfl | rfl | rfl | rfl | ⟨h1, h2, h3, h4, h5⟩
 ·go_enter Tryz.func147, Tryz.ntmps147
  go_wp2
  go_ret
  exact ⟨ret_bool (by simp [cmpM]), rfl⟩
 ·go_enter Tryz.func147, Tryz.ntmps147
  go_wp2
  go_ret
  exact ⟨ret_bool (by simp [cmpM]), rfl⟩
 ·go_enter Tryz.func147, Tryz.ntmps147
  go_wp2
  go_ret
  exact ⟨ret_bool (by simp [cmpM]), rfl⟩
 ·go_enter Tryz.func147, Tryz.ntmps147
  go_wp2
  go_ret
  exact ⟨ret_bool (by simp [cmpM]), rfl⟩
 ·go_enter Tryz.func147, Tryz.ntmps147
  go_wp2
  go_ret
  exact ⟨ret_bool (by simp [cmpM]), rfl⟩
 ·have e1 : (op == 1) = false := by simpa using h1
  have e2 : (op == 2) = false := by simpa using h2
  have e3 : (op == 3) = false := by simpa using h3
  have e4 : (op == 4) = false := by simpa using h4
  have e5 : (op == 5) = false := by simpa using h5
  have e6 : cmpM op a b = decide (b ≤ a) := by simp [cmpM, h1, h2, h3, h4, h5]
  rw [e6]
  clear h1 h2 h3 h4 h5 e6
  go_enter Tryz.func147, Tryz.ntmps147
  go_wp2
  go_ret
  exact ⟨ret_bool (by simp), rfl⟩
theorem top_eq {n : Nat} (h0 : n ≠ 0) (h8 : n < 8) (x y : UInt8) : topB n x = topB n y ↔ x.toNat / 2 ^ (8 - n) = y.toNat / 2 ^ (8 - n) := by
 have hx := x.toNat_lt
 have hy := y.toNat_lt
 unfold topB
 rw [if_neg h0, if_pos h8, if_neg h0, if_pos h8]
 have hp : 0 < 2 ^ (8 - n) := Nat.pow_pos (by omega)
 constructor
 ·intro h
  have := congrArg UInt8.toNat h
  rw [UInt8.toNat_ofNat', UInt8.toNat_ofNat'] at this
  have hx2 := Nat.div_mul_le_self x.toNat (2 ^ (8 - n))
  have hy2 := Nat.div_mul_le_self y.toNat (2 ^ (8 - n))
  rw [Nat.mod_eq_of_lt (by omega), Nat.mod_eq_of_lt (by omega)] at this
  exact Nat.eq_of_mul_eq_mul_right hp this
 ·intro h
  rw [h]
theorem top_0 (x y : UInt8) : topB 0 x = topB 0 y := by simp [topB]
theorem mask_0 : ∀ (xs ys : List UInt8), xs.length = ys.length → maskV 0 xs = maskV 0 ys
 | [], [], _ => rfl
 | x :: xs, y :: ys, h => by
  simp only [maskV, Nat.zero_sub]
  rw [mask_0 xs ys (by simpa using h), top_0 x y]
theorem mask_alike : ∀ (xs ys : List UInt8) (n : Nat), xs.length = ys.length → (maskV n xs = maskV n ys ↔ xs.take (n / 8) = ys.take (n / 8) ∧ (n % 8 = 0 ∨ (xs.getD (n / 8) 0).toNat / 2 ^ (8 - n % 8) = (ys.getD (n / 8) 0).toNat / 2 ^ (8 - n % 8)))
 | [], [], n, _ => by simp
 | x :: xs, y :: ys, n, h => by
  have hl : xs.length = ys.length := by simpa using h
  simp only [maskV, List.cons.injEq]
  by_cases h8 : 8 ≤ n
  ·have e1 : n / 8 = (n - 8) / 8 + 1 := by omega
   have e2 : n % 8 = (n - 8) % 8 := by omega
   have t : ∀ z : UInt8, topB n z = z := fun z => by unfold topB; rw [if_neg (by omega), if_neg (by omega)]
   rw [t, t, e1, e2, mask_alike xs ys (n - 8) hl]
   simp only [List.take_succ_cons, List.cons.injEq, List.getD_cons_succ]
   constructor
   ·rintro ⟨a, b, c⟩; exact ⟨⟨a, b⟩, c⟩
   ·rintro ⟨⟨a, b⟩, c⟩; exact ⟨a, b, c⟩
  ·have e1 : n / 8 = 0 := by omega
   have e2 : n % 8 = n := by omega
   have e3 : n - 8 = 0 := by omega
   rw [e1, e2, e3]
   simp only [List.take_zero, List.getD_cons_zero, true_and, mask_0 xs ys hl, and_true]
   by_cases h0 : n = 0
   ·subst h0; simp [topB]
   ·rw [top_eq h0 (by omega)]
    constructor
    ·intro k; exact .inr k
    ·rintro (k | k)
     ·exact absurd k h0
     ·exact k
theorem xor_shift (a b k : Nat) : (a ^^^ b) / 2 ^ k = 0 ↔ a / 2 ^ k = b / 2 ^ k := by
 rw [← Nat.shiftRight_eq_div_pow, ← Nat.shiftRight_eq_div_pow, ← Nat.shiftRight_eq_div_pow, Nat.shiftRight_xor_distrib]
 constructor
 ·intro h
  have := congrArg (· ^^^ (b >>> k)) h
  simpa [Nat.xor_assoc] using this
 ·intro h
  rw [h, Nat.xor_self]
theorem mask_all : ∀ (xs : List UInt8) (n : Nat), 8 * xs.length ≤ n → maskV n xs = xs
 | [], n, _ => rfl
 | x :: xs, n, h => by
  simp only [List.length_cons] at h
  simp only [maskV]
  rw [mask_all xs (n - 8) (by omega)]
  unfold topB
  rw [if_neg (by omega), if_neg (by omega)]
set_option maxHeartbeats 400000 in
theorem holds_any (a : Option Addr) (ca n : Nat) (p s : Int) (w : World) (hn : n ≤ 140737488355328) :
  Calls Tryz.prog 141 #[.slice a n ca, .int .i64 p, .int .i64 s] w fun e w' => e = .returned (.bool (okB n p s)) ∧ w = w' := by
 by_cases h : s = 1 ∨ s = 2 ∨ s = 4
 ·rcases h with rfl | rfl | rfl
  all_goals
   go_enter Tryz.func141, Tryz.ntmps141
   go_wp2
   ·go_ret
    exact ⟨ret_bool (okB_of (by omega)), rfl⟩
   ·go_ret
    exact ⟨ret_bool (okB_no (by omega)), rfl⟩
 ·have h1 : (s != 1) = true := by rw [bne_iff_ne]; omega
  have h2 : (s != 2) = true := by rw [bne_iff_ne]; omega
  have h3 : (s != 4) = true := by rw [bne_iff_ne]; omega
  go_enter Tryz.func141, Tryz.ntmps141
  go_wp2
  go_ret
  exact ⟨ret_bool (okB_no (by omega)), rfl⟩
set_option maxHeartbeats 400000 in
theorem get_any (a : Option Addr) (ca : Nat) (xs : List UInt8) (p s : Int) (w : World) (ha : Cells w a xs) (hn : xs.length ≤ 140737488355328) :
  Calls Tryz.prog 108 #[.slice a xs.length ca, .int .i64 p, .int .i64 s] w fun e w' => e = .returned (.tuple #[.int .u32 (getV xs p s), .bool (okB xs.length p s)]) ∧ w = w' := by
 cases hok : okB xs.length p s with
 | false =>
  go_enter Tryz.func108, Tryz.ntmps108
  go_wp2_with (go_at_call 141; refine (holds_any a ca xs.length p s _ hn).mono ?_; rintro e w' ⟨rfl, rfl⟩)
  go_ret2
  simp [getV, hok]
 | true =>
  have hy := okB_yes hok
  obtain ⟨P, rfl⟩ := Int.eq_ofNat_of_zero_le hy.2.1
  obtain ⟨S, rfl⟩ : ∃ S : Nat, s = S := ⟨s.toNat, by omega⟩
  have hS : S = 1 ∨ S = 2 ∨ S = 4 := by omega
  have hP : P + S ≤ xs.length := by omega
  clear hy
  go_enter Tryz.func108, Tryz.ntmps108
  go_wp2_with (go_at_call 141; refine (holds_any a ca xs.length P S _ hn).mono ?_; rintro e w' ⟨rfl, rfl⟩)
  go_loop [8, 16, 9] (fun v i _ => ∃ k : Nat, k ≤ S ∧ i = .int .i64 k ∧ v = .int .u32 (numAt xs P k)) (fun _ i _ => S - (intOf i).toNat)
  case atStart => exact ⟨0, Nat.zero_le _, rfl, rfl⟩
  case round =>
   obtain ⟨k, hk, rfl, rfl⟩ := hrel
   by_cases hlt : k < S
   ·obtain ⟨b, o, rfl, h1⟩ := ha.addr (k := P + k) (by omega)
    have c1 := h1 (P + k) (by omega)
    clear ha h1
    go_wp2
    go_round
    case rel => exact ⟨k + 1, by omega, by go_num, numAt_step xs P k (by omega) (by omega)⟩
    case measure => simp [intOf]; omega
   ·obtain rfl : k = S := by omega
    go_wp2
    go_ret2
    simp [getV, hok]
def clampB (l : Int) : Nat := min l.toNat 8
def topM (k : Nat) : Nat := 255 - 255 / 2 ^ k
theorem and_top : ∀ (x : Fin 256) (k : Fin 9), bits .and .u8 ((x.val : Nat) : Int) ((topM k.val : Nat) : Int) = (((topB k.val (UInt8.ofNat x.val)).toNat : Nat) : Int) := by decide +kernel
set_option maxHeartbeats 1000000 in
theorem mask_any (l : Int) (w : World) :
  Calls Tryz.prog 158 #[.int .i64 l] w fun e w' => e = .returned (.int .u8 ((topM (clampB l) : Nat) : Int)) ∧ w = w' := by
 by_cases h0 : l ≤ 0
 ·have e : clampB l = 0 := by unfold clampB; omega
  rw [e]
  have h1 : ¬ l > 0 := by omega
  have h2 : (if (0 : Int) > l then (0 : Int) else l) = 0 := by split <;> omega
  go_enter Tryz.func158, Tryz.ntmps158
  go_wp2
  go_ret
  exact ⟨rfl, rfl⟩
 ·by_cases h8 : 8 ≤ l
  ·have e : clampB l = 8 := by unfold clampB; omega
   rw [e]
   have h2 : (if (0 : Int) > l then (0 : Int) else l) = l := by split <;> omega
   have h3 : (if (8 : Int) < l then (8 : Int) else l) = 8 := by split <;> omega
   go_enter Tryz.func158, Tryz.ntmps158
   go_wp2
   go_ret
   exact ⟨rfl, rfl⟩
  ·have : l = 1 ∨ l = 2 ∨ l = 3 ∨ l = 4 ∨ l = 5 ∨ l = 6 ∨ l = 7 := by omega
   clear h0 h8
   rcases this with rfl | rfl | rfl | rfl | rfl | rfl | rfl
   all_goals
    go_enter Tryz.func158, Tryz.ntmps158
    go_wp2
    go_ret
    exact ⟨rfl, rfl⟩
theorem top_not (k : Nat) (x : UInt8) (h : 8 ≤ k) : topB k x = topB 8 x := by
 unfold topB
 rw [if_neg (by omega), if_neg (by omega), if_neg (by omega), if_neg (by omega)]
theorem top_clamp (n j : Nat) (x : UInt8) : topB (clampB ((n : Int) - 8 * (j : Int))) x = topB (n - 8 * j) x := by
 have e : ((n : Int) - 8 * (j : Int)).toNat = n - 8 * j := by omega
 unfold clampB
 rw [e]
 by_cases h : 8 ≤ n - 8 * j
 ·rw [show min (n - 8 * j) 8 = 8 by omega, ← top_not _ x h]
 ·rw [show min (n - 8 * j) 8 = n - 8 * j by omega]
def netTo (n : Nat) (xs : List UInt8) (j : Nat) : List UInt8 := (maskV n xs).take j ++ List.replicate (xs.length - j) 0
theorem netTo_next (n : Nat) (xs : List UInt8) (j : Nat) (h : j < xs.length) : netTo n xs (j + 1) = (netTo n xs j).set j (topB (n - 8 * j) xs[j]) := by
 have hl : (List.take j (maskV n xs)).length = j := by rw [List.length_take, mask_len]; omega
 unfold netTo
 rw [List.set_append_right _ _ (by omega), hl, Nat.sub_self, List.take_succ_eq_append_getElem (by rw [mask_len]; exact h), mask_get n xs j h, show xs.length - j = (xs.length - (j + 1)) + 1 by omega, List.replicate_succ, List.set_cons_zero]
 simp
set_option maxRecDepth 100000 in
set_option maxHeartbeats 2000000 in
theorem net_any (a : Option Addr) (ca : Nat) (xs : List UInt8) (bits : Int) (w : World) (ha : Cells w a xs) (hc0 : a = none → ca = 0) (hx : xs.length ≤ 140737488355328) :
  Calls Tryz.prog 137 #[.slice a xs.length ca, .int .i64 bits] w fun e w' => ∃ v, e = .returned (.tuple #[v, .int .i64 (netE xs.length bits)]) ∧ Owns w' w.heap.size v (netV xs bits) ∧ w.grownBy w' none := by
 obtain ⟨i0, hi, hz0, hz1, hz2⟩ := info_parts info5
 by_cases h4 : xs.length ≠ 4 ∧ xs.length ≠ 16
 ·have e : netE xs.length bits = 60 := by rw [netE, if_pos h4]
  have e2 : netV xs bits = [] := by rw [netV, if_neg (by rw [e]; decide)]
  rw [e, e2]
  have b1 : ((xs.length : Int) != 4) = true := by rw [bne_iff_ne]; omega
  have b2 : ((xs.length : Int) != 16) = true := by rw [bne_iff_ne]; omega
  clear ha e e2
  go_enter Tryz.func137, Tryz.ntmps137
  go_wp2
  go_ret2
  exact ⟨_, rfl, World.ownsRow_nil _ _ _ _, World.grownBy.refl _ _⟩
 ·have hlen : xs.length = 4 ∨ xs.length = 16 := by omega
  have hb : ((xs.length : Int) != 4) = false ∨ (((xs.length : Int) != 4) = true ∧ ((xs.length : Int) != 16) = false) := by
   rcases hlen with h | h
   ·left; rw [h]; rfl
   ·right; rw [h]; exact ⟨rfl, rfl⟩
  have hl16 : xs.length ≤ 16 := by omega
  by_cases hbad : bits < 0 ∨ 8 * (xs.length : Int) < bits
  ·have e : netE xs.length bits = 61 := by rw [netE, if_neg h4, if_pos hbad]
   have e2 : netV xs bits = [] := by rw [netV, if_neg (by rw [e]; decide)]
   rw [e, e2]
   have hbb : bits < 0 ∨ (¬ bits < 0 ∧ 8 * (xs.length : Int) < bits) := by omega
   clear ha e e2 h4 hlen hbad
   rcases hb with hb | ⟨hb, hb2⟩
   all_goals
    rcases hbb with hq | ⟨hq, hq2⟩
    all_goals
     go_enter Tryz.func137, Tryz.ntmps137
     go_wp2
     go_ret2
     exact ⟨_, rfl, World.ownsRow_nil _ _ _ _, World.grownBy.refl _ _⟩
  ·have e : netE xs.length bits = 0 := by rw [netE, if_neg h4, if_neg hbad]
   have e2 : netV xs bits = maskV bits.toNat xs := by rw [netV, if_pos e]
   rw [e, e2]
   have hq : ¬ bits < 0 := by omega
   have hq2 : ¬ 8 * (xs.length : Int) < bits := by omega
   obtain ⟨n, rfl⟩ := Int.eq_ofNat_of_zero_le (show 0 ≤ bits by omega)
   rw [Int.toNat_natCast]
   have H : Hid (Cells w a xs) := ha
   have hn : n ≤ 128 := by omega
   clear ha e e2 h4 hlen hbad
   rcases hb with hb | ⟨hb, hb2⟩
   all_goals
    go_enter Tryz.func137, Tryz.ntmps137
    go_wp2_with (at_make; refine wpList_make_full _ rfl (.tmp 27) (.tmp 27) 25 rfl w.heap.size 5 i0 (.int .u8 0) 1 Tryz.underlying25 hi hz0 hz1 .i64 .i64 (xs.length : Int) (xs.length : Int) xs.length rfl rfl rfl rfl ?q1 ?q2 ?q3 ?q4)
    case q1 => omega
    case q2 => unfold maxLen; omega
    case q4 =>
     intro w2 h2 K2
     rw [toList_madeCells_one] at h2
     have R2 : w2.ownsRow w.heap.size 5 1 (.slice (some ⟨w.heap.size, 0, none⟩) xs.length xs.length) xs.length ((netTo n xs 0).map bv) := by
      have : netTo n xs 0 = List.replicate xs.length 0 := by simp [netTo]
      rw [this]
      simpa [bv] using h2
     clear h2
     obtain ⟨g, hg, hgw⟩ : ∃ g, w.heap.size = g ∧ w.heap.size ≤ g := ⟨_, rfl, Nat.le_refl _⟩
     rw [show (Value.slice (some ⟨w.heap.size, 0, none⟩) xs.length xs.length) = .slice (some ⟨g, 0, none⟩) xs.length xs.length by rw [hg]] at R2
     rw [show (Value.slice (some ⟨w.heap.size, 0, none⟩) xs.length xs.length) = .slice (some ⟨g, 0, none⟩) xs.length xs.length by rw [hg]]
     clear hg
     go_wp2
     go_loopw [31] (fun i wr => ∃ j : Nat, j ≤ xs.length ∧ i = .int .i64 j ∧ wr.ownsRow w.heap.size 5 1 (.slice (some ⟨g, 0, none⟩) xs.length xs.length) xs.length ((netTo n xs j).map bv) ∧ w.grownBy wr none) (fun i _ => xs.length - (intOf i).toNat)
     case atStart => exact ⟨0, Nat.zero_le _, rfl, R2, K2⟩
     case round =>
      clear R2 K2
      obtain ⟨j, hj, rfl, R, G⟩ := hrel
      by_cases hlt : j < xs.length
      ·have hl : (j : Int) < (xs.length : Int) := by omega
       obtain ⟨b, o, rfl, hc⟩ := H.out.addr hlt
       have hcj : wr.cell? ⟨b, o + j, none⟩ = some (.int .u8 (xs[j].toNat : Int)) := G.cell (hc j hlt) (by simp)
       have bl := (BlkN.ofRow R).1
       have hfr := bl.free j
       obtain ⟨u0, hu0⟩ := bl.cell (i := j) (by omega)
       have hy := xs[j].toNat_lt
       have HB := and_top ⟨xs[j].toNat, hy⟩ ⟨clampB ((n : Int) - 8 * (j : Int)), by unfold clampB; omega⟩
       rw [top_clamp] at HB
       simp only [UInt8.ofNat_toNat] at HB
       have R3 := (R.stored j (.int .u8 ((topB (n - 8 * j) xs[j]).toNat : Int))).1
       rw [show (((netTo n xs j).map bv).set j (.int .u8 ((topB (n - 8 * j) xs[j]).toNat : Int))) = (netTo n xs (j + 1)).map bv by rw [netTo_next n xs j hlt, List.map_set]; rfl] at R3
       have G3 := grown_setCell G ⟨g, j, none⟩ (.int .u8 ((topB (n - 8 * j) xs[j]).toNat : Int)) (.inr hgw)
       generalize (topB (n - 8 * j) xs[j]).toNat = t at *
       generalize xs[j].toNat = y at *
       clear hc bl R G
       go_wp2_with (go_at_call 158; refine (mask_any _ _).mono ?_; rintro e w' ⟨rfl, rfl⟩)
       go_roundw
       case rel => exact ⟨j + 1, by omega, by go_num, R3, G3⟩
       case measure => simp [intOf]; omega
      ·obtain rfl : j = xs.length := by omega
       have R4 : Owns wr w.heap.size (.slice (some ⟨g, 0, none⟩) xs.length xs.length) (maskV n xs) := by
        unfold Owns
        rw [mask_len]
        have : netTo n xs xs.length = maskV n xs := by
         unfold netTo
         rw [Nat.sub_self, List.replicate_zero, List.append_nil, List.take_of_length_le (by rw [mask_len]; exact Nat.le_refl _)]
        rw [this] at R
        exact R
       go_wp2
       go_ret2
       exact ⟨_, rfl, R4, G⟩
theorem run_strC {P : Program} {w : World} {ao : Option Addr} {cap : Nat} {ys : List UInt8} (hc : Cells w ao ys) (src dst : TypeId) (hs : P.underlying src = some (.slice 5)) (he : P.underlying 5 = some (.int .u8)) (hd : P.underlying dst = some .string) :
  (convert src dst (.slice ao ys.length cap)).run P w = .ok (.string ⟨ys.toArray⟩) w := by
 cases ao with
 | none =>
  have e := hc.1 rfl
  subst e
  show (convert src dst (.slice none 0 cap)).run P w = _
  rw [run_convert_bytes_string w src dst 5 none 0 cap hs he hd]
  simp [Conv.bytesToString]
  rfl
 | some ad => exact run_convert_bytes_back w src dst 5 ad cap ys hs he hd (fun j hj => hc.2 ad rfl j hj)
set_option maxHeartbeats 1000000 in
theorem equal_any (a b : Option Addr) (ca cb : Nat) (xs ys : List UInt8) (w : World) (ha : Cells w a xs) (hb : Cells w b ys) :
  Calls Tryz.prog 138 #[.slice a xs.length ca, .slice b ys.length cb] w fun e w' => e = .returned (.bool (decide (xs = ys))) ∧ w = w' := by
 have h1 := run_strC (P := Tryz.prog) (cap := ca) ha 25 9 Tryz.underlying25 Tryz.underlying5 Tryz.underlying9
 have h2 := run_strC (P := Tryz.prog) (cap := cb) hb 25 9 Tryz.underlying25 Tryz.underlying5 Tryz.underlying9
 clear ha hb
 obtain ⟨S, hS⟩ : ∃ S : ByteArray, ⟨xs.toArray⟩ = S := ⟨_, rfl⟩
 obtain ⟨T, hT⟩ : ∃ T : ByteArray, ⟨ys.toArray⟩ = T := ⟨_, rfl⟩
 have e : decide (xs = ys) = (S.toList == T.toList) := by
  rw [← hS, ← hT, ByteArray.toList_eq, ByteArray.toList_eq]
  show decide (xs = ys) = (xs == ys)
  by_cases h : xs = ys
  ·subst h; simp
  ·rw [decide_eq_false h, Eq.comm, beq_eq_false_iff_ne]; exact h
 rw [e]
 rw [hS] at h1
 rw [hT] at h2
 clear hS hT e
 go_enter Tryz.func138, Tryz.ntmps138
 go_wp2
 go_ret
 exact ⟨rfl, rfl⟩

end Go.Proofs.YtcodofamdhcfiaaGreat
