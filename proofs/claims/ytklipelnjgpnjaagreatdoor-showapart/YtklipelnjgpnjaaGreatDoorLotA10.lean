import Derived.Test.YtklipelnjgpnjaaGreatDoorAb
import Derived.Test.YtklipelnjgpnjaaGreatDoorLotA9
import Derived.Deep.RegionHeld3
import Derived.Test.YtklipelnjgpnjaaGreatDoorLotA8
import Derived.Test.YtklipelnjgpnjaaGreatDoorLotA1
import Derived.Laws.CopyOwn
namespace Go.Proofs.YtklipelnjgpnjaaGreatDoor
open Go.RowKit
set_option maxRecDepth 100000
def ptC (p : Pt) : List Value := [.int .i64 (if p.truth = true then 0 else 1), .bool p.fixed, .int .u32 (p.val : Int)]
def pqC (p : Pt) : List Value := [.bool p.truth, .bool p.fixed, .int .u32 (p.val : Int)]
def flat3 (c : Pt → List Value) (ps : List Pt) : List Value := ps.flatMap c
theorem flat3_nil (c : Pt → List Value) : flat3 c [] = [] := rfl
theorem flat3_cons (c : Pt → List Value) (p : Pt) (ps : List Pt) : flat3 c (p :: ps) = c p ++ flat3 c ps := rfl
theorem flat3_append (c : Pt → List Value) (xs ys : List Pt) : flat3 c (xs ++ ys) = flat3 c xs ++ flat3 c ys := by simp only [flat3, List.flatMap_append]
theorem flat3_one (c : Pt → List Value) (p : Pt) : flat3 c [p] = c p := by rw [flat3_cons, flat3_nil, List.append_nil]
theorem flat3_len {c : Pt → List Value} (hc : ∀ p, (c p).length = 3) (xs : List Pt) : (flat3 c xs).length = xs.length * 3 := by
 induction xs with
 | nil => rfl
 | cons x xs ih => rw [flat3_cons, List.length_append, ih, List.length_cons, hc]; omega
theorem flat3_get {c : Pt → List Value} (hc : ∀ p, (c p).length = 3) (xs : List Pt) (i j : Nat) (hi : i < xs.length) (hj : j < 3) : (flat3 c xs)[i * 3 + j]? = (c xs[i])[j]? := by
 induction xs generalizing i with
 | nil => simp at hi
 | cons x xs ih =>
  rw [flat3_cons]
  have hl := hc x
  cases i with
  | zero => rw [List.getElem?_append_left (by omega)]; simp
  | succ i =>
   rw [List.getElem?_append_right (by omega), hl, show (i + 1) * 3 + j - 3 = i * 3 + j by omega, ih i (by simpa using hi)]
   simp
theorem ptC_len (p : Pt) : (ptC p).length = 3 := rfl
theorem ptC_one (p : Pt) : ∀ u ∈ ptC p, u.oneCell' = true := by
 intro u hu
 simp only [ptC, List.mem_cons, List.not_mem_nil, or_false] at hu
 rcases hu with rfl | rfl | rfl <;> rfl
theorem CV.pts {c : Pt → List Value} (hc : ∀ p, (c p).length = 3) {w : World} {ao : Option Addr} {xs : List Pt} (h : CV w ao (flat3 c xs)) {k : Nat} (hk : k < xs.length) :
  ∃ b off, ao = some ⟨b, off, none⟩ ∧ ∀ i (hi : i < xs.length), w.rangeAt b (off + i * 3) (c xs[i]) := by
 have hl := flat3_len hc xs
 obtain ⟨b, off, hao, hcc⟩ := h.addr (k := k * 3) (by omega)
 refine ⟨b, off, hao, fun i hi j v hv => ?_⟩
 have hj : j < 3 := by have := (List.getElem?_eq_some_iff.1 hv).1; rw [hc] at this; exact this
 rw [← flat3_get hc xs i j hi hj] at hv
 rw [Nat.add_assoc, hcc (i * 3 + j) (by omega), ← hv, List.getElem?_eq_getElem (by omega)]
set_option maxHeartbeats 400000 in
theorem divides_any (op : Int) (w : World) : Calls Tryz.prog 143 #[.int .i64 op] w fun e w' => e = .returned (.bool (divG op)) ∧ w = w' := by
 unfold divG
 obtain ⟨E, hE⟩ : ∃ E : Bool, decide (op = 4 ∨ op = 5) = E := ⟨_, rfl⟩
 rw [hE]
 have HE : Hid (decide (op = 4 ∨ op = 5) = E) := hE
 clear hE
 by_cases h1 : op = 4
 ·have e1 : (op == 4) = true := by simpa using h1
  have HQ : Hid (op = 4) := h1
  clear h1
  go_enter Tryz.func143, Tryz.ntmps143
  go_wp2
  go_ret
  exact ⟨ret_bool (by rw [← HE.out, decide_eq_true (.inl HQ.out)]), rfl⟩
 ·have e1 : (op == 4) = false := by simpa using h1
  have HQ : Hid (¬ op = 4) := h1
  by_cases h2 : op = 5
  ·have e2 : (op == 5) = true := by simpa using h2
   have HQ2 : Hid (op = 5) := h2
   clear h1 h2
   go_enter Tryz.func143, Tryz.ntmps143
   go_wp2
   go_ret
   exact ⟨ret_bool (by rw [← HE.out, decide_eq_true (.inr HQ2.out)]), rfl⟩
  ·have e2 : (op == 5) = false := by simpa using h2
   have HQ2 : Hid (¬ op = 5) := h2
   clear h1 h2
   go_enter Tryz.func143, Tryz.ntmps143
   go_wp2
   go_ret
   exact ⟨ret_bool (by rw [← HE.out, decide_eq_false (fun h => h.elim HQ.out HQ2.out)]), rfl⟩
set_option maxHeartbeats 400000 in
theorem minus_any (a : Nat) (ha : a ≤ 4294967295) (w : World) : Calls Tryz.prog 110 #[.int .u32 (a : Int)] w fun e w' => e = .returned (.int .u32 (minusG a : Int)) ∧ w = w' := by
 have h : (-(a : Int)) % 4294967296 = (minusG a : Int) := by unfold minusG; omega
 obtain ⟨E, hE⟩ : ∃ E, minusG a = E := ⟨_, rfl⟩
 rw [hE] at h ⊢
 clear hE
 go_enter Tryz.func110, Tryz.ntmps110
 go_wp2
 go_ret
 exact ⟨ret_int h, rfl⟩
theorem ret_ar {x y : Int} (h : x = y) : Ending.returned (.tuple #[.int .u32 x, .bool true]) = .returned (.tuple #[.int .u32 y, .bool true]) := by rw [h]
theorem shift_true {a b : Nat} : (a : Int) * 2 ^ min b 32 % 4294967296 = (shiftV a b true : Int) := by
 unfold shiftV
 by_cases h : 31 < b
 ·rw [if_pos h, show min b 32 = 32 by omega]
  omega
 ·rw [if_neg h, if_pos rfl, show min b 32 = b by omega]
  simp
theorem shift_false {a b : Nat} (ha : a ≤ 4294967295) : (a : Int) / 2 ^ min b 32 = (shiftV a b false : Int) := by
 unfold shiftV
 by_cases h : 31 < b
 ·rw [if_pos h, show min b 32 = 32 by omega]
  omega
 ·rw [if_neg h, if_neg (by decide), show min b 32 = b by omega]
  simp
set_option maxHeartbeats 2000000 in
theorem arith_any (op : Int) (a b : Nat) (ha : a ≤ 4294967295) (hb : b ≤ 4294967295) (ho : 1 ≤ op ∧ op ≤ 10) (hz : divG op = true → b ≠ 0) (w : World) :
  Calls Tryz.prog 109 #[.int .i64 op, .int .u32 (a : Int), .int .u32 (b : Int)] w fun e w' => e = .returned (.tuple #[.int .u32 (arithG op a b : Int), .bool true]) ∧ w = w' := by
 have e1 := u32_or_nat a b (by omega) (by omega)
 have e2 := u32_and_nat a b (by omega) (by omega)
 have e3 := u32_xor_nat a b (by omega) (by omega)
 have C0 := divides_any op w
 have : op = 1 ∨ op = 2 ∨ op = 3 ∨ op = 6 ∨ op = 7 ∨ op = 8 ∨ op = 9 ∨ op = 10 ∨ op = 4 ∨ op = 5 := by omega
 have HB : Hid (b ≤ 4294967295) := hb
 have HA : Hid (a ≤ 4294967295) := ha
 clear ho ha hb
 rcases this with rfl | rfl | rfl | rfl | rfl | rfl | rfl | rfl | rfl | rfl
 ·have h : ((a : Int) + (b : Int)) % 4294967296 = (arithG 1 a b : Int) := by simp [arithG]
  generalize arithG 1 a b = E at *
  clear hz e1 e2 e3
  rw [show divG 1 = false from rfl] at C0
  go_enter Tryz.func109, Tryz.ntmps109
  go_wp2_with fail
  refine C0.mono ?_
  rintro e w' ⟨rfl, rfl⟩
  go_wp2
  go_ret2
  exact ⟨ret_ar h, rfl⟩
 ·have h : ((a : Int) - (b : Int)) % 4294967296 = (arithG 2 a b : Int) := by have := HB.out; simp [arithG]; omega
  generalize arithG 2 a b = E at *
  clear hz e1 e2 e3
  rw [show divG 2 = false from rfl] at C0
  go_enter Tryz.func109, Tryz.ntmps109
  go_wp2_with fail
  refine C0.mono ?_
  rintro e w' ⟨rfl, rfl⟩
  go_wp2
  go_ret2
  exact ⟨ret_ar h, rfl⟩
 ·have h : ((a : Int) * (b : Int)) % 4294967296 = (arithG 3 a b : Int) := by simp [arithG]
  generalize arithG 3 a b = E at *
  clear hz e1 e2 e3
  rw [show divG 3 = false from rfl] at C0
  go_enter Tryz.func109, Tryz.ntmps109
  go_wp2_with fail
  refine C0.mono ?_
  rintro e w' ⟨rfl, rfl⟩
  go_wp2
  go_ret2
  exact ⟨ret_ar h, rfl⟩
 ·have h : bits .and .u32 (a : Int) (b : Int) = (arithG 6 a b : Int) := by rw [e2]; simp [arithG]
  generalize arithG 6 a b = E at *
  clear hz e1 e2 e3
  rw [show divG 6 = false from rfl] at C0
  go_enter Tryz.func109, Tryz.ntmps109
  go_wp2_with fail
  refine C0.mono ?_
  rintro e w' ⟨rfl, rfl⟩
  go_wp2
  go_ret2
  exact ⟨rfl, rfl⟩
 ·have h : bits .or .u32 (a : Int) (b : Int) = (arithG 7 a b : Int) := by rw [e1]; simp [arithG]
  generalize arithG 7 a b = E at *
  clear hz e1 e2 e3
  rw [show divG 7 = false from rfl] at C0
  go_enter Tryz.func109, Tryz.ntmps109
  go_wp2_with fail
  refine C0.mono ?_
  rintro e w' ⟨rfl, rfl⟩
  go_wp2
  go_ret2
  exact ⟨rfl, rfl⟩
 ·have h : bits .xor .u32 (a : Int) (b : Int) = (arithG 8 a b : Int) := by rw [e3]; simp [arithG]
  generalize arithG 8 a b = E at *
  clear hz e1 e2 e3
  rw [show divG 8 = false from rfl] at C0
  go_enter Tryz.func109, Tryz.ntmps109
  go_wp2_with fail
  refine C0.mono ?_
  rintro e w' ⟨rfl, rfl⟩
  go_wp2
  go_ret2
  exact ⟨rfl, rfl⟩
 ·have HV : Hid (arithG 9 a b = shiftV a b true) := rfl
  obtain ⟨E, hE⟩ : ∃ E, arithG 9 a b = E := ⟨_, rfl⟩
  rw [hE] at HV ⊢
  clear hz e1 e2 e3 hE
  rw [show divG 9 = false from rfl] at C0
  go_enter Tryz.func109, Tryz.ntmps109
  go_wp2_with fail
  refine C0.mono ?_
  rintro e w' ⟨rfl, rfl⟩
  go_wp2
  go_ret2
  exact ⟨ret_ar (by rw [HV.out]; exact shift_true), rfl⟩
 ·have HV : Hid (arithG 10 a b = shiftV a b false) := rfl
  obtain ⟨E, hE⟩ : ∃ E, arithG 10 a b = E := ⟨_, rfl⟩
  rw [hE] at HV ⊢
  clear hz e1 e2 e3 hE
  rw [show divG 10 = false from rfl] at C0
  go_enter Tryz.func109, Tryz.ntmps109
  go_wp2_with fail
  refine C0.mono ?_
  rintro e w' ⟨rfl, rfl⟩
  go_wp2
  go_ret2
  exact ⟨ret_ar (by rw [HV.out]; exact shift_false HA.out), rfl⟩
 ·have hb0 : ((b : Int) == 0) = false := by have := hz rfl; simpa using this
  have hb1 : ¬ b = 0 := hz rfl
  have h : (a : Int) / (b : Int) = (arithG 4 a b : Int) := by simp [arithG]
  have HE : Hid (arithG 4 a b ≤ 4294967295) := Nat.le_trans (Nat.div_le_self a b) HA.out
  generalize arithG 4 a b = E at *
  clear hz e1 e2 e3
  rw [show divG 4 = true from rfl] at C0
  go_enter Tryz.func109, Tryz.ntmps109
  go_wp2_with fail
  refine C0.mono ?_
  rintro e w' ⟨rfl, rfl⟩
  go_wp2
  go_ret2
  exact ⟨ret_ar (by have := HE.out; omega), rfl⟩
 ·have hb0 : ((b : Int) == 0) = false := by have := hz rfl; simpa using this
  have hb1 : ¬ b = 0 := hz rfl
  have h : (a : Int) % (b : Int) = (arithG 5 a b : Int) := by simp [arithG]
  generalize arithG 5 a b = E at *
  clear hz e1 e2 e3
  rw [show divG 5 = true from rfl] at C0
  go_enter Tryz.func109, Tryz.ntmps109
  go_wp2_with fail
  refine C0.mono ?_
  rintro e w' ⟨rfl, rfl⟩
  go_wp2
  go_ret2
  exact ⟨ret_ar h, rfl⟩
def valR (x : Ng) (ps : List Pt) : Value := match valG x ps with
 | some v => .tuple #[.int .u32 (v : Int), .bool true]
 | none => .tuple #[.int .u32 0, .bool false]
set_option maxHeartbeats 400000 in
theorem itself_any (x : Ng) (ps : List Pt) (v : Value) (w : World) (hk : x.kind = 1) : Calls Tryz.prog 51 #[.agg x.cells.toArray, v] w fun e w' => e = .returned (valR x ps) ∧ w.grownBy w' none := by
 have e0 : valR x ps = .tuple #[.int .u32 (x.n : Int), .bool true] := by rw [valR, valG, if_pos hk]
 rw [e0]
 clear hk e0
 have HBX := box_ng x
 have h1 := NB.alloc w x
 have h3 := World.grownBy_alloc w (.cells x.cells.toArray 43) none
 have c2 := h1.n
 obtain ⟨X, hX⟩ : ∃ X, x.cells.toArray = X := ⟨_, rfl⟩
 rw [hX] at HBX ⊢
 go_enter Tryz.func51, Tryz.ntmps51
 go_upto_region 1 with fail
 rw [← hX] at *
 generalize w.alloc (.cells x.cells.toArray 43) = w1 at *
 generalize w.heap.size = B at *
 clear HBX hX X
 go_wp2
 go_ret2
 exact ⟨rfl, h3⟩
set_option maxHeartbeats 400000 in
theorem unknown_any (x : Ng) (ps : List Pt) (v : Value) (w : World) (hk : x.kind ≠ 1 ∧ x.kind ≠ 4 ∧ x.kind ≠ 5) : Calls Tryz.prog 53 #[.agg x.cells.toArray, v] w fun e w' => e = .returned (valR x ps) ∧ w.grownBy w' none := by
 have e0 : valR x ps = .tuple #[.int .u32 0, .bool false] := by rw [valR, valG, if_neg hk.1, if_neg hk.2.1, if_neg hk.2.2]
 rw [e0]
 clear hk e0
 have HBX := box_ng x
 have h3 := World.grownBy_alloc w (.cells x.cells.toArray 43) none
 obtain ⟨X, hX⟩ : ∃ X, x.cells.toArray = X := ⟨_, rfl⟩
 rw [hX] at HBX ⊢
 go_enter Tryz.func53, Tryz.ntmps53
 go_upto_region 1 with fail
 rw [← hX] at *
 generalize w.alloc (.cells x.cells.toArray 43) = w1 at *
 generalize w.heap.size = B at *
 clear HBX hX X
 go_wp2
 go_ret2
 exact ⟨rfl, h3⟩
set_option maxHeartbeats 400000 in
theorem negated_any (x : Ng) (p : Pt) (ao : Option Addr) (cap : Nat) (w : World) (C : CV w ao (flat3 ptC [p])) (hp : p.val ≤ 4294967295) (hk : x.kind = 5) : Calls Tryz.prog 60 #[.agg x.cells.toArray, .slice ao 1 cap] w fun e w' => e = .returned (valR x [p]) ∧ w.grownBy w' none := by
 have e0 : valR x [p] = .tuple #[.int .u32 (minusG p.val : Int), .bool true] := by rw [valR, valG, if_neg (by omega), if_neg (by omega), if_pos hk]; rfl
 rw [e0]
 clear hk e0
 have HBX := box_ng x
 have h3 := World.grownBy_alloc w (.cells x.cells.toArray 43) none
 obtain ⟨b, o, rfl, hc⟩ := (C.keptNone h3).pts ptC_len (k := 0) (by simp)
 have c2 := hc 0 (by simp) 2 (.int .u32 (p.val : Int)) rfl
 simp only [Nat.zero_mul, Nat.add_zero] at c2
 clear C hc
 generalize p.val = pv at *
 obtain ⟨X, hX⟩ : ∃ X, x.cells.toArray = X := ⟨_, rfl⟩
 rw [hX] at HBX ⊢
 go_enter Tryz.func60, Tryz.ntmps60
 go_upto_region 1 with fail
 rw [← hX] at *
 generalize w.alloc (.cells x.cells.toArray 43) = w1 at *
 generalize w.heap.size = B at *
 clear HBX hX X
 go_wp2_with fail
 refine (minus_any pv hp _).mono ?_
 rintro e w' ⟨rfl, rfl⟩
 go_wp2
 go_ret2
 exact ⟨rfl, h3⟩
set_option maxHeartbeats 1000000 in
theorem reckoned_any (x : Ng) (p q : Pt) (ao : Option Addr) (cap : Nat) (w : World) (C : CV w ao (flat3 ptC [p, q])) (hp : p.val ≤ 4294967295) (hq : q.val ≤ 4294967295) (hk : x.kind = 4) (ho : 1 ≤ x.op ∧ x.op ≤ 10) (hz : divG x.op = true → q.val ≠ 0) :
  Calls Tryz.prog 59 #[.agg x.cells.toArray, .slice ao 2 cap] w fun e w' => e = .returned (valR x [p, q]) ∧ w.grownBy w' none := by
 have e0 : valR x [p, q] = .tuple #[.int .u32 (arithG x.op p.val q.val : Int), .bool true] := by rw [valR, valG, if_neg (by omega), if_pos hk]; rfl
 rw [e0]
 clear hk e0
 have HBX := box_ng x
 have h1 := NB.alloc w x
 have h3 := World.grownBy_alloc w (.cells x.cells.toArray 43) none
 obtain ⟨b, o, rfl, hc⟩ := (C.keptNone h3).pts ptC_len (k := 0) (by simp)
 have c2 := hc 0 (by simp) 2 (.int .u32 (p.val : Int)) rfl
 have c5 := hc 1 (by simp) 2 (.int .u32 (q.val : Int)) rfl
 have c1 := h1.op
 simp only [Nat.zero_mul, Nat.add_zero, Nat.one_mul] at c2 c5
 obtain ⟨X, hX⟩ : ∃ X, x.cells.toArray = X := ⟨_, rfl⟩
 rw [hX] at HBX ⊢
 clear C hc
 have CA : ∀ W : World, Calls Tryz.prog 109 #[.int .i64 x.op, .int .u32 (p.val : Int), .int .u32 (q.val : Int)] W fun e w' => e = .returned (.tuple #[.int .u32 (arithG x.op p.val q.val : Int), .bool true]) ∧ w' = W := fun W => (arith_any x.op p.val q.val hp hq ho hz W).mono fun e w' h => ⟨h.1, h.2.symm⟩
 generalize arithG x.op p.val q.val = E at *
 generalize p.val = pv at *
 generalize q.val = qv at *
 clear hp hq ho hz
 go_enter Tryz.func59, Tryz.ntmps59
 go_upto_region 1 with fail
 rw [← hX] at *
 generalize w.alloc (.cells x.cells.toArray 43) = w1 at *
 generalize w.heap.size = B at *
 clear HBX hX X h1
 generalize x.op = op at *
 go_quiet ((go_at_call 109; exact Calls.quiet_of_same (CA _)))
 go_wp2
 go_ret2
 exact ⟨rfl, grown_trans h3 (grown_drewN _ _ none)⟩
def clampB (l : Int) : Nat := min l.toNat 8
def topM (k : Nat) : Nat := 255 - 255 / 2 ^ k
theorem and_top : ∀ (x : Fin 256) (k : Fin 9), bits .and .u8 ((x.val : Nat) : Int) ((topM k.val : Nat) : Int) = (((topB k.val (UInt8.ofNat x.val)).toNat : Nat) : Int) := by decide +kernel
set_option maxHeartbeats 1000000 in
theorem mask_any (l : Int) (w : World) :
  Calls Tryz.prog 144 #[.int .i64 l] w fun e w' => e = .returned (.int .u8 ((topM (clampB l) : Nat) : Int)) ∧ w = w' := by
 by_cases h0 : l ≤ 0
 ·have e : clampB l = 0 := by unfold clampB; omega
  rw [e]
  have h1 : ¬ l > 0 := by omega
  have h2 : (if (0 : Int) > l then (0 : Int) else l) = 0 := by split <;> omega
  go_enter Tryz.func144, Tryz.ntmps144
  go_wp2
  go_ret
  first | exact ⟨rfl, rfl⟩ | (refine ⟨?_, rfl⟩; rw [show max l 0 = 0 by omega]; rfl)
 ·by_cases h8 : 8 ≤ l
  ·have e : clampB l = 8 := by unfold clampB; omega
   rw [e]
   have h2 : (if (0 : Int) > l then (0 : Int) else l) = l := by split <;> omega
   have h3 : (if (8 : Int) < l then (8 : Int) else l) = 8 := by split <;> omega
   go_enter Tryz.func144, Tryz.ntmps144
   go_wp2
   go_ret
   first | exact ⟨rfl, rfl⟩ | (refine ⟨?_, rfl⟩; rw [show max l 0 = l by omega, show min l 8 = 8 by omega]; rfl)
  ·have : l = 1 ∨ l = 2 ∨ l = 3 ∨ l = 4 ∨ l = 5 ∨ l = 6 ∨ l = 7 := by omega
   clear h0 h8
   rcases this with rfl | rfl | rfl | rfl | rfl | rfl | rfl
   all_goals
    go_enter Tryz.func144, Tryz.ntmps144
    go_wp2
    go_ret
    exact ⟨rfl, rfl⟩
theorem top_not (k : Nat) (x : UInt8) (h : 8 ≤ k) : topB k x = topB 8 x := by
 unfold topB
 rw [if_neg (by omega), if_neg (by omega), if_neg (by omega), if_neg (by omega)]
theorem top_clamp (n j : Nat) (x : UInt8) : topB (clampB ((n : Int) - 8 * (j : Int))) x = topB (n - 8 * j) x := by
 have e : ((n : Int) - 8 * (j : Int)).toNat = n - 8 * j := by omega
 unfold clampB
 rw [e]
 by_cases h : 8 ≤ n - 8 * j
 ·rw [show min (n - 8 * j) 8 = 8 by omega, ← top_not _ x h]
 ·rw [show min (n - 8 * j) 8 = n - 8 * j by omega]
def netTo (n : Nat) (xs : List UInt8) (j : Nat) : List UInt8 := (maskV n xs).take j ++ List.replicate (xs.length - j) 0
theorem netTo_next (n : Nat) (xs : List UInt8) (j : Nat) (h : j < xs.length) : netTo n xs (j + 1) = (netTo n xs j).set j (topB (n - 8 * j) xs[j]) := by
 have hl : (List.take j (maskV n xs)).length = j := by rw [List.length_take, mask_len]; omega
 unfold netTo
 rw [List.set_append_right _ _ (by omega), hl, Nat.sub_self, List.take_succ_eq_append_getElem (by rw [mask_len]; exact h), mask_get n xs j h, show xs.length - j = (xs.length - (j + 1)) + 1 by omega, List.replicate_succ, List.set_cons_zero]
 simp
set_option maxRecDepth 100000 in
set_option maxHeartbeats 2000000 in
theorem net_any (a : Option Addr) (ca : Nat) (xs : List UInt8) (bits : Int) (w : World) (ha : Cells w a xs) (hc0 : a = none → ca = 0) (hx : xs.length ≤ 140737488355328) :
  Calls Tryz.prog 114 #[.slice a xs.length ca, .int .i64 bits] w fun e w' => ∃ v, e = .returned (.tuple #[v, .int .i64 (netE xs.length bits)]) ∧ Owns w' w.heap.size v (netV xs bits) ∧ w.grownBy w' none := by
 obtain ⟨i0, hi, hz0, hz1, hz2⟩ := info_parts info5
 by_cases h4 : xs.length ≠ 4 ∧ xs.length ≠ 16
 ·have e : netE xs.length bits = 60 := by rw [netE, if_pos h4]
  have e2 : netV xs bits = [] := by rw [netV, if_neg (by rw [e]; decide)]
  rw [e, e2]
  have b1 : ((xs.length : Int) != 4) = true := by rw [bne_iff_ne]; omega
  have b2 : ((xs.length : Int) != 16) = true := by rw [bne_iff_ne]; omega
  clear ha e e2
  go_enter Tryz.func114, Tryz.ntmps114
  go_wp2
  go_ret2
  exact ⟨_, rfl, World.ownsRow_nil _ _ _ _, World.grownBy.refl _ _⟩
 ·have hlen : xs.length = 4 ∨ xs.length = 16 := by omega
  have hb : ((xs.length : Int) != 4) = false ∨ (((xs.length : Int) != 4) = true ∧ ((xs.length : Int) != 16) = false) := by
   rcases hlen with h | h
   ·left; rw [h]; rfl
   ·right; rw [h]; exact ⟨rfl, rfl⟩
  have hl16 : xs.length ≤ 16 := by omega
  by_cases hbad : bits < 0 ∨ 8 * (xs.length : Int) < bits
  ·have e : netE xs.length bits = 61 := by rw [netE, if_neg h4, if_pos hbad]
   have e2 : netV xs bits = [] := by rw [netV, if_neg (by rw [e]; decide)]
   rw [e, e2]
   have hbb : bits < 0 ∨ (¬ bits < 0 ∧ 8 * (xs.length : Int) < bits) := by omega
   clear ha e e2 h4 hlen hbad
   rcases hb with hb | ⟨hb, hb2⟩
   all_goals
    rcases hbb with hq | ⟨hq, hq2⟩
    all_goals
     go_enter Tryz.func114, Tryz.ntmps114
     go_wp2
     go_ret2
     exact ⟨_, rfl, World.ownsRow_nil _ _ _ _, World.grownBy.refl _ _⟩
  ·have e : netE xs.length bits = 0 := by rw [netE, if_neg h4, if_neg hbad]
   have e2 : netV xs bits = maskV bits.toNat xs := by rw [netV, if_pos e]
   rw [e, e2]
   have hq : ¬ bits < 0 := by omega
   have hq2 : ¬ 8 * (xs.length : Int) < bits := by omega
   obtain ⟨n, rfl⟩ := Int.eq_ofNat_of_zero_le (show 0 ≤ bits by omega)
   rw [Int.toNat_natCast]
   have H : Hid (Cells w a xs) := ha
   have hn : n ≤ 128 := by omega
   clear ha e e2 h4 hlen hbad
   rcases hb with hb | ⟨hb, hb2⟩
   all_goals
    go_enter Tryz.func114, Tryz.ntmps114
    go_wp2_with (at_make; refine wpList_make_full _ rfl (.tmp 27) (.tmp 27) 115 rfl w.heap.size 5 i0 (.int .u8 0) 1 Tryz.underlying115 hi hz0 hz1 .i64 .i64 (xs.length : Int) (xs.length : Int) xs.length rfl rfl rfl rfl ?q1 ?q2 ?q3 ?q4)
    case q1 => omega
    case q2 => unfold maxLen; omega
    case q4 =>
     intro w2 h2 K2
     rw [toList_madeCells_one] at h2
     have R2 : w2.ownsRow w.heap.size 5 1 (.slice (some ⟨w.heap.size, 0, none⟩) xs.length xs.length) xs.length ((netTo n xs 0).map bv) := by
      have : netTo n xs 0 = List.replicate xs.length 0 := by simp [netTo]
      rw [this]
      simpa [bv] using h2
     clear h2
     obtain ⟨g, hg, hgw⟩ : ∃ g, w.heap.size = g ∧ w.heap.size ≤ g := ⟨_, rfl, Nat.le_refl _⟩
     rw [show (Value.slice (some ⟨w.heap.size, 0, none⟩) xs.length xs.length) = .slice (some ⟨g, 0, none⟩) xs.length xs.length by rw [hg]] at R2
     rw [show (Value.slice (some ⟨w.heap.size, 0, none⟩) xs.length xs.length) = .slice (some ⟨g, 0, none⟩) xs.length xs.length by rw [hg]]
     clear hg
     go_wp2
     go_loopw [31] (fun i wr => ∃ j : Nat, j ≤ xs.length ∧ i = .int .i64 j ∧ wr.ownsRow w.heap.size 5 1 (.slice (some ⟨g, 0, none⟩) xs.length xs.length) xs.length ((netTo n xs j).map bv) ∧ w.grownBy wr none) (fun i _ => xs.length - (intOf i).toNat)
     case atStart => exact ⟨0, Nat.zero_le _, rfl, R2, K2⟩
     case round =>
      clear R2 K2
      obtain ⟨j, hj, rfl, R, G⟩ := hrel
      by_cases hlt : j < xs.length
      ·have hl : (j : Int) < (xs.length : Int) := by omega
       obtain ⟨b, o, rfl, hc⟩ := H.out.addr hlt
       have hcj : wr.cell? ⟨b, o + j, none⟩ = some (.int .u8 (xs[j].toNat : Int)) := G.cell (hc j hlt) (by simp)
       have bl := (BlkN.ofRow R).1
       have hfr := bl.free j
       obtain ⟨u0, hu0⟩ := bl.cell (i := j) (by omega)
       have hy := xs[j].toNat_lt
       have HB := and_top ⟨xs[j].toNat, hy⟩ ⟨clampB ((n : Int) - 8 * (j : Int)), by unfold clampB; omega⟩
       rw [top_clamp] at HB
       simp only [UInt8.ofNat_toNat] at HB
       have R3 := (R.stored j (.int .u8 ((topB (n - 8 * j) xs[j]).toNat : Int))).1
       rw [show (((netTo n xs j).map bv).set j (.int .u8 ((topB (n - 8 * j) xs[j]).toNat : Int))) = (netTo n xs (j + 1)).map bv by rw [netTo_next n xs j hlt, List.map_set]; rfl] at R3
       have G3 := grown_setCell G ⟨g, j, none⟩ (.int .u8 ((topB (n - 8 * j) xs[j]).toNat : Int)) (.inr hgw)
       generalize (topB (n - 8 * j) xs[j]).toNat = t at *
       generalize xs[j].toNat = y at *
       clear hc bl R G
       go_wp2_with (go_at_call 144; refine (mask_any _ _).mono ?_; rintro e w' ⟨rfl, rfl⟩)
       go_roundw
       case rel => exact ⟨j + 1, by omega, by go_num, R3, G3⟩
       case measure => simp [intOf]; omega
      ·obtain rfl : j = xs.length := by omega
       have R4 : Owns wr w.heap.size (.slice (some ⟨g, 0, none⟩) xs.length xs.length) (maskV n xs) := by
        unfold Owns
        rw [mask_len]
        have : netTo n xs xs.length = maskV n xs := by
         unfold netTo
         rw [Nat.sub_self, List.replicate_zero, List.append_nil, List.take_of_length_le (by rw [mask_len]; exact Nat.le_refl _)]
        rw [this] at R
        exact R
       go_wp2
       go_ret2
       exact ⟨_, rfl, R4, G⟩
theorem run_strC {P : Program} {w : World} {ao : Option Addr} {cap : Nat} {ys : List UInt8} (hc : Cells w ao ys) (src dst : TypeId) (hs : P.underlying src = some (.slice 5)) (he : P.underlying 5 = some (.int .u8)) (hd : P.underlying dst = some .string) :
  (convert src dst (.slice ao ys.length cap)).run P w = .ok (.string ⟨ys.toArray⟩) w := by
 cases ao with
 | none =>
  have e := hc.1 rfl
  subst e
  show (convert src dst (.slice none 0 cap)).run P w = _
  rw [run_convert_bytes_string w src dst 5 none 0 cap hs he hd]
  simp [Conv.bytesToString]
  rfl
 | some ad => exact run_convert_bytes_back w src dst 5 ad cap ys hs he hd (fun j hj => hc.2 ad rfl j hj)
set_option maxHeartbeats 1000000 in
theorem equal_any (a b : Option Addr) (ca cb : Nat) (xs ys : List UInt8) (w : World) (ha : Cells w a xs) (hb : Cells w b ys) :
  Calls Tryz.prog 115 #[.slice a xs.length ca, .slice b ys.length cb] w fun e w' => e = .returned (.bool (decide (xs = ys))) ∧ w = w' := by
 have h1 := run_strC (P := Tryz.prog) (cap := ca) ha 115 9 Tryz.underlying115 Tryz.underlying5 Tryz.underlying9
 have h2 := run_strC (P := Tryz.prog) (cap := cb) hb 115 9 Tryz.underlying115 Tryz.underlying5 Tryz.underlying9
 clear ha hb
 obtain ⟨S, hS⟩ : ∃ S : ByteArray, ⟨xs.toArray⟩ = S := ⟨_, rfl⟩
 obtain ⟨T, hT⟩ : ∃ T : ByteArray, ⟨ys.toArray⟩ = T := ⟨_, rfl⟩
 have e : decide (xs = ys) = (S.toList == T.toList) := by
  rw [← hS, ← hT, ByteArray.toList_eq, ByteArray.toList_eq]
  show decide (xs = ys) = (xs == ys)
  by_cases h : xs = ys
  ·subst h; simp
  ·rw [decide_eq_false h, Eq.comm, beq_eq_false_iff_ne]; exact h
 rw [e]
 rw [hS] at h1
 rw [hT] at h2
 clear hS hT e
 go_enter Tryz.func115, Tryz.ntmps115
 go_wp2
 go_ret
 exact ⟨rfl, rfl⟩
theorem adgs_len (x : Ng) : (adgs x).length = 16 := rfl
theorem addrG_len (x : Ng) : (addrG x).length = if x.of = 2 then 4 else 16 := by
 unfold addrG
 split <;> simp [adgs_len]
theorem range_cells {w : World} {b o : Nat} {xs : List UInt8} (h : w.rangeAt b o (xs.map bv)) : Cells w (some ⟨b, o, none⟩) xs := by
 refine ⟨fun e => (by cases e), fun ad had j hj => ?_⟩
 cases had
 rw [Addr.add_lit]
 exact h j _ (by simp [hj])
theorem range_take {w : World} {b o n : Nat} {xs : List UInt8} (h : Cells w (some ⟨b, o, none⟩) xs) : Cells w (some ⟨b, o, none⟩) (xs.take n) := by
 refine ⟨fun e => (by cases e), fun ad had j hj => ?_⟩
 rw [List.length_take] at hj
 rw [h.2 ad had j (by omega), List.getElem_take]
set_option maxHeartbeats 400000 in
theorem addressOf_any (x : Ng) (w : World) : Calls Tryz.prog 112 #[.agg x.cells.toArray] w fun e w' => ∃ B, e = .returned (.slice (some ⟨B, 7, none⟩) (addrG x).length 16) ∧ Cells w' (some ⟨B, 7, none⟩) (addrG x) ∧ w.heap.size ≤ B ∧ w.grownBy w' none := by
 have HBX := box_ng x
 have h1 := NB.alloc w x
 have h3 := World.grownBy_alloc w (.cells x.cells.toArray 43) none
 have c5 := h1.of
 have HA : Hid (Cells _ _ (adgs x)) := range_cells h1.addr
 have HB : Hid (w.heap.size ≤ w.heap.size) := Nat.le_refl _
 obtain ⟨L, hL⟩ : ∃ L, (addrG x).length = L := ⟨_, rfl⟩
 rw [hL]
 have HL : Hid ((addrG x).length = L) := hL
 clear hL
 obtain ⟨X, hX⟩ : ∃ X, x.cells.toArray = X := ⟨_, rfl⟩
 rw [hX] at HBX ⊢
 by_cases q : x.of = 2
 ·have HQ : Hid (addrG x = (adgs x).take 4) := by show addrG x = _; rw [addrG, if_pos q]
  have e1 : (x.of == 2) = true := by simpa using q
  have HL2 : Hid (L = 4) := by show L = 4; rw [← HL.out, HQ.out]; rfl
  clear q
  go_enter Tryz.func112, Tryz.ntmps112
  go_upto_region 1 with fail
  rw [← hX] at *
  generalize w.alloc (.cells x.cells.toArray 43) = w1 at *
  obtain ⟨B, hB⟩ : ∃ B, w.heap.size = B := ⟨_, rfl⟩
  have HB2 : Hid (w.heap.size ≤ B) := Nat.le_of_eq hB
  rw [hB] at c5 HA ⊢
  clear HBX hX X h1 HB hB
  go_wp2
  go_ret
  refine ⟨B, ?_, ?_, HB2.out, h3⟩
  ·rw [HL2.out]; rfl
  ·rw [HQ.out]; exact range_take HA.out
 ·have HQ : Hid (addrG x = adgs x) := by show addrG x = _; rw [addrG, if_neg q]
  have e1 : (x.of == 2) = false := by simpa using q
  have HL2 : Hid (L = 16) := by show L = 16; rw [← HL.out, HQ.out]; rfl
  clear q
  go_enter Tryz.func112, Tryz.ntmps112
  go_upto_region 1 with fail
  rw [← hX] at *
  generalize w.alloc (.cells x.cells.toArray 43) = w1 at *
  obtain ⟨B, hB⟩ : ∃ B, w.heap.size = B := ⟨_, rfl⟩
  have HB2 : Hid (w.heap.size ≤ B) := Nat.le_of_eq hB
  rw [hB] at c5 HA ⊢
  clear HBX hX X h1 HB hB
  go_wp2
  go_ret
  refine ⟨B, ?_, ?_, HB2.out, h3⟩
  ·rw [HL2.out]; rfl
  ·rw [HQ.out]; exact HA.out
def padG (x : Ng) : List UInt8 := splice ((zeros 16)) 0 (addrG x)
theorem hostG_eq (x : Ng) : (inG x.of 2 3 && inG x.side 0 2 && decide (adgs x = padG x)) = hostG x := by
 unfold hostG padG addrG
 by_cases h : x.of = 2
 ·rw [if_pos h]
  have e : (x.of == 3) = false := by rw [h]; rfl
  rw [e, Bool.false_or]
  congr 1
  apply decide_eq_decide.2
  constructor
  ·intro h2
   have := congrArg (List.drop 4) h2
   simpa [splice, zeros, adgs_len] using this
  ·intro h2
   have : splice (zeros 16) 0 ((adgs x).take 4) = (adgs x).take 4 ++ zeros 12 := by simp [splice, zeros, adgs_len]
   rw [this, ← h2, List.take_append_drop]
 ·rw [if_neg h]
  have : splice (zeros 16) 0 (adgs x) = adgs x := by simp [splice, zeros, adgs_len]
  rw [this, decide_eq_true rfl, Bool.and_true]
  by_cases h3 : x.of = 3
  ·rw [h3]; simp
  ·have : inG x.of 2 3 = false := by unfold inG; by_cases h4 : (2 : Int) ≤ x.of <;> simp [h4] <;> omega
   rw [this]; rfl
theorem bld_arr (W : World) : (Instr.alloc 41 true (.tuple #[])).run Tryz.prog W = .ok (.pointer (some ⟨W.heap.size, 0, none⟩)) (W.alloc (.cells ((zeros 16).map bv).toArray 41)) := by kernel_rfl
theorem size_u8 : (Tryz.prog.info? 5).map (·.size) = some 1 := by kernel_rfl
theorem size_z16 (xs : List UInt8) (h : xs.length = 16) : (Tryz.prog.info? 41).map (·.size) = some (xs.map bv).toArray.size := by rw [List.size_toArray, List.length_map, h]; kernel_rfl
theorem padG_len (x : Ng) : (padG x).length = 16 := by
 have := addrG_len x
 unfold padG
 simp only [splice, zeros]
 rw [List.length_append, List.length_append, List.length_take, List.length_drop, List.length_replicate]
 split at this <;> omega
theorem pad_map (x : Ng) : splice ((zeros 16).map bv) 0 ((addrG x).map bv) = (padG x).map bv := by simp [padG, splice, zeros]
theorem addr_eqT (x : Ng) (w : World) : (Op.equalIn 10000 41 (.agg ((adgs x).map bv).toArray) (.agg ((padG x).map bv).toArray)).run Tryz.prog w = .ok (decide (adgs x = padG x)) w := by
 obtain ⟨i0, hi, -⟩ := info_parts info5
 exact eq_bytes Tryz.underlying41 hi Tryz.underlying5 (by kernel_rfl) (by kernel_rfl) _ _ (adgs_len x) (padG_len x) w
theorem wpList_load_midG {P : Program} {ops : Array Oper} {rest : List Oper} {op : Oper} {a : Act} {w : World} {Q : Exit → Act → World → Prop} (hw : Region.wanted op (yielded ops a.tmps) = true) (ty : TypeId) (x : Operand) (ho : op.op = .load ty x)
  (b o : Nat) (hx : a.eval x = .pointer (some ⟨b, o, none⟩)) (cs : List Value) (d : TypeDesc) (hc : w.rangeAt b o cs)
  (hu : P.underlying ty = some d) (hd : d.isRow = true) (hi : (P.info? ty).map (·.size) = some cs.length)
  (h : wpList P ops Q rest (a.put op.dst (.agg cs.toArray)) w) : wpList P ops Q (op :: rest) a w :=
 BigFrame.wpList_want hw fun _ hK => wp_load_mid ty x ho b o hx cs d hc hu hd hi (hK _ _ h)
set_option maxHeartbeats 2000000 in
theorem mayAddress_any (x : Ng) (w : World) : Calls Tryz.prog 72 #[.agg x.cells.toArray] w fun e w' => e = .returned (.bool (hostG x)) ∧ w.grownBy w' none := by
 rw [← hostG_eq]
 obtain ⟨E, hE⟩ : ∃ E : Bool, (inG x.of 2 3 && inG x.side 0 2 && decide (adgs x = padG x)) = E := ⟨_, rfl⟩
 rw [hE]
 have HE : Hid ((inG x.of 2 3 && inG x.side 0 2 && decide (adgs x = padG x)) = E) := hE
 clear hE
 have HBX := box_ng x
 have HAR := bld_arr
 have HZ : Hid ((Tryz.prog.info? 43).map (·.size) = some x.cells.toArray.size) := ng_size x
 have HAD : Hid (∀ W : World, Calls Tryz.prog 112 #[.agg x.cells.toArray] W fun e w' => ∃ B, e = .returned (.slice (some ⟨B, 7, none⟩) (addrG x).length 16) ∧ Cells w' (some ⟨B, 7, none⟩) (addrG x) ∧ W.heap.size ≤ B ∧ W.grownBy w' none) := fun W => addressOf_any x W
 have HC1 : Hid (∀ W : World, Calls Tryz.prog 68 #[.agg x.cells.toArray] W fun e w' => e = .returned (.bool (inG x.of 2 3)) ∧ W.grownBy w' none) := fun W => mayCarry_any x W
 have HC2 : Hid (∀ W : World, Calls Tryz.prog 113 #[.agg x.cells.toArray] W fun e w' => e = .returned (.bool (inG x.side 0 2)) ∧ W.grownBy w' none) := fun W => maySide_any x W
 have HEQ := addr_eqT x
 have HLA : Hid ((addrG x).length ≤ 16 ∧ (addrG x).length = Nat.min (addrG x).length 16) := by
  have := addrG_len x
  have h : (addrG x).length ≤ 16 := by rw [this]; split <;> omega
  exact ⟨h, (Nat.min_eq_left h).symm⟩
 obtain ⟨X, hX⟩ : ∃ X, x.cells.toArray = X := ⟨_, rfl⟩
 have HXX : Hid (x.cells.toArray = X) := hX
 rw [hX] at HBX HZ HAD HC1 HC2 ⊢
 have V1 := VAt.alloc w 43 X
 have G1 := World.grownBy_alloc w (.cells X 43) none
 go_enter Tryz.func72, Tryz.ntmps72
 go_upto_region 1 with fail
 generalize w.alloc (.cells X 43) = w1 at *
 obtain ⟨B, hB⟩ : ∃ B, w.heap.size = B := ⟨_, rfl⟩
 have HB2 : Hid (w.heap.size ≤ B) := Nat.le_of_eq hB
 rw [hB] at V1 ⊢
 clear HBX hX hB
 have V2 := VAt.alloc w1 41 ((zeros 16).map bv).toArray
 have G2 := World.grownBy_alloc w1 (.cells ((zeros 16).map bv).toArray 41) none
 go_upto_region 2 with fail
 rw [show #[.int .u8 0, .int .u8 0, .int .u8 0, .int .u8 0, .int .u8 0, .int .u8 0, .int .u8 0, .int .u8 0, .int .u8 0, .int .u8 0, .int .u8 0, .int .u8 0, .int .u8 0, .int .u8 0, .int .u8 0, .int .u8 0] = ((zeros 16).map bv).toArray from rfl]
 generalize w1.alloc (.cells ((zeros 16).map bv).toArray 41) = w2 at *
 obtain ⟨A, hA⟩ : ∃ A, w1.heap.size = A := ⟨_, rfl⟩
 have HA : Hid (B < A ∧ w.heap.size ≤ A) := by have := V1.lt; have := HB2.out; exact ⟨by omega, by omega⟩
 rw [hA] at V2 ⊢
 have HS0 : Hid (VAt w2.drew B 43 X ∧ VAt w2.drew A 41 ((zeros 16).map bv).toArray ∧ w.grownBy w2.drew none) := ⟨(V1.kept G2).kept (grown_drewN w2 1 none), V2.kept (grown_drewN w2 1 none), grown_trans G1 (grown_trans G2 (grown_drewN w2 1 none))⟩
 clear hA V1 V2 G1 G2 HAR
 refine wp_region_held_drew (S := fun W => VAt W B 43 X) (by kernel_rfl) HS0.out.1 (fun hHeld => ?_)
 refine wpT (i := 0) (v := .slice (some ⟨A, 0, none⟩) 16 16) rfl (Or.inl ⟨by rfl, fun W hW => ?_⟩) hHeld ?_
 ·clear hW
  go_simp
 try simp only [Act.put, a0, a1, a3, a4, a5]
 refine wpT (i := 1) (v := .agg X) rfl (yieldsIf_load_row (by rfl) _ _ rfl B rfl 43 X _ (fun W hW => hW) Tryz.underlying43 rfl HZ.out) hHeld ?_
 try simp only [Act.put, a0, a1, a2, a3, a4, a5]
 refine wpR (rs := [2]) (AllReadyH.cons rfl (fun K hK => ?_) AllReadyH.nil)
 go_simp
 refine (HAD.out _).mono ?_
 rintro e wc ⟨B2, rfl, C2, hB2, K2⟩
 go_wp2_with fail
 have V2 := HS0.out.2.1.kept K2
 have G2 := grown_trans HS0.out.2.2 K2
 refine hK.out _ _ (hHeld.kept K2) (fun hHeld => ?_)
 clear hK K K2 HS0
 try simp only [Act.put, a0, a1, a2, a3, a4, a5]
 refine wpR (rs := [3]) (AllReadyH.cons rfl (fun K hK => ?_) AllReadyH.nil)
 refine step_copy_splice rfl (.tmp 4) (.tmp 6) 115 115 rfl 5 Tryz.underlying115 size_u8 (some ⟨A, 0, none⟩) (some ⟨B2, 7, none⟩) 16 16 (addrG x).length 16 rfl rfl A 0 ((zeros 16).map bv) 41 V2 ((addrG x).map bv) (by rw [List.length_map]; exact HLA.out.2) (fun _ => ⟨rfl, _, rfl, ?_⟩) (by rw [List.length_map, List.length_map, zeros_len]; have := HLA.out.1; omega) (bv_one _) A wc (Below.refl _ _) (Nat.le_refl _) ?_
 ·intro j v hv
  obtain ⟨hlt, e⟩ := List.getElem?_eq_some_iff.1 hv
  rw [List.length_map] at hlt
  rw [C2.2 _ rfl j hlt, ← e]
  simp
 intro w3 hc3 hb3
 have V3 : VAt w3 B 43 X := by have := hb3.block B HA.out.1; unfold VAt; rw [this]; exact hHeld
 have P3 : VAt w3 A 41 ((padG x).map bv).toArray := by have := hc3.out; rw [pad_map] at this; exact this
 have G3 : w.grownBy w3 none := ⟨hb3.os.trans G2.os, hb3.tape.trans G2.tape, hb3.output.trans G2.output, Nat.le_trans G2.size hb3.size, fun k hk _ => (hb3.block k (Nat.lt_of_lt_of_le hk HA.out.2)).trans (G2.block k hk (by simp))⟩
 refine hK.out _ _ V3 (fun hHeld => ?_)
 clear hK K hb3 hc3 G2 V2 C2 hB2
 try simp only [Act.put, a0, a1, a2, a3, a4, a5]
 refine wpAnyH_done (by kernel_rfl) ?_ _
 clear hHeld
 have LV := V3
 have HV3 : Hid (VAt w3 B 43 X ∧ VAt w3 A 41 ((padG x).map bv).toArray) := ⟨V3, P3⟩
 have HZA : Hid ((Tryz.prog.info? 41).map (·.size) = some ((padG x).map bv).toArray.size) := size_z16 _ (padG_len x)
 have HZB : Hid ((Tryz.prog.info? 41).map (·.size) = some ((adgs x).map bv).length) := size_arr16 x
 clear V3 P3 HAD HLA
 go_wp2_with (refine wpList_load_row rfl 43 (.tmp 1) rfl B rfl 43 X (0, 0) _ LV Tryz.underlying43 rfl HZ.out ?_)
 refine (HC1.out _).mono ?_
 rintro e w4 ⟨rfl, K4⟩
 have LV := HV3.out.1.kept K4
 have G4 := grown_trans G3 K4
 cases q1 : inG x.of 2 3 with
 | false =>
  have HQ : Hid (inG x.of 2 3 = false) := q1
  clear q1
  go_wp2
  go_ret
  exact ⟨ret_bool (by rw [← HE.out, HQ.out]; rfl), G4⟩
 | true =>
  have HQ : Hid (inG x.of 2 3 = true) := q1
  clear q1
  go_wp2_with (refine wpList_load_rowG (by rfl) 43 (.tmp 1) rfl B rfl 43 X (0, 0) _ LV Tryz.underlying43 rfl HZ.out ?_)
  refine (HC2.out _).mono ?_
  rintro e w5 ⟨rfl, K5⟩
  have LV5 := LV.kept K5
  have LA5 := (HV3.out.2.kept K4).kept K5
  have G5 := grown_trans G4 K5
  have HR : Hid (w5.rangeAt B 7 ((adgs x).map bv)) := by
   have : NB w5 B x := by unfold NB; rw [HXX.out]; exact LV5
   exact this.addr
  clear LV K4 K5
  cases q2 : inG x.side 0 2 with
  | false =>
   have HQ2 : Hid (inG x.side 0 2 = false) := q2
   clear q2
   go_wp2
   go_ret
   exact ⟨ret_bool (by rw [← HE.out, HQ.out, HQ2.out]; rfl), G5⟩
  | true =>
   have HQ2 : Hid (inG x.side 0 2 = true) := q2
   clear q2
   go_wp2_with (first | refine wpList_load_rowG (by rfl) 41 (.tmp 3) rfl A rfl 41 ((padG x).map bv).toArray (0, 0) _ LA5 Tryz.underlying41 rfl HZA.out ?_ | refine wpList_load_midG (by rfl) 41 (.tmp 15) rfl B 7 rfl ((adgs x).map bv) _ HR.out Tryz.underlying41 rfl HZB.out ?_)
   go_ret
   exact ⟨ret_bool (by rw [← HE.out, HQ.out, HQ2.out]; rfl), G5⟩
theorem netE_len (x : Ng) (b : Int) : netE (addrG x).length b = if ¬ (0 ≤ b ∧ b ≤ 8 * ((addrG x).length : Int)) then 61 else 0 := by
 have h := addrG_len x
 have h4 : ¬ ((addrG x).length ≠ 4 ∧ (addrG x).length ≠ 16) := by split at h <;> omega
 rw [netE, if_neg h4]
 by_cases hb : b < 0 ∨ 8 * ((addrG x).length : Int) < b
 ·rw [if_pos hb, if_pos (by omega)]
 ·rw [if_neg hb, if_neg (by omega)]
set_option maxHeartbeats 2000000 in
theorem boundsOfNet_any (x : Ng) (w : World) (hk : x.kind = 15) : Calls Tryz.prog 74 #[.agg x.cells.toArray] w fun e w' => e = .returned (.int .i64 (rangeE x)) ∧ w.grownBy w' none := by
 obtain ⟨E, hE⟩ : ∃ E : Int, rangeE x = E := ⟨_, rfl⟩
 rw [hE]
 have HE : Hid ((if ¬ (0 ≤ x.bits ∧ x.bits ≤ 8 * ((addrG x).length : Int)) then 124 else if maskV x.bits.toNat (addrG x) = addrG x then 0 else 125) = E) := by
  have := hE
  rw [rangeE, if_neg (show ¬ x.kind = 3 by omega), if_neg (show ¬ x.kind = 12 by omega), if_neg (show ¬ x.kind = 13 by omega), if_neg (show ¬ x.kind = 16 by omega), if_pos hk] at this
  exact this
 clear hE hk
 have HBX := box_ng x
 have HZ : Hid ((Tryz.prog.info? 43).map (·.size) = some x.cells.toArray.size) := ng_size x
 have HAD : Hid (∀ W : World, Calls Tryz.prog 112 #[.agg x.cells.toArray] W fun e w' => ∃ B, e = .returned (.slice (some ⟨B, 7, none⟩) (addrG x).length 16) ∧ Cells w' (some ⟨B, 7, none⟩) (addrG x) ∧ W.heap.size ≤ B ∧ W.grownBy w' none) := fun W => addressOf_any x W
 have HLA : Hid ((addrG x).length ≤ 16) := by
  have := addrG_len x
  show _ ≤ _
  rw [this]; split <;> omega
 have HNE : Hid _ := netE_len x x.bits
 obtain ⟨X, hX⟩ : ∃ X, x.cells.toArray = X := ⟨_, rfl⟩
 have HXX : Hid (x.cells.toArray = X) := hX
 rw [hX] at HBX HZ HAD ⊢
 have V1 := VAt.alloc w 43 X
 have G1 := World.grownBy_alloc w (.cells X 43) none
 go_enter Tryz.func74, Tryz.ntmps74
 go_upto_region 1 with fail
 generalize w.alloc (.cells X 43) = w1 at *
 generalize w.heap.size = B at V1 ⊢
 clear HBX hX
 go_wp2_with (refine wpList_load_row rfl 43 (.tmp 1) rfl B rfl 43 X (0, 0) _ V1 Tryz.underlying43 rfl HZ.out ?_)
 refine (HAD.out _).mono ?_
 rintro e w2 ⟨B2, rfl, C2, -, K2⟩
 have c8 : w2.cell? ⟨B, 23, none⟩ = some (.int .i64 x.bits) := by
  have : NB w2 B x := by unfold NB; rw [HXX.out]; exact V1.kept K2
  exact this.bits
 have G2 := grown_trans G1 K2
 have CN := net_any (some ⟨B2, 7, none⟩) 16 (addrG x) x.bits w2 C2 (by simp) (by have := HLA.out; omega)
 have HC2 : Hid (Cells w2 (some ⟨B2, 7, none⟩) (addrG x)) := C2
 clear V1 G1 K2 HAD C2
 rw [HNE.out] at CN
 by_cases hb : 0 ≤ x.bits ∧ x.bits ≤ 8 * ((addrG x).length : Int)
 ·rw [if_neg (fun h => h hb)] at CN
  have HQ : Hid (0 ≤ x.bits ∧ x.bits ≤ 8 * ((addrG x).length : Int)) := hb
  have hn : netE (addrG x).length x.bits = 0 := by rw [HNE.out, if_neg (fun h => h hb)]
  have hv : netV (addrG x) x.bits = maskV x.bits.toNat (addrG x) := by rw [netV, if_pos hn]
  rw [hv] at CN
  clear hb hv hn HNE
  go_wp2_with fail
  refine CN.mono ?_
  rintro e w3 ⟨v3, rfl, O3, K3⟩
  obtain ⟨a3, k3, rfl, C3, -⟩ := O3.rd
  have CE := equal_any a3 (some ⟨B2, 7, none⟩) k3 16 _ _ w3 C3 (HC2.out.keptNone K3)
  have G3 := grown_trans G2 K3
  rw [mask_len] at CE
  clear CN K3 O3 C3 G2
  by_cases hm : maskV x.bits.toNat (addrG x) = addrG x
  ·rw [decide_eq_true hm] at CE
   have HM : Hid (maskV x.bits.toNat (addrG x) = addrG x) := hm
   clear hm
   rw [mask_len]
   go_wp2_with fail
   refine CE.mono ?_
   rintro e w' ⟨rfl, rfl⟩
   go_wp2
   go_ret
   exact ⟨ret_int (by rw [← HE.out, if_neg (fun h => h HQ.out), if_pos HM.out]), G3⟩
  ·rw [decide_eq_false hm] at CE
   have HM : Hid (¬ maskV x.bits.toNat (addrG x) = addrG x) := hm
   clear hm
   rw [mask_len]
   go_wp2_with fail
   refine CE.mono ?_
   rintro e w' ⟨rfl, rfl⟩
   go_wp2
   go_ret
   exact ⟨ret_int (by rw [← HE.out, if_neg (fun h => h HQ.out), if_neg HM.out]), G3⟩
 ·rw [if_pos hb] at CN
  have HQ : Hid (¬ (0 ≤ x.bits ∧ x.bits ≤ 8 * ((addrG x).length : Int))) := hb
  clear hb HNE
  go_wp2_with fail
  refine CN.mono ?_
  rintro e w3 ⟨v3, rfl, O3, K3⟩
  have G3 := grown_trans G2 K3
  clear CN K3 O3 G2
  go_wp2
  go_ret
  exact ⟨ret_int (by rw [← HE.out, if_pos HQ.out]), G3⟩

end Go.Proofs.YtklipelnjgpnjaaGreatDoor
