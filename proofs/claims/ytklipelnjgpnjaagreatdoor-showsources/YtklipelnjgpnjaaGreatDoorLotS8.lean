import Derived.Test.YtklipelnjgpnjaaGreatDoorSAb
import Derived.Test.YtklipelnjgpnjaaGreatDoorLotS7
import Derived.Deep.RegionHeld3
import Derived.Test.YtklipelnjgpnjaaGreatDoorLotS6
import Derived.Test.YtklipelnjgpnjaaGreatDoorLotS1
import Derived.Laws.CopyOwn
import Derived.Test.YtklipelnjgpnjaaGreatDoorLotS4
set_option maxHeartbeats 64000000
set_option maxRecDepth 100000
namespace Go.Proofs.YtklipelnjgpnjaaGreatDoor
open Go.RowKit
def ptC (p : Pt) : List Value := [.int .i64 (if p.truth = true then 0 else 1), .bool p.fixed, .int .u32 (p.val : Int)]
def pqC (p : Pt) : List Value := [.bool p.truth, .bool p.fixed, .int .u32 (p.val : Int)]
def z6 (c : Pt → List Value) (ps : List Pt) : List Value := ps.flatMap c
theorem as4 (c : Pt → List Value) : z6 c [] = [] := rfl
theorem a38 (c : Pt → List Value) (p : Pt) (ps : List Pt) : z6 c (p :: ps) = c p ++ z6 c ps := rfl
theorem a8w (c : Pt → List Value) (xs ys : List Pt) : z6 c (xs ++ ys) = z6 c xs ++ z6 c ys := by simp only [z6, List.flatMap_append]
theorem a8y (c : Pt → List Value) (p : Pt) : z6 c [p] = c p := by rw [a38, as4, List.append_nil]
theorem a6d {c : Pt → List Value} (hc : ∀ p, (c p).length = 3) (xs : List Pt) : (z6 c xs).length = xs.length * 3 := by
 induction xs with
 | nil => rfl
 | cons x xs ih => rw [a38, List.length_append, ih, List.length_cons, hc]; omega
theorem as3 {c : Pt → List Value} (hc : ∀ p, (c p).length = 3) (xs : List Pt) (i j : Nat) (hi : i < xs.length) (hj : j < 3) : (z6 c xs)[i * 3 + j]? = (c xs[i])[j]? := by
 induction xs generalizing i with
 | nil => simp at hi
 | cons x xs ih =>
  rw [a38]
  have hl := hc x
  cases i with
  | zero => rw [List.getElem?_append_left (by omega)]; simp
  | succ i =>
   rw [List.getElem?_append_right (by omega), hl, show (i + 1) * 3 + j - 3 = i * 3 + j by omega, ih i (by simpa using hi)]
   simp
theorem a2a (p : Pt) : (ptC p).length = 3 := rfl
theorem a5b (p : Pt) : ∀ u ∈ ptC p, u.oneCell' = true := by
 intro u hu
 simp only [ptC, List.mem_cons, List.not_mem_nil, or_false] at hu
 rcases hu with rfl | rfl | rfl <;> rfl
theorem CV.pts {c : Pt → List Value} (hc : ∀ p, (c p).length = 3) {w : World} {ao : Option Addr} {xs : List Pt} (h : CV w ao (z6 c xs)) {k : Nat} (hk : k < xs.length) :
  ∃ b off, ao = some ⟨b, off, none⟩ ∧ ∀ i (hi : i < xs.length), w.rangeAt b (off + i * 3) (c xs[i]) := by
 have hl := a6d hc xs
 obtain ⟨b, off, hao, hcc⟩ := h.addr (k := k * 3) (by omega)
 refine ⟨b, off, hao, fun i hi j v hv => ?_⟩
 have hj : j < 3 := by have := (List.getElem?_eq_some_iff.1 hv).1; rw [hc] at this; exact this
 rw [← as3 hc xs i j hi hj] at hv
 rw [Nat.add_assoc, hcc (i * 3 + j) (by omega), ← hv, List.getElem?_eq_getElem (by omega)]
theorem a8o (op : Int) (w : World) : Calls Tryz.prog 143 #[.int .i64 op] w fun e w' => e = .returned (.bool (Z9 op)) ∧ w = w' := by
 unfold Z9
 obtain ⟨E, hE⟩ : ∃ E : Bool, decide (op = 4 ∨ op = 5) = E := ⟨_, rfl⟩
 rw [hE]
 have HE : Hid (decide (op = 4 ∨ op = 5) = E) := hE
 clear hE
 by_cases h1 : op = 4
 ·have e1 : (op == 4) = true := by simpa using h1
  have HQ : Hid (op = 4) := h1
  clear h1
  go_enter Tryz.func143, Tryz.ntmps143
  go_wp2
  go_ret
  exact ⟨a0a (by rw [← HE.out, decide_eq_true (.inl HQ.out)]), rfl⟩
 ·have e1 : (op == 4) = false := by simpa using h1
  have HQ : Hid (¬ op = 4) := h1
  by_cases h2 : op = 5
  ·have e2 : (op == 5) = true := by simpa using h2
   have HQ2 : Hid (op = 5) := h2
   clear h1 h2
   go_enter Tryz.func143, Tryz.ntmps143
   go_wp2
   go_ret
   exact ⟨a0a (by rw [← HE.out, decide_eq_true (.inr HQ2.out)]), rfl⟩
  ·have e2 : (op == 5) = false := by simpa using h2
   have HQ2 : Hid (¬ op = 5) := h2
   clear h1 h2
   go_enter Tryz.func143, Tryz.ntmps143
   go_wp2
   go_ret
   exact ⟨a0a (by rw [← HE.out, decide_eq_false (fun h => h.elim HQ.out HQ2.out)]), rfl⟩
theorem aE5 (a : Nat) (ha : a ≤ 4294967295) (w : World) : Calls Tryz.prog 110 #[.int .u32 (a : Int)] w fun e w' => e = .returned (.int .u32 (a2z a : Int)) ∧ w = w' := by
 have h : (-(a : Int)) % 4294967296 = (a2z a : Int) := by unfold a2z; omega
 obtain ⟨E, hE⟩ : ∃ E, a2z a = E := ⟨_, rfl⟩
 rw [hE] at h ⊢
 clear hE
 go_enter Tryz.func110, Tryz.ntmps110
 go_wp2
 go_ret
 exact ⟨O6 h, rfl⟩
theorem a2I {x y : Int} (h : x = y) : Ending.returned (.tuple #[.int .u32 x, .bool true]) = .returned (.tuple #[.int .u32 y, .bool true]) := by rw [h]
theorem aU3 {a b : Nat} : (a : Int) * 2 ^ min b 32 % 4294967296 = (a1A a b true : Int) := by
 unfold a1A
 by_cases h : 31 < b
 ·rw [if_pos h, show min b 32 = 32 by omega]
  omega
 ·rw [if_neg h, if_pos rfl, show min b 32 = b by omega]
  simp
theorem aU2 {a b : Nat} (ha : a ≤ 4294967295) : (a : Int) / 2 ^ min b 32 = (a1A a b false : Int) := by
 unfold a1A
 by_cases h : 31 < b
 ·rw [if_pos h, show min b 32 = 32 by omega]
  omega
 ·rw [if_neg h, if_neg (by decide), show min b 32 = b by omega]
  simp
theorem ai2 (op : Int) (a b : Nat) (ha : a ≤ 4294967295) (hb : b ≤ 4294967295) (ho : 1 ≤ op ∧ op ≤ 10) (hz : Z9 op = true → b ≠ 0) (w : World) :
  Calls Tryz.prog 109 #[.int .i64 op, .int .u32 (a : Int), .int .u32 (b : Int)] w fun e w' => e = .returned (.tuple #[.int .u32 (F0 op a b : Int), .bool true]) ∧ w = w' := by
 have e1 := u32_or_nat a b (by omega) (by omega)
 have e2 := u32_and_nat a b (by omega) (by omega)
 have e3 := u32_xor_nat a b (by omega) (by omega)
 have C0 := a8o op w
 have : op = 1 ∨ op = 2 ∨ op = 3 ∨ op = 6 ∨ op = 7 ∨ op = 8 ∨ op = 9 ∨ op = 10 ∨ op = 4 ∨ op = 5 := by omega
 have HB : Hid (b ≤ 4294967295) := hb
 have HA : Hid (a ≤ 4294967295) := ha
 clear ho ha hb
 rcases this with rfl | rfl | rfl | rfl | rfl | rfl | rfl | rfl | rfl | rfl
 ·have h : ((a : Int) + (b : Int)) % 4294967296 = (F0 1 a b : Int) := by simp [F0]
  generalize F0 1 a b = E at *
  clear hz e1 e2 e3
  rw [show Z9 1 = false from rfl] at C0
  go_enter Tryz.func109, Tryz.ntmps109
  go_wp2_with fail
  refine C0.mono ?_
  rintro e w' ⟨rfl, rfl⟩
  go_wp2
  go_ret2
  exact ⟨a2I h, rfl⟩
 ·have h : ((a : Int) - (b : Int)) % 4294967296 = (F0 2 a b : Int) := by have := HB.out; simp [F0]; omega
  generalize F0 2 a b = E at *
  clear hz e1 e2 e3
  rw [show Z9 2 = false from rfl] at C0
  go_enter Tryz.func109, Tryz.ntmps109
  go_wp2_with fail
  refine C0.mono ?_
  rintro e w' ⟨rfl, rfl⟩
  go_wp2
  go_ret2
  exact ⟨a2I h, rfl⟩
 ·have h : ((a : Int) * (b : Int)) % 4294967296 = (F0 3 a b : Int) := by simp [F0]
  generalize F0 3 a b = E at *
  clear hz e1 e2 e3
  rw [show Z9 3 = false from rfl] at C0
  go_enter Tryz.func109, Tryz.ntmps109
  go_wp2_with fail
  refine C0.mono ?_
  rintro e w' ⟨rfl, rfl⟩
  go_wp2
  go_ret2
  exact ⟨a2I h, rfl⟩
 ·have h : bits .and .u32 (a : Int) (b : Int) = (F0 6 a b : Int) := by rw [e2]; simp [F0]
  generalize F0 6 a b = E at *
  clear hz e1 e2 e3
  rw [show Z9 6 = false from rfl] at C0
  go_enter Tryz.func109, Tryz.ntmps109
  go_wp2_with fail
  refine C0.mono ?_
  rintro e w' ⟨rfl, rfl⟩
  go_wp2
  go_ret2
  exact ⟨rfl, rfl⟩
 ·have h : bits .or .u32 (a : Int) (b : Int) = (F0 7 a b : Int) := by rw [e1]; simp [F0]
  generalize F0 7 a b = E at *
  clear hz e1 e2 e3
  rw [show Z9 7 = false from rfl] at C0
  go_enter Tryz.func109, Tryz.ntmps109
  go_wp2_with fail
  refine C0.mono ?_
  rintro e w' ⟨rfl, rfl⟩
  go_wp2
  go_ret2
  exact ⟨rfl, rfl⟩
 ·have h : bits .xor .u32 (a : Int) (b : Int) = (F0 8 a b : Int) := by rw [e3]; simp [F0]
  generalize F0 8 a b = E at *
  clear hz e1 e2 e3
  rw [show Z9 8 = false from rfl] at C0
  go_enter Tryz.func109, Tryz.ntmps109
  go_wp2_with fail
  refine C0.mono ?_
  rintro e w' ⟨rfl, rfl⟩
  go_wp2
  go_ret2
  exact ⟨rfl, rfl⟩
 ·have HV : Hid (F0 9 a b = a1A a b true) := rfl
  obtain ⟨E, hE⟩ : ∃ E, F0 9 a b = E := ⟨_, rfl⟩
  rw [hE] at HV ⊢
  clear hz e1 e2 e3 hE
  rw [show Z9 9 = false from rfl] at C0
  go_enter Tryz.func109, Tryz.ntmps109
  go_wp2_with fail
  refine C0.mono ?_
  rintro e w' ⟨rfl, rfl⟩
  go_wp2
  go_ret2
  exact ⟨a2I (by rw [HV.out]; exact aU3), rfl⟩
 ·have HV : Hid (F0 10 a b = a1A a b false) := rfl
  obtain ⟨E, hE⟩ : ∃ E, F0 10 a b = E := ⟨_, rfl⟩
  rw [hE] at HV ⊢
  clear hz e1 e2 e3 hE
  rw [show Z9 10 = false from rfl] at C0
  go_enter Tryz.func109, Tryz.ntmps109
  go_wp2_with fail
  refine C0.mono ?_
  rintro e w' ⟨rfl, rfl⟩
  go_wp2
  go_ret2
  exact ⟨a2I (by rw [HV.out]; exact aU2 HA.out), rfl⟩
 ·have hb0 : ((b : Int) == 0) = false := by have := hz rfl; simpa using this
  have hb1 : ¬ b = 0 := hz rfl
  have h : (a : Int) / (b : Int) = (F0 4 a b : Int) := by simp [F0]
  have HE : Hid (F0 4 a b ≤ 4294967295) := Nat.le_trans (Nat.div_le_self a b) HA.out
  generalize F0 4 a b = E at *
  clear hz e1 e2 e3
  rw [show Z9 4 = true from rfl] at C0
  go_enter Tryz.func109, Tryz.ntmps109
  go_wp2_with fail
  refine C0.mono ?_
  rintro e w' ⟨rfl, rfl⟩
  go_wp2
  go_ret2
  exact ⟨a2I (by have := HE.out; omega), rfl⟩
 ·have hb0 : ((b : Int) == 0) = false := by have := hz rfl; simpa using this
  have hb1 : ¬ b = 0 := hz rfl
  have h : (a : Int) % (b : Int) = (F0 5 a b : Int) := by simp [F0]
  generalize F0 5 a b = E at *
  clear hz e1 e2 e3
  rw [show Z9 5 = true from rfl] at C0
  go_enter Tryz.func109, Tryz.ntmps109
  go_wp2_with fail
  refine C0.mono ?_
  rintro e w' ⟨rfl, rfl⟩
  go_wp2
  go_ret2
  exact ⟨a2I h, rfl⟩
def a0o (x : Ng) (ps : List Pt) : Value := match a1X x ps with
 | some v => .tuple #[.int .u32 (v : Int), .bool true]
 | none => .tuple #[.int .u32 0, .bool false]
theorem az0 (x : Ng) (ps : List Pt) (v : Value) (w : World) (hk : x.kind = 1) : Calls Tryz.prog 51 #[.agg x.cells.toArray, v] w fun e w' => e = .returned (a0o x ps) ∧ w.grownBy w' none := by
 have e0 : a0o x ps = .tuple #[.int .u32 (x.n : Int), .bool true] := by rw [a0o, a1X, if_pos hk]
 rw [e0]
 clear hk e0
 have HBX := z8 x
 have h1 := NB.alloc w x
 have h3 := World.grownBy_alloc w (.cells x.cells.toArray 43) none
 have c2 := h1.n
 obtain ⟨X, hX⟩ : ∃ X, x.cells.toArray = X := ⟨_, rfl⟩
 rw [hX] at HBX ⊢
 go_enter Tryz.func51, Tryz.ntmps51
 go_upto_region 1 with fail
 rw [← hX] at *
 generalize w.alloc (.cells x.cells.toArray 43) = w1 at *
 generalize w.heap.size = B at *
 clear HBX hX X
 go_wp2
 go_ret2
 exact ⟨rfl, h3⟩
theorem a0Z (x : Ng) (ps : List Pt) (v : Value) (w : World) (hk : x.kind ≠ 1 ∧ x.kind ≠ 4 ∧ x.kind ≠ 5) : Calls Tryz.prog 53 #[.agg x.cells.toArray, v] w fun e w' => e = .returned (a0o x ps) ∧ w.grownBy w' none := by
 have e0 : a0o x ps = .tuple #[.int .u32 0, .bool false] := by rw [a0o, a1X, if_neg hk.1, if_neg hk.2.1, if_neg hk.2.2]
 rw [e0]
 clear hk e0
 have HBX := z8 x
 have h3 := World.grownBy_alloc w (.cells x.cells.toArray 43) none
 obtain ⟨X, hX⟩ : ∃ X, x.cells.toArray = X := ⟨_, rfl⟩
 rw [hX] at HBX ⊢
 go_enter Tryz.func53, Tryz.ntmps53
 go_upto_region 1 with fail
 rw [← hX] at *
 generalize w.alloc (.cells x.cells.toArray 43) = w1 at *
 generalize w.heap.size = B at *
 clear HBX hX X
 go_wp2
 go_ret2
 exact ⟨rfl, h3⟩
theorem aG9 (x : Ng) (p : Pt) (ao : Option Addr) (cap : Nat) (w : World) (C : CV w ao (z6 ptC [p])) (hp : p.val ≤ 4294967295) (hk : x.kind = 5) : Calls Tryz.prog 60 #[.agg x.cells.toArray, .slice ao 1 cap] w fun e w' => e = .returned (a0o x [p]) ∧ w.grownBy w' none := by
 have e0 : a0o x [p] = .tuple #[.int .u32 (a2z p.val : Int), .bool true] := by rw [a0o, a1X, if_neg (by omega), if_neg (by omega), if_pos hk]; rfl
 rw [e0]
 clear hk e0
 have HBX := z8 x
 have h3 := World.grownBy_alloc w (.cells x.cells.toArray 43) none
 obtain ⟨b, o, rfl, hc⟩ := (C.keptNone h3).pts a2a (k := 0) (by simp)
 have c2 := hc 0 (by simp) 2 (.int .u32 (p.val : Int)) rfl
 simp only [Nat.zero_mul, Nat.add_zero] at c2
 clear C hc
 generalize p.val = pv at *
 obtain ⟨X, hX⟩ : ∃ X, x.cells.toArray = X := ⟨_, rfl⟩
 rw [hX] at HBX ⊢
 go_enter Tryz.func60, Tryz.ntmps60
 go_upto_region 1 with fail
 rw [← hX] at *
 generalize w.alloc (.cells x.cells.toArray 43) = w1 at *
 generalize w.heap.size = B at *
 clear HBX hX X
 go_wp2_with fail
 refine (aE5 pv hp _).mono ?_
 rintro e w' ⟨rfl, rfl⟩
 go_wp2
 go_ret2
 exact ⟨rfl, h3⟩
theorem aQ6 (x : Ng) (p q : Pt) (ao : Option Addr) (cap : Nat) (w : World) (C : CV w ao (z6 ptC [p, q])) (hp : p.val ≤ 4294967295) (hq : q.val ≤ 4294967295) (hk : x.kind = 4) (ho : 1 ≤ x.op ∧ x.op ≤ 10) (hz : Z9 x.op = true → q.val ≠ 0) :
  Calls Tryz.prog 59 #[.agg x.cells.toArray, .slice ao 2 cap] w fun e w' => e = .returned (a0o x [p, q]) ∧ w.grownBy w' none := by
 have e0 : a0o x [p, q] = .tuple #[.int .u32 (F0 x.op p.val q.val : Int), .bool true] := by rw [a0o, a1X, if_neg (by omega), if_pos hk]; rfl
 rw [e0]
 clear hk e0
 have HBX := z8 x
 have h1 := NB.alloc w x
 have h3 := World.grownBy_alloc w (.cells x.cells.toArray 43) none
 obtain ⟨b, o, rfl, hc⟩ := (C.keptNone h3).pts a2a (k := 0) (by simp)
 have c2 := hc 0 (by simp) 2 (.int .u32 (p.val : Int)) rfl
 have c5 := hc 1 (by simp) 2 (.int .u32 (q.val : Int)) rfl
 have c1 := h1.op
 simp only [Nat.zero_mul, Nat.add_zero, Nat.one_mul] at c2 c5
 obtain ⟨X, hX⟩ : ∃ X, x.cells.toArray = X := ⟨_, rfl⟩
 rw [hX] at HBX ⊢
 clear C hc
 have CA : ∀ W : World, Calls Tryz.prog 109 #[.int .i64 x.op, .int .u32 (p.val : Int), .int .u32 (q.val : Int)] W fun e w' => e = .returned (.tuple #[.int .u32 (F0 x.op p.val q.val : Int), .bool true]) ∧ w' = W := fun W => (ai2 x.op p.val q.val hp hq ho hz W).mono fun e w' h => ⟨h.1, h.2.symm⟩
 generalize F0 x.op p.val q.val = E at *
 generalize p.val = pv at *
 generalize q.val = qv at *
 clear hp hq ho hz
 go_enter Tryz.func59, Tryz.ntmps59
 go_upto_region 1 with fail
 rw [← hX] at *
 generalize w.alloc (.cells x.cells.toArray 43) = w1 at *
 generalize w.heap.size = B at *
 clear HBX hX X h1
 generalize x.op = op at *
 go_quiet ((go_at_call 109; exact Calls.quiet_of_same (CA _)))
 go_wp2
 go_ret2
 exact ⟨rfl, d3 h3 (f4 _ _ none)⟩
def a1K (l : Int) : Nat := min l.toNat 8
def ae6 (k : Nat) : Nat := 255 - 255 / 2 ^ k
theorem ah8 : ∀ (x : Fin 256) (k : Fin 9), bits .and .u8 ((x.val : Nat) : Int) ((ae6 k.val : Nat) : Int) = (((a0Y k.val (UInt8.ofNat x.val)).toNat : Nat) : Int) := by decide +kernel
theorem aD5 (l : Int) (w : World) :
  Calls Tryz.prog 144 #[.int .i64 l] w fun e w' => e = .returned (.int .u8 ((ae6 (a1K l) : Nat) : Int)) ∧ w = w' := by
 by_cases h0 : l ≤ 0
 ·have e : a1K l = 0 := by unfold a1K; omega
  rw [e]
  have h1 : ¬ l > 0 := by omega
  have h2 : (if (0 : Int) > l then (0 : Int) else l) = 0 := by split <;> omega
  go_enter Tryz.func144, Tryz.ntmps144
  go_wp2
  go_ret
  first | exact ⟨rfl, rfl⟩ | (refine ⟨?_, rfl⟩; rw [show max l 0 = 0 by omega]; rfl)
 ·by_cases h8 : 8 ≤ l
  ·have e : a1K l = 8 := by unfold a1K; omega
   rw [e]
   have h2 : (if (0 : Int) > l then (0 : Int) else l) = l := by split <;> omega
   have h3 : (if (8 : Int) < l then (8 : Int) else l) = 8 := by split <;> omega
   go_enter Tryz.func144, Tryz.ntmps144
   go_wp2
   go_ret
   first | exact ⟨rfl, rfl⟩ | (refine ⟨?_, rfl⟩; rw [show max l 0 = l by omega, show min l 8 = 8 by omega]; rfl)
  ·have : l = 1 ∨ l = 2 ∨ l = 3 ∨ l = 4 ∨ l = 5 ∨ l = 6 ∨ l = 7 := by omega
   clear h0 h8
   rcases this with rfl | rfl | rfl | rfl | rfl | rfl | rfl
   all_goals
    go_enter Tryz.func144, Tryz.ntmps144
    go_wp2
    go_ret
    exact ⟨rfl, rfl⟩
theorem b0i (k : Nat) (x : UInt8) (h : 8 ≤ k) : a0Y k x = a0Y 8 x := by
 unfold a0Y
 rw [if_neg (by omega), if_neg (by omega), if_neg (by omega), if_neg (by omega)]
theorem b0h (n j : Nat) (x : UInt8) : a0Y (a1K ((n : Int) - 8 * (j : Int))) x = a0Y (n - 8 * j) x := by
 have e : ((n : Int) - 8 * (j : Int)).toNat = n - 8 * j := by omega
 unfold a1K
 rw [e]
 by_cases h : 8 ≤ n - 8 * j
 ·rw [show min (n - 8 * j) 8 = 8 by omega, ← b0i _ x h]
 ·rw [show min (n - 8 * j) 8 = n - 8 * j by omega]
def a1m (n : Nat) (xs : List UInt8) (j : Nat) : List UInt8 := (a06 n xs).take j ++ List.replicate (xs.length - j) 0
theorem aH1 (n : Nat) (xs : List UInt8) (j : Nat) (h : j < xs.length) : a1m n xs (j + 1) = (a1m n xs j).set j (a0Y (n - 8 * j) xs[j]) := by
 have hl : (List.take j (a06 n xs)).length = j := by rw [List.length_take, a26]; omega
 unfold a1m
 rw [List.set_append_right _ _ (by omega), hl, Nat.sub_self, List.take_succ_eq_append_getElem (by rw [a26]; exact h), aD6 n xs j h, show xs.length - j = (xs.length - (j + 1)) + 1 by omega, List.replicate_succ, List.set_cons_zero]
 simp
theorem aH2 (a : Option Addr) (ca : Nat) (xs : List UInt8) (bits : Int) (w : World) (ha : Cells w a xs) (hc0 : a = none → ca = 0) (hx : xs.length ≤ 140737488355328) :
  Calls Tryz.prog 114 #[.slice a xs.length ca, .int .i64 bits] w fun e w' => ∃ v, e = .returned (.tuple #[v, .int .i64 (a1l xs.length bits)]) ∧ o9 w' w.heap.size v (a1R xs bits) ∧ w.grownBy w' none := by
 obtain ⟨i0, hi, hz0, hz1, hz2⟩ := info_parts a1i
 by_cases h4 : xs.length ≠ 4 ∧ xs.length ≠ 16
 ·have e : a1l xs.length bits = 60 := by rw [a1l, if_pos h4]
  have e2 : a1R xs bits = [] := by rw [a1R, if_neg (by rw [e]; decide)]
  rw [e, e2]
  have b1 : ((xs.length : Int) != 4) = true := by rw [bne_iff_ne]; omega
  have b2 : ((xs.length : Int) != 16) = true := by rw [bne_iff_ne]; omega
  clear ha e e2
  go_enter Tryz.func114, Tryz.ntmps114
  go_wp2
  go_ret2
  exact ⟨_, rfl, World.ownsRow_nil _ _ _ _, World.grownBy.refl _ _⟩
 ·have hlen : xs.length = 4 ∨ xs.length = 16 := by omega
  have hb : ((xs.length : Int) != 4) = false ∨ (((xs.length : Int) != 4) = true ∧ ((xs.length : Int) != 16) = false) := by
   rcases hlen with h | h
   ·left; rw [h]; rfl
   ·right; rw [h]; exact ⟨rfl, rfl⟩
  have hl16 : xs.length ≤ 16 := by omega
  by_cases hbad : bits < 0 ∨ 8 * (xs.length : Int) < bits
  ·have e : a1l xs.length bits = 61 := by rw [a1l, if_neg h4, if_pos hbad]
   have e2 : a1R xs bits = [] := by rw [a1R, if_neg (by rw [e]; decide)]
   rw [e, e2]
   have hbb : bits < 0 ∨ (¬ bits < 0 ∧ 8 * (xs.length : Int) < bits) := by omega
   clear ha e e2 h4 hlen hbad
   rcases hb with hb | ⟨hb, hb2⟩
   all_goals
    rcases hbb with hq | ⟨hq, hq2⟩
    all_goals
     go_enter Tryz.func114, Tryz.ntmps114
     go_wp2
     go_ret2
     exact ⟨_, rfl, World.ownsRow_nil _ _ _ _, World.grownBy.refl _ _⟩
  ·have e : a1l xs.length bits = 0 := by rw [a1l, if_neg h4, if_neg hbad]
   have e2 : a1R xs bits = a06 bits.toNat xs := by rw [a1R, if_pos e]
   rw [e, e2]
   have hq : ¬ bits < 0 := by omega
   have hq2 : ¬ 8 * (xs.length : Int) < bits := by omega
   obtain ⟨n, rfl⟩ := Int.eq_ofNat_of_zero_le (show 0 ≤ bits by omega)
   rw [Int.toNat_natCast]
   have H : Hid (Cells w a xs) := ha
   have hn : n ≤ 128 := by omega
   clear ha e e2 h4 hlen hbad
   rcases hb with hb | ⟨hb, hb2⟩
   all_goals
    go_enter Tryz.func114, Tryz.ntmps114
    go_wp2_with (at_make; refine wpList_make_full _ rfl (.tmp 27) (.tmp 27) 115 rfl w.heap.size 5 i0 (.int .u8 0) 1 Tryz.underlying115 hi hz0 hz1 .i64 .i64 (xs.length : Int) (xs.length : Int) xs.length rfl rfl rfl rfl ?q1 ?q2 ?q3 ?q4)
    case q1 => omega
    case q2 => unfold maxLen; omega
    case q4 =>
     intro w2 h2 K2
     rw [toList_madeCells_one] at h2
     have R2 : w2.ownsRow w.heap.size 5 1 (.slice (some ⟨w.heap.size, 0, none⟩) xs.length xs.length) xs.length ((a1m n xs 0).map bv) := by
      have : a1m n xs 0 = List.replicate xs.length 0 := by simp [a1m]
      rw [this]
      simpa [bv] using h2
     clear h2
     obtain ⟨g, hg, hgw⟩ : ∃ g, w.heap.size = g ∧ w.heap.size ≤ g := ⟨_, rfl, Nat.le_refl _⟩
     rw [show (Value.slice (some ⟨w.heap.size, 0, none⟩) xs.length xs.length) = .slice (some ⟨g, 0, none⟩) xs.length xs.length by rw [hg]] at R2
     rw [show (Value.slice (some ⟨w.heap.size, 0, none⟩) xs.length xs.length) = .slice (some ⟨g, 0, none⟩) xs.length xs.length by rw [hg]]
     clear hg
     go_wp2
     go_loopw [31] (fun i wr => ∃ j : Nat, j ≤ xs.length ∧ i = .int .i64 j ∧ wr.ownsRow w.heap.size 5 1 (.slice (some ⟨g, 0, none⟩) xs.length xs.length) xs.length ((a1m n xs j).map bv) ∧ w.grownBy wr none) (fun i _ => xs.length - (intOf i).toNat)
     case atStart => exact ⟨0, Nat.zero_le _, rfl, R2, K2⟩
     case round =>
      clear R2 K2
      obtain ⟨j, hj, rfl, R, G⟩ := hrel
      by_cases hlt : j < xs.length
      ·have hl : (j : Int) < (xs.length : Int) := by omega
       obtain ⟨b, o, rfl, hc⟩ := H.out.addr hlt
       have hcj : wr.cell? ⟨b, o + j, none⟩ = some (.int .u8 (xs[j].toNat : Int)) := G.cell (hc j hlt) (by simp)
       have bl := (N7.ofRow R).1
       have hfr := bl.free j
       obtain ⟨u0, hu0⟩ := bl.cell (i := j) (by omega)
       have hy := xs[j].toNat_lt
       have HB := ah8 ⟨xs[j].toNat, hy⟩ ⟨a1K ((n : Int) - 8 * (j : Int)), by unfold a1K; omega⟩
       rw [b0h] at HB
       simp only [UInt8.ofNat_toNat] at HB
       have R3 := (R.stored j (.int .u8 ((a0Y (n - 8 * j) xs[j]).toNat : Int))).1
       rw [show (((a1m n xs j).map bv).set j (.int .u8 ((a0Y (n - 8 * j) xs[j]).toNat : Int))) = (a1m n xs (j + 1)).map bv by rw [aH1 n xs j hlt, List.map_set]; rfl] at R3
       have G3 := T3 G ⟨g, j, none⟩ (.int .u8 ((a0Y (n - 8 * j) xs[j]).toNat : Int)) (.inr hgw)
       generalize (a0Y (n - 8 * j) xs[j]).toNat = t at *
       generalize xs[j].toNat = y at *
       clear hc bl R G
       go_wp2_with (go_at_call 144; refine (aD5 _ _).mono ?_; rintro e w' ⟨rfl, rfl⟩)
       go_roundw
       case rel => exact ⟨j + 1, by omega, by go_num, R3, G3⟩
       case measure => simp [intOf]; omega
      ·obtain rfl : j = xs.length := by omega
       have R4 : o9 wr w.heap.size (.slice (some ⟨g, 0, none⟩) xs.length xs.length) (a06 n xs) := by
        unfold o9
        rw [a26]
        have : a1m n xs xs.length = a06 n xs := by
         unfold a1m
         rw [Nat.sub_self, List.replicate_zero, List.append_nil, List.take_of_length_le (by rw [a26]; exact Nat.le_refl _)]
        rw [this] at R
        exact R
       go_wp2
       go_ret2
       exact ⟨_, rfl, R4, G⟩
theorem aa8 {P : Program} {w : World} {ao : Option Addr} {cap : Nat} {ys : List UInt8} (hc : Cells w ao ys) (src dst : TypeId) (hs : P.underlying src = some (.slice 5)) (he : P.underlying 5 = some (.int .u8)) (hd : P.underlying dst = some .string) :
  (convert src dst (.slice ao ys.length cap)).run P w = .ok (.string ⟨ys.toArray⟩) w := by
 cases ao with
 | none =>
  have e := hc.1 rfl
  subst e
  show (convert src dst (.slice none 0 cap)).run P w = _
  rw [run_convert_bytes_string w src dst 5 none 0 cap hs he hd]
  simp [Conv.bytesToString]
  rfl
 | some ad => exact run_convert_bytes_back w src dst 5 ad cap ys hs he hd (fun j hj => hc.2 ad rfl j hj)
theorem ar2 (a b : Option Addr) (ca cb : Nat) (xs ys : List UInt8) (w : World) (ha : Cells w a xs) (hb : Cells w b ys) :
  Calls Tryz.prog 115 #[.slice a xs.length ca, .slice b ys.length cb] w fun e w' => e = .returned (.bool (decide (xs = ys))) ∧ w = w' := by
 have h1 := aa8 (P := Tryz.prog) (cap := ca) ha 115 9 Tryz.underlying115 Tryz.underlying5 Tryz.underlying9
 have h2 := aa8 (P := Tryz.prog) (cap := cb) hb 115 9 Tryz.underlying115 Tryz.underlying5 Tryz.underlying9
 clear ha hb
 obtain ⟨S, hS⟩ : ∃ S : ByteArray, ⟨xs.toArray⟩ = S := ⟨_, rfl⟩
 obtain ⟨T, hT⟩ : ∃ T : ByteArray, ⟨ys.toArray⟩ = T := ⟨_, rfl⟩
 have e : decide (xs = ys) = (S.toList == T.toList) := by
  rw [← hS, ← hT, ByteArray.toList_eq, ByteArray.toList_eq]
  show decide (xs = ys) = (xs == ys)
  by_cases h : xs = ys
  ·subst h; simp
  ·rw [decide_eq_false h, Eq.comm, beq_eq_false_iff_ne]; exact h
 rw [e]
 rw [hS] at h1
 rw [hT] at h2
 clear hS hT e
 go_enter Tryz.func115, Tryz.ntmps115
 go_wp2
 go_ret
 exact ⟨rfl, rfl⟩
theorem a0F (x : Ng) : (l0 x).length = 16 := rfl
theorem a4p (x : Ng) : (o4 x).length = if x.of = 2 then 4 else 16 := by
 unfold o4
 split <;> simp [a0F]
theorem aQ4 {w : World} {b o : Nat} {xs : List UInt8} (h : w.rangeAt b o (xs.map bv)) : Cells w (some ⟨b, o, none⟩) xs := by
 refine ⟨fun e => (by cases e), fun ad had j hj => ?_⟩
 cases had
 rw [Addr.add_lit]
 exact h j _ (by simp [hj])
theorem aQ5 {w : World} {b o n : Nat} {xs : List UInt8} (h : Cells w (some ⟨b, o, none⟩) xs) : Cells w (some ⟨b, o, none⟩) (xs.take n) := by
 refine ⟨fun e => (by cases e), fun ad had j hj => ?_⟩
 rw [List.length_take] at hj
 rw [h.2 ad had j (by omega), List.getElem_take]
theorem a7C (x : Ng) (w : World) : Calls Tryz.prog 112 #[.agg x.cells.toArray] w fun e w' => ∃ B, e = .returned (.slice (some ⟨B, 7, none⟩) (o4 x).length 16) ∧ Cells w' (some ⟨B, 7, none⟩) (o4 x) ∧ w.heap.size ≤ B ∧ w.grownBy w' none := by
 have HBX := z8 x
 have h1 := NB.alloc w x
 have h3 := World.grownBy_alloc w (.cells x.cells.toArray 43) none
 have c5 := h1.of
 have HA : Hid (Cells _ _ (l0 x)) := aQ4 h1.addr
 have HB : Hid (w.heap.size ≤ w.heap.size) := Nat.le_refl _
 obtain ⟨L, hL⟩ : ∃ L, (o4 x).length = L := ⟨_, rfl⟩
 rw [hL]
 have HL : Hid ((o4 x).length = L) := hL
 clear hL
 obtain ⟨X, hX⟩ : ∃ X, x.cells.toArray = X := ⟨_, rfl⟩
 rw [hX] at HBX ⊢
 by_cases q : x.of = 2
 ·have HQ : Hid (o4 x = (l0 x).take 4) := by show o4 x = _; rw [o4, if_pos q]
  have e1 : (x.of == 2) = true := by simpa using q
  have HL2 : Hid (L = 4) := by show L = 4; rw [← HL.out, HQ.out]; rfl
  clear q
  go_enter Tryz.func112, Tryz.ntmps112
  go_upto_region 1 with fail
  rw [← hX] at *
  generalize w.alloc (.cells x.cells.toArray 43) = w1 at *
  obtain ⟨B, hB⟩ : ∃ B, w.heap.size = B := ⟨_, rfl⟩
  have HB2 : Hid (w.heap.size ≤ B) := Nat.le_of_eq hB
  rw [hB] at c5 HA ⊢
  clear HBX hX X h1 HB hB
  go_wp2
  go_ret
  refine ⟨B, ?_, ?_, HB2.out, h3⟩
  ·rw [HL2.out]; rfl
  ·rw [HQ.out]; exact aQ5 HA.out
 ·have HQ : Hid (o4 x = l0 x) := by show o4 x = _; rw [o4, if_neg q]
  have e1 : (x.of == 2) = false := by simpa using q
  have HL2 : Hid (L = 16) := by show L = 16; rw [← HL.out, HQ.out]; rfl
  clear q
  go_enter Tryz.func112, Tryz.ntmps112
  go_upto_region 1 with fail
  rw [← hX] at *
  generalize w.alloc (.cells x.cells.toArray 43) = w1 at *
  obtain ⟨B, hB⟩ : ∃ B, w.heap.size = B := ⟨_, rfl⟩
  have HB2 : Hid (w.heap.size ≤ B) := Nat.le_of_eq hB
  rw [hB] at c5 HA ⊢
  clear HBX hX X h1 HB hB
  go_wp2
  go_ret
  refine ⟨B, ?_, ?_, HB2.out, h3⟩
  ·rw [HL2.out]; rfl
  ·rw [HQ.out]; exact HA.out
def a0C (x : Ng) : List UInt8 := splice ((f7 16)) 0 (o4 x)
theorem ax0 (x : Ng) : (inG x.of 2 3 && inG x.side 0 2 && decide (l0 x = a0C x)) = a1y x := by
 unfold a1y a0C o4
 by_cases h : x.of = 2
 ·rw [if_pos h]
  have e : (x.of == 3) = false := by rw [h]; rfl
  rw [e, Bool.false_or]
  congr 1
  apply decide_eq_decide.2
  constructor
  ·intro h2
   have := congrArg (List.drop 4) h2
   simpa [splice, f7, a0F] using this
  ·intro h2
   have : splice (f7 16) 0 ((l0 x).take 4) = (l0 x).take 4 ++ f7 12 := by simp [splice, f7, a0F]
   rw [this, ← h2, List.take_append_drop]
 ·rw [if_neg h]
  have : splice (f7 16) 0 (l0 x) = l0 x := by simp [splice, f7, a0F]
  rw [this, decide_eq_true rfl, Bool.and_true]
  by_cases h3 : x.of = 3
  ·rw [h3]; simp
  ·have : inG x.of 2 3 = false := by unfold inG; by_cases h4 : (2 : Int) ≤ x.of <;> simp [h4] <;> omega
   rw [this]; rfl
theorem al3 (W : World) : (Instr.alloc 41 true (.tuple #[])).run Tryz.prog W = .ok (.pointer (some ⟨W.heap.size, 0, none⟩)) (W.alloc (.cells ((f7 16).map bv).toArray 41)) := by kernel_rfl
theorem aX3 : (Tryz.prog.info? 5).map (·.size) = some 1 := by kernel_rfl
theorem aX4 (xs : List UInt8) (h : xs.length = 16) : (Tryz.prog.info? 41).map (·.size) = some (xs.map bv).toArray.size := by rw [List.size_toArray, List.length_map, h]; kernel_rfl
theorem a9G (x : Ng) : (a0C x).length = 16 := by
 have := a4p x
 unfold a0C
 simp only [splice, f7]
 rw [List.length_append, List.length_append, List.length_take, List.length_drop, List.length_replicate]
 split at this <;> omega
theorem aK7 (x : Ng) : splice ((f7 16).map bv) 0 ((o4 x).map bv) = (a0C x).map bv := by simp [a0C, splice, f7]
theorem ah3 (x : Ng) (w : World) : (Op.equalIn 10000 41 (.agg ((l0 x).map bv).toArray) (.agg ((a0C x).map bv).toArray)).run Tryz.prog w = .ok (decide (l0 x = a0C x)) w := by
 obtain ⟨i0, hi, -⟩ := info_parts a1i
 exact ar1 Tryz.underlying41 hi Tryz.underlying5 (by kernel_rfl) (by kernel_rfl) _ _ (a0F x) (a9G x) w
theorem a2T {P : Program} {ops : Array Oper} {rest : List Oper} {op : Oper} {a : Act} {w : World} {Q : Exit → Act → World → Prop} (hw : Region.wanted op (yielded ops a.tmps) = true) (ty : TypeId) (x : Operand) (ho : op.op = .load ty x)
  (b o : Nat) (hx : a.eval x = .pointer (some ⟨b, o, none⟩)) (cs : List Value) (d : TypeDesc) (hc : w.rangeAt b o cs)
  (hu : P.underlying ty = some d) (hd : d.isRow = true) (hi : (P.info? ty).map (·.size) = some cs.length)
  (h : wpList P ops Q rest (a.put op.dst (.agg cs.toArray)) w) : wpList P ops Q (op :: rest) a w :=
 BigFrame.wpList_want hw fun _ hK => wp_load_mid ty x ho b o hx cs d hc hu hd hi (hK _ _ h)
theorem a9q (x : Ng) (w : World) : Calls Tryz.prog 72 #[.agg x.cells.toArray] w fun e w' => e = .returned (.bool (a1y x)) ∧ w.grownBy w' none := by
 rw [← ax0]
 obtain ⟨E, hE⟩ : ∃ E : Bool, (inG x.of 2 3 && inG x.side 0 2 && decide (l0 x = a0C x)) = E := ⟨_, rfl⟩
 rw [hE]
 have HE : Hid ((inG x.of 2 3 && inG x.side 0 2 && decide (l0 x = a0C x)) = E) := hE
 clear hE
 have HBX := z8 x
 have HAR := al3
 have HZ : Hid ((Tryz.prog.info? 43).map (·.size) = some x.cells.toArray.size) := I9 x
 have HAD : Hid (∀ W : World, Calls Tryz.prog 112 #[.agg x.cells.toArray] W fun e w' => ∃ B, e = .returned (.slice (some ⟨B, 7, none⟩) (o4 x).length 16) ∧ Cells w' (some ⟨B, 7, none⟩) (o4 x) ∧ W.heap.size ≤ B ∧ W.grownBy w' none) := fun W => a7C x W
 have HC1 : Hid (∀ W : World, Calls Tryz.prog 68 #[.agg x.cells.toArray] W fun e w' => e = .returned (.bool (inG x.of 2 3)) ∧ W.grownBy w' none) := fun W => a9r x W
 have HC2 : Hid (∀ W : World, Calls Tryz.prog 113 #[.agg x.cells.toArray] W fun e w' => e = .returned (.bool (inG x.side 0 2)) ∧ W.grownBy w' none) := fun W => a9s x W
 have HEQ := ah3 x
 have HLA : Hid ((o4 x).length ≤ 16 ∧ (o4 x).length = Nat.min (o4 x).length 16) := by
  have := a4p x
  have h : (o4 x).length ≤ 16 := by rw [this]; split <;> omega
  exact ⟨h, (Nat.min_eq_left h).symm⟩
 obtain ⟨X, hX⟩ : ∃ X, x.cells.toArray = X := ⟨_, rfl⟩
 have HXX : Hid (x.cells.toArray = X) := hX
 rw [hX] at HBX HZ HAD HC1 HC2 ⊢
 have V1 := VAt.alloc w 43 X
 have G1 := World.grownBy_alloc w (.cells X 43) none
 go_enter Tryz.func72, Tryz.ntmps72
 go_upto_region 1 with fail
 generalize w.alloc (.cells X 43) = w1 at *
 obtain ⟨B, hB⟩ : ∃ B, w.heap.size = B := ⟨_, rfl⟩
 have HB2 : Hid (w.heap.size ≤ B) := Nat.le_of_eq hB
 rw [hB] at V1 ⊢
 clear HBX hX hB
 have V2 := VAt.alloc w1 41 ((f7 16).map bv).toArray
 have G2 := World.grownBy_alloc w1 (.cells ((f7 16).map bv).toArray 41) none
 go_upto_region 2 with fail
 rw [show #[.int .u8 0, .int .u8 0, .int .u8 0, .int .u8 0, .int .u8 0, .int .u8 0, .int .u8 0, .int .u8 0, .int .u8 0, .int .u8 0, .int .u8 0, .int .u8 0, .int .u8 0, .int .u8 0, .int .u8 0, .int .u8 0] = ((f7 16).map bv).toArray from rfl]
 generalize w1.alloc (.cells ((f7 16).map bv).toArray 41) = w2 at *
 obtain ⟨A, hA⟩ : ∃ A, w1.heap.size = A := ⟨_, rfl⟩
 have HA : Hid (B < A ∧ w.heap.size ≤ A) := by have := V1.lt; have := HB2.out; exact ⟨by omega, by omega⟩
 rw [hA] at V2 ⊢
 have HS0 : Hid (VAt w2.drew B 43 X ∧ VAt w2.drew A 41 ((f7 16).map bv).toArray ∧ w.grownBy w2.drew none) := ⟨(V1.kept G2).kept (f4 w2 1 none), V2.kept (f4 w2 1 none), d3 G1 (d3 G2 (f4 w2 1 none))⟩
 clear hA V1 V2 G1 G2 HAR
 refine wp_region_held_drew (S := fun W => VAt W B 43 X) (by kernel_rfl) HS0.out.1 (fun hHeld => ?_)
 refine wpT (i := 0) (v := .slice (some ⟨A, 0, none⟩) 16 16) rfl (Or.inl ⟨by rfl, fun W hW => ?_⟩) hHeld ?_
 ·clear hW
  go_simp
 try simp only [Act.put, a0, a1, a3, a4, a5]
 refine wpT (i := 1) (v := .agg X) rfl (M6 (by rfl) _ _ rfl B rfl 43 X _ (fun W hW => hW) Tryz.underlying43 rfl HZ.out) hHeld ?_
 try simp only [Act.put, a0, a1, a2, a3, a4, a5]
 refine wpR (rs := [2]) (AllReadyH.cons rfl (fun K hK => ?_) AllReadyH.nil)
 go_simp
 refine (HAD.out _).mono ?_
 rintro e wc ⟨B2, rfl, C2, hB2, K2⟩
 go_wp2_with fail
 have V2 := HS0.out.2.1.kept K2
 have G2 := d3 HS0.out.2.2 K2
 refine hK.out _ _ (hHeld.kept K2) (fun hHeld => ?_)
 clear hK K K2 HS0
 try simp only [Act.put, a0, a1, a2, a3, a4, a5]
 refine wpR (rs := [3]) (AllReadyH.cons rfl (fun K hK => ?_) AllReadyH.nil)
 refine step_copy_splice rfl (.tmp 4) (.tmp 6) 115 115 rfl 5 Tryz.underlying115 aX3 (some ⟨A, 0, none⟩) (some ⟨B2, 7, none⟩) 16 16 (o4 x).length 16 rfl rfl A 0 ((f7 16).map bv) 41 V2 ((o4 x).map bv) (by rw [List.length_map]; exact HLA.out.2) (fun _ => ⟨rfl, _, rfl, ?_⟩) (by rw [List.length_map, List.length_map, b1i]; have := HLA.out.1; omega) (a0H _) A wc (Below.refl _ _) (Nat.le_refl _) ?_
 ·intro j v hv
  obtain ⟨hlt, e⟩ := List.getElem?_eq_some_iff.1 hv
  rw [List.length_map] at hlt
  rw [C2.2 _ rfl j hlt, ← e]
  simp
 intro w3 hc3 hb3
 have V3 : VAt w3 B 43 X := by have := hb3.block B HA.out.1; unfold VAt; rw [this]; exact hHeld
 have P3 : VAt w3 A 41 ((a0C x).map bv).toArray := by have := hc3.out; rw [aK7] at this; exact this
 have G3 : w.grownBy w3 none := ⟨hb3.os.trans G2.os, hb3.tape.trans G2.tape, hb3.output.trans G2.output, Nat.le_trans G2.size hb3.size, fun k hk _ => (hb3.block k (Nat.lt_of_lt_of_le hk HA.out.2)).trans (G2.block k hk (by simp))⟩
 refine hK.out _ _ V3 (fun hHeld => ?_)
 clear hK K hb3 hc3 G2 V2 C2 hB2
 try simp only [Act.put, a0, a1, a2, a3, a4, a5]
 refine wpAnyH_done (by kernel_rfl) ?_ _
 clear hHeld
 have LV := V3
 have HV3 : Hid (VAt w3 B 43 X ∧ VAt w3 A 41 ((a0C x).map bv).toArray) := ⟨V3, P3⟩
 have HZA : Hid ((Tryz.prog.info? 41).map (·.size) = some ((a0C x).map bv).toArray.size) := aX4 _ (a9G x)
 have HZB : Hid ((Tryz.prog.info? 41).map (·.size) = some ((l0 x).map bv).length) := a5p x
 clear V3 P3 HAD HLA
 go_wp2_with (refine wpList_load_row rfl 43 (.tmp 1) rfl B rfl 43 X (0, 0) _ LV Tryz.underlying43 rfl HZ.out ?_)
 refine (HC1.out _).mono ?_
 rintro e w4 ⟨rfl, K4⟩
 have LV := HV3.out.1.kept K4
 have G4 := d3 G3 K4
 cases q1 : inG x.of 2 3 with
 | false =>
  have HQ : Hid (inG x.of 2 3 = false) := q1
  clear q1
  go_wp2
  go_ret
  exact ⟨a0a (by rw [← HE.out, HQ.out]; rfl), G4⟩
 | true =>
  have HQ : Hid (inG x.of 2 3 = true) := q1
  clear q1
  go_wp2_with (refine a5F (by rfl) 43 (.tmp 1) rfl B rfl 43 X (0, 0) _ LV Tryz.underlying43 rfl HZ.out ?_)
  refine (HC2.out _).mono ?_
  rintro e w5 ⟨rfl, K5⟩
  have LV5 := LV.kept K5
  have LA5 := (HV3.out.2.kept K4).kept K5
  have G5 := d3 G4 K5
  have HR : Hid (w5.rangeAt B 7 ((l0 x).map bv)) := by
   have : NB w5 B x := by unfold NB; rw [HXX.out]; exact LV5
   exact this.addr
  clear LV K4 K5
  cases q2 : inG x.side 0 2 with
  | false =>
   have HQ2 : Hid (inG x.side 0 2 = false) := q2
   clear q2
   go_wp2
   go_ret
   exact ⟨a0a (by rw [← HE.out, HQ.out, HQ2.out]; rfl), G5⟩
  | true =>
   have HQ2 : Hid (inG x.side 0 2 = true) := q2
   clear q2
   go_wp2_with (first | refine a5F (by rfl) 41 (.tmp 3) rfl A rfl 41 ((a0C x).map bv).toArray (0, 0) _ LA5 Tryz.underlying41 rfl HZA.out ?_ | refine a2T (by rfl) 41 (.tmp 15) rfl B 7 rfl ((l0 x).map bv) _ HR.out Tryz.underlying41 rfl HZB.out ?_)
   go_ret
   exact ⟨a0a (by rw [← HE.out, HQ.out, HQ2.out]; rfl), G5⟩
theorem aH0 (x : Ng) (b : Int) : a1l (o4 x).length b = if ¬ (0 ≤ b ∧ b ≤ 8 * ((o4 x).length : Int)) then 61 else 0 := by
 have h := a4p x
 have h4 : ¬ ((o4 x).length ≠ 4 ∧ (o4 x).length ≠ 16) := by split at h <;> omega
 rw [a1l, if_neg h4]
 by_cases hb : b < 0 ∨ 8 * ((o4 x).length : Int) < b
 ·rw [if_pos hb, if_pos (by omega)]
 ·rw [if_neg hb, if_neg (by omega)]
theorem al9 (x : Ng) (w : World) (hk : x.kind = 15) : Calls Tryz.prog 74 #[.agg x.cells.toArray] w fun e w' => e = .returned (.int .i64 (o7 x)) ∧ w.grownBy w' none := by
 obtain ⟨E, hE⟩ : ∃ E : Int, o7 x = E := ⟨_, rfl⟩
 rw [hE]
 have HE : Hid ((if ¬ (0 ≤ x.bits ∧ x.bits ≤ 8 * ((o4 x).length : Int)) then 124 else if a06 x.bits.toNat (o4 x) = o4 x then 0 else 125) = E) := by
  have := hE
  rw [o7, if_neg (show ¬ x.kind = 3 by omega), if_neg (show ¬ x.kind = 12 by omega), if_neg (show ¬ x.kind = 13 by omega), if_neg (show ¬ x.kind = 16 by omega), if_pos hk] at this
  exact this
 clear hE hk
 have HBX := z8 x
 have HZ : Hid ((Tryz.prog.info? 43).map (·.size) = some x.cells.toArray.size) := I9 x
 have HAD : Hid (∀ W : World, Calls Tryz.prog 112 #[.agg x.cells.toArray] W fun e w' => ∃ B, e = .returned (.slice (some ⟨B, 7, none⟩) (o4 x).length 16) ∧ Cells w' (some ⟨B, 7, none⟩) (o4 x) ∧ W.heap.size ≤ B ∧ W.grownBy w' none) := fun W => a7C x W
 have HLA : Hid ((o4 x).length ≤ 16) := by
  have := a4p x
  show _ ≤ _
  rw [this]; split <;> omega
 have HNE : Hid _ := aH0 x x.bits
 obtain ⟨X, hX⟩ : ∃ X, x.cells.toArray = X := ⟨_, rfl⟩
 have HXX : Hid (x.cells.toArray = X) := hX
 rw [hX] at HBX HZ HAD ⊢
 have V1 := VAt.alloc w 43 X
 have G1 := World.grownBy_alloc w (.cells X 43) none
 go_enter Tryz.func74, Tryz.ntmps74
 go_upto_region 1 with fail
 generalize w.alloc (.cells X 43) = w1 at *
 generalize w.heap.size = B at V1 ⊢
 clear HBX hX
 go_wp2_with (refine wpList_load_row rfl 43 (.tmp 1) rfl B rfl 43 X (0, 0) _ V1 Tryz.underlying43 rfl HZ.out ?_)
 refine (HAD.out _).mono ?_
 rintro e w2 ⟨B2, rfl, C2, -, K2⟩
 have c8 : w2.cell? ⟨B, 23, none⟩ = some (.int .i64 x.bits) := by
  have : NB w2 B x := by unfold NB; rw [HXX.out]; exact V1.kept K2
  exact this.bits
 have G2 := d3 G1 K2
 have CN := aH2 (some ⟨B2, 7, none⟩) 16 (o4 x) x.bits w2 C2 (by simp) (by have := HLA.out; omega)
 have HC2 : Hid (Cells w2 (some ⟨B2, 7, none⟩) (o4 x)) := C2
 clear V1 G1 K2 HAD C2
 rw [HNE.out] at CN
 by_cases hb : 0 ≤ x.bits ∧ x.bits ≤ 8 * ((o4 x).length : Int)
 ·rw [if_neg (fun h => h hb)] at CN
  have HQ : Hid (0 ≤ x.bits ∧ x.bits ≤ 8 * ((o4 x).length : Int)) := hb
  have hn : a1l (o4 x).length x.bits = 0 := by rw [HNE.out, if_neg (fun h => h hb)]
  have hv : a1R (o4 x) x.bits = a06 x.bits.toNat (o4 x) := by rw [a1R, if_pos hn]
  rw [hv] at CN
  clear hb hv hn HNE
  go_wp2_with fail
  refine CN.mono ?_
  rintro e w3 ⟨v3, rfl, O3, K3⟩
  obtain ⟨a3, k3, rfl, C3, -⟩ := O3.rd
  have CE := ar2 a3 (some ⟨B2, 7, none⟩) k3 16 _ _ w3 C3 (HC2.out.keptNone K3)
  have G3 := d3 G2 K3
  rw [a26] at CE
  clear CN K3 O3 C3 G2
  by_cases hm : a06 x.bits.toNat (o4 x) = o4 x
  ·rw [decide_eq_true hm] at CE
   have HM : Hid (a06 x.bits.toNat (o4 x) = o4 x) := hm
   clear hm
   rw [a26]
   go_wp2_with fail
   refine CE.mono ?_
   rintro e w' ⟨rfl, rfl⟩
   go_wp2
   go_ret
   exact ⟨O6 (by rw [← HE.out, if_neg (fun h => h HQ.out), if_pos HM.out]), G3⟩
  ·rw [decide_eq_false hm] at CE
   have HM : Hid (¬ a06 x.bits.toNat (o4 x) = o4 x) := hm
   clear hm
   rw [a26]
   go_wp2_with fail
   refine CE.mono ?_
   rintro e w' ⟨rfl, rfl⟩
   go_wp2
   go_ret
   exact ⟨O6 (by rw [← HE.out, if_neg (fun h => h HQ.out), if_neg HM.out]), G3⟩
 ·rw [if_pos hb] at CN
  have HQ : Hid (¬ (0 ≤ x.bits ∧ x.bits ≤ 8 * ((o4 x).length : Int))) := hb
  clear hb HNE
  go_wp2_with fail
  refine CN.mono ?_
  rintro e w3 ⟨v3, rfl, O3, K3⟩
  have G3 := d3 G2 K3
  clear CN K3 O3 G2
  go_wp2
  go_ret
  exact ⟨O6 (by rw [← HE.out, if_pos HQ.out]), G3⟩
def a3B (k : Nat) : Nat := ([0, 48, 52, 54, 57, 52, 57, 52, 52, 52, 62, 64, 48, 67, 71, 73, 75] : List Nat).getD k 0
def a3f (k : Nat) : Nat := ([0, 49, 49, 55, 58, 49, 61, 49, 49, 49, 63, 65, 49, 68, 72, 72, 76] : List Nat).getD k 0
def a32 (k : Nat) : Nat := ([0, 50, 50, 56, 50, 50, 50, 50, 50, 50, 50, 50, 66, 69, 50, 74, 77] : List Nat).getD k 0
def a2S (k : Nat) : Nat := ([0, 51, 53, 53, 59, 60, 53, 53, 53, 53, 53, 53, 53, 53, 53, 53, 53] : List Nat).getD k 0
def a3D (k : Nat) : Int := ([0, 1, 2, 24, 6, 2, 8, 1, 1, 1, 6, 12, 8, 16, 24, 32, 40] : List Int).getD k 0
def fnV (n : Nat) : Value := .func (.func n) #[] #[]
structure RT where
 g : Nat
 n1 : Nat
 n2 : Nat
 t1 : Nat
 t2 : Nat
 wv : Nat → Value
def a4e (R : RT) (k : Nat) : Value :=
 if k = 3 ∨ k = 5 then .slice (some ⟨R.n1, 0, none⟩) 1 1 else if k = 4 ∨ k = 6 then .slice (some ⟨R.n2, 0, none⟩) 2 2
 else if k = 9 then .slice (some ⟨R.t1, 0, none⟩) 1 1 else if k = 7 ∨ k = 8 then .slice (some ⟨R.t2, 0, none⟩) 2 2 else .slice none 0 0
def B5 (R : RT) (k : Nat) : List Value := [a4e R k, .int .i64 (if k ≤ 5 then 1 else 0), R.wv k, fnV (a3B k), fnV (a3f k), fnV (a32 k), fnV (a2S k)]
structure S5 (R : RT) (w : World) : Prop where
 rows : ∀ k, 1 ≤ k → k ≤ 16 → w.rangeAt R.g (k * 7) (B5 R k)
 n1 : w.cell? ⟨R.n1, 0, none⟩ = some (.int .i64 1)
 n2 : w.cell? ⟨R.n2, 0, none⟩ = some (.int .i64 1) ∧ w.cell? ⟨R.n2, 1, none⟩ = some (.int .i64 1)
 t1 : w.cell? ⟨R.t1, 0, none⟩ = some (.int .i64 0)
 t2 : w.cell? ⟨R.t2, 0, none⟩ = some (.int .i64 0) ∧ w.cell? ⟨R.t2, 1, none⟩ = some (.int .i64 0)
 wgt : ∀ k, 1 ≤ k → k ≤ 16 → k ≠ 14 → k ≠ 15 → ∃ b, R.wv k = .func (.func 106) #[] #[.pointer (some ⟨b, 0, none⟩)] ∧ w.cell? ⟨b, 0, none⟩ = some (.int .i64 (a3D k))
 wg2 : ∀ k, k = 14 ∨ k = 15 → ∃ b c, R.wv k = .func (.func 111) #[] #[.pointer (some ⟨c, 0, none⟩), .pointer (some ⟨b, 0, none⟩)] ∧ w.cell? ⟨b, 0, none⟩ = some (.int .i64 (a3D k)) ∧ w.cell? ⟨c, 0, none⟩ = some (.int .i64 (a3D k + 48))
theorem S5.kept {R : RT} {w w' : World} (h : S5 R w) (K : w.grownBy w' none) : S5 R w' where
 rows := fun k h1 h2 j v hv => K.cell (h.rows k h1 h2 j v hv) (by simp)
 n1 := K.cell h.n1 (by simp)
 n2 := ⟨K.cell h.n2.1 (by simp), K.cell h.n2.2 (by simp)⟩
 t1 := K.cell h.t1 (by simp)
 t2 := ⟨K.cell h.t2.1 (by simp), K.cell h.t2.2 (by simp)⟩
 wgt := fun k h1 h2 h3 h4 => by
  obtain ⟨b, e, c⟩ := h.wgt k h1 h2 h3 h4
  exact ⟨b, e, K.cell c (by simp)⟩
 wg2 := fun k h1 => by
  obtain ⟨b, d, e, c1, c2⟩ := h.wg2 k h1
  exact ⟨b, d, e, K.cell c1 (by simp), K.cell c2 (by simp)⟩
theorem mkf (fn : Fn) (first cap : Array Value) (w : World) : (Instr.makeFunc fn first cap).run Tryz.prog w = .ok (.func fn first cap) w := rfl
theorem a6D (w : World) (t : Nat) (v : Value) : (w.alloc (.cells #[v] t)).cell? ⟨w.heap.size, 0, none⟩ = some v := (VAt.alloc w t #[v]).cell 0
theorem a0D (c : Int) (w : World) : Calls Tryz.prog 47 #[.int .i64 c] w fun e w' => ∃ b, e = .returned (.func (.func 106) #[] #[.pointer (some ⟨b, 0, none⟩)]) ∧ w'.cell? ⟨b, 0, none⟩ = some (.int .i64 c) ∧ w.grownBy w' none := by
 have h1 := a6D w 3 (.int .i64 c)
 have h2 := World.grownBy_alloc w (.cells #[.int .i64 c] 3) none
 have hmf := mkf
 go_enter Tryz.func47, Tryz.ntmps47
 go_upto_region 1 with fail
 generalize w.alloc (.cells #[.int .i64 c] 3) = w1 at *
 generalize w.heap.size = B at *
 go_wp2
 go_ret
 exact ⟨B, rfl, h1, h2⟩
theorem af7 (c d : Int) (w : World) : Calls Tryz.prog 70 #[.int .i64 c, .int .i64 d] w fun e w' => ∃ b g, e = .returned (.func (.func 111) #[] #[.pointer (some ⟨g, 0, none⟩), .pointer (some ⟨b, 0, none⟩)]) ∧ w'.cell? ⟨b, 0, none⟩ = some (.int .i64 c) ∧ w'.cell? ⟨g, 0, none⟩ = some (.int .i64 d) ∧ w.grownBy w' none := by
 have h1 := a6D w 3 (.int .i64 c)
 have h2 := World.grownBy_alloc w (.cells #[.int .i64 c] 3) none
 have h3 := a6D (w.alloc (.cells #[.int .i64 c] 3)) 3 (.int .i64 d)
 have h4 := World.grownBy_alloc (w.alloc (.cells #[.int .i64 c] 3)) (.cells #[.int .i64 d] 3) none
 have h5 := h4.cell h1 (by simp)
 have h6 := d3 h2 h4
 rw [show (w.alloc (.cells #[.int .i64 c] 3)).heap.size = w.heap.size + 1 by simp] at h3
 have hmf := mkf
 clear h1 h2 h4
 go_enter Tryz.func70, Tryz.ntmps70
 go_upto_region 1 with fail
 generalize (w.alloc (.cells #[.int .i64 c] 3)).alloc (.cells #[.int .i64 d] 3) = w1 at *
 generalize w.heap.size + 1 = G at *
 generalize w.heap.size = B at *
 go_wp2
 go_ret
 exact ⟨B, G, rfl, h5, h3, h6⟩
def a5Q (n1 n2 t1 t2 : Nat) (v1 v2 v3 v4 v5 v6 v7 v8 v9 v10 v11 v12 v13 v14 v15 v16 : Value) : List Value := [.slice none 0 0, .int .i64 0, .nilFunc, .nilFunc, .nilFunc, .nilFunc, .nilFunc,
 .slice none 0 0, .int .i64 1, v1, fnV 48, fnV 49, fnV 50, fnV 51,
 .slice none 0 0, .int .i64 1, v2, fnV 52, fnV 49, fnV 50, fnV 53,
 .slice (some ⟨n1, 0, none⟩) 1 1, .int .i64 1, v3, fnV 54, fnV 55, fnV 56, fnV 53,
 .slice (some ⟨n2, 0, none⟩) 2 2, .int .i64 1, v4, fnV 57, fnV 58, fnV 50, fnV 59,
 .slice (some ⟨n1, 0, none⟩) 1 1, .int .i64 1, v5, fnV 52, fnV 49, fnV 50, fnV 60,
 .slice (some ⟨n2, 0, none⟩) 2 2, .int .i64 0, v6, fnV 57, fnV 61, fnV 50, fnV 53,
 .slice (some ⟨t2, 0, none⟩) 2 2, .int .i64 0, v7, fnV 52, fnV 49, fnV 50, fnV 53,
 .slice (some ⟨t2, 0, none⟩) 2 2, .int .i64 0, v8, fnV 52, fnV 49, fnV 50, fnV 53,
 .slice (some ⟨t1, 0, none⟩) 1 1, .int .i64 0, v9, fnV 52, fnV 49, fnV 50, fnV 53,
 .slice none 0 0, .int .i64 0, v10, fnV 62, fnV 63, fnV 50, fnV 53,
 .slice none 0 0, .int .i64 0, v11, fnV 64, fnV 65, fnV 50, fnV 53,
 .slice none 0 0, .int .i64 0, v12, fnV 48, fnV 49, fnV 66, fnV 53,
 .slice none 0 0, .int .i64 0, v13, fnV 67, fnV 68, fnV 69, fnV 53,
 .slice none 0 0, .int .i64 0, v14, fnV 71, fnV 72, fnV 50, fnV 53,
 .slice none 0 0, .int .i64 0, v15, fnV 73, fnV 72, fnV 74, fnV 53,
 .slice none 0 0, .int .i64 0, v16, fnV 75, fnV 76, fnV 77, fnV 53]
theorem aC4 (n1 n2 t1 t2 : Nat) (v1 v2 v3 v4 v5 v6 v7 v8 v9 v10 v11 v12 v13 v14 v15 v16 : Value) (W : World) : (Instr.buildSlice 52 17 #[(1, .agg #[.slice none 0 0, .int .i64 1, v1, fnV 48, fnV 49, fnV 50, fnV 51]), (2, .agg #[.slice none 0 0, .int .i64 1, v2, fnV 52, fnV 49, fnV 50, fnV 53]), (3, .agg #[.slice (some ⟨n1, 0, none⟩) 1 1, .int .i64 1, v3, fnV 54, fnV 55, fnV 56, fnV 53]), (4, .agg #[.slice (some ⟨n2, 0, none⟩) 2 2, .int .i64 1, v4, fnV 57, fnV 58, fnV 50, fnV 59]), (5, .agg #[.slice (some ⟨n1, 0, none⟩) 1 1, .int .i64 1, v5, fnV 52, fnV 49, fnV 50, fnV 60]), (6, .agg #[.slice (some ⟨n2, 0, none⟩) 2 2, .int .i64 0, v6, fnV 57, fnV 61, fnV 50, fnV 53]), (7, .agg #[.slice (some ⟨t2, 0, none⟩) 2 2, .int .i64 0, v7, fnV 52, fnV 49, fnV 50, fnV 53]), (8, .agg #[.slice (some ⟨t2, 0, none⟩) 2 2, .int .i64 0, v8, fnV 52, fnV 49, fnV 50, fnV 53]), (9, .agg #[.slice (some ⟨t1, 0, none⟩) 1 1, .int .i64 0, v9, fnV 52, fnV 49, fnV 50, fnV 53]), (10, .agg #[.slice none 0 0, .int .i64 0, v10, fnV 62, fnV 63, fnV 50, fnV 53]), (11, .agg #[.slice none 0 0, .int .i64 0, v11, fnV 64, fnV 65, fnV 50, fnV 53]), (12, .agg #[.slice none 0 0, .int .i64 0, v12, fnV 48, fnV 49, fnV 66, fnV 53]), (13, .agg #[.slice none 0 0, .int .i64 0, v13, fnV 67, fnV 68, fnV 69, fnV 53]), (14, .agg #[.slice none 0 0, .int .i64 0, v14, fnV 71, fnV 72, fnV 50, fnV 53]), (15, .agg #[.slice none 0 0, .int .i64 0, v15, fnV 73, fnV 72, fnV 74, fnV 53]), (16, .agg #[.slice none 0 0, .int .i64 0, v16, fnV 75, fnV 76, fnV 77, fnV 53])]).run Tryz.prog W = .ok (.slice (some ⟨W.heap.size, 0, none⟩) 17 17) (W.alloc (.cells (a5Q n1 n2 t1 t2 v1 v2 v3 v4 v5 v6 v7 v8 v9 v10 v11 v12 v13 v14 v15 v16).toArray 77)) := by kernel_rfl
theorem aS8 (g n1 n2 t1 t2 : Nat) (v1 v2 v3 v4 v5 v6 v7 v8 v9 v10 v11 v12 v13 v14 v15 v16 : Value) (k : Nat) (h1 : 1 ≤ k) (h2 : k ≤ 16) (j : Nat) (hj : j < 7) : (a5Q n1 n2 t1 t2 v1 v2 v3 v4 v5 v6 v7 v8 v9 v10 v11 v12 v13 v14 v15 v16)[k * 7 + j]? = (B5 ⟨g, n1, n2, t1, t2, fun k => ([undef, v1, v2, v3, v4, v5, v6, v7, v8, v9, v10, v11, v12, v13, v14, v15, v16] : List Value).getD k undef⟩ k)[j]? := by
 have hk : k = 1 ∨ k = 2 ∨ k = 3 ∨ k = 4 ∨ k = 5 ∨ k = 6 ∨ k = 7 ∨ k = 8 ∨ k = 9 ∨ k = 10 ∨ k = 11 ∨ k = 12 ∨ k = 13 ∨ k = 14 ∨ k = 15 ∨ k = 16 := by omega
 have hjj : j = 0 ∨ j = 1 ∨ j = 2 ∨ j = 3 ∨ j = 4 ∨ j = 5 ∨ j = 6 := by omega
 clear h1 h2 hj
 rcases hk with rfl | rfl | rfl | rfl | rfl | rfl | rfl | rfl | rfl | rfl | rfl | rfl | rfl | rfl | rfl | rfl <;> rcases hjj with rfl | rfl | rfl | rfl | rfl | rfl | rfl <;> rfl
theorem aS7 (w : World) : Calls Tryz.prog 28 #[] w fun e w' => ∃ R : RT, e = .returned (.slice (some ⟨R.g, 0, none⟩) 17 17) ∧ S5 R w' ∧ w.grownBy w' none := by
 obtain ⟨W4, hW4⟩ : ∃ W4, (((w.alloc (.cells #[.int .i64 1] 3)).alloc (.cells #[.int .i64 1, .int .i64 1] 3)).alloc (.cells #[.int .i64 0] 3)).alloc (.cells #[.int .i64 0, .int .i64 0] 3) = W4 := ⟨_, rfl⟩
 have A1 := VAt.alloc w 3 #[.int .i64 1]
 have A2 := VAt.alloc (w.alloc (.cells #[.int .i64 1] 3)) 3 #[.int .i64 1, .int .i64 1]
 have A3 := VAt.alloc ((w.alloc (.cells #[.int .i64 1] 3)).alloc (.cells #[.int .i64 1, .int .i64 1] 3)) 3 #[.int .i64 0]
 have A4 := VAt.alloc (((w.alloc (.cells #[.int .i64 1] 3)).alloc (.cells #[.int .i64 1, .int .i64 1] 3)).alloc (.cells #[.int .i64 0] 3)) 3 #[.int .i64 0, .int .i64 0]
 have K1 := World.grownBy_alloc w (.cells #[.int .i64 1] 3) none
 have K2 := World.grownBy_alloc (w.alloc (.cells #[.int .i64 1] 3)) (.cells #[.int .i64 1, .int .i64 1] 3) none
 have K3 := World.grownBy_alloc ((w.alloc (.cells #[.int .i64 1] 3)).alloc (.cells #[.int .i64 1, .int .i64 1] 3)) (.cells #[.int .i64 0] 3) none
 have K4 := World.grownBy_alloc (((w.alloc (.cells #[.int .i64 1] 3)).alloc (.cells #[.int .i64 1, .int .i64 1] 3)).alloc (.cells #[.int .i64 0] 3)) (.cells #[.int .i64 0, .int .i64 0] 3) none
 have B1 := A1.kept (d3 K2 (d3 K3 K4))
 have B2 := A2.kept (d3 K3 K4)
 have B3 := A3.kept K4
 have G4 := d3 K1 (d3 K2 (d3 K3 K4))
 simp only [World.size_alloc] at B2 B3 A4
 rw [hW4] at B1 B2 B3 A4 G4
 have HN : Hid (W4.cell? ⟨w.heap.size, 0, none⟩ = some (.int .i64 1) ∧ (W4.cell? ⟨w.heap.size + 1, 0, none⟩ = some (.int .i64 1) ∧ W4.cell? ⟨w.heap.size + 1, 1, none⟩ = some (.int .i64 1)) ∧ W4.cell? ⟨w.heap.size + 1 + 1, 0, none⟩ = some (.int .i64 0) ∧ W4.cell? ⟨w.heap.size + 1 + 1 + 1, 0, none⟩ = some (.int .i64 0) ∧ W4.cell? ⟨w.heap.size + 1 + 1 + 1, 1, none⟩ = some (.int .i64 0)) := ⟨B1.cell 0, ⟨B2.cell 0, B2.cell 1⟩, B3.cell 0, A4.cell 0, A4.cell 1⟩
 clear A1 A2 A3 A4 K1 K2 K3 K4 B1 B2 B3
 go_enter Tryz.func28, Tryz.ntmps28
 go_upto_region 4 with fail
 clear hW4
 generalize w.heap.size + 1 + 1 + 1 = t2 at HN ⊢
 generalize w.heap.size + 1 + 1 = t1 at HN ⊢
 generalize w.heap.size + 1 = n2 at HN ⊢
 generalize w.heap.size = n1 at HN ⊢
 have HG : Hid (w.grownBy W4 none) := G4
 clear G4
 have X0 : Hid (W4.grownBy W4 none) := World.grownBy.refl _ _
 go_wp2_with fail
 refine (a0D _ _).mono ?_
 rintro e w1 ⟨b1, rfl, c1, K1⟩
 have C1 : Hid (w1.cell? ⟨b1, 0, none⟩ = _) := c1
 have X1 : Hid (W4.grownBy w1 none) := K1
 clear c1 K1
 go_wp2_with fail
 refine (a0D _ _).mono ?_
 rintro e w2 ⟨b2, rfl, c2, K2⟩
 have C2 : Hid (w2.cell? ⟨b2, 0, none⟩ = _) := c2
 have X2 : Hid (w1.grownBy w2 none) := K2
 clear c2 K2
 go_wp2_with fail
 refine (a0D _ _).mono ?_
 rintro e w3 ⟨b3, rfl, c3, K3⟩
 have C3 : Hid (w3.cell? ⟨b3, 0, none⟩ = _) := c3
 have X3 : Hid (w2.grownBy w3 none) := K3
 clear c3 K3
 go_wp2_with fail
 refine (a0D _ _).mono ?_
 rintro e w4 ⟨b4, rfl, c4, K4⟩
 have C4 : Hid (w4.cell? ⟨b4, 0, none⟩ = _) := c4
 have X4 : Hid (w3.grownBy w4 none) := K4
 clear c4 K4
 go_wp2_with fail
 refine (a0D _ _).mono ?_
 rintro e w5 ⟨b5, rfl, c5, K5⟩
 have C5 : Hid (w5.cell? ⟨b5, 0, none⟩ = _) := c5
 have X5 : Hid (w4.grownBy w5 none) := K5
 clear c5 K5
 go_wp2_with fail
 refine (a0D _ _).mono ?_
 rintro e w6 ⟨b6, rfl, c6, K6⟩
 have C6 : Hid (w6.cell? ⟨b6, 0, none⟩ = _) := c6
 have X6 : Hid (w5.grownBy w6 none) := K6
 clear c6 K6
 go_wp2_with fail
 refine (a0D _ _).mono ?_
 rintro e w7 ⟨b7, rfl, c7, K7⟩
 have C7 : Hid (w7.cell? ⟨b7, 0, none⟩ = _) := c7
 have X7 : Hid (w6.grownBy w7 none) := K7
 clear c7 K7
 go_wp2_with fail
 refine (a0D _ _).mono ?_
 rintro e w8 ⟨b8, rfl, c8, K8⟩
 have C8 : Hid (w8.cell? ⟨b8, 0, none⟩ = _) := c8
 have X8 : Hid (w7.grownBy w8 none) := K8
 clear c8 K8
 go_wp2_with fail
 refine (a0D _ _).mono ?_
 rintro e w9 ⟨b9, rfl, c9, K9⟩
 have C9 : Hid (w9.cell? ⟨b9, 0, none⟩ = _) := c9
 have X9 : Hid (w8.grownBy w9 none) := K9
 clear c9 K9
 go_wp2_with fail
 refine (a0D _ _).mono ?_
 rintro e w10 ⟨b10, rfl, c10, K10⟩
 have C10 : Hid (w10.cell? ⟨b10, 0, none⟩ = _) := c10
 have X10 : Hid (w9.grownBy w10 none) := K10
 clear c10 K10
 go_wp2_with fail
 refine (a0D _ _).mono ?_
 rintro e w11 ⟨b11, rfl, c11, K11⟩
 have C11 : Hid (w11.cell? ⟨b11, 0, none⟩ = _) := c11
 have X11 : Hid (w10.grownBy w11 none) := K11
 clear c11 K11
 go_wp2_with fail
 refine (a0D _ _).mono ?_
 rintro e w12 ⟨b12, rfl, c12, K12⟩
 have C12 : Hid (w12.cell? ⟨b12, 0, none⟩ = _) := c12
 have X12 : Hid (w11.grownBy w12 none) := K12
 clear c12 K12
 go_wp2_with fail
 refine (a0D _ _).mono ?_
 rintro e w13 ⟨b13, rfl, c13, K13⟩
 have C13 : Hid (w13.cell? ⟨b13, 0, none⟩ = _) := c13
 have X13 : Hid (w12.grownBy w13 none) := K13
 clear c13 K13
 go_wp2_with fail
 refine (af7 _ _ _).mono ?_
 rintro e w14 ⟨b14, g14, rfl, c14, d14, K14⟩
 have C14 : Hid (w14.cell? ⟨b14, 0, none⟩ = _ ∧ w14.cell? ⟨g14, 0, none⟩ = _) := ⟨c14, d14⟩
 have X14 : Hid (w13.grownBy w14 none) := K14
 clear c14 d14 K14
 go_wp2_with fail
 refine (af7 _ _ _).mono ?_
 rintro e w15 ⟨b15, g15, rfl, c15, d15, K15⟩
 have C15 : Hid (w15.cell? ⟨b15, 0, none⟩ = _ ∧ w15.cell? ⟨g15, 0, none⟩ = _) := ⟨c15, d15⟩
 have X15 : Hid (w14.grownBy w15 none) := K15
 clear c15 d15 K15
 go_wp2_with fail
 refine (a0D _ _).mono ?_
 rintro e w16 ⟨b16, rfl, c16, K16⟩
 have C16 : Hid (w16.cell? ⟨b16, 0, none⟩ = _) := c16
 have X16 : Hid (w15.grownBy w16 none) := K16
 clear c16 K16
 go_wp2_with (refine b1e (by rfl) 52 17 _ rfl _ (by kernel_rfl) (a5Q n1 n2 t1 t2 (.func (.func 106) #[] #[.pointer (some ⟨b1, 0, none⟩)]) (.func (.func 106) #[] #[.pointer (some ⟨b2, 0, none⟩)]) (.func (.func 106) #[] #[.pointer (some ⟨b3, 0, none⟩)]) (.func (.func 106) #[] #[.pointer (some ⟨b4, 0, none⟩)]) (.func (.func 106) #[] #[.pointer (some ⟨b5, 0, none⟩)]) (.func (.func 106) #[] #[.pointer (some ⟨b6, 0, none⟩)]) (.func (.func 106) #[] #[.pointer (some ⟨b7, 0, none⟩)]) (.func (.func 106) #[] #[.pointer (some ⟨b8, 0, none⟩)]) (.func (.func 106) #[] #[.pointer (some ⟨b9, 0, none⟩)]) (.func (.func 106) #[] #[.pointer (some ⟨b10, 0, none⟩)]) (.func (.func 106) #[] #[.pointer (some ⟨b11, 0, none⟩)]) (.func (.func 106) #[] #[.pointer (some ⟨b12, 0, none⟩)]) (.func (.func 106) #[] #[.pointer (some ⟨b13, 0, none⟩)]) (.func (.func 111) #[] #[.pointer (some ⟨g14, 0, none⟩), .pointer (some ⟨b14, 0, none⟩)]) (.func (.func 111) #[] #[.pointer (some ⟨g15, 0, none⟩), .pointer (some ⟨b15, 0, none⟩)]) (.func (.func 106) #[] #[.pointer (some ⟨b16, 0, none⟩)])) 77 (aC4 n1 n2 t1 t2 (.func (.func 106) #[] #[.pointer (some ⟨b1, 0, none⟩)]) (.func (.func 106) #[] #[.pointer (some ⟨b2, 0, none⟩)]) (.func (.func 106) #[] #[.pointer (some ⟨b3, 0, none⟩)]) (.func (.func 106) #[] #[.pointer (some ⟨b4, 0, none⟩)]) (.func (.func 106) #[] #[.pointer (some ⟨b5, 0, none⟩)]) (.func (.func 106) #[] #[.pointer (some ⟨b6, 0, none⟩)]) (.func (.func 106) #[] #[.pointer (some ⟨b7, 0, none⟩)]) (.func (.func 106) #[] #[.pointer (some ⟨b8, 0, none⟩)]) (.func (.func 106) #[] #[.pointer (some ⟨b9, 0, none⟩)]) (.func (.func 106) #[] #[.pointer (some ⟨b10, 0, none⟩)]) (.func (.func 106) #[] #[.pointer (some ⟨b11, 0, none⟩)]) (.func (.func 106) #[] #[.pointer (some ⟨b12, 0, none⟩)]) (.func (.func 106) #[] #[.pointer (some ⟨b13, 0, none⟩)]) (.func (.func 111) #[] #[.pointer (some ⟨g14, 0, none⟩), .pointer (some ⟨b14, 0, none⟩)]) (.func (.func 111) #[] #[.pointer (some ⟨g15, 0, none⟩), .pointer (some ⟨b15, 0, none⟩)]) (.func (.func 106) #[] #[.pointer (some ⟨b16, 0, none⟩)])) ?_; intro V wl CL KL)
 have Y16 : w16.grownBy wl none := KL
 have Y15 := d3 X16.out Y16
 have Y14 := d3 X15.out Y15
 have Y13 := d3 X14.out Y14
 have Y12 := d3 X13.out Y13
 have Y11 := d3 X12.out Y12
 have Y10 := d3 X11.out Y11
 have Y9 := d3 X10.out Y10
 have Y8 := d3 X9.out Y9
 have Y7 := d3 X8.out Y8
 have Y6 := d3 X7.out Y7
 have Y5 := d3 X6.out Y6
 have Y4 := d3 X5.out Y5
 have Y3 := d3 X4.out Y4
 have Y2 := d3 X3.out Y3
 have Y1 := d3 X2.out Y2
 have Y0 := d3 X1.out Y1
 have GW := d3 HG.out Y0
 have TT : S5 ⟨V, n1, n2, t1, t2, fun k => ([undef, (.func (.func 106) #[] #[.pointer (some ⟨b1, 0, none⟩)]), (.func (.func 106) #[] #[.pointer (some ⟨b2, 0, none⟩)]), (.func (.func 106) #[] #[.pointer (some ⟨b3, 0, none⟩)]), (.func (.func 106) #[] #[.pointer (some ⟨b4, 0, none⟩)]), (.func (.func 106) #[] #[.pointer (some ⟨b5, 0, none⟩)]), (.func (.func 106) #[] #[.pointer (some ⟨b6, 0, none⟩)]), (.func (.func 106) #[] #[.pointer (some ⟨b7, 0, none⟩)]), (.func (.func 106) #[] #[.pointer (some ⟨b8, 0, none⟩)]), (.func (.func 106) #[] #[.pointer (some ⟨b9, 0, none⟩)]), (.func (.func 106) #[] #[.pointer (some ⟨b10, 0, none⟩)]), (.func (.func 106) #[] #[.pointer (some ⟨b11, 0, none⟩)]), (.func (.func 106) #[] #[.pointer (some ⟨b12, 0, none⟩)]), (.func (.func 106) #[] #[.pointer (some ⟨b13, 0, none⟩)]), (.func (.func 111) #[] #[.pointer (some ⟨g14, 0, none⟩), .pointer (some ⟨b14, 0, none⟩)]), (.func (.func 111) #[] #[.pointer (some ⟨g15, 0, none⟩), .pointer (some ⟨b15, 0, none⟩)]), (.func (.func 106) #[] #[.pointer (some ⟨b16, 0, none⟩)])] : List Value).getD k undef⟩ wl := {
  rows := fun k h1 h2 j v hv => by
   have hj : j < 7 := (List.getElem?_eq_some_iff.1 hv).1
   have e := aS8 V n1 n2 t1 t2 (.func (.func 106) #[] #[.pointer (some ⟨b1, 0, none⟩)]) (.func (.func 106) #[] #[.pointer (some ⟨b2, 0, none⟩)]) (.func (.func 106) #[] #[.pointer (some ⟨b3, 0, none⟩)]) (.func (.func 106) #[] #[.pointer (some ⟨b4, 0, none⟩)]) (.func (.func 106) #[] #[.pointer (some ⟨b5, 0, none⟩)]) (.func (.func 106) #[] #[.pointer (some ⟨b6, 0, none⟩)]) (.func (.func 106) #[] #[.pointer (some ⟨b7, 0, none⟩)]) (.func (.func 106) #[] #[.pointer (some ⟨b8, 0, none⟩)]) (.func (.func 106) #[] #[.pointer (some ⟨b9, 0, none⟩)]) (.func (.func 106) #[] #[.pointer (some ⟨b10, 0, none⟩)]) (.func (.func 106) #[] #[.pointer (some ⟨b11, 0, none⟩)]) (.func (.func 106) #[] #[.pointer (some ⟨b12, 0, none⟩)]) (.func (.func 106) #[] #[.pointer (some ⟨b13, 0, none⟩)]) (.func (.func 111) #[] #[.pointer (some ⟨g14, 0, none⟩), .pointer (some ⟨b14, 0, none⟩)]) (.func (.func 111) #[] #[.pointer (some ⟨g15, 0, none⟩), .pointer (some ⟨b15, 0, none⟩)]) (.func (.func 106) #[] #[.pointer (some ⟨b16, 0, none⟩)]) k h1 h2 j hj
   rw [hv] at e
   obtain ⟨hlt, e2⟩ := List.getElem?_eq_some_iff.1 e
   have := CL.2 _ rfl (k * 7 + j) hlt
   rw [Addr.add_lit, Nat.zero_add] at this
   rw [this, e2]
  n1 := Y0.cell HN.out.1 (by simp)
  n2 := ⟨Y0.cell HN.out.2.1.1 (by simp), Y0.cell HN.out.2.1.2 (by simp)⟩
  t1 := Y0.cell HN.out.2.2.1 (by simp)
  t2 := ⟨Y0.cell HN.out.2.2.2.1 (by simp), Y0.cell HN.out.2.2.2.2 (by simp)⟩
  wgt := fun k h1 h2 h3 h4 => by
   have : k = 1 ∨ k = 2 ∨ k = 3 ∨ k = 4 ∨ k = 5 ∨ k = 6 ∨ k = 7 ∨ k = 8 ∨ k = 9 ∨ k = 10 ∨ k = 11 ∨ k = 12 ∨ k = 13 ∨ k = 16 := by omega
   rcases this with rfl | rfl | rfl | rfl | rfl | rfl | rfl | rfl | rfl | rfl | rfl | rfl | rfl | rfl
   ·exact ⟨b1, rfl, Y1.cell C1.out (by simp)⟩
   ·exact ⟨b2, rfl, Y2.cell C2.out (by simp)⟩
   ·exact ⟨b3, rfl, Y3.cell C3.out (by simp)⟩
   ·exact ⟨b4, rfl, Y4.cell C4.out (by simp)⟩
   ·exact ⟨b5, rfl, Y5.cell C5.out (by simp)⟩
   ·exact ⟨b6, rfl, Y6.cell C6.out (by simp)⟩
   ·exact ⟨b7, rfl, Y7.cell C7.out (by simp)⟩
   ·exact ⟨b8, rfl, Y8.cell C8.out (by simp)⟩
   ·exact ⟨b9, rfl, Y9.cell C9.out (by simp)⟩
   ·exact ⟨b10, rfl, Y10.cell C10.out (by simp)⟩
   ·exact ⟨b11, rfl, Y11.cell C11.out (by simp)⟩
   ·exact ⟨b12, rfl, Y12.cell C12.out (by simp)⟩
   ·exact ⟨b13, rfl, Y13.cell C13.out (by simp)⟩
   ·exact ⟨b16, rfl, Y16.cell C16.out (by simp)⟩
  wg2 := fun k h => by
   rcases h with rfl | rfl
   ·exact ⟨b14, g14, rfl, Y14.cell C14.out.1 (by simp), Y14.cell C14.out.2 (by simp)⟩
   ·exact ⟨b15, g15, rfl, Y15.cell C15.out.1 (by simp), Y15.cell C15.out.2 (by simp)⟩ }
 clear C1 X1 Y1 C2 X2 Y2 C3 X3 Y3 C4 X4 Y4 C5 X5 Y5 C6 X6 Y6 C7 X7 Y7 C8 X8 Y8 C9 X9 Y9 C10 X10 Y10 C11 X11 Y11 C12 X12 Y12 C13 X13 Y13 C14 X14 Y14 C15 X15 Y15 C16 X16 Y16 CL KL
 go_wp2
 go_ret
 exact ⟨_, rfl, TT, GW⟩
theorem a1B {k : Nat} (h1 : 1 ≤ k) (h2 : k ≤ 16) : k = 1 ∨ k = 2 ∨ k = 3 ∨ k = 4 ∨ k = 5 ∨ k = 6 ∨ k = 7 ∨ k = 8 ∨ k = 9 ∨ k = 10 ∨ k = 11 ∨ k = 12 ∨ k = 13 ∨ k = 14 ∨ k = 15 ∨ k = 16 := by omega

end Go.Proofs.YtklipelnjgpnjaaGreatDoor
