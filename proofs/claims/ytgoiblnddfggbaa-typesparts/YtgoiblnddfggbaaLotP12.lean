/-
  The document's own chapter 12: kinds and weights. Packages reckon and types as landed: what numbers come to; parts in memory.
-/
import Derived.Test.YtgoiblnddfggbaaTyF
import Derived.Deep.RegionHeld3
namespace Go.Proofs.Ytgoiblnddfggbaa
open Go.RowKit
set_option maxRecDepth 100000

/-- How many parts a kind takes; -1: it is none. -/
def arI (k : Int) : Int := match arG k with
  | some a => (a : Int)
  | none => -1

set_option maxHeartbeats 4000000 in
theorem arity12_any (k : Int) (w : World) : Calls Try.prog 27 #[.int .i64 k] w fun e w' => e = .returned (.int .i64 (arI k)) ∧ w' = w := by
  cases ha : arG k with
  | some a =>
    have e : arI k = (a : Int) := by unfold arI; rw [ha]
    rw [e]
    clear e
    rcases arG_cases ha with ⟨rfl, rfl | rfl | rfl⟩ | ⟨rfl, rfl | rfl | rfl | rfl⟩ | ⟨rfl, rfl | rfl | rfl | rfl | rfl | rfl | rfl | rfl | rfl⟩
    all_goals
      clear ha
      go_enter Try.func27, Try.ntmps27
      go_wp2
      go_ret
      exact ⟨rfl, rfl⟩
  | none =>
    have e : arI k = -1 := by unfold arI; rw [ha]
    rw [e]
    have hn := arG_none.1 ha
    have t1 : (k == 1) = false := by rw [beq_eq_false_iff_ne]; omega
    have t2 : (k == 2) = false := by rw [beq_eq_false_iff_ne]; omega
    have t3 : (k == 3) = false := by rw [beq_eq_false_iff_ne]; omega
    have t4 : (k == 4) = false := by rw [beq_eq_false_iff_ne]; omega
    have t5 : (k == 5) = false := by rw [beq_eq_false_iff_ne]; omega
    have t6 : (k == 6) = false := by rw [beq_eq_false_iff_ne]; omega
    have t7 : (k == 7) = false := by rw [beq_eq_false_iff_ne]; omega
    have t8 : (k == 8) = false := by rw [beq_eq_false_iff_ne]; omega
    have t9 : (k == 9) = false := by rw [beq_eq_false_iff_ne]; omega
    have t10 : (k == 10) = false := by rw [beq_eq_false_iff_ne]; omega
    have t11 : (k == 11) = false := by rw [beq_eq_false_iff_ne]; omega
    have t12 : (k == 12) = false := by rw [beq_eq_false_iff_ne]; omega
    have t13 : (k == 13) = false := by rw [beq_eq_false_iff_ne]; omega
    have t14 : (k == 14) = false := by rw [beq_eq_false_iff_ne]; omega
    have t15 : (k == 15) = false := by rw [beq_eq_false_iff_ne]; omega
    have t16 : (k == 16) = false := by rw [beq_eq_false_iff_ne]; omega
    clear e hn ha
    go_enter Try.func27, Try.ntmps27
    go_wp2
    go_ret
    exact ⟨rfl, rfl⟩

theorem truth12_any (k : Int) (w : World) : Calls Try.prog 68 #[.int .i64 k] w fun e w' => e = .returned (.bool (truthG k)) ∧ w' = w := by
  go_enter Try.func68, Try.ntmps68
  go_wp2
  go_ret
  exact ⟨rfl, rfl⟩

theorem wants12_any (k : Int) (w : World) : Calls Try.prog 67 #[.int .i64 k] w fun e w' => e = .returned (.bool (wantsG k)) ∧ w' = w := by
  have h4 : k = 7 ∨ k = 8 ∨ k = 9 ∨ (k ≠ 7 ∧ k ≠ 8 ∧ k ≠ 9) := by omega
  rcases h4 with rfl | rfl | rfl | ⟨h7, h8, h9⟩
  · go_enter Try.func67, Try.ntmps67
    go_wp2
    go_ret
    exact ⟨rfl, rfl⟩
  · go_enter Try.func67, Try.ntmps67
    go_wp2
    go_ret
    exact ⟨rfl, rfl⟩
  · go_enter Try.func67, Try.ntmps67
    go_wp2
    go_ret
    exact ⟨rfl, rfl⟩
  · have hw : wantsG k = false := by unfold wantsG; rw [decide_eq_false_iff_not]; omega
    rw [hw]
    have t7 : (k == 7) = false := by rw [beq_eq_false_iff_ne]; exact h7
    have t8 : (k == 8) = false := by rw [beq_eq_false_iff_ne]; exact h8
    have t9 : (k == 9) = false := by rw [beq_eq_false_iff_ne]; exact h9
    clear hw h7 h8 h9
    go_enter Try.func67, Try.ntmps67
    go_wp2
    go_ret
    exact ⟨rfl, rfl⟩

theorem between_any (x lo hi : Int) (w : World) : Calls Try.prog 85 #[.int .i64 x, .int .i64 lo, .int .i64 hi] w fun e w' => e = .returned (.bool (inG x lo hi)) ∧ w' = w := by
  unfold inG
  by_cases h1 : lo ≤ x
  · have t1 : decide (lo ≤ x) = true := decide_eq_true h1
    clear h1
    rw [t1, Bool.true_and]
    go_enter Try.func85, Try.ntmps85
    go_wp2
    go_ret
    exact ⟨rfl, rfl⟩
  · have t1 : decide (lo ≤ x) = false := decide_eq_false h1
    clear h1
    rw [t1, Bool.false_and]
    go_enter Try.func85, Try.ntmps85
    go_wp2
    go_ret
    exact ⟨rfl, rfl⟩

end Go.Proofs.Ytgoiblnddfggbaa

namespace Go.Proofs.Ytgoiblnddfggbaa
open Go.RowKit
set_option maxRecDepth 100000

/-- The cells of a part; of the document's own. -/
def ptC (p : Pt) : List Value := [.int .i64 (if p.truth = true then 0 else 1), .bool p.fixed, .int .u32 (p.val : Int)]
def pqC (p : Pt) : List Value := [.bool p.truth, .bool p.fixed, .int .u32 (p.val : Int)]
def flat3 (c : Pt → List Value) (ps : List Pt) : List Value := ps.flatMap c
theorem flat3_nil (c : Pt → List Value) : flat3 c [] = [] := rfl
theorem flat3_cons (c : Pt → List Value) (p : Pt) (ps : List Pt) : flat3 c (p :: ps) = c p ++ flat3 c ps := rfl
theorem flat3_append (c : Pt → List Value) (xs ys : List Pt) : flat3 c (xs ++ ys) = flat3 c xs ++ flat3 c ys := by simp only [flat3, List.flatMap_append]
theorem flat3_one (c : Pt → List Value) (p : Pt) : flat3 c [p] = c p := by rw [flat3_cons, flat3_nil, List.append_nil]
theorem flat3_len {c : Pt → List Value} (hc : ∀ p, (c p).length = 3) (xs : List Pt) : (flat3 c xs).length = xs.length * 3 := by
  induction xs with
  | nil => rfl
  | cons x xs ih => rw [flat3_cons, List.length_append, ih, List.length_cons, hc]; omega
theorem flat3_get {c : Pt → List Value} (hc : ∀ p, (c p).length = 3) (xs : List Pt) (i j : Nat) (hi : i < xs.length) (hj : j < 3) : (flat3 c xs)[i * 3 + j]? = (c xs[i])[j]? := by
  induction xs generalizing i with
  | nil => simp at hi
  | cons x xs ih =>
    rw [flat3_cons]
    have hl := hc x
    cases i with
    | zero => rw [List.getElem?_append_left (by omega)]; simp
    | succ i =>
      rw [List.getElem?_append_right (by omega), hl, show (i + 1) * 3 + j - 3 = i * 3 + j by omega, ih i (by simpa using hi)]
      simp
theorem ptC_len (p : Pt) : (ptC p).length = 3 := rfl
theorem pqC_len (p : Pt) : (pqC p).length = 3 := rfl
theorem ptC_one (p : Pt) : ∀ u ∈ ptC p, u.oneCell' = true := by
  intro u hu
  simp only [ptC, List.mem_cons, List.not_mem_nil, or_false] at hu
  rcases hu with rfl | rfl | rfl <;> rfl
theorem pqC_one (p : Pt) : ∀ u ∈ pqC p, u.oneCell' = true := by
  intro u hu
  simp only [pqC, List.mem_cons, List.not_mem_nil, or_false] at hu
  rcases hu with rfl | rfl | rfl <;> rfl
theorem CV.pts {c : Pt → List Value} (hc : ∀ p, (c p).length = 3) {w : World} {ao : Option Addr} {xs : List Pt} (h : CV w ao (flat3 c xs)) {k : Nat} (hk : k < xs.length) :
    ∃ b off, ao = some ⟨b, off, none⟩ ∧ ∀ i (hi : i < xs.length), w.rangeAt b (off + i * 3) (c xs[i]) := by
  have hl := flat3_len hc xs
  obtain ⟨b, off, hao, hcc⟩ := h.addr (k := k * 3) (by omega)
  refine ⟨b, off, hao, fun i hi j v hv => ?_⟩
  have hj : j < 3 := by have := (List.getElem?_eq_some_iff.1 hv).1; rw [hc] at this; exact this
  rw [← flat3_get hc xs i j hi hj] at hv
  rw [Nat.add_assoc, hcc (i * 3 + j) (by omega), ← hv, List.getElem?_eq_getElem (by omega)]

set_option maxHeartbeats 400000 in
theorem divides_any (op : Int) (w : World) : Calls Try.prog 88 #[.int .i64 op] w fun e w' => e = .returned (.bool (divG op)) ∧ w = w' := by
  unfold divG
  obtain ⟨E, hE⟩ : ∃ E : Bool, decide (op = 4 ∨ op = 5) = E := ⟨_, rfl⟩
  rw [hE]
  have HE : Hid (decide (op = 4 ∨ op = 5) = E) := hE
  clear hE
  by_cases h1 : op = 4
  · have e1 : (op == 4) = true := by simpa using h1
    have HQ : Hid (op = 4) := h1
    clear h1
    go_enter Try.func88, Try.ntmps88
    go_wp2
    go_ret
    exact ⟨ret_bool (by rw [← HE.out, decide_eq_true (.inl HQ.out)]), rfl⟩
  · have e1 : (op == 4) = false := by simpa using h1
    have HQ : Hid (¬ op = 4) := h1
    by_cases h2 : op = 5
    · have e2 : (op == 5) = true := by simpa using h2
      have HQ2 : Hid (op = 5) := h2
      clear h1 h2
      go_enter Try.func88, Try.ntmps88
      go_wp2
      go_ret
      exact ⟨ret_bool (by rw [← HE.out, decide_eq_true (.inr HQ2.out)]), rfl⟩
    · have e2 : (op == 5) = false := by simpa using h2
      have HQ2 : Hid (¬ op = 5) := h2
      clear h1 h2
      go_enter Try.func88, Try.ntmps88
      go_wp2
      go_ret
      exact ⟨ret_bool (by rw [← HE.out, decide_eq_false (fun h => h.elim HQ.out HQ2.out)]), rfl⟩

set_option maxHeartbeats 400000 in
theorem minus_any (a : Nat) (ha : a ≤ 4294967295) (w : World) : Calls Try.prog 75 #[.int .u32 (a : Int)] w fun e w' => e = .returned (.int .u32 (minusG a : Int)) ∧ w = w' := by
  have h : (-(a : Int)) % 4294967296 = (minusG a : Int) := by unfold minusG; omega
  obtain ⟨E, hE⟩ : ∃ E, minusG a = E := ⟨_, rfl⟩
  rw [hE] at h ⊢
  clear hE
  go_enter Try.func75, Try.ntmps75
  go_wp2
  go_ret
  exact ⟨ret_int h, rfl⟩

theorem ret_ar {x y : Int} (h : x = y) : Ending.returned (.tuple #[.int .u32 x, .bool true]) = .returned (.tuple #[.int .u32 y, .bool true]) := by rw [h]

theorem shift_true {a b : Nat} : (a : Int) * 2 ^ min b 32 % 4294967296 = (shiftV a b true : Int) := by
  unfold shiftV
  by_cases h : 31 < b
  · rw [if_pos h, show min b 32 = 32 by omega]
    omega
  · rw [if_neg h, if_pos rfl, show min b 32 = b by omega]
    simp
theorem shift_false {a b : Nat} (ha : a ≤ 4294967295) : (a : Int) / 2 ^ min b 32 = (shiftV a b false : Int) := by
  unfold shiftV
  by_cases h : 31 < b
  · rw [if_pos h, show min b 32 = 32 by omega]
    omega
  · rw [if_neg h, if_neg (by decide), show min b 32 = b by omega]
    simp

set_option maxHeartbeats 2000000 in
theorem arith_any (op : Int) (a b : Nat) (ha : a ≤ 4294967295) (hb : b ≤ 4294967295) (ho : 1 ≤ op ∧ op ≤ 10) (hz : divG op = true → b ≠ 0) (w : World) :
    Calls Try.prog 74 #[.int .i64 op, .int .u32 (a : Int), .int .u32 (b : Int)] w fun e w' => e = .returned (.tuple #[.int .u32 (arithG op a b : Int), .bool true]) ∧ w = w' := by
  have e1 := u32_or_nat a b (by omega) (by omega)
  have e2 := u32_and_nat a b (by omega) (by omega)
  have e3 := u32_xor_nat a b (by omega) (by omega)
  have C0 := divides_any op w
  have : op = 1 ∨ op = 2 ∨ op = 3 ∨ op = 6 ∨ op = 7 ∨ op = 8 ∨ op = 9 ∨ op = 10 ∨ op = 4 ∨ op = 5 := by omega
  have HB : Hid (b ≤ 4294967295) := hb
  have HA : Hid (a ≤ 4294967295) := ha
  clear ho ha hb
  rcases this with rfl | rfl | rfl | rfl | rfl | rfl | rfl | rfl | rfl | rfl
  · have h : ((a : Int) + (b : Int)) % 4294967296 = (arithG 1 a b : Int) := by simp [arithG]
    generalize arithG 1 a b = E at *
    clear hz e1 e2 e3
    rw [show divG 1 = false from rfl] at C0
    go_enter Try.func74, Try.ntmps74
    go_wp2_with fail
    refine C0.mono ?_
    rintro e w' ⟨rfl, rfl⟩
    go_wp2
    go_ret2
    exact ⟨ret_ar h, rfl⟩
  · have h : ((a : Int) - (b : Int)) % 4294967296 = (arithG 2 a b : Int) := by have := HB.out; simp [arithG]; omega
    generalize arithG 2 a b = E at *
    clear hz e1 e2 e3
    rw [show divG 2 = false from rfl] at C0
    go_enter Try.func74, Try.ntmps74
    go_wp2_with fail
    refine C0.mono ?_
    rintro e w' ⟨rfl, rfl⟩
    go_wp2
    go_ret2
    exact ⟨ret_ar h, rfl⟩
  · have h : ((a : Int) * (b : Int)) % 4294967296 = (arithG 3 a b : Int) := by simp [arithG]
    generalize arithG 3 a b = E at *
    clear hz e1 e2 e3
    rw [show divG 3 = false from rfl] at C0
    go_enter Try.func74, Try.ntmps74
    go_wp2_with fail
    refine C0.mono ?_
    rintro e w' ⟨rfl, rfl⟩
    go_wp2
    go_ret2
    exact ⟨ret_ar h, rfl⟩
  · have h : bits .and .u32 (a : Int) (b : Int) = (arithG 6 a b : Int) := by rw [e2]; simp [arithG]
    generalize arithG 6 a b = E at *
    clear hz e1 e2 e3
    rw [show divG 6 = false from rfl] at C0
    go_enter Try.func74, Try.ntmps74
    go_wp2_with fail
    refine C0.mono ?_
    rintro e w' ⟨rfl, rfl⟩
    go_wp2
    go_ret2
    exact ⟨rfl, rfl⟩
  · have h : bits .or .u32 (a : Int) (b : Int) = (arithG 7 a b : Int) := by rw [e1]; simp [arithG]
    generalize arithG 7 a b = E at *
    clear hz e1 e2 e3
    rw [show divG 7 = false from rfl] at C0
    go_enter Try.func74, Try.ntmps74
    go_wp2_with fail
    refine C0.mono ?_
    rintro e w' ⟨rfl, rfl⟩
    go_wp2
    go_ret2
    exact ⟨rfl, rfl⟩
  · have h : bits .xor .u32 (a : Int) (b : Int) = (arithG 8 a b : Int) := by rw [e3]; simp [arithG]
    generalize arithG 8 a b = E at *
    clear hz e1 e2 e3
    rw [show divG 8 = false from rfl] at C0
    go_enter Try.func74, Try.ntmps74
    go_wp2_with fail
    refine C0.mono ?_
    rintro e w' ⟨rfl, rfl⟩
    go_wp2
    go_ret2
    exact ⟨rfl, rfl⟩
  · have HV : Hid (arithG 9 a b = shiftV a b true) := rfl
    obtain ⟨E, hE⟩ : ∃ E, arithG 9 a b = E := ⟨_, rfl⟩
    rw [hE] at HV ⊢
    clear hz e1 e2 e3 hE
    rw [show divG 9 = false from rfl] at C0
    go_enter Try.func74, Try.ntmps74
    go_wp2_with fail
    refine C0.mono ?_
    rintro e w' ⟨rfl, rfl⟩
    go_wp2
    go_ret2
    exact ⟨ret_ar (by rw [HV.out]; exact shift_true), rfl⟩
  · have HV : Hid (arithG 10 a b = shiftV a b false) := rfl
    obtain ⟨E, hE⟩ : ∃ E, arithG 10 a b = E := ⟨_, rfl⟩
    rw [hE] at HV ⊢
    clear hz e1 e2 e3 hE
    rw [show divG 10 = false from rfl] at C0
    go_enter Try.func74, Try.ntmps74
    go_wp2_with fail
    refine C0.mono ?_
    rintro e w' ⟨rfl, rfl⟩
    go_wp2
    go_ret2
    exact ⟨ret_ar (by rw [HV.out]; exact shift_false HA.out), rfl⟩
  · have hb0 : ((b : Int) == 0) = false := by have := hz rfl; simpa using this
    have hb1 : ¬ b = 0 := hz rfl
    have h : (a : Int) / (b : Int) = (arithG 4 a b : Int) := by simp [arithG]
    have HE : Hid (arithG 4 a b ≤ 4294967295) := Nat.le_trans (Nat.div_le_self a b) HA.out
    generalize arithG 4 a b = E at *
    clear hz e1 e2 e3
    rw [show divG 4 = true from rfl] at C0
    go_enter Try.func74, Try.ntmps74
    go_wp2_with fail
    refine C0.mono ?_
    rintro e w' ⟨rfl, rfl⟩
    go_wp2
    go_ret2
    exact ⟨ret_ar (by have := HE.out; omega), rfl⟩
  · have hb0 : ((b : Int) == 0) = false := by have := hz rfl; simpa using this
    have hb1 : ¬ b = 0 := hz rfl
    have h : (a : Int) % (b : Int) = (arithG 5 a b : Int) := by simp [arithG]
    generalize arithG 5 a b = E at *
    clear hz e1 e2 e3
    rw [show divG 5 = true from rfl] at C0
    go_enter Try.func74, Try.ntmps74
    go_wp2_with fail
    refine C0.mono ?_
    rintro e w' ⟨rfl, rfl⟩
    go_wp2
    go_ret2
    exact ⟨ret_ar h, rfl⟩

/-- What a kind's function of values tells. -/
def valR (x : Ng) (ps : List Pt) : Value := match valG x ps with
  | some v => .tuple #[.int .u32 (v : Int), .bool true]
  | none => .tuple #[.int .u32 0, .bool false]

set_option maxHeartbeats 400000 in
theorem itself_any (x : Ng) (ps : List Pt) (v : Value) (w : World) (hk : x.kind = 1) : Calls Try.prog 37 #[.agg x.cells.toArray, v] w fun e w' => e = .returned (valR x ps) ∧ w.grownBy w' none := by
  have e0 : valR x ps = .tuple #[.int .u32 (x.n : Int), .bool true] := by rw [valR, valG, if_pos hk]
  rw [e0]
  clear hk e0
  have HBX := box_ng x
  have h1 := NB.alloc w x
  have h3 := World.grownBy_alloc w (.cells x.cells.toArray 46) none
  have c2 := h1.n
  obtain ⟨X, hX⟩ : ∃ X, x.cells.toArray = X := ⟨_, rfl⟩
  rw [hX] at HBX ⊢
  go_enter Try.func37, Try.ntmps37
  go_upto_region 1 with fail
  rw [← hX] at *
  generalize w.alloc (.cells x.cells.toArray 46) = w1 at *
  generalize w.heap.size = B at *
  clear HBX hX X
  go_wp2
  go_ret2
  exact ⟨rfl, h3⟩

set_option maxHeartbeats 400000 in
theorem unknown_any (x : Ng) (ps : List Pt) (v : Value) (w : World) (hk : x.kind ≠ 1 ∧ x.kind ≠ 4 ∧ x.kind ≠ 5) : Calls Try.prog 39 #[.agg x.cells.toArray, v] w fun e w' => e = .returned (valR x ps) ∧ w.grownBy w' none := by
  have e0 : valR x ps = .tuple #[.int .u32 0, .bool false] := by rw [valR, valG, if_neg hk.1, if_neg hk.2.1, if_neg hk.2.2]
  rw [e0]
  clear hk e0
  have HBX := box_ng x
  have h3 := World.grownBy_alloc w (.cells x.cells.toArray 46) none
  obtain ⟨X, hX⟩ : ∃ X, x.cells.toArray = X := ⟨_, rfl⟩
  rw [hX] at HBX ⊢
  go_enter Try.func39, Try.ntmps39
  go_upto_region 1 with fail
  rw [← hX] at *
  generalize w.alloc (.cells x.cells.toArray 46) = w1 at *
  generalize w.heap.size = B at *
  clear HBX hX X
  go_wp2
  go_ret2
  exact ⟨rfl, h3⟩

set_option maxHeartbeats 400000 in
theorem negated_any (x : Ng) (p : Pt) (ao : Option Addr) (cap : Nat) (w : World) (C : CV w ao (flat3 ptC [p])) (hp : p.val ≤ 4294967295) (hk : x.kind = 5) : Calls Try.prog 46 #[.agg x.cells.toArray, .slice ao 1 cap] w fun e w' => e = .returned (valR x [p]) ∧ w.grownBy w' none := by
  have e0 : valR x [p] = .tuple #[.int .u32 (minusG p.val : Int), .bool true] := by rw [valR, valG, if_neg (by omega), if_neg (by omega), if_pos hk]; rfl
  rw [e0]
  clear hk e0
  have HBX := box_ng x
  have h3 := World.grownBy_alloc w (.cells x.cells.toArray 46) none
  obtain ⟨b, o, rfl, hc⟩ := (C.keptNone h3).pts ptC_len (k := 0) (by simp)
  have c2 := hc 0 (by simp) 2 (.int .u32 (p.val : Int)) rfl
  simp only [Nat.zero_mul, Nat.add_zero] at c2
  clear C hc
  generalize p.val = pv at *
  obtain ⟨X, hX⟩ : ∃ X, x.cells.toArray = X := ⟨_, rfl⟩
  rw [hX] at HBX ⊢
  go_enter Try.func46, Try.ntmps46
  go_upto_region 1 with fail
  rw [← hX] at *
  generalize w.alloc (.cells x.cells.toArray 46) = w1 at *
  generalize w.heap.size = B at *
  clear HBX hX X
  go_wp2_with fail
  refine (minus_any pv hp _).mono ?_
  rintro e w' ⟨rfl, rfl⟩
  go_wp2
  go_ret2
  exact ⟨rfl, h3⟩

set_option maxHeartbeats 1000000 in
theorem reckoned_any (x : Ng) (p q : Pt) (ao : Option Addr) (cap : Nat) (w : World) (C : CV w ao (flat3 ptC [p, q])) (hp : p.val ≤ 4294967295) (hq : q.val ≤ 4294967295) (hk : x.kind = 4) (ho : 1 ≤ x.op ∧ x.op ≤ 10) (hz : divG x.op = true → q.val ≠ 0) :
    Calls Try.prog 45 #[.agg x.cells.toArray, .slice ao 2 cap] w fun e w' => e = .returned (valR x [p, q]) ∧ w.grownBy w' none := by
  have e0 : valR x [p, q] = .tuple #[.int .u32 (arithG x.op p.val q.val : Int), .bool true] := by rw [valR, valG, if_neg (by omega), if_pos hk]; rfl
  rw [e0]
  clear hk e0
  have HBX := box_ng x
  have h1 := NB.alloc w x
  have h3 := World.grownBy_alloc w (.cells x.cells.toArray 46) none
  obtain ⟨b, o, rfl, hc⟩ := (C.keptNone h3).pts ptC_len (k := 0) (by simp)
  have c2 := hc 0 (by simp) 2 (.int .u32 (p.val : Int)) rfl
  have c5 := hc 1 (by simp) 2 (.int .u32 (q.val : Int)) rfl
  have c1 := h1.op
  simp only [Nat.zero_mul, Nat.add_zero, Nat.one_mul] at c2 c5
  obtain ⟨X, hX⟩ : ∃ X, x.cells.toArray = X := ⟨_, rfl⟩
  rw [hX] at HBX ⊢
  clear C hc
  have CA : ∀ W : World, Calls Try.prog 74 #[.int .i64 x.op, .int .u32 (p.val : Int), .int .u32 (q.val : Int)] W fun e w' => e = .returned (.tuple #[.int .u32 (arithG x.op p.val q.val : Int), .bool true]) ∧ w' = W := fun W => (arith_any x.op p.val q.val hp hq ho hz W).mono fun e w' h => ⟨h.1, h.2.symm⟩
  generalize arithG x.op p.val q.val = E at *
  generalize p.val = pv at *
  generalize q.val = qv at *
  clear hp hq ho hz
  go_enter Try.func45, Try.ntmps45
  go_upto_region 1 with fail
  rw [← hX] at *
  generalize w.alloc (.cells x.cells.toArray 46) = w1 at *
  generalize w.heap.size = B at *
  clear HBX hX X h1
  generalize x.op = op at *
  go_quiet ((go_at_call 74; exact Calls.quiet_of_same (CA _)))
  go_wp2
  go_ret2
  exact ⟨rfl, grown_trans h3 (grown_drewN _ _ none)⟩

end Go.Proofs.Ytgoiblnddfggbaa
