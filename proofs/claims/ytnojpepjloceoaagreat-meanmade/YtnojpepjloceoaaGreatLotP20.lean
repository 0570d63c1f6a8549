/-
  Packages reckon and types as landed: what numbers come to; parts in memory. Package mean as landed: numbers and truths. Two addresses that are alike in their first bits. No Go text here.
-/
import Derived.Test.YtnojpepjloceoaaGreatTyF
import Derived.Deep.RegionHeld3
import Derived.Test.YtnojpepjloceoaaGreatLotP18
import Derived.Test.YtnojpepjloceoaaGreatLotP4
import Derived.Handy
namespace Go.Proofs.YtnojpepjloceoaaGreat
open Go.RowKit
set_option maxRecDepth 100000

/-- The cells of a part; of the document's own. -/
def ptC (p : Pt) : List Value := [.int .i64 (if p.truth = true then 0 else 1), .bool p.fixed, .int .u32 (p.val : Int)]
def pqC (p : Pt) : List Value := [.bool p.truth, .bool p.fixed, .int .u32 (p.val : Int)]
def flat3 (c : Pt → List Value) (ps : List Pt) : List Value := ps.flatMap c
theorem flat3_nil (c : Pt → List Value) : flat3 c [] = [] := rfl
theorem flat3_cons (c : Pt → List Value) (p : Pt) (ps : List Pt) : flat3 c (p :: ps) = c p ++ flat3 c ps := rfl
theorem flat3_append (c : Pt → List Value) (xs ys : List Pt) : flat3 c (xs ++ ys) = flat3 c xs ++ flat3 c ys := by simp only [flat3, List.flatMap_append]
theorem flat3_one (c : Pt → List Value) (p : Pt) : flat3 c [p] = c p := by rw [flat3_cons, flat3_nil, List.append_nil]
theorem flat3_len {c : Pt → List Value} (hc : ∀ p, (c p).length = 3) (xs : List Pt) : (flat3 c xs).length = xs.length * 3 := by
  induction xs with
  | nil => rfl
  | cons x xs ih => rw [flat3_cons, List.length_append, ih, List.length_cons, hc]; omega
theorem flat3_get {c : Pt → List Value} (hc : ∀ p, (c p).length = 3) (xs : List Pt) (i j : Nat) (hi : i < xs.length) (hj : j < 3) : (flat3 c xs)[i * 3 + j]? = (c xs[i])[j]? := by
  induction xs generalizing i with
  | nil => simp at hi
  | cons x xs ih =>
    rw [flat3_cons]
    have hl := hc x
    cases i with
    | zero => rw [List.getElem?_append_left (by omega)]; simp
    | succ i =>
      rw [List.getElem?_append_right (by omega), hl, show (i + 1) * 3 + j - 3 = i * 3 + j by omega, ih i (by simpa using hi)]
      simp
theorem ptC_len (p : Pt) : (ptC p).length = 3 := rfl
theorem pqC_len (p : Pt) : (pqC p).length = 3 := rfl
theorem ptC_one (p : Pt) : ∀ u ∈ ptC p, u.oneCell' = true := by
  intro u hu
  simp only [ptC, List.mem_cons, List.not_mem_nil, or_false] at hu
  rcases hu with rfl | rfl | rfl <;> rfl
theorem pqC_one (p : Pt) : ∀ u ∈ pqC p, u.oneCell' = true := by
  intro u hu
  simp only [pqC, List.mem_cons, List.not_mem_nil, or_false] at hu
  rcases hu with rfl | rfl | rfl <;> rfl
theorem CV.pts {c : Pt → List Value} (hc : ∀ p, (c p).length = 3) {w : World} {ao : Option Addr} {xs : List Pt} (h : CV w ao (flat3 c xs)) {k : Nat} (hk : k < xs.length) :
    ∃ b off, ao = some ⟨b, off, none⟩ ∧ ∀ i (hi : i < xs.length), w.rangeAt b (off + i * 3) (c xs[i]) := by
  have hl := flat3_len hc xs
  obtain ⟨b, off, hao, hcc⟩ := h.addr (k := k * 3) (by omega)
  refine ⟨b, off, hao, fun i hi j v hv => ?_⟩
  have hj : j < 3 := by have := (List.getElem?_eq_some_iff.1 hv).1; rw [hc] at this; exact this
  rw [← flat3_get hc xs i j hi hj] at hv
  rw [Nat.add_assoc, hcc (i * 3 + j) (by omega), ← hv, List.getElem?_eq_getElem (by omega)]

set_option maxHeartbeats 400000 in
theorem divides_any (op : Int) (w : World) : Calls Tryz.prog 140 #[.int .i64 op] w fun e w' => e = .returned (.bool (divG op)) ∧ w = w' := by
  unfold divG
  obtain ⟨E, hE⟩ : ∃ E : Bool, decide (op = 4 ∨ op = 5) = E := ⟨_, rfl⟩
  rw [hE]
  have HE : Hid (decide (op = 4 ∨ op = 5) = E) := hE
  clear hE
  by_cases h1 : op = 4
  · have e1 : (op == 4) = true := by simpa using h1
    have HQ : Hid (op = 4) := h1
    clear h1
    go_enter Tryz.func140, Tryz.ntmps140
    go_wp2
    go_ret
    exact ⟨ret_bool (by rw [← HE.out, decide_eq_true (.inl HQ.out)]), rfl⟩
  · have e1 : (op == 4) = false := by simpa using h1
    have HQ : Hid (¬ op = 4) := h1
    by_cases h2 : op = 5
    · have e2 : (op == 5) = true := by simpa using h2
      have HQ2 : Hid (op = 5) := h2
      clear h1 h2
      go_enter Tryz.func140, Tryz.ntmps140
      go_wp2
      go_ret
      exact ⟨ret_bool (by rw [← HE.out, decide_eq_true (.inr HQ2.out)]), rfl⟩
    · have e2 : (op == 5) = false := by simpa using h2
      have HQ2 : Hid (¬ op = 5) := h2
      clear h1 h2
      go_enter Tryz.func140, Tryz.ntmps140
      go_wp2
      go_ret
      exact ⟨ret_bool (by rw [← HE.out, decide_eq_false (fun h => h.elim HQ.out HQ2.out)]), rfl⟩

set_option maxHeartbeats 400000 in
theorem minus_any (a : Nat) (ha : a ≤ 4294967295) (w : World) : Calls Tryz.prog 122 #[.int .u32 (a : Int)] w fun e w' => e = .returned (.int .u32 (minusG a : Int)) ∧ w = w' := by
  have h : (-(a : Int)) % 4294967296 = (minusG a : Int) := by unfold minusG; omega
  obtain ⟨E, hE⟩ : ∃ E, minusG a = E := ⟨_, rfl⟩
  rw [hE] at h ⊢
  clear hE
  go_enter Tryz.func122, Tryz.ntmps122
  go_wp2
  go_ret
  exact ⟨ret_int h, rfl⟩

theorem ret_ar {x y : Int} (h : x = y) : Ending.returned (.tuple #[.int .u32 x, .bool true]) = .returned (.tuple #[.int .u32 y, .bool true]) := by rw [h]

theorem shift_true {a b : Nat} : (a : Int) * 2 ^ min b 32 % 4294967296 = (shiftV a b true : Int) := by
  unfold shiftV
  by_cases h : 31 < b
  · rw [if_pos h, show min b 32 = 32 by omega]
    omega
  · rw [if_neg h, if_pos rfl, show min b 32 = b by omega]
    simp
theorem shift_false {a b : Nat} (ha : a ≤ 4294967295) : (a : Int) / 2 ^ min b 32 = (shiftV a b false : Int) := by
  unfold shiftV
  by_cases h : 31 < b
  · rw [if_pos h, show min b 32 = 32 by omega]
    omega
  · rw [if_neg h, if_neg (by decide), show min b 32 = b by omega]
    simp

set_option maxHeartbeats 2000000 in
theorem arith_any (op : Int) (a b : Nat) (ha : a ≤ 4294967295) (hb : b ≤ 4294967295) (ho : 1 ≤ op ∧ op ≤ 10) (hz : divG op = true → b ≠ 0) (w : World) :
    Calls Tryz.prog 121 #[.int .i64 op, .int .u32 (a : Int), .int .u32 (b : Int)] w fun e w' => e = .returned (.tuple #[.int .u32 (arithG op a b : Int), .bool true]) ∧ w = w' := by
  have e1 := u32_or_nat a b (by omega) (by omega)
  have e2 := u32_and_nat a b (by omega) (by omega)
  have e3 := u32_xor_nat a b (by omega) (by omega)
  have C0 := divides_any op w
  have : op = 1 ∨ op = 2 ∨ op = 3 ∨ op = 6 ∨ op = 7 ∨ op = 8 ∨ op = 9 ∨ op = 10 ∨ op = 4 ∨ op = 5 := by omega
  have HB : Hid (b ≤ 4294967295) := hb
  have HA : Hid (a ≤ 4294967295) := ha
  clear ho ha hb
  rcases this with rfl | rfl | rfl | rfl | rfl | rfl | rfl | rfl | rfl | rfl
  · have h : ((a : Int) + (b : Int)) % 4294967296 = (arithG 1 a b : Int) := by simp [arithG]
    generalize arithG 1 a b = E at *
    clear hz e1 e2 e3
    rw [show divG 1 = false from rfl] at C0
    go_enter Tryz.func121, Tryz.ntmps121
    go_wp2_with fail
    refine C0.mono ?_
    rintro e w' ⟨rfl, rfl⟩
    go_wp2
    go_ret2
    exact ⟨ret_ar h, rfl⟩
  · have h : ((a : Int) - (b : Int)) % 4294967296 = (arithG 2 a b : Int) := by have := HB.out; simp [arithG]; omega
    generalize arithG 2 a b = E at *
    clear hz e1 e2 e3
    rw [show divG 2 = false from rfl] at C0
    go_enter Tryz.func121, Tryz.ntmps121
    go_wp2_with fail
    refine C0.mono ?_
    rintro e w' ⟨rfl, rfl⟩
    go_wp2
    go_ret2
    exact ⟨ret_ar h, rfl⟩
  · have h : ((a : Int) * (b : Int)) % 4294967296 = (arithG 3 a b : Int) := by simp [arithG]
    generalize arithG 3 a b = E at *
    clear hz e1 e2 e3
    rw [show divG 3 = false from rfl] at C0
    go_enter Tryz.func121, Tryz.ntmps121
    go_wp2_with fail
    refine C0.mono ?_
    rintro e w' ⟨rfl, rfl⟩
    go_wp2
    go_ret2
    exact ⟨ret_ar h, rfl⟩
  · have h : bits .and .u32 (a : Int) (b : Int) = (arithG 6 a b : Int) := by rw [e2]; simp [arithG]
    generalize arithG 6 a b = E at *
    clear hz e1 e2 e3
    rw [show divG 6 = false from rfl] at C0
    go_enter Tryz.func121, Tryz.ntmps121
    go_wp2_with fail
    refine C0.mono ?_
    rintro e w' ⟨rfl, rfl⟩
    go_wp2
    go_ret2
    exact ⟨rfl, rfl⟩
  · have h : bits .or .u32 (a : Int) (b : Int) = (arithG 7 a b : Int) := by rw [e1]; simp [arithG]
    generalize arithG 7 a b = E at *
    clear hz e1 e2 e3
    rw [show divG 7 = false from rfl] at C0
    go_enter Tryz.func121, Tryz.ntmps121
    go_wp2_with fail
    refine C0.mono ?_
    rintro e w' ⟨rfl, rfl⟩
    go_wp2
    go_ret2
    exact ⟨rfl, rfl⟩
  · have h : bits .xor .u32 (a : Int) (b : Int) = (arithG 8 a b : Int) := by rw [e3]; simp [arithG]
    generalize arithG 8 a b = E at *
    clear hz e1 e2 e3
    rw [show divG 8 = false from rfl] at C0
    go_enter Tryz.func121, Tryz.ntmps121
    go_wp2_with fail
    refine C0.mono ?_
    rintro e w' ⟨rfl, rfl⟩
    go_wp2
    go_ret2
    exact ⟨rfl, rfl⟩
  · have HV : Hid (arithG 9 a b = shiftV a b true) := rfl
    obtain ⟨E, hE⟩ : ∃ E, arithG 9 a b = E := ⟨_, rfl⟩
    rw [hE] at HV ⊢
    clear hz e1 e2 e3 hE
    rw [show divG 9 = false from rfl] at C0
    go_enter Tryz.func121, Tryz.ntmps121
    go_wp2_with fail
    refine C0.mono ?_
    rintro e w' ⟨rfl, rfl⟩
    go_wp2
    go_ret2
    exact ⟨ret_ar (by rw [HV.out]; exact shift_true), rfl⟩
  · have HV : Hid (arithG 10 a b = shiftV a b false) := rfl
    obtain ⟨E, hE⟩ : ∃ E, arithG 10 a b = E := ⟨_, rfl⟩
    rw [hE] at HV ⊢
    clear hz e1 e2 e3 hE
    rw [show divG 10 = false from rfl] at C0
    go_enter Tryz.func121, Tryz.ntmps121
    go_wp2_with fail
    refine C0.mono ?_
    rintro e w' ⟨rfl, rfl⟩
    go_wp2
    go_ret2
    exact ⟨ret_ar (by rw [HV.out]; exact shift_false HA.out), rfl⟩
  · have hb0 : ((b : Int) == 0) = false := by have := hz rfl; simpa using this
    have hb1 : ¬ b = 0 := hz rfl
    have h : (a : Int) / (b : Int) = (arithG 4 a b : Int) := by simp [arithG]
    have HE : Hid (arithG 4 a b ≤ 4294967295) := Nat.le_trans (Nat.div_le_self a b) HA.out
    generalize arithG 4 a b = E at *
    clear hz e1 e2 e3
    rw [show divG 4 = true from rfl] at C0
    go_enter Tryz.func121, Tryz.ntmps121
    go_wp2_with fail
    refine C0.mono ?_
    rintro e w' ⟨rfl, rfl⟩
    go_wp2
    go_ret2
    exact ⟨ret_ar (by have := HE.out; omega), rfl⟩
  · have hb0 : ((b : Int) == 0) = false := by have := hz rfl; simpa using this
    have hb1 : ¬ b = 0 := hz rfl
    have h : (a : Int) % (b : Int) = (arithG 5 a b : Int) := by simp [arithG]
    generalize arithG 5 a b = E at *
    clear hz e1 e2 e3
    rw [show divG 5 = true from rfl] at C0
    go_enter Tryz.func121, Tryz.ntmps121
    go_wp2_with fail
    refine C0.mono ?_
    rintro e w' ⟨rfl, rfl⟩
    go_wp2
    go_ret2
    exact ⟨ret_ar h, rfl⟩

/-- What a kind's function of values tells. -/
def valR (x : Ng) (ps : List Pt) : Value := match valG x ps with
  | some v => .tuple #[.int .u32 (v : Int), .bool true]
  | none => .tuple #[.int .u32 0, .bool false]

set_option maxHeartbeats 400000 in
theorem itself_any (x : Ng) (ps : List Pt) (v : Value) (w : World) (hk : x.kind = 1) : Calls Tryz.prog 72 #[.agg x.cells.toArray, v] w fun e w' => e = .returned (valR x ps) ∧ w.grownBy w' none := by
  have e0 : valR x ps = .tuple #[.int .u32 (x.n : Int), .bool true] := by rw [valR, valG, if_pos hk]
  rw [e0]
  clear hk e0
  have HBX := box_ng x
  have h1 := NB.alloc w x
  have h3 := World.grownBy_alloc w (.cells x.cells.toArray 37) none
  have c2 := h1.n
  obtain ⟨X, hX⟩ : ∃ X, x.cells.toArray = X := ⟨_, rfl⟩
  rw [hX] at HBX ⊢
  go_enter Tryz.func72, Tryz.ntmps72
  go_upto_region 1 with fail
  rw [← hX] at *
  generalize w.alloc (.cells x.cells.toArray 37) = w1 at *
  generalize w.heap.size = B at *
  clear HBX hX X
  go_wp2
  go_ret2
  exact ⟨rfl, h3⟩

set_option maxHeartbeats 400000 in
theorem unknown_any (x : Ng) (ps : List Pt) (v : Value) (w : World) (hk : x.kind ≠ 1 ∧ x.kind ≠ 4 ∧ x.kind ≠ 5) : Calls Tryz.prog 74 #[.agg x.cells.toArray, v] w fun e w' => e = .returned (valR x ps) ∧ w.grownBy w' none := by
  have e0 : valR x ps = .tuple #[.int .u32 0, .bool false] := by rw [valR, valG, if_neg hk.1, if_neg hk.2.1, if_neg hk.2.2]
  rw [e0]
  clear hk e0
  have HBX := box_ng x
  have h3 := World.grownBy_alloc w (.cells x.cells.toArray 37) none
  obtain ⟨X, hX⟩ : ∃ X, x.cells.toArray = X := ⟨_, rfl⟩
  rw [hX] at HBX ⊢
  go_enter Tryz.func74, Tryz.ntmps74
  go_upto_region 1 with fail
  rw [← hX] at *
  generalize w.alloc (.cells x.cells.toArray 37) = w1 at *
  generalize w.heap.size = B at *
  clear HBX hX X
  go_wp2
  go_ret2
  exact ⟨rfl, h3⟩

set_option maxHeartbeats 400000 in
theorem negated_any (x : Ng) (p : Pt) (ao : Option Addr) (cap : Nat) (w : World) (C : CV w ao (flat3 ptC [p])) (hp : p.val ≤ 4294967295) (hk : x.kind = 5) : Calls Tryz.prog 81 #[.agg x.cells.toArray, .slice ao 1 cap] w fun e w' => e = .returned (valR x [p]) ∧ w.grownBy w' none := by
  have e0 : valR x [p] = .tuple #[.int .u32 (minusG p.val : Int), .bool true] := by rw [valR, valG, if_neg (by omega), if_neg (by omega), if_pos hk]; rfl
  rw [e0]
  clear hk e0
  have HBX := box_ng x
  have h3 := World.grownBy_alloc w (.cells x.cells.toArray 37) none
  obtain ⟨b, o, rfl, hc⟩ := (C.keptNone h3).pts ptC_len (k := 0) (by simp)
  have c2 := hc 0 (by simp) 2 (.int .u32 (p.val : Int)) rfl
  simp only [Nat.zero_mul, Nat.add_zero] at c2
  clear C hc
  generalize p.val = pv at *
  obtain ⟨X, hX⟩ : ∃ X, x.cells.toArray = X := ⟨_, rfl⟩
  rw [hX] at HBX ⊢
  go_enter Tryz.func81, Tryz.ntmps81
  go_upto_region 1 with fail
  rw [← hX] at *
  generalize w.alloc (.cells x.cells.toArray 37) = w1 at *
  generalize w.heap.size = B at *
  clear HBX hX X
  go_wp2_with fail
  refine (minus_any pv hp _).mono ?_
  rintro e w' ⟨rfl, rfl⟩
  go_wp2
  go_ret2
  exact ⟨rfl, h3⟩

set_option maxHeartbeats 1000000 in
theorem reckoned_any (x : Ng) (p q : Pt) (ao : Option Addr) (cap : Nat) (w : World) (C : CV w ao (flat3 ptC [p, q])) (hp : p.val ≤ 4294967295) (hq : q.val ≤ 4294967295) (hk : x.kind = 4) (ho : 1 ≤ x.op ∧ x.op ≤ 10) (hz : divG x.op = true → q.val ≠ 0) :
    Calls Tryz.prog 80 #[.agg x.cells.toArray, .slice ao 2 cap] w fun e w' => e = .returned (valR x [p, q]) ∧ w.grownBy w' none := by
  have e0 : valR x [p, q] = .tuple #[.int .u32 (arithG x.op p.val q.val : Int), .bool true] := by rw [valR, valG, if_neg (by omega), if_pos hk]; rfl
  rw [e0]
  clear hk e0
  have HBX := box_ng x
  have h1 := NB.alloc w x
  have h3 := World.grownBy_alloc w (.cells x.cells.toArray 37) none
  obtain ⟨b, o, rfl, hc⟩ := (C.keptNone h3).pts ptC_len (k := 0) (by simp)
  have c2 := hc 0 (by simp) 2 (.int .u32 (p.val : Int)) rfl
  have c5 := hc 1 (by simp) 2 (.int .u32 (q.val : Int)) rfl
  have c1 := h1.op
  simp only [Nat.zero_mul, Nat.add_zero, Nat.one_mul] at c2 c5
  obtain ⟨X, hX⟩ : ∃ X, x.cells.toArray = X := ⟨_, rfl⟩
  rw [hX] at HBX ⊢
  clear C hc
  have CA : ∀ W : World, Calls Tryz.prog 121 #[.int .i64 x.op, .int .u32 (p.val : Int), .int .u32 (q.val : Int)] W fun e w' => e = .returned (.tuple #[.int .u32 (arithG x.op p.val q.val : Int), .bool true]) ∧ w' = W := fun W => (arith_any x.op p.val q.val hp hq ho hz W).mono fun e w' h => ⟨h.1, h.2.symm⟩
  generalize arithG x.op p.val q.val = E at *
  generalize p.val = pv at *
  generalize q.val = qv at *
  clear hp hq ho hz
  go_enter Tryz.func80, Tryz.ntmps80
  go_upto_region 1 with fail
  rw [← hX] at *
  generalize w.alloc (.cells x.cells.toArray 37) = w1 at *
  generalize w.heap.size = B at *
  clear HBX hX X h1
  generalize x.op = op at *
  go_quiet ((go_at_call 121; exact Calls.quiet_of_same (CA _)))
  go_wp2
  go_ret2
  exact ⟨rfl, grown_trans h3 (grown_drewN _ _ none)⟩

end Go.Proofs.YtnojpepjloceoaaGreat

namespace Go.Proofs.YtnojpepjloceoaaGreat
open Go.RowKit
set_option maxRecDepth 100000

def pmC (p : Pm) : Array Value := #[.int .i64 p.how, .int .u32 (p.val : Int)]
abbrev pmA (p : Pm) : Value := .agg (pmC p)

set_option maxHeartbeats 400000 in
theorem mknown_any (v : Nat) (w : World) : Calls Tryz.prog 108 #[.int .u32 (v : Int)] w fun e w' => e = .returned (pmA ⟨1, v⟩) ∧ w.grownBy w' none := by
  have h3 := World.grownBy_alloc w (.cells (pmC ⟨1, v⟩) 71) none
  go_enter Tryz.func108, Tryz.ntmps108
  go_wp2
  go_returns
  exact ⟨rfl, h3⟩

theorem judged_any (b : Bool) (w : World) : Calls Tryz.prog 134 #[.bool b] w fun e w' => e = .returned (.int .i64 (jdg b)) ∧ w = w' := by
  cases b
  · go_enter Tryz.func134, Tryz.ntmps134
    go_wp2
    go_ret
    exact ⟨rfl, rfl⟩
  · go_enter Tryz.func134, Tryz.ntmps134
    go_wp2
    go_ret
    exact ⟨rfl, rfl⟩

theorem both_any (a b : Int) (w : World) : Calls Tryz.prog 114 #[.int .i64 a, .int .i64 b] w fun e w' => e = .returned (.int .i64 (andM a b)) ∧ w = w' := by
  by_cases h : a = 1
  · have e1 : (a != 1) = false := by simpa using h
    have e2 : andM a b = b := by simp [andM, h]
    rw [e2]
    clear h e2
    go_enter Tryz.func114, Tryz.ntmps114
    go_wp2
    go_ret
    exact ⟨rfl, rfl⟩
  · have e1 : (a != 1) = true := by simpa using h
    have e2 : andM a b = a := by simp [andM, h]
    rw [e2]
    clear h e2
    go_enter Tryz.func114, Tryz.ntmps114
    go_wp2
    go_ret
    exact ⟨rfl, rfl⟩

theorem either_any (a b : Int) (w : World) : Calls Tryz.prog 115 #[.int .i64 a, .int .i64 b] w fun e w' => e = .returned (.int .i64 (orM a b)) ∧ w = w' := by
  by_cases h : a = 0
  · have e1 : (a != 0) = false := by simpa using h
    have e2 : orM a b = b := by simp [orM, h]
    rw [e2]
    clear h e2
    go_enter Tryz.func115, Tryz.ntmps115
    go_wp2
    go_ret
    exact ⟨rfl, rfl⟩
  · have e1 : (a != 0) = true := by simpa using h
    have e2 : orM a b = a := by simp [orM, h]
    rw [e2]
    clear h e2
    go_enter Tryz.func115, Tryz.ntmps115
    go_wp2
    go_ret
    exact ⟨rfl, rfl⟩

theorem other_any (a : Int) (w : World) : Calls Tryz.prog 116 #[.int .i64 a] w fun e w' => e = .returned (.int .i64 (notM a)) ∧ w = w' := by
  by_cases h : a = 1
  · subst h
    go_enter Tryz.func116, Tryz.ntmps116
    go_wp2
    go_ret
    exact ⟨rfl, rfl⟩
  · by_cases h0 : a = 0
    · subst h0
      go_enter Tryz.func116, Tryz.ntmps116
      go_wp2
      go_ret
      exact ⟨rfl, rfl⟩
    · have e1 : (a == 1) = false := by simpa using h
      have e3 : (a == 0) = false := by simpa using h0
      have e2 : notM a = a := by simp [notM, h, h0]
      rw [e2]
      clear h h0 e2
      go_enter Tryz.func116, Tryz.ntmps116
      go_wp2
      go_ret
      exact ⟨rfl, rfl⟩

theorem sided_any (s a b : Int) (w : World) : Calls Tryz.prog 143 #[.int .i64 s, .int .i64 a, .int .i64 b] w fun e w' => e = .returned (.int .i64 (sidedM s a b)) ∧ w = w' := by
  by_cases h : s = 1
  · subst h
    go_enter Tryz.func143, Tryz.ntmps143
    go_wp2
    go_ret
    exact ⟨rfl, rfl⟩
  · by_cases h0 : s = 2
    · subst h0
      go_enter Tryz.func143, Tryz.ntmps143
      go_wp2
      go_ret
      exact ⟨rfl, rfl⟩
    · have e1 : (s == 1) = false := by simpa using h
      have e3 : (s == 2) = false := by simpa using h0
      have e2 : sidedM s a b = orM a b := by simp [sidedM, h, h0]
      rw [e2]
      clear h h0 e2
      go_enter Tryz.func143, Tryz.ntmps143
      go_wp2_with fail
      refine (either_any a b _).mono ?_
      rintro e w' ⟨rfl, rfl⟩
      go_wp2
      go_ret
      exact ⟨rfl, rfl⟩

theorem wayOf_any (s : Int) (w : World) : Calls Tryz.prog 136 #[.int .i64 s] w fun e w' => e = .returned (.int .i64 (wayM s)) ∧ w = w' := by
  by_cases h : s = 1
  · subst h
    go_enter Tryz.func136, Tryz.ntmps136
    go_wp2
    go_ret
    exact ⟨rfl, rfl⟩
  · have e1 : (s == 1) = false := by simpa using h
    have e2 : wayM s = 1 := by simp [wayM, h]
    rw [e2]
    clear h e2
    go_enter Tryz.func136, Tryz.ntmps136
    go_wp2
    go_ret
    exact ⟨rfl, rfl⟩

def endsA (of : Int) : Array Value := #[.int .i64 (srcM of : Int), .int .i64 (dstM of : Int), .int .i64 (longM of : Int)]
set_option maxHeartbeats 400000 in
theorem endsOf_any (of : Int) (w : World) : Calls Tryz.prog 138 #[.int .i64 of] w fun e w' => e = .returned (.agg (endsA of)) ∧ w.grownBy w' none := by
  have h3 := World.grownBy_alloc w (.cells (endsA of) 164) none
  by_cases h : of = 2
  · subst h
    go_enter Tryz.func138, Tryz.ntmps138
    go_wp2
    go_returns
    exact ⟨rfl, h3⟩
  · have e1 : (of == 2) = false := by simpa using h
    have e2 : endsA of = #[.int .i64 8, .int .i64 24, .int .i64 16] := by simp [endsA, srcM, dstM, longM, h]
    rw [e2] at h3 ⊢
    clear h e2
    go_enter Tryz.func138, Tryz.ntmps138
    go_wp2
    go_returns
    exact ⟨rfl, h3⟩

set_option maxHeartbeats 1000000 in
theorem compare_any (op : Int) (a b : Nat) (w : World) : Calls Tryz.prog 135 #[.int .i64 op, .int .u32 (a : Int), .int .u32 (b : Int)] w fun e w' => e = .returned (.bool (cmpM op a b)) ∧ w = w' := by
  have q1 : ((a : Int) == (b : Int)) = decide (a = b) := by rw [Bool.eq_iff_iff]; simp; omega
  have q2 : ((a : Int) != (b : Int)) = decide (a ≠ b) := by rw [Bool.eq_iff_iff]; simp; omega
  have : op = 1 ∨ op = 2 ∨ op = 3 ∨ op = 4 ∨ op = 5 ∨ (op ≠ 1 ∧ op ≠ 2 ∧ op ≠ 3 ∧ op ≠ 4 ∧ op ≠ 5) := by omega
  rcases this with rfl | rfl | rfl | rfl | rfl | ⟨h1, h2, h3, h4, h5⟩
  · go_enter Tryz.func135, Tryz.ntmps135
    go_wp2
    go_ret
    exact ⟨ret_bool (by simp [cmpM]), rfl⟩
  · go_enter Tryz.func135, Tryz.ntmps135
    go_wp2
    go_ret
    exact ⟨ret_bool (by simp [cmpM]), rfl⟩
  · go_enter Tryz.func135, Tryz.ntmps135
    go_wp2
    go_ret
    exact ⟨ret_bool (by simp [cmpM]), rfl⟩
  · go_enter Tryz.func135, Tryz.ntmps135
    go_wp2
    go_ret
    exact ⟨ret_bool (by simp [cmpM]), rfl⟩
  · go_enter Tryz.func135, Tryz.ntmps135
    go_wp2
    go_ret
    exact ⟨ret_bool (by simp [cmpM]), rfl⟩
  · have e1 : (op == 1) = false := by simpa using h1
    have e2 : (op == 2) = false := by simpa using h2
    have e3 : (op == 3) = false := by simpa using h3
    have e4 : (op == 4) = false := by simpa using h4
    have e5 : (op == 5) = false := by simpa using h5
    have e6 : cmpM op a b = decide (b ≤ a) := by simp [cmpM, h1, h2, h3, h4, h5]
    rw [e6]
    clear h1 h2 h3 h4 h5 e6
    go_enter Tryz.func135, Tryz.ntmps135
    go_wp2
    go_ret
    exact ⟨ret_bool (by simp), rfl⟩
end Go.Proofs.YtnojpepjloceoaaGreat

namespace Go.Proofs.YtnojpepjloceoaaGreat
open Go.RowKit
set_option maxRecDepth 100000

theorem top_eq {n : Nat} (h0 : n ≠ 0) (h8 : n < 8) (x y : UInt8) : topB n x = topB n y ↔ x.toNat / 2 ^ (8 - n) = y.toNat / 2 ^ (8 - n) := by
  have hx := x.toNat_lt
  have hy := y.toNat_lt
  unfold topB
  rw [if_neg h0, if_pos h8, if_neg h0, if_pos h8]
  have hp : 0 < 2 ^ (8 - n) := Nat.pow_pos (by omega)
  constructor
  · intro h
    have := congrArg UInt8.toNat h
    rw [UInt8.toNat_ofNat', UInt8.toNat_ofNat'] at this
    have hx2 := Nat.div_mul_le_self x.toNat (2 ^ (8 - n))
    have hy2 := Nat.div_mul_le_self y.toNat (2 ^ (8 - n))
    rw [Nat.mod_eq_of_lt (by omega), Nat.mod_eq_of_lt (by omega)] at this
    exact Nat.eq_of_mul_eq_mul_right hp this
  · intro h
    rw [h]
theorem top_0 (x y : UInt8) : topB 0 x = topB 0 y := by simp [topB]
theorem mask_0 : ∀ (xs ys : List UInt8), xs.length = ys.length → maskV 0 xs = maskV 0 ys
  | [], [], _ => rfl
  | x :: xs, y :: ys, h => by
    simp only [maskV, Nat.zero_sub]
    rw [mask_0 xs ys (by simpa using h), top_0 x y]
/-- Alike in the first n bits: the whole bytes, and the rest of the next one. -/
theorem mask_alike : ∀ (xs ys : List UInt8) (n : Nat), xs.length = ys.length → (maskV n xs = maskV n ys ↔ xs.take (n / 8) = ys.take (n / 8) ∧ (n % 8 = 0 ∨ (xs.getD (n / 8) 0).toNat / 2 ^ (8 - n % 8) = (ys.getD (n / 8) 0).toNat / 2 ^ (8 - n % 8)))
  | [], [], n, _ => by simp
  | x :: xs, y :: ys, n, h => by
    have hl : xs.length = ys.length := by simpa using h
    simp only [maskV, List.cons.injEq]
    by_cases h8 : 8 ≤ n
    · have e1 : n / 8 = (n - 8) / 8 + 1 := by omega
      have e2 : n % 8 = (n - 8) % 8 := by omega
      have t : ∀ z : UInt8, topB n z = z := fun z => by unfold topB; rw [if_neg (by omega), if_neg (by omega)]
      rw [t, t, e1, e2, mask_alike xs ys (n - 8) hl]
      simp only [List.take_succ_cons, List.cons.injEq, List.getD_cons_succ]
      constructor
      · rintro ⟨a, b, c⟩; exact ⟨⟨a, b⟩, c⟩
      · rintro ⟨⟨a, b⟩, c⟩; exact ⟨a, b, c⟩
    · have e1 : n / 8 = 0 := by omega
      have e2 : n % 8 = n := by omega
      have e3 : n - 8 = 0 := by omega
      rw [e1, e2, e3]
      simp only [List.take_zero, List.getD_cons_zero, true_and, mask_0 xs ys hl, and_true]
      by_cases h0 : n = 0
      · subst h0; simp [topB]
      · rw [top_eq h0 (by omega)]
        constructor
        · intro k; exact .inr k
        · rintro (k | k)
          · exact absurd k h0
          · exact k
theorem xor_shift (a b k : Nat) : (a ^^^ b) / 2 ^ k = 0 ↔ a / 2 ^ k = b / 2 ^ k := by
  rw [← Nat.shiftRight_eq_div_pow, ← Nat.shiftRight_eq_div_pow, ← Nat.shiftRight_eq_div_pow, Nat.shiftRight_xor_distrib]
  constructor
  · intro h
    have := congrArg (· ^^^ (b >>> k)) h
    simpa [Nat.xor_assoc] using this
  · intro h
    rw [h, Nat.xor_self]
/-- All bits. -/
theorem mask_all : ∀ (xs : List UInt8) (n : Nat), 8 * xs.length ≤ n → maskV n xs = xs
  | [], n, _ => rfl
  | x :: xs, n, h => by
    simp only [List.length_cons] at h
    simp only [maskV]
    rw [mask_all xs (n - 8) (by omega)]
    unfold topB
    rw [if_neg (by omega), if_neg (by omega)]
end Go.Proofs.YtnojpepjloceoaaGreat
