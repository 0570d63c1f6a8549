import Derived.Test.YtghbbephhoniaaaGreatDoorLotP4
import Derived.Test.YtghbbephhoniaaaGreatDoorLotP1
import Derived.Laws.Rows
import Derived.Deep.RegionHeld3
import Derived.Deep.RegionLaw
import Derived.Deep.WholeRow
import Derived.Test.YtghbbephhoniaaaGreatDoorLotP5
import Derived.Deep.MidRow
import Derived.BigQuiet
import Derived.Test.YtghbbephhoniaaaGreatDoorLotP2
import Derived.Laws.CopyOwn
import Derived.Maps.AppendAt
import Derived.Laws.EntriesVeiled
import Derived.Shelf.Abstract
namespace Go.Proofs.YtghbbephhoniaaaGreatDoor
open Go.RowKit
set_option maxRecDepth 100000
theorem step_alloc {P : Program} {ops : Array Oper} {o : Oper} {a : Act} {w : World} {K : Act → World → Prop} {Q : Exit → Act → World → Prop} {E : Prop}
  (hgd : o.guard = none) (t : TypeId) (ho : o.op = .alloc t) (cs : Array Value)
  (hr : ∀ W : World, (Instr.alloc t true (.tuple #[])).run P W = .ok (.pointer (some ⟨W.heap.size, 0, none⟩)) (W.alloc (.cells cs t)))
  (hK : ∀ V w', VAt w' V t cs → w.grownBy w' none → w.heap.size ≤ V → K (a.put o.dst (.pointer (some ⟨V, 0, none⟩))) w') :
  if Region.wanted o (yielded ops a.tmps) = true then Oper.wp P o a w K Q else E := by
 have hw : Region.wanted o (yielded ops a.tmps) = true := by simp [Region.wanted, hgd]
 rw [if_pos hw]
 unfold Oper.wp execOp
 simp only [ho, Sem.run_bind, Sem.run_pure, Result.andThen_ok, hr]
 exact hK _ _ (VAt.alloc w t cs) (World.grownBy_alloc _ _ _) (Nat.le_refl _)
theorem yieldsIf_load_row {P : Program} {ops : Array Oper} {S : World → Prop} {op : Oper} {a : Act} (hw : Region.wanted op (yielded ops a.tmps) = true) (ty : TypeId) (x : Operand) (ho : op.op = .load ty x)
  (g : Nat) (hx : a.eval x = .pointer (some ⟨g, 0, none⟩)) (t : TypeId) (cs : Array Value) (d : TypeDesc) (hS : ∀ w, S w → VAt w g t cs)
  (hu : P.underlying ty = some d) (hd : (match d with | .struct _ | .array _ _ => true | _ => false) = true) (hi : (P.info? ty).map (·.size) = some cs.size) : YieldsIf P ops S op (.agg cs) a :=
 .inl ⟨hw, fun w hw' => by
  unfold execOp
  simp only [ho, hx, Instr.loadAt, Instr.sureAddr, Sem.run_bind, Sem.run_pure, Result.andThen_ok, run_loadVar_row w g t ty cs (0, 0) d (hS w hw') hu hd hi]⟩
theorem box_ng (x : Ng) (W : World) : (Instr.box 28 (.agg x.cells.toArray)).run Tryz.prog W = .ok (.pointer (some ⟨W.heap.size, 0, none⟩)) (W.alloc (.cells x.cells.toArray 28)) := by kernel_rfl
theorem ng_size (x : Ng) : (Tryz.prog.info? 28).map (·.size) = some x.cells.toArray.size := size28
theorem ng_all (x : Ng) : x.cells.toArray.all (·.oneCell') = true := by simp [Ng.cells, adg, Value.oneCell']
def NB (w : World) (B : Nat) (x : Ng) : Prop := VAt w B 28 x.cells.toArray
section
variable {w w' : World} {B : Nat} {x : Ng}
theorem NB.vat (h : NB w B x) : VAt w B 28 x.cells.toArray := h
theorem NB.kept (h : NB w B x) (K : w.grownBy w' none) : NB w' B x := VAt.kept h K
theorem NB.kind (h : NB w B x) : w.cell? ⟨B, 0, none⟩ = some (.int .i64 x.kind) := VAt.cell h 0
theorem NB.op (h : NB w B x) : w.cell? ⟨B, 1, none⟩ = some (.int .i64 x.op) := VAt.cell h 1
theorem NB.n (h : NB w B x) : w.cell? ⟨B, 2, none⟩ = some (.int .u32 (x.n : Int)) := VAt.cell h 2
theorem NB.m (h : NB w B x) : w.cell? ⟨B, 3, none⟩ = some (.int .u32 (x.m : Int)) := VAt.cell h 3
theorem NB.size (h : NB w B x) : w.cell? ⟨B, 4, none⟩ = some (.int .i64 x.size) := VAt.cell h 4
theorem NB.of (h : NB w B x) : w.cell? ⟨B, 5, none⟩ = some (.int .i64 x.of) := VAt.cell h 5
theorem NB.side (h : NB w B x) : w.cell? ⟨B, 6, none⟩ = some (.int .i64 x.side) := VAt.cell h 6
theorem NB.bits (h : NB w B x) : w.cell? ⟨B, 23, none⟩ = some (.int .i64 x.bits) := VAt.cell h 23
theorem NB.addr (h : NB w B x) : w.rangeAt B 7 ((adgs x).map bv) := by
 intro j v hv
 rw [VAt.cell h (7 + j)]
 have hj : j < 16 := (List.getElem?_eq_some_iff.1 hv).1
 have : j = 0 ∨ j = 1 ∨ j = 2 ∨ j = 3 ∨ j = 4 ∨ j = 5 ∨ j = 6 ∨ j = 7 ∨ j = 8 ∨ j = 9 ∨ j = 10 ∨ j = 11 ∨ j = 12 ∨ j = 13 ∨ j = 14 ∨ j = 15 := by omega
 rcases this with rfl | rfl | rfl | rfl | rfl | rfl | rfl | rfl | rfl | rfl | rfl | rfl | rfl | rfl | rfl | rfl <;> exact hv
theorem NB.alloc (w : World) (x : Ng) : NB (w.alloc (.cells x.cells.toArray 28)) w.heap.size x := VAt.alloc _ _ _
end
def ngZ : Ng := ⟨0, 0, 0, 0, 0, 0, 0, zeros 16, 0⟩
theorem size_arr16 (x : Ng) : (Tryz.prog.info? 26).map (·.size) = some ((adgs x).map bv).length := by kernel_rfl
theorem two_ng (w : World) (x : Ng) : NB ((w.alloc (.cells x.cells.toArray 28)).alloc (.cells ngZ.cells.toArray 28)) w.heap.size x ∧ NB ((w.alloc (.cells x.cells.toArray 28)).alloc (.cells ngZ.cells.toArray 28)) (w.heap.size + 1) ngZ ∧ w.grownBy ((w.alloc (.cells x.cells.toArray 28)).alloc (.cells ngZ.cells.toArray 28)) none := by
 have K := World.grownBy_alloc (w.alloc (.cells x.cells.toArray 28)) (.cells ngZ.cells.toArray 28) none
 have h := NB.alloc (w.alloc (.cells x.cells.toArray 28)) ngZ
 rw [show (w.alloc (.cells x.cells.toArray 28)).heap.size = w.heap.size + 1 by simp] at h
 exact ⟨(NB.alloc w x).kept K, h, grown_trans (World.grownBy_alloc w _ none) K⟩
theorem wpList_load_rowG {P : Program} {ops : Array Oper} {rest : List Oper} {o : Oper} {a : Act} {w : World} {Q : Exit → Act → World → Prop} (hw : Region.wanted o (yielded ops a.tmps) = true) (ty : TypeId) (x : Operand) (ho : o.op = .load ty x)
  (g : Nat) (hx : a.eval x = .pointer (some ⟨g, 0, none⟩)) (t : TypeId) (cs : Array Value) (fr : Nat × Nat) (d : TypeDesc) (A : w.heap[g]? = some (.cells cs t fr))
  (hu : P.underlying ty = some d) (hd : (match d with | .struct _ | .array _ _ => true | _ => false) = true) (hi : (P.info? ty).map (·.size) = some cs.size)
  (h : wpList P ops Q rest (a.put o.dst (.agg cs)) w) : wpList P ops Q (o :: rest) a w := by
 refine BigFrame.wpList_want hw fun K hK => ?_
 unfold Oper.wp execOp
 simp only [ho, hx, Instr.loadAt, Instr.sureAddr, Sem.run_bind, Sem.run_pure, Result.andThen_ok, run_loadVar_row w g t ty cs fr d A hu hd hi]
 exact hK _ _ h
def arI (k : Int) : Int := match arG k with
 | some a => (a : Int)
 | none => -1
set_option maxHeartbeats 4000000 in
theorem arity12_any (k : Int) (w : World) : Calls Tryz.prog 18 #[.int .i64 k] w fun e w' => e = .returned (.int .i64 (arI k)) ∧ w' = w := by
 cases ha : arG k with
 | some a =>
  have e : arI k = (a : Int) := by unfold arI; rw [ha]
  rw [e]
  clear e
  rcases arG_cases ha with ⟨rfl, rfl | rfl | rfl⟩ | ⟨rfl, rfl | rfl | rfl | rfl⟩ | ⟨rfl, rfl | rfl | rfl | rfl | rfl | rfl | rfl | rfl | rfl⟩
  all_goals
   clear ha
   go_enter Tryz.func18, Tryz.ntmps18
   go_wp2
   go_ret
   exact ⟨rfl, rfl⟩
 | none =>
  have e : arI k = -1 := by unfold arI; rw [ha]
  rw [e]
  have hn := arG_none.1 ha
  have t1 : (k == 1) = false := by rw [beq_eq_false_iff_ne]; omega
  have t2 : (k == 2) = false := by rw [beq_eq_false_iff_ne]; omega
  have t3 : (k == 3) = false := by rw [beq_eq_false_iff_ne]; omega
  have t4 : (k == 4) = false := by rw [beq_eq_false_iff_ne]; omega
  have t5 : (k == 5) = false := by rw [beq_eq_false_iff_ne]; omega
  have t6 : (k == 6) = false := by rw [beq_eq_false_iff_ne]; omega
  have t7 : (k == 7) = false := by rw [beq_eq_false_iff_ne]; omega
  have t8 : (k == 8) = false := by rw [beq_eq_false_iff_ne]; omega
  have t9 : (k == 9) = false := by rw [beq_eq_false_iff_ne]; omega
  have t10 : (k == 10) = false := by rw [beq_eq_false_iff_ne]; omega
  have t11 : (k == 11) = false := by rw [beq_eq_false_iff_ne]; omega
  have t12 : (k == 12) = false := by rw [beq_eq_false_iff_ne]; omega
  have t13 : (k == 13) = false := by rw [beq_eq_false_iff_ne]; omega
  have t14 : (k == 14) = false := by rw [beq_eq_false_iff_ne]; omega
  have t15 : (k == 15) = false := by rw [beq_eq_false_iff_ne]; omega
  have t16 : (k == 16) = false := by rw [beq_eq_false_iff_ne]; omega
  clear e hn ha
  go_enter Tryz.func18, Tryz.ntmps18
  go_wp2
  go_ret
  exact ⟨rfl, rfl⟩
theorem truth12_any (k : Int) (w : World) : Calls Tryz.prog 70 #[.int .i64 k] w fun e w' => e = .returned (.bool (truthG k)) ∧ w' = w := by
 go_enter Tryz.func70, Tryz.ntmps70
 go_wp2
 go_ret
 exact ⟨rfl, rfl⟩
theorem wants12_any (k : Int) (w : World) : Calls Tryz.prog 69 #[.int .i64 k] w fun e w' => e = .returned (.bool (wantsG k)) ∧ w' = w := by
 have h4 : k = 7 ∨ k = 8 ∨ k = 9 ∨ (k ≠ 7 ∧ k ≠ 8 ∧ k ≠ 9) := by omega
 rcases h4 with rfl | rfl | rfl | ⟨h7, h8, h9⟩
 ·go_enter Tryz.func69, Tryz.ntmps69
  go_wp2
  go_ret
  exact ⟨rfl, rfl⟩
 ·go_enter Tryz.func69, Tryz.ntmps69
  go_wp2
  go_ret
  exact ⟨rfl, rfl⟩
 ·go_enter Tryz.func69, Tryz.ntmps69
  go_wp2
  go_ret
  exact ⟨rfl, rfl⟩
 ·have hw : wantsG k = false := by unfold wantsG; rw [decide_eq_false_iff_not]; omega
  rw [hw]
  have t7 : (k == 7) = false := by rw [beq_eq_false_iff_ne]; exact h7
  have t8 : (k == 8) = false := by rw [beq_eq_false_iff_ne]; exact h8
  have t9 : (k == 9) = false := by rw [beq_eq_false_iff_ne]; exact h9
  clear hw h7 h8 h9
  go_enter Tryz.func69, Tryz.ntmps69
  go_wp2
  go_ret
  exact ⟨rfl, rfl⟩
theorem between_any (x lo hi : Int) (w : World) : Calls Tryz.prog 85 #[.int .i64 x, .int .i64 lo, .int .i64 hi] w fun e w' => e = .returned (.bool (inG x lo hi)) ∧ w' = w := by
 unfold inG
 by_cases h1 : lo ≤ x
 ·have t1 : decide (lo ≤ x) = true := decide_eq_true h1
  clear h1
  rw [t1, Bool.true_and]
  go_enter Tryz.func85, Tryz.ntmps85
  go_wp2
  go_ret
  exact ⟨rfl, rfl⟩
 ·have t1 : decide (lo ≤ x) = false := decide_eq_false h1
  clear h1
  rw [t1, Bool.false_and]
  go_enter Tryz.func85, Tryz.ntmps85
  go_wp2
  go_ret
  exact ⟨rfl, rfl⟩
def pqC (p : Pt) : List Value := [.bool p.truth, .bool p.fixed, .int .u32 (p.val : Int)]
def flat3 (c : Pt → List Value) (ps : List Pt) : List Value := ps.flatMap c
theorem flat3_nil (c : Pt → List Value) : flat3 c [] = [] := rfl
theorem flat3_cons (c : Pt → List Value) (p : Pt) (ps : List Pt) : flat3 c (p :: ps) = c p ++ flat3 c ps := rfl
theorem flat3_append (c : Pt → List Value) (xs ys : List Pt) : flat3 c (xs ++ ys) = flat3 c xs ++ flat3 c ys := by simp only [flat3, List.flatMap_append]
theorem flat3_one (c : Pt → List Value) (p : Pt) : flat3 c [p] = c p := by rw [flat3_cons, flat3_nil, List.append_nil]
theorem flat3_len {c : Pt → List Value} (hc : ∀ p, (c p).length = 3) (xs : List Pt) : (flat3 c xs).length = xs.length * 3 := by
 induction xs with
 | nil => rfl
 | cons x xs ih => rw [flat3_cons, List.length_append, ih, List.length_cons, hc]; omega
theorem flat3_get {c : Pt → List Value} (hc : ∀ p, (c p).length = 3) (xs : List Pt) (i j : Nat) (hi : i < xs.length) (hj : j < 3) : (flat3 c xs)[i * 3 + j]? = (c xs[i])[j]? := by
 induction xs generalizing i with
 | nil => simp at hi
 | cons x xs ih =>
  rw [flat3_cons]
  have hl := hc x
  cases i with
  | zero => rw [List.getElem?_append_left (by omega)]; simp
  | succ i =>
   rw [List.getElem?_append_right (by omega), hl, show (i + 1) * 3 + j - 3 = i * 3 + j by omega, ih i (by simpa using hi)]
   simp
theorem pqC_len (p : Pt) : (pqC p).length = 3 := rfl
theorem pqC_one (p : Pt) : ∀ u ∈ pqC p, u.oneCell' = true := by
 intro u hu
 simp only [pqC, List.mem_cons, List.not_mem_nil, or_false] at hu
 rcases hu with rfl | rfl | rfl <;> rfl
theorem CV.pts {c : Pt → List Value} (hc : ∀ p, (c p).length = 3) {w : World} {ao : Option Addr} {xs : List Pt} (h : CV w ao (flat3 c xs)) {k : Nat} (hk : k < xs.length) :
  ∃ b off, ao = some ⟨b, off, none⟩ ∧ ∀ i (hi : i < xs.length), w.rangeAt b (off + i * 3) (c xs[i]) := by
 have hl := flat3_len hc xs
 obtain ⟨b, off, hao, hcc⟩ := h.addr (k := k * 3) (by omega)
 refine ⟨b, off, hao, fun i hi j v hv => ?_⟩
 have hj : j < 3 := by have := (List.getElem?_eq_some_iff.1 hv).1; rw [hc] at this; exact this
 rw [← flat3_get hc xs i j hi hj] at hv
 rw [Nat.add_assoc, hcc (i * 3 + j) (by omega), ← hv, List.getElem?_eq_getElem (by omega)]
theorem adgs_len (x : Ng) : (adgs x).length = 16 := rfl
theorem range_cells {w : World} {b o : Nat} {xs : List UInt8} (h : w.rangeAt b o (xs.map bv)) : Cells w (some ⟨b, o, none⟩) xs := by
 refine ⟨fun e => (by cases e), fun ad had j hj => ?_⟩
 cases had
 rw [Addr.add_lit]
 exact h j _ (by simp [hj])
theorem range_take {w : World} {b o n : Nat} {xs : List UInt8} (h : Cells w (some ⟨b, o, none⟩) xs) : Cells w (some ⟨b, o, none⟩) (xs.take n) := by
 refine ⟨fun e => (by cases e), fun ad had j hj => ?_⟩
 rw [List.length_take] at hj
 rw [h.2 ad had j (by omega), List.getElem_take]
theorem wpList_load_midG {P : Program} {ops : Array Oper} {rest : List Oper} {op : Oper} {a : Act} {w : World} {Q : Exit → Act → World → Prop} (hw : Region.wanted op (yielded ops a.tmps) = true) (ty : TypeId) (x : Operand) (ho : op.op = .load ty x)
  (b o : Nat) (hx : a.eval x = .pointer (some ⟨b, o, none⟩)) (cs : List Value) (d : TypeDesc) (hc : w.rangeAt b o cs)
  (hu : P.underlying ty = some d) (hd : d.isRow = true) (hi : (P.info? ty).map (·.size) = some cs.length)
  (h : wpList P ops Q rest (a.put op.dst (.agg cs.toArray)) w) : wpList P ops Q (op :: rest) a w :=
 BigFrame.wpList_want hw fun _ hK => wp_load_mid ty x ho b o hx cs d hc hu hd hi (hK _ _ h)
theorem step_lit {P : Program} {ops : Array Oper} {o : Oper} {a : Act} {w : World} {K : Act → World → Prop} {Q : Exit → Act → World → Prop} {E : Prop}
  (hgd : o.guard = none) (t : TypeId) (n : Nat) (ps : Array (Nat × Operand)) (ho : o.op = .buildSlice t n ps) (qs : Array (Nat × Value)) (hq : ps.map (fun (i, x) => (i, a.eval x)) = qs) (cs : List Value) (e : TypeId)
  (hr : ∀ W : World, (Instr.buildSlice t n qs).run P W = .ok (.slice (some ⟨W.heap.size, 0, none⟩) n n) (W.alloc (.cells cs.toArray e)))
  (hK : ∀ ad w', CV w' (some ad) cs → w.grownBy w' none → K (a.put o.dst (.slice (some ad) n n)) w') :
  if Region.wanted o (yielded ops a.tmps) = true then Oper.wp P o a w K Q else E := by
 have hw : Region.wanted o (yielded ops a.tmps) = true := by simp [Region.wanted, hgd]
 rw [if_pos hw]
 unfold Oper.wp execOp
 have hr' := hr w
 rw [← hq] at hr'
 simp only [ho, Sem.run_bind, Sem.run_pure, Result.andThen_ok, hr']
 exact hK _ _ (cv_lit w e cs) (World.grownBy_alloc _ _ _)
theorem step_append_own {P : Program} {ops : Array Oper} {o : Oper} {a : Act} {w : World} {K : Act → World → Prop} {Q : Exit → Act → World → Prop} {E : Prop}
  (hgd : o.guard = none) (s x : Operand) (t : TypeId) (ho : o.op = .call { callee := .builtin .append, args := #[s, x], argTypes := #[t, t] })
  (e : TypeId) (i : TypeInfo) (z : Value) (size bytes : Nat) (ht : P.underlying t = some (.slice e)) (hi : P.info? e = some i) (hz : i.zero = some z) (hsize : i.size = size) (hby : i.bytes = bytes) (hzs : z.cells.size = size) (hsz : 0 < size)
  (base : Nat) (v : Value) (n : Nat) (vs : List Value) (hs : a.eval s = v) (hown : w.ownsRow base e size v n vs)
  (ad : Addr) (m c : Nat) (us : List Value) (hx : a.eval x = .slice (some ad) m c) (hl : us.length = m * size) (hus : CV w (some ad) us) (h1 : ∀ u ∈ us, u.oneCell' = true)
  (h63 : n + m ≤ maxLen) (hbytes : (n + m) * bytes ≤ 140737488355328) (hbase : base ≤ w.heap.size)
  (hK : ∀ v' w', w'.ownsRow base e size v' (n + m) (vs ++ us) → w.grownBy w' v.ownBlock → (v'.ownBlock = v.ownBlock ∨ v'.ownBlock = some w.heap.size) → K (a.put o.dst v') w') :
  if Region.wanted o (yielded ops a.tmps) = true then Oper.wp P o a w K Q else E := by
 have hw : Region.wanted o (yielded ops a.tmps) = true := by simp [Region.wanted, hgd]
 rw [if_pos hw]
 obtain ⟨v', w', hr, h2, h3, _, h5⟩ := run_append_own_at (P := P) w base t o.type e i z size bytes ht hi hz hsize hby hzs hsz v n vs hown ad m c us hl (by
  intro j u hj
  obtain ⟨hlt, e⟩ := List.getElem?_eq_some_iff.1 hj
  rw [hus.2 ad rfl j hlt, e]) h1 h63 hbytes hbase
 unfold Oper.wp execOp
 simp only [ho, resolve, invoke, builtin, Sem.run_bind, Sem.run_pure, Result.andThen_ok, List.map_toArray, List.map_cons, List.map_nil, hs, hx, hr]
 exact hK v' w' h2 h3 h5
theorem own_sl {w : World} {base e size n : Nat} {v : Value} {vs : List Value} (h : w.ownsRow base e size v n vs) : ∃ a l k, v = .slice a l k := by
 rcases h.2 with ⟨rfl, -⟩ | ⟨g, cap, cur, rfl, -⟩
 ·exact ⟨_, _, _, rfl⟩
 ·exact ⟨_, _, _, rfl⟩
theorem wpList_lit {P : Program} {ops : Array Oper} {rest : List Oper} {op : Oper} {a : Act} {w : World} {Q : Exit → Act → World → Prop} (hw : Region.wanted op (yielded ops a.tmps) = true)
  (t : TypeId) (n : Nat) (ps : Array (Nat × Operand)) (ho : op.op = .buildSlice t n ps) (qs : Array (Nat × Value)) (hq : ps.map (fun (i, x) => (i, a.eval x)) = qs) (cs : List Value) (e : TypeId)
  (hr : ∀ W : World, (Instr.buildSlice t n qs).run P W = .ok (.slice (some ⟨W.heap.size, 0, none⟩) n n) (W.alloc (.cells cs.toArray e)))
  (h : ∀ V w', CV w' (some ⟨V, 0, none⟩) cs → w.grownBy w' none → wpList P ops Q rest (a.put op.dst (.slice (some ⟨V, 0, none⟩) n n)) w') : wpList P ops Q (op :: rest) a w :=
 BigFrame.wpList_want hw fun _ hK => by
  unfold Oper.wp execOp
  have hr' := hr w
  rw [← hq] at hr'
  simp only [ho, Sem.run_bind, Sem.run_pure, Result.andThen_ok, hr']
  exact hK _ _ (h _ _ (cv_lit w e cs) (World.grownBy_alloc _ _ _))
theorem wpList_bld {P : Program} {ops : Array Oper} {rest : List Oper} {op : Oper} {a : Act} {w : World} {Q : Exit → Act → World → Prop} (hgd : op.guard = none)
  (t : TypeId) (ps : Array (Nat × Operand)) (ho : op.op = .build t ps) (qs : Array (Nat × Value)) (hq : ps.map (fun (i, x) => (i, a.eval x)) = qs) (v : Value)
  (hr : ∀ W : World, (Instr.build t qs).run P W = .ok v W)
  (h : wpList P ops Q rest (a.put op.dst v) w) : wpList P ops Q (op :: rest) a w :=
 wpList_plain hgd fun _ hK => by
  unfold Oper.wp execOp
  have hr' := hr w
  rw [← hq] at hr'
  simp only [ho, Sem.run_bind, Sem.run_pure, Result.andThen_ok, hr']
  exact hK _ _ h
theorem owns_take {w : World} {base e size g n cap m : Nat} {vs : List Value} (h : w.ownsRow base e size (.slice (some ⟨g, 0, none⟩) n cap) n vs) (hm : m ≤ n) : w.ownsRow base e size (.slice (some ⟨g, 0, none⟩) m cap) m (vs.take (m * size)) := by
 have h0 := h.1
 rcases h.2 with ⟨h, _⟩ | ⟨g', cap', cur, hv, hb, hg, hc, hmx, hs, ht⟩
 ·cases h
 ·simp only [Value.slice.injEq, Option.some.injEq, Addr.mk.injEq] at hv
  obtain ⟨⟨rfl, _⟩, _, rfl⟩ := hv
  have hle : m * size ≤ n * size := Nat.mul_le_mul_right _ hm
  refine ⟨by rw [List.length_take, h0]; omega, .inr ⟨g, cap, cur, rfl, hb, hg, by omega, hmx, hs, ?_⟩⟩
  rw [← ht, List.take_take, Nat.min_eq_left hle]
theorem own_kind {w : World} {base e size n x : Nat} {v : Value} {vs : List Value} (h : w.ownsRow base e size v n vs) (hx : v.ownBlock = some x) : ∃ cur, w.heap[x]? = some (.cells cur e (0, 0)) := by
 rcases h.2 with ⟨rfl, -⟩ | ⟨g, cap, cur, rfl, -, hg, -⟩
 ·cases hx
 ·cases hx
  exact ⟨cur, hg⟩
theorem own_other {w : World} {base e size n x base' e' size' n' : Nat} {v v' : Value} {vs vs' : List Value} (h : w.ownsRow base e size v n vs) (h' : w.ownsRow base' e' size' v' n' vs') (he : e ≠ e') (hx : v.ownBlock = some x) : ¬ v'.ownBlock = some x := fun hy => by
 obtain ⟨c1, k1⟩ := own_kind h hx
 obtain ⟨c2, k2⟩ := own_kind h' hy
 rw [k1] at k2
 injection k2 with k2
 injection k2 with _ k3
 exact he k3
theorem own_vat {w : World} {base e size n g t : Nat} {v : Value} {vs : List Value} {cs : Array Value} (h : w.ownsRow base e size v n vs) (A : VAt w g t cs) (he : e ≠ t) : ¬ v.ownBlock = some g := fun hx => by
 obtain ⟨c1, k1⟩ := own_kind h hx
 unfold VAt at A
 rw [k1] at A
 injection A with A
 injection A with _ A
 exact he A
theorem own_kept {w w' : World} {base e size n g : Nat} {v : Value} {vs : List Value} (h : w.ownsRow base e size v n vs) (K : w.grownBy w' (some g)) (hne : ¬ v.ownBlock = some g) : w'.ownsRow base e size v n vs := h.kept K (.inr hne)
structure RT where
 g : Nat
 n1 : Nat
 n2 : Nat
 t1 : Nat
 t2 : Nat
 wv : Nat → Value
theorem sixteen {k : Nat} (h1 : 1 ≤ k) (h2 : k ≤ 16) : k = 1 ∨ k = 2 ∨ k = 3 ∨ k = 4 ∨ k = 5 ∨ k = 6 ∨ k = 7 ∨ k = 8 ∨ k = 9 ∨ k = 10 ∨ k = 11 ∨ k = 12 ∨ k = 13 ∨ k = 14 ∨ k = 15 ∨ k = 16 := by omega
theorem weighG_le (x : Ng) : weighG x ≤ 80 := by
 unfold weighG
 repeat' split
 all_goals omega
theorem weightG_app (a b : List Ng) : weightG (a ++ b) = weightG a + weightG b := by simp [weightG]
theorem weightG_one (x : Ng) : weightG [x] = weighG x := by simp [weightG]
theorem weightG_le (t : List Ng) : weightG t ≤ 80 * t.length := by
 induction t with
 | nil => simp [weightG]
 | cons x t ih =>
  have := weighG_le x
  rw [show x :: t = [x] ++ t from rfl, weightG_app, weightG_one, List.length_append, List.length_singleton]
  omega
theorem ng_len (x : Ng) : (Tryz.prog.info? 28).map (·.size) = some x.cells.length := size28
set_option maxHeartbeats 8000000 in
theorem weigh12_any (x : Ng) (w : World) : Calls Tryz.prog 45 #[.agg x.cells.toArray] w fun e w' => e = .returned (.int .i64 (weighG x : Int)) ∧ w.grownBy w' none := by
 have HBX := box_ng x
 have h3 := World.grownBy_alloc w (.cells x.cells.toArray 28) none
 have V := NB.alloc w x
 obtain ⟨E, hE⟩ : ∃ E : Int, (weighG x : Int) = E := ⟨_, rfl⟩
 rw [hE]
 have HE : Hid ((weighG x : Int) = E) := hE
 obtain ⟨X, hX⟩ : ∃ X, x.cells.toArray = X := ⟨_, rfl⟩
 rw [hX] at HBX ⊢
 clear hE
 go_enter Tryz.func45, Tryz.ntmps45
 go_upto_region 1 with fail
 rw [← hX] at *
 generalize w.alloc (.cells x.cells.toArray 28) = w1 at *
 generalize w.heap.size = B at *
 have c0 := V.kind
 have c5 := V.of
 obtain ⟨kk, hkk⟩ : ∃ kk, x.kind = kk := ⟨_, rfl⟩
 have HK : Hid (x.kind = kk) := hkk
 obtain ⟨oo, hoo⟩ : ∃ oo, x.of = oo := ⟨_, rfl⟩
 have HO : Hid (x.of = oo) := hoo
 rw [hkk] at c0
 rw [hoo] at c5
 clear HBX hX X V hkk hoo
 have hc : kk = 1 ∨ kk = 2 ∨ kk = 3 ∨ kk = 4 ∨ kk = 5 ∨ kk = 6 ∨ kk = 7 ∨ kk = 8 ∨ kk = 9 ∨ kk = 10 ∨ kk = 11 ∨ kk = 12 ∨ kk = 13 ∨ kk = 14 ∨ kk = 15 ∨ kk = 16 ∨ ¬ (1 ≤ kk ∧ kk ≤ 16) := by omega
 rcases hc with rfl | rfl | rfl | rfl | rfl | rfl | rfl | rfl | rfl | rfl | rfl | rfl | rfl | rfl | rfl | rfl | hn
 ·obtain rfl : E = 1 := by rw [← HE.out]; unfold weighG; rw [HK.out]; rfl
  go_wp2
  go_ret
  exact ⟨rfl, h3⟩
 ·obtain rfl : E = 2 := by rw [← HE.out]; unfold weighG; rw [HK.out]; rfl
  go_wp2
  go_ret
  exact ⟨rfl, h3⟩
 ·obtain rfl : E = 24 := by rw [← HE.out]; unfold weighG; rw [HK.out]; rfl
  go_wp2
  go_ret
  exact ⟨rfl, h3⟩
 ·obtain rfl : E = 6 := by rw [← HE.out]; unfold weighG; rw [HK.out]; rfl
  go_wp2
  go_ret
  exact ⟨rfl, h3⟩
 ·obtain rfl : E = 2 := by rw [← HE.out]; unfold weighG; rw [HK.out]; rfl
  go_wp2
  go_ret
  exact ⟨rfl, h3⟩
 ·obtain rfl : E = 8 := by rw [← HE.out]; unfold weighG; rw [HK.out]; rfl
  go_wp2
  go_ret
  exact ⟨rfl, h3⟩
 ·obtain rfl : E = 1 := by rw [← HE.out]; unfold weighG; rw [HK.out]; rfl
  go_wp2
  go_ret
  exact ⟨rfl, h3⟩
 ·obtain rfl : E = 1 := by rw [← HE.out]; unfold weighG; rw [HK.out]; rfl
  go_wp2
  go_ret
  exact ⟨rfl, h3⟩
 ·obtain rfl : E = 1 := by rw [← HE.out]; unfold weighG; rw [HK.out]; rfl
  go_wp2
  go_ret
  exact ⟨rfl, h3⟩
 ·obtain rfl : E = 6 := by rw [← HE.out]; unfold weighG; rw [HK.out]; rfl
  go_wp2
  go_ret
  exact ⟨rfl, h3⟩
 ·obtain rfl : E = 12 := by rw [← HE.out]; unfold weighG; rw [HK.out]; rfl
  go_wp2
  go_ret
  exact ⟨rfl, h3⟩
 ·obtain rfl : E = 8 := by rw [← HE.out]; unfold weighG; rw [HK.out]; rfl
  go_wp2
  go_ret
  exact ⟨rfl, h3⟩
 ·obtain rfl : E = 16 := by rw [← HE.out]; unfold weighG; rw [HK.out]; rfl
  go_wp2
  go_ret
  exact ⟨rfl, h3⟩
 ·by_cases h : oo = 3
  ·have t3 : (oo == 3) = true := by simpa using h
   obtain rfl : E = 72 := by rw [← HE.out]; unfold weighG; rw [HK.out, HO.out, h]; rfl
   clear h
   go_wp2
   go_ret
   exact ⟨rfl, h3⟩
  ·have t3 : (oo == 3) = false := by simpa using h
   obtain rfl : E = 24 := by rw [← HE.out]; unfold weighG; rw [HK.out, HO.out]; simp only [if_neg h]; rfl
   clear h
   go_wp2
   go_ret
   exact ⟨rfl, h3⟩
 ·by_cases h : oo = 3
  ·have t3 : (oo == 3) = true := by simpa using h
   obtain rfl : E = 80 := by rw [← HE.out]; unfold weighG; rw [HK.out, HO.out, h]; rfl
   clear h
   go_wp2
   go_ret
   exact ⟨rfl, h3⟩
  ·have t3 : (oo == 3) = false := by simpa using h
   obtain rfl : E = 32 := by rw [← HE.out]; unfold weighG; rw [HK.out, HO.out]; simp only [if_neg h]; rfl
   clear h
   go_wp2
   go_ret
   exact ⟨rfl, h3⟩
 ·obtain rfl : E = 40 := by rw [← HE.out]; unfold weighG; rw [HK.out]; rfl
  go_wp2
  go_ret
  exact ⟨rfl, h3⟩
 ·obtain rfl : E = 0 := by
   rw [← HE.out]
   unfold weighG
   rw [HK.out]
   repeat rw [if_neg (by omega)]
   rfl
  have t1 : (kk == 1) = false := by rw [beq_eq_false_iff_ne]; omega
  have t2 : (kk == 2) = false := by rw [beq_eq_false_iff_ne]; omega
  have t3 : (kk == 3) = false := by rw [beq_eq_false_iff_ne]; omega
  have t4 : (kk == 4) = false := by rw [beq_eq_false_iff_ne]; omega
  have t5 : (kk == 5) = false := by rw [beq_eq_false_iff_ne]; omega
  have t6 : (kk == 6) = false := by rw [beq_eq_false_iff_ne]; omega
  have t7 : (kk == 7) = false := by rw [beq_eq_false_iff_ne]; omega
  have t8 : (kk == 8) = false := by rw [beq_eq_false_iff_ne]; omega
  have t9 : (kk == 9) = false := by rw [beq_eq_false_iff_ne]; omega
  have t10 : (kk == 10) = false := by rw [beq_eq_false_iff_ne]; omega
  have t11 : (kk == 11) = false := by rw [beq_eq_false_iff_ne]; omega
  have t12 : (kk == 12) = false := by rw [beq_eq_false_iff_ne]; omega
  have t13 : (kk == 13) = false := by rw [beq_eq_false_iff_ne]; omega
  have t14 : (kk == 14) = false := by rw [beq_eq_false_iff_ne]; omega
  have t15 : (kk == 15) = false := by rw [beq_eq_false_iff_ne]; omega
  have t16 : (kk == 16) = false := by rw [beq_eq_false_iff_ne]; omega
  clear hn
  go_wp2
  go_ret
  exact ⟨rfl, h3⟩
def leftG (n : Nat) : List Ng → Option Nat
 | [] => some n
 | x :: r => match arG x.kind with
  | none => none
  | some a => if n < a then none else leftG (n - a + 1) r
theorem long12_any (k : Int) (w : World) : Calls Tryz.prog 86 #[.int .i64 k] w fun e w' => e = .returned (.int .i64 (if k = 3 then 16 else 4)) ∧ w' = w := by
 by_cases h : k = 3
 ·rw [if_pos h]
  subst h
  go_enter Tryz.func86, Tryz.ntmps86
  go_wp2
  go_ret
  exact ⟨rfl, rfl⟩
 ·rw [if_neg h]
  have t3 : (k == 3) = false := by simpa using h
  clear h
  go_enter Tryz.func86, Tryz.ntmps86
  go_wp2
  go_ret
  exact ⟨rfl, rfl⟩

end Go.Proofs.YtghbbephhoniaaaGreatDoor
