/-
  Package graph as landed: leaves, asks, bare, the goals. Blocks in memory: eight cells each; package graph as landed: leadsOn, ends. A struct put together may be taken first, in a statement whose order is open. Steps within a statement whose order is open: new memory (beside the machine's texts).
-/
import Derived.Test.YtencoknpocipbaaLotP5
import Derived.Test.YtencoknpocipbaaLotP6
import Derived.Deep.RegionHeld3
import Derived.Deep.DeepCutAuto
import Derived.Deep.RegionWith
import Derived.Shelf.Abstract
import Derived.Test.YtencoknpocipbaaLotP1
import Derived.Laws.Rows
import Derived.Deep.RegionLaw
import Derived.Deep.WholeRow
namespace Go.Proofs.Ytencoknpocipbaa
open Go.RowKit
set_option maxRecDepth 100000

/-- An instruction as a value. -/
abbrev ginV (x : In) : Value := .agg #[.int .u16 (x.code.toNat : Int), .int .u8 (x.jt.toNat : Int), .int .u8 (x.jf.toNat : Int), .int .u32 (x.k.toNat : Int)]
theorem code_lt (x : In) : (0 : Int) ≤ (x.code.toNat : Int) ∧ (x.code.toNat : Int) ≤ 65535 := by
  have := x.code.toNat_lt
  omega

set_option maxHeartbeats 400000 in
theorem leaves_any (x : In) (w : World) : Calls Try.prog 51 #[ginV x] w fun e w' => e = .returned (.bool (leavesB x)) ∧ w.grownBy w' none := by
  have G0 : w.grownBy (w.alloc (.cells #[.int .u16 (x.code.toNat : Int), .int .u8 (x.jt.toNat : Int), .int .u8 (x.jf.toNat : Int), .int .u32 (x.k.toNat : Int)] 46)) none := World.grownBy_alloc _ _ _
  go_enter Try.func51, Try.ntmps51
  go_wp2_with fail
  refine (class_any _ _ (code_lt x).1 (code_lt x).2).mono ?_
  rintro e w1 ⟨rfl, K⟩
  have G1 := grown_trans G0 K
  clear G0 K
  cases h5 : (classV x.code.toNat == 5) with
  | true =>
    go_wp2
    go_ret
    exact ⟨ret_bool (by simp [leavesB, h5]), G1⟩
  | false =>
    go_wp2
    go_ret
    exact ⟨ret_bool (by simp [leavesB, h5]), G1⟩

set_option maxHeartbeats 400000 in
theorem gasks_any (x : In) (w : World) : Calls Try.prog 58 #[ginV x] w fun e w' => e = .returned (.bool (usesJ x.code.toNat)) ∧ w.grownBy w' none := by
  have G0 : w.grownBy (w.alloc (.cells #[.int .u16 (x.code.toNat : Int), .int .u8 (x.jt.toNat : Int), .int .u8 (x.jf.toNat : Int), .int .u32 (x.k.toNat : Int)] 46)) none := World.grownBy_alloc _ _ _
  go_enter Try.func58, Try.ntmps58
  go_wp2_with fail
  refine (uses_any _ _).mono ?_
  rintro e w1 ⟨rfl, K⟩
  go_wp2
  go_ret
  exact ⟨rfl, grown_trans G0 K⟩

theorem vnew (W : World) (cs : Array Value) (t k : Nat) (h : W.heap.size = k) : GVt (W.alloc (.cells cs t)) k t cs := by subst h; exact heap_alloc_new W _
theorem vkeep {W : World} {k t : Nat} {cs : Array Value} (h : GVt W k t cs) (o : Obj) : GVt (W.alloc o) k t cs := h.kept (World.grownBy_alloc _ _ _)

theorem sizeIn : (Try.prog.info? 46).map (·.size) = some 4 := by kernel_rfl

set_option maxHeartbeats 1000000 in
theorem gbare_any (x : In) (w : World) : Calls Try.prog 53 #[ginV x] w fun e w' => e = .returned (ginV (bareV x)) ∧ w.grownBy w' none := by
  obtain ⟨c, t, f, k⟩ := x
  show Calls Try.prog 53 #[.agg #[.int .u16 (c.toNat : Int), .int .u8 (t.toNat : Int), .int .u8 (f.toNat : Int), .int .u32 (k.toNat : Int)]] w _
  have eb : bareV ⟨c, t, f, k⟩ = ⟨c, 0, 0, if usesK c.toNat = true then k else 0⟩ := rfl
  rw [eb]
  obtain ⟨k', hk'⟩ : ∃ k', (if usesK (c.toNat : Int) = true then k else 0) = k' := ⟨_, rfl⟩
  rw [hk']
  have HK' : Hid ((if usesK (c.toNat : Int) = true then k else 0) = k') := hk'
  clear hk'
  obtain ⟨W, hW⟩ : ∃ W, (((w.alloc (.cells #[.int .u16 (c.toNat : Int), .int .u8 (t.toNat : Int), .int .u8 (f.toNat : Int), .int .u32 (k.toNat : Int)] 46)).alloc (.cells #[.int .u16 0, .int .u8 0, .int .u8 0, .int .u32 0] 46)).alloc (.cells #[.int .u16 (c.toNat : Int), .int .u8 0, .int .u8 0, .int .u32 0] 46)) = W := ⟨_, rfl⟩
  have A0 : GVt W w.heap.size 46 #[.int .u16 (c.toNat : Int), .int .u8 (t.toNat : Int), .int .u8 (f.toNat : Int), .int .u32 (k.toNat : Int)] := by rw [← hW]; exact vkeep (vkeep (vnew _ _ _ _ rfl) _) _
  have B0 : GVt W (w.heap.size + 1) 46 #[.int .u16 0, .int .u8 0, .int .u8 0, .int .u32 0] := by rw [← hW]; exact vkeep (vnew _ _ _ _ (by simp only [World.size_alloc])) _
  have C0 : GVt W (w.heap.size + 1 + 1) 46 #[.int .u16 (c.toNat : Int), .int .u8 0, .int .u8 0, .int .u32 0] := by rw [← hW]; exact vnew _ _ _ _ (by simp only [World.size_alloc])
  have G0 : w.grownBy W none := by rw [← hW]; exact grown_trans (grown_trans (World.grownBy_alloc _ _ _) (World.grownBy_alloc _ _ _)) (World.grownBy_alloc _ _ _)
  have HW : Hid ((((w.alloc (.cells #[.int .u16 (c.toNat : Int), .int .u8 (t.toNat : Int), .int .u8 (f.toNat : Int), .int .u32 (k.toNat : Int)] 46)).alloc (.cells #[.int .u16 0, .int .u8 0, .int .u8 0, .int .u32 0] 46)).alloc (.cells #[.int .u16 (c.toNat : Int), .int .u8 0, .int .u8 0, .int .u32 0] 46)) = W) := hW
  clear hW eb
  go_enter Try.func53, Try.ntmps53
  go_upto_region 2 with fail
  rw [HW.out]
  clear HW
  obtain ⟨B, hB⟩ : ∃ B, w.heap.size + 1 = B := ⟨_, rfl⟩
  rw [hB] at B0 C0 ⊢
  obtain ⟨C, hC⟩ : ∃ C, B + 1 = C := ⟨_, rfl⟩
  rw [hC] at C0 ⊢
  obtain ⟨A, hA⟩ : ∃ A, w.heap.size = A := ⟨_, rfl⟩
  rw [hA] at A0 ⊢
  have HN : Hid (w.heap.size ≤ A ∧ w.heap.size ≤ B ∧ w.heap.size ≤ C ∧ A ≠ B ∧ A ≠ C ∧ B ≠ C) := ⟨by omega, by omega, by omega, by omega, by omega, by omega⟩
  clear hB hC hA
  have a0 : W.cell? ⟨A, 0, none⟩ = some (.int .u16 (c.toNat : Int)) := A0.cell 0
  have HB : Hid (GVt W A 46 #[.int .u16 (c.toNat : Int), .int .u8 (t.toNat : Int), .int .u8 (f.toNat : Int), .int .u32 (k.toNat : Int)] ∧ GVt W B 46 #[.int .u16 0, .int .u8 0, .int .u8 0, .int .u32 0] ∧ GVt W C 46 #[.int .u16 (c.toNat : Int), .int .u8 0, .int .u8 0, .int .u32 0] ∧ w.grownBy W none) := ⟨A0, B0, C0, G0⟩
  clear A0 B0 C0 G0
  go_wp2_with fail
  refine (uses_any _ _).mono ?_
  rintro e w1 ⟨rfl, K⟩
  obtain ⟨A0, B0, C0, G0⟩ := HB.out
  have A1 := A0.kept K
  have B1 := B0.kept K
  have C1 := C0.kept K
  have HG : Hid (w.grownBy w1 none) := grown_trans G0 K
  obtain ⟨l1, l2, l3, n1, n2, n3⟩ := HN.out
  clear HN HB K G0 A0 B0 C0 a0
  have a3 : w1.cell? ⟨A, 3, none⟩ = some (.int .u32 (k.toNat : Int)) := A1.cell 3
  have c3 : w1.cell? ⟨C, 3, none⟩ = some (.int .u32 0) := C1.cell 3
  have f3 := C1.free 3
  cases hu : usesK (c.toNat : Int) with
  | true =>
    have C2 := C1.set 3 (.int .u32 (k.toNat : Int))
    have HK : Hid (w1.grownBy (w1.setCell ⟨C, 3, none⟩ (.int .u32 (k.toNat : Int))) (some C)) := grown_set1 _ _ _
    have B2 := B1.grown HK.out (by simp; omega)
    have a0 : w1.cell? ⟨A, 0, none⟩ = some (.int .u16 (c.toNat : Int)) := A1.cell 0
    clear C1 B1 A1
    go_upto_region 5 with fail
    have L2 := C2
    generalize w1.setCell ⟨C, 3, none⟩ (.int .u32 (k.toNat : Int)) = w2 at *
    rw [show (#[Value.int .u16 (c.toNat : Int), .int .u8 0, .int .u8 0, .int .u32 0].setIfInBounds 3 (.int .u32 (k.toNat : Int)) : Array Value) = #[.int .u16 (c.toNat : Int), .int .u8 0, .int .u8 0, .int .u32 (k.toNat : Int)] from rfl] at C2
    clear a0 a3 c3 f3 L2
    go_wp2_with (first | refine wpList_load_row rfl 46 (.tmp 3) rfl C rfl 46 #[.int .u16 (c.toNat : Int), .int .u8 0, .int .u8 0, .int .u32 (k.toNat : Int)] (0, 0) _ C2 Try.underlying46 rfl sizeIn ?_ | refine wpList_store_row rfl 46 (.tmp 2) (.tmp 21) rfl B #[.int .u16 (c.toNat : Int), .int .u8 0, .int .u8 0, .int .u32 (k.toNat : Int)] rfl rfl 46 _ B2 sizeIn rfl (by simp [Value.oneCell']) ?_)
    refine bodyPost_ret (results_cell_row rfl _ _ B _ #[.int .u16 (c.toNat : Int), .int .u8 0, .int .u8 0, .int .u32 (k.toNat : Int)] (0, 0) _ rfl (B2.setRow _) Try.underlying46 rfl sizeIn) rfl ?_
    refine ⟨by rw [← HK'.out, if_pos hu]; rfl, gvgrown_setRow (grown_trans_new HG.out HK.out (fun x e => by cases e; exact l3)) _ _ (.inr l2)⟩
  | false =>
    have B2 := B1
    have C2 := C1
    clear C1 B1 A1 a3 c3 f3
    go_upto_region 5 with fail
    go_wp2_with (first | refine wpList_load_row rfl 46 (.tmp 3) rfl C rfl 46 #[.int .u16 (c.toNat : Int), .int .u8 0, .int .u8 0, .int .u32 0] (0, 0) _ C2 Try.underlying46 rfl sizeIn ?_ | refine wpList_store_row rfl 46 (.tmp 2) (.tmp 21) rfl B #[.int .u16 (c.toNat : Int), .int .u8 0, .int .u8 0, .int .u32 0] rfl rfl 46 _ B2 sizeIn rfl (by simp [Value.oneCell']) ?_)
    refine bodyPost_ret (results_cell_row rfl _ _ B _ #[.int .u16 (c.toNat : Int), .int .u8 0, .int .u8 0, .int .u32 0] (0, 0) _ rfl (B2.setRow _) Try.underlying46 rfl sizeIn) rfl ?_
    refine ⟨by rw [← HK'.out, if_neg (by rw [hu]; simp)]; rfl, gvgrown_setRow HG.out _ _ (.inr l2)⟩

/-- The closure that asks whether a goal lies ahead. -/
theorem behind_any (i n : Nat) (y : Int) (I N : Nat) (w : World) (hI : w.cell? ⟨I, 0, none⟩ = some (.int .i64 (i : Int))) (hN : w.cell? ⟨N, 0, none⟩ = some (.int .i64 (n : Int))) :
    Calls Try.prog 59 #[.int .i64 y, .pointer (some ⟨I, 0, none⟩), .pointer (some ⟨N, 0, none⟩)] w fun e w' => e = .returned (.bool (aheadB i n y)) ∧ w.grownBy w' none := by
  by_cases h : (i : Int) < y
  · go_enter Try.func59, Try.ntmps59
    go_wp2
    go_ret
    exact ⟨ret_bool (by simp [aheadB, h]), World.grownBy.refl _ _⟩
  · go_enter Try.func59, Try.ntmps59
    go_wp2
    go_ret
    exact ⟨ret_bool (by simp only [aheadB, decide_eq_false (Int.not_lt.2 h), Bool.false_and]), World.grownBy.refl _ _⟩

end Go.Proofs.Ytencoknpocipbaa

namespace Go.Proofs.Ytencoknpocipbaa
open Go.RowKit
set_option maxRecDepth 100000

/-- A block's cells, and the block as a value. -/
abbrev bkA (b : Bk) (a : Option Addr) (ca : Nat) : Array Value := #[.slice a b.code.length ca, .int .i64 b.en, .int .u16 (b.last.code.toNat : Int), .int .u8 (b.last.jt.toNat : Int), .int .u8 (b.last.jf.toNat : Int), .int .u32 (b.last.k.toNat : Int), .int .i64 b.yes, .int .i64 b.no]
abbrev bkV (b : Bk) (a : Option Addr) (ca : Nat) : Value := .agg (bkA b a ca)

set_option maxHeartbeats 1000000 in
theorem leads_any (b : Bk) (a : Option Addr) (ca i n : Nat) (w : World) : Calls Try.prog 34 #[bkV b a ca, .int .i64 (i : Int), .int .i64 (n : Int)] w fun e w' => e = .returned (.bool (leadsB b i n)) ∧ w.grownBy w' none := by
  obtain ⟨code, en, last, yes, no⟩ := b
  obtain ⟨c, t, f, k⟩ := last
  simp only [bkV, bkA]
  obtain ⟨W, hW⟩ : ∃ W, (((w.alloc (.cells #[.slice a code.length ca, .int .i64 en, .int .u16 (c.toNat : Int), .int .u8 (t.toNat : Int), .int .u8 (f.toNat : Int), .int .u32 (k.toNat : Int), .int .i64 yes, .int .i64 no] 48)).alloc (.cells #[.int .i64 (i : Int)] 3)).alloc (.cells #[.int .i64 (n : Int)] 3)) = W := ⟨_, rfl⟩
  have A0 : GVt W w.heap.size 48 #[.slice a code.length ca, .int .i64 en, .int .u16 (c.toNat : Int), .int .u8 (t.toNat : Int), .int .u8 (f.toNat : Int), .int .u32 (k.toNat : Int), .int .i64 yes, .int .i64 no] := by rw [← hW]; exact vkeep (vkeep (vnew _ _ _ _ rfl) _) _
  have B0 : GVt W (w.heap.size + 1) 3 #[.int .i64 (i : Int)] := by rw [← hW]; exact vkeep (vnew _ _ _ _ (by simp only [World.size_alloc])) _
  have C0 : GVt W (w.heap.size + 1 + 1) 3 #[.int .i64 (n : Int)] := by rw [← hW]; exact vnew _ _ _ _ (by simp only [World.size_alloc])
  have G0 : w.grownBy W none := by rw [← hW]; exact grown_trans (grown_trans (World.grownBy_alloc _ _ _) (World.grownBy_alloc _ _ _)) (World.grownBy_alloc _ _ _)
  have HW : Hid ((((w.alloc (.cells #[.slice a code.length ca, .int .i64 en, .int .u16 (c.toNat : Int), .int .u8 (t.toNat : Int), .int .u8 (f.toNat : Int), .int .u32 (k.toNat : Int), .int .i64 yes, .int .i64 no] 48)).alloc (.cells #[.int .i64 (i : Int)] 3)).alloc (.cells #[.int .i64 (n : Int)] 3)) = W) := hW
  clear hW
  have a1 : W.cell? ⟨w.heap.size, 1, none⟩ = some (.int .i64 en) := A0.cell 1
  have a6 : W.cell? ⟨w.heap.size, 6, none⟩ = some (.int .i64 yes) := A0.cell 6
  have a7 : W.cell? ⟨w.heap.size, 7, none⟩ = some (.int .i64 no) := A0.cell 7
  have HB : Hid (W.cell? ⟨w.heap.size + 1, 0, none⟩ = some (.int .i64 (i : Int)) ∧ W.cell? ⟨w.heap.size + 1 + 1, 0, none⟩ = some (.int .i64 (n : Int))) := ⟨B0.cell 0, C0.cell 0⟩
  clear A0 B0 C0
  go_enter Try.func34, Try.ntmps34
  go_upto_region 1 with fail
  rw [HW.out]
  clear HW
  obtain ⟨B, hB⟩ : ∃ B, w.heap.size + 1 = B := ⟨_, rfl⟩
  rw [hB] at HB ⊢
  obtain ⟨C, hC⟩ : ∃ C, B + 1 = C := ⟨_, rfl⟩
  rw [hC] at HB ⊢
  obtain ⟨A, hA⟩ : ∃ A, w.heap.size = A := ⟨_, rfl⟩
  rw [hA] at a1 a6 a7 ⊢
  clear hB hC hA
  by_cases h2 : en = 2
  · subst h2
    go_wp2_with fail
    refine (behind_any i n yes _ _ _ HB.out.1 HB.out.2).mono ?_
    rintro e w1 ⟨rfl, K⟩
    go_wp2
    go_ret
    exact ⟨ret_bool (by simp [leadsB]), grown_trans G0 K⟩
  · have h2' : (en == 2) = false := by rw [beq_eq_false_iff_ne]; exact h2
    by_cases h3 : en = 3
    · subst h3
      go_wp2_with fail
      refine (behind_any i n yes _ _ _ HB.out.1 HB.out.2).mono ?_
      rintro e w1 ⟨rfl, K⟩
      have HB1 : Hid (w1.cell? ⟨B, 0, none⟩ = some (.int .i64 (i : Int)) ∧ w1.cell? ⟨C, 0, none⟩ = some (.int .i64 (n : Int))) := ⟨K.cell HB.out.1 (by simp), K.cell HB.out.2 (by simp)⟩
      have b7 := K.cell a7 (by simp)
      cases hy : aheadB i n yes with
      | true =>
        go_wp2_with fail
        refine (behind_any i n no _ _ _ HB1.out.1 HB1.out.2).mono ?_
        rintro e w2 ⟨rfl, K2⟩
        go_wp2
        go_ret
        exact ⟨ret_bool (by simp [leadsB, hy]), grown_trans (grown_trans G0 K) K2⟩
      | false =>
        go_wp2
        go_ret
        exact ⟨ret_bool (by simp [leadsB, hy]), grown_trans G0 K⟩
    · have h3' : (en == 3) = false := by rw [beq_eq_false_iff_ne]; exact h3
      go_wp2
      go_ret
      exact ⟨ret_bool (by simp [leadsB, h2, h3]), G0⟩

end Go.Proofs.Ytencoknpocipbaa

namespace Go.Proofs.Ytencoknpocipbaa
open Go.RowKit
set_option maxRecDepth 100000

theorem yieldsIf_bld {P : Program} {ops : Array Oper} {S : World → Prop} {op : Oper} {a : Act} (hw : Region.wanted op (yielded ops a.tmps) = true) (t : TypeId) (ps : Array (Nat × Operand)) (ho : op.op = .build t ps) (qs : Array (Nat × Value)) (hq : ps.map (fun (i, x) => (i, a.eval x)) = qs) (v : Value) (hr : ∀ W : World, (Instr.build t qs).run P W = .ok v W) : YieldsIf P ops S op v a :=
  .inl ⟨hw, fun w _ => by
    unfold execOp
    have hr' := hr w
    rw [← hq] at hr'
    simp only [ho, Sem.run_bind, Sem.run_pure, Result.andThen_ok, hr']⟩

end Go.Proofs.Ytencoknpocipbaa

namespace Go.Proofs.Ytencoknpocipbaa
open Go.RowKit
set_option maxRecDepth 100000

theorem GVt.other {w : World} {g t k : Nat} {cs : Array Value} (h : GVt w g t cs) (ds : Array Value) (hk : g ≠ k) : GVt (w.setRow k ds) g t cs := by
  unfold GVt at *
  rw [gvheap_setRow_ne _ _ _ _ hk]
  exact h
theorem GVt.setOther {w : World} {g t k i : Nat} {cs : Array Value} (h : GVt w g t cs) (u : Value) (hk : g ≠ k) : GVt (w.setCell ⟨k, i, none⟩ u) g t cs := by
  unfold GVt at *
  simp only [World.setCell, Array.getElem?_modify, if_neg (Ne.symm hk)]
  exact h

theorem gstep_alloc {P : Program} {ops : Array Oper} {o : Oper} {a : Act} {w : World} {K : Act → World → Prop} {Q : Exit → Act → World → Prop} {E : Prop}
    (hgd : o.guard = none) (t : TypeId) (ho : o.op = .alloc t) (cs : Array Value)
    (hr : ∀ W : World, (Instr.alloc t true (.tuple #[])).run P W = .ok (.pointer (some ⟨W.heap.size, 0, none⟩)) (W.alloc (.cells cs t)))
    (hK : ∀ V w', GVt w' V t cs → w.grownBy w' none → w.heap.size ≤ V → K (a.put o.dst (.pointer (some ⟨V, 0, none⟩))) w') :
    if Region.wanted o (yielded ops a.tmps) = true then Oper.wp P o a w K Q else E := by
  have hw : Region.wanted o (yielded ops a.tmps) = true := by simp [Region.wanted, hgd]
  rw [if_pos hw]
  unfold Oper.wp execOp
  simp only [ho, Sem.run_bind, Sem.run_pure, Result.andThen_ok, hr]
  exact hK _ _ (GVt.alloc w t cs) (World.grownBy_alloc _ _ _) (Nat.le_refl _)

/-- A load of a whole block's row may be taken first. -/
theorem gyieldsIf_load_row {P : Program} {ops : Array Oper} {S : World → Prop} {op : Oper} {a : Act} (hw : Region.wanted op (yielded ops a.tmps) = true) (ty : TypeId) (x : Operand) (ho : op.op = .load ty x)
    (g : Nat) (hx : a.eval x = .pointer (some ⟨g, 0, none⟩)) (t : TypeId) (cs : Array Value) (d : TypeDesc) (hS : ∀ w, S w → GVt w g t cs)
    (hu : P.underlying ty = some d) (hd : (match d with | .struct _ | .array _ _ => true | _ => false) = true) (hi : (P.info? ty).map (·.size) = some cs.size) : YieldsIf P ops S op (.agg cs) a :=
  .inl ⟨hw, fun w hw' => by
    unfold execOp
    simp only [ho, hx, Instr.loadAt, Instr.sureAddr, Sem.run_bind, Sem.run_pure, Result.andThen_ok, run_loadVar_row w g t ty cs (0, 0) d (hS w hw') hu hd hi]⟩

end Go.Proofs.Ytencoknpocipbaa
