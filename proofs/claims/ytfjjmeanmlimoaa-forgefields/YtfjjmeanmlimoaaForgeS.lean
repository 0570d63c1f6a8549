/-
  A spec in a block.
-/
import Derived.Test.YtfjjmeanmlimoaaForgeR
import Derived.Deep.MidRow
import Derived.Deep.RegionWith
import Derived.Deep.DeepCutAuto
import Derived.BigFrame
namespace Go.Proofs.Ytfjjmeanmlimoaa
open Go.RowKit
set_option maxRecDepth 100000

def spL (s : Sp) (a : Option Addr) (ca : Nat) : List Value :=
  .bool s.plain :: .bool s.wide :: .bool s.multi :: .bool s.beg :: .bool s.fin :: .int .u32 (s.seq : Int) :: .int .u32 (s.proto : Int) :: .int .i64 s.next :: (s.src.map bv ++ (s.dst.map bv ++ [.bool s.ports, .int .u32 (s.frm : Int), .int .u32 (s.til : Int), .slice a s.data.length ca]))
def spA (s : Sp) (a : Option Addr) (ca : Nat) : Array Value := (spL s a ca).toArray
structure Sp.ok (s : Sp) : Prop where
  src : s.src.length = 16
  dst : s.dst.length = 16
  seq : s.seq ≤ 4294967295
  proto : s.proto ≤ 4294967295
  frm : s.frm ≤ 4294967295
  til : s.til ≤ 4294967295

theorem spL_len {s : Sp} (h : s.ok) (a : Option Addr) (ca : Nat) : (spL s a ca).length = 44 := by simp [spL, h.src, h.dst]
theorem spL_src {s : Sp} (h : s.ok) (a : Option Addr) (ca : Nat) (j : Nat) (hj : j < 16) : (spL s a ca)[8 + j]? = (s.src.map bv)[j]? := by
  show (.bool s.plain :: _ : List Value)[8 + j]? = _
  rw [show 8 + j = j + 1 + 1 + 1 + 1 + 1 + 1 + 1 + 1 by omega]
  simp only [List.getElem?_cons_succ]
  rw [List.getElem?_append_left (by simp [h.src]; omega)]
theorem spL_dst {s : Sp} (h : s.ok) (a : Option Addr) (ca : Nat) (j : Nat) (hj : j < 16) : (spL s a ca)[24 + j]? = (s.dst.map bv)[j]? := by
  show (.bool s.plain :: _ : List Value)[24 + j]? = _
  rw [show 24 + j = (16 + j) + 1 + 1 + 1 + 1 + 1 + 1 + 1 + 1 by omega]
  simp only [List.getElem?_cons_succ]
  rw [List.getElem?_append_right (by simp [h.src])]
  simp only [List.length_map, h.src, Nat.add_sub_cancel_left]
  rw [List.getElem?_append_left (by simp [h.dst]; omega)]
theorem spL_tail {s : Sp} (h : s.ok) (a : Option Addr) (ca : Nat) (j : Nat) : (spL s a ca)[40 + j]? = ([.bool s.ports, .int .u32 (s.frm : Int), .int .u32 (s.til : Int), .slice a s.data.length ca] : List Value)[j]? := by
  show (.bool s.plain :: _ : List Value)[40 + j]? = _
  rw [show 40 + j = (16 + (16 + j)) + 1 + 1 + 1 + 1 + 1 + 1 + 1 + 1 by omega]
  simp only [List.getElem?_cons_succ]
  rw [List.getElem?_append_right (by simp [h.src])]
  simp only [List.length_map, h.src, Nat.add_sub_cancel_left]
  rw [List.getElem?_append_right (by simp [h.dst])]
  simp only [List.length_map, h.dst, Nat.add_sub_cancel_left]

/-- It lies in a block. -/
def SAt (w : World) (g : Nat) (s : Sp) (a : Option Addr) (ca : Nat) : Prop := VAt w g 28 (spA s a ca) ∧ s.ok
theorem SAt.kept {w w' : World} {g : Nat} {s : Sp} {a : Option Addr} {ca : Nat} (h : SAt w g s a ca) (G : w.grownBy w' none) : SAt w' g s a ca := ⟨h.1.kept G, h.2⟩
theorem SAt.at {w : World} {g : Nat} {s : Sp} {a : Option Addr} {ca : Nat} (h : SAt w g s a ca) (i : Nat) : w.cell? ⟨g, i, none⟩ = (spL s a ca)[i]? := by
  rw [h.1.cell i, spA, List.getElem?_toArray]
theorem SAt.eight {w : World} {g : Nat} {s : Sp} {a : Option Addr} {ca : Nat} (h : SAt w g s a ca) : w.cell? ⟨g, 0, none⟩ = some (.bool s.plain) ∧ w.cell? ⟨g, 1, none⟩ = some (.bool s.wide) ∧ w.cell? ⟨g, 2, none⟩ = some (.bool s.multi) ∧ w.cell? ⟨g, 3, none⟩ = some (.bool s.beg) ∧ w.cell? ⟨g, 4, none⟩ = some (.bool s.fin) ∧ w.cell? ⟨g, 5, none⟩ = some (.int .u32 (s.seq : Int)) ∧ w.cell? ⟨g, 6, none⟩ = some (.int .u32 (s.proto : Int)) ∧ w.cell? ⟨g, 7, none⟩ = some (.int .i64 s.next) :=
  ⟨h.at 0, h.at 1, h.at 2, h.at 3, h.at 4, h.at 5, h.at 6, h.at 7⟩
theorem SAt.four {w : World} {g : Nat} {s : Sp} {a : Option Addr} {ca : Nat} (h : SAt w g s a ca) : w.cell? ⟨g, 40, none⟩ = some (.bool s.ports) ∧ w.cell? ⟨g, 41, none⟩ = some (.int .u32 (s.frm : Int)) ∧ w.cell? ⟨g, 42, none⟩ = some (.int .u32 (s.til : Int)) ∧ w.cell? ⟨g, 43, none⟩ = some (.slice a s.data.length ca) :=
  ⟨(h.at 40).trans (spL_tail h.2 a ca 0), (h.at 41).trans (spL_tail h.2 a ca 1), (h.at 42).trans (spL_tail h.2 a ca 2), (h.at 43).trans (spL_tail h.2 a ca 3)⟩
theorem SAt.srcR {w : World} {g : Nat} {s : Sp} {a : Option Addr} {ca : Nat} (h : SAt w g s a ca) : w.rangeAt g 8 (s.src.map bv) := fun j v hv => by
  have hj : j < 16 := by
    have := (List.getElem?_eq_some_iff.1 hv).1
    simpa [h.2.src] using this
  rw [h.at (8 + j), spL_src h.2 a ca j hj]
  exact hv
theorem SAt.dstR {w : World} {g : Nat} {s : Sp} {a : Option Addr} {ca : Nat} (h : SAt w g s a ca) : w.rangeAt g 24 (s.dst.map bv) := fun j v hv => by
  have hj : j < 16 := by
    have := (List.getElem?_eq_some_iff.1 hv).1
    simpa [h.2.dst] using this
  rw [h.at (24 + j), spL_dst h.2 a ca j hj]
  exact hv

/-- A load out of the middle of a block, guarded or not. -/
theorem wpList_load_midg {P : Program} {ops : Array Oper} {rest : List Oper} {o : Oper} {a : Act} {w : World} {Q : Exit → Act → World → Prop} (hw : Region.wanted o (yielded ops a.tmps) = true) (ty : TypeId) (x : Operand) (ho : o.op = .load ty x)
    (g k : Nat) (hx : a.eval x = .pointer (some ⟨g, k, none⟩)) (cs : List Value) (d : TypeDesc) (hc : w.rangeAt g k cs) (hu : P.underlying ty = some d) (hd : d.isRow = true) (hi : (P.info? ty).map (·.size) = some cs.length)
    (h : wpList P ops Q rest (a.put o.dst (.agg cs.toArray)) w) : wpList P ops Q (o :: rest) a w :=
  BigFrame.wpList_want hw fun _ hK => wp_load_mid ty x ho g k hx cs d hc hu hd hi (hK _ _ h)

theorem size25 : (Try.prog.info? 25).map (·.size) = some 16 := by kernel_rfl

theorem natbeq (n k : Nat) : (n == k) = ((n : Int) == (k : Int)) := by
  by_cases h : n = k
  · rw [h]; simp
  · rw [beq_eq_false_iff_ne.2 h, beq_eq_false_iff_ne.2 (by omega)]
theorem natbne (n k : Nat) : (n != k) = ((n : Int) != (k : Int)) := by
  rw [bne, bne, natbeq]

/-- What lies in memory while a spec is judged. -/
def FI (w : World) (B C : Nat) (l : Lk) (s : Sp) (a : Option Addr) (ca : Nat) (wx : World) : Prop := VAt wx B 23 (lkA l) ∧ SAt wx C s a ca ∧ w.grownBy wx none
theorem FI.kept {w : World} {B C : Nat} {l : Lk} {s : Sp} {a : Option Addr} {ca : Nat} {wx wy : World} (h : FI w B C l s a ca wx) (K : wx.grownBy wy none) : FI w B C l s a ca wy := ⟨h.1.kept K, h.2.1.kept K, grown_trans h.2.2 K⟩

end Go.Proofs.Ytfjjmeanmlimoaa
