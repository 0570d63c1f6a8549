/-
  A view in a block; the document's own Piece. Steps: a list written down, elements appended, a whole row read, in a statement whose order is open or not. What a call leaves that may write several blocks.
-/
import Derived.Test.YtencoknpocipbaaGreatLotP13
import Derived.Laws.Rows
import Derived.Laws.Tables
import Derived.Laws.ResultCell
import Derived.Deep.DeepCutAuto
import Derived.Test.YtencoknpocipbaaGreatLotP3
import Derived.Maps.AppendAt
import Derived.Deep.RegionLaw
import Derived.BigQuiet
import Derived.Test.YtencoknpocipbaaGreatLotP2
namespace Go.Proofs.YtencoknpocipbaaGreat
open Go.RowKit
set_option maxRecDepth 100000

def vwA (v : Vw) : Array Value := #[.int .u32 (v.proto : Int), .bool v.multi, .bool v.beg, .bool v.fin, .int .u32 (v.seq : Int), .int .i64 (v.pos : Int), .int .i64 (v.net : Int), .int .i64 (v.next : Int), .int .i64 (v.load : Int)]
/-- Cells lie in a block of their own. -/
def VAt (w : World) (g t : Nat) (cs : Array Value) : Prop := w.heap[g]? = some (.cells cs t (0, 0))
theorem VAt.cell {w : World} {g t : Nat} {cs : Array Value} (h : VAt w g t cs) (i : Nat) : w.cell? ⟨g, i, none⟩ = cs[i]? := cell_of_row w g i cs t (0, 0) h
theorem VAt.free {w : World} {g t : Nat} {cs : Array Value} (h : VAt w g t cs) (i : Nat) : w.frozen? ⟨g, i, none⟩ = false := by
  unfold VAt at h
  simp [World.frozen?, h]
theorem VAt.lt {w : World} {g t : Nat} {cs : Array Value} (h : VAt w g t cs) : g < w.heap.size := by
  unfold VAt at h
  by_cases hb : g < w.heap.size
  · exact hb
  · rw [Array.getElem?_eq_none (by omega)] at h; cases h
theorem VAt.grown {w w' : World} {g t : Nat} {cs : Array Value} {row : Option Nat} (h : VAt w g t cs) (G : w.grownBy w' row) (hr : row ≠ some g) : VAt w' g t cs := by
  have := G.block g h.lt (Ne.symm hr)
  unfold VAt at *
  rw [this, h]
theorem VAt.kept {w w' : World} {g t : Nat} {cs : Array Value} (h : VAt w g t cs) (G : w.grownBy w' none) : VAt w' g t cs := h.grown G (by simp)
theorem VAt.set {w : World} {g t : Nat} {cs : Array Value} (h : VAt w g t cs) (i : Nat) (v : Value) : VAt (w.setCell ⟨g, i, none⟩ v) g t (cs.setIfInBounds i v) := by
  unfold VAt at *
  simp only [World.setCell, Array.getElem?_modify, h, if_true, Option.map_some]
  rfl
theorem VAt.alloc (w : World) (t : Nat) (cs : Array Value) : VAt (w.alloc (.cells cs t)) w.heap.size t cs := heap_alloc_new w _
theorem VAt.setRow {w : World} {g t : Nat} {cs : Array Value} (h : VAt w g t cs) (ds : Array Value) : VAt (w.setRow g ds) g t ds := by
  unfold VAt at *
  exact setRow_heap w g _ _ t _ h
theorem vheap_setRow_ne (w : World) (g k : Nat) (cs : Array Value) (h : k ≠ g) : (w.setRow g cs).heap[k]? = w.heap[k]? := by
  simp [World.setRow, Array.getElem?_modify, Ne.symm h]
theorem vgrown_setRow {w W : World} {row : Option Nat} (G : w.grownBy W row) (g : Nat) (cs : Array Value) (hg : row = some g ∨ w.heap.size ≤ g) : w.grownBy (W.setRow g cs) row := by
  refine ⟨G.os, G.tape, G.output, by rw [setRow_size]; exact G.size, fun i hi hr => ?_⟩
  have : i ≠ g := by
    rintro rfl
    rcases hg with hg | hg
    · exact hr hg.symm
    · omega
  rw [vheap_setRow_ne _ _ _ _ this]
  exact G.block i hi hr
theorem VAt.other {w : World} {g t k : Nat} {cs : Array Value} (h : VAt w g t cs) (ds : Array Value) (hk : g ≠ k) : VAt (w.setRow k ds) g t cs := by
  unfold VAt at *
  rw [vheap_setRow_ne _ _ _ _ hk]
  exact h
theorem VAt.setOther {w : World} {g t k i : Nat} {cs : Array Value} (h : VAt w g t cs) (u : Value) (hk : g ≠ k) : VAt (w.setCell ⟨k, i, none⟩ u) g t cs := by
  unfold VAt at *
  simp only [World.setCell, Array.getElem?_modify, if_neg (Ne.symm hk)]
  exact h
/-- A result row that lies in a block, and a second result. -/
theorem ret_row {P : Program} {fn : Func} {p u : Tmp} {ty : TypeId} (h : fn.results = #[.cell p ty, .tmp u]) (tmps : Array Value) (w : World) (g : Nat) (cs : Array Value) (d : TypeDesc) (hp : tmps.getD p undef = .pointer (some ⟨g, 0, none⟩)) (A : VAt w g ty cs)
    (hu : P.underlying ty = some d) (hd : (match d with | .struct _ | .array _ _ => true | _ => false) = true) (hi : (P.info? ty).map (·.size) = some cs.size) : (results fn tmps).run P w = .ok (.tuple #[.agg cs, tmps.getD u undef]) w := by
  rw [results_cell_tmp h, hp]
  have := run_loadVar_row (P := P) w g ty ty cs (0, 0) _ A hu hd hi
  simp only [asAddr, Sem.run_pure, Result.andThen, this]

theorem vwA_all (v : Vw) : (vwA v).all (·.oneCell') = true := by simp [vwA, Value.oneCell']

/-- A boxed link, and a view behind it. -/
theorem two_blocks (w : World) (l : Lk) (t s : Nat) (cs : Array Value) :
    VAt ((w.alloc (.cells (lkA l) t)).alloc (.cells cs s)) w.heap.size t (lkA l) ∧ VAt ((w.alloc (.cells (lkA l) t)).alloc (.cells cs s)) (w.heap.size + 1) s cs ∧ w.grownBy ((w.alloc (.cells (lkA l) t)).alloc (.cells cs s)) none := by
  have A0 := VAt.alloc w t (lkA l)
  have A1 := VAt.alloc (w.alloc (.cells (lkA l) t)) s cs
  have K1 := World.grownBy_alloc (w.alloc (.cells (lkA l) t)) (.cells cs s) none
  rw [show (w.alloc (.cells (lkA l) t)).heap.size = w.heap.size + 1 by simp] at A1
  exact ⟨A0.kept K1, A1, grown_trans (World.grownBy_alloc w _ none) K1⟩

theorem plain_err {l : Lk} {b : List UInt8} {e : Int} (h : plainV l b = .error e) : (e != 0) = true := by
  unfold plainV at h
  split at h
  · cases h
  · split at h
    · cases h
    · split at h <;> cases h <;> rfl
theorem proto_err {l : Lk} {b : List UInt8} {p : Nat} {e : Int} (h : protoV l b p = .error e) : (e != 0) = true := by
  unfold protoV at h
  split at h
  · cases h; rfl
  · split at h
    · split at h <;> cases h; rfl
    · split at h
      · cases h; rfl
      · split at h <;> cases h; rfl
theorem head_err {l : Lk} {b : List UInt8} {p : Nat} {e : Int} (h : headV l b p = .error e) : (e != 0) = true := by
  unfold headV at h
  split at h
  · cases h; rfl
  · split at h <;> cases h; rfl

end Go.Proofs.YtencoknpocipbaaGreat

namespace Go.Proofs.YtencoknpocipbaaGreat
open Go.RowKit
set_option maxRecDepth 100000

/-- A list of one element written down in a statement whose order is open. -/
theorem step_lit {P : Program} {ops : Array Oper} {o : Oper} {a : Act} {w : World} {K : Act → World → Prop} {Q : Exit → Act → World → Prop} {E : Prop}
    (hgd : o.guard = none) (t : TypeId) (n : Nat) (ps : Array (Nat × Operand)) (ho : o.op = .buildSlice t n ps) (qs : Array (Nat × Value)) (hq : ps.map (fun (i, x) => (i, a.eval x)) = qs) (cs : List Value) (e : TypeId)
    (hr : ∀ W : World, (Instr.buildSlice t n qs).run P W = .ok (.slice (some ⟨W.heap.size, 0, none⟩) n n) (W.alloc (.cells cs.toArray e)))
    (hK : ∀ ad w', CV w' (some ad) cs → w.grownBy w' none → K (a.put o.dst (.slice (some ad) n n)) w') :
    if Region.wanted o (yielded ops a.tmps) = true then Oper.wp P o a w K Q else E := by
  have hw : Region.wanted o (yielded ops a.tmps) = true := by simp [Region.wanted, hgd]
  rw [if_pos hw]
  unfold Oper.wp execOp
  have hr' := hr w
  rw [← hq] at hr'
  simp only [ho, Sem.run_bind, Sem.run_pure, Result.andThen_ok, hr']
  exact hK _ _ (cv_lit w e cs) (World.grownBy_alloc _ _ _)

/-- Elements appended in a statement whose order is open, and where they lie. -/
theorem step_append_own {P : Program} {ops : Array Oper} {o : Oper} {a : Act} {w : World} {K : Act → World → Prop} {Q : Exit → Act → World → Prop} {E : Prop}
    (hgd : o.guard = none) (s x : Operand) (t : TypeId) (ho : o.op = .call { callee := .builtin .append, args := #[s, x], argTypes := #[t, t] })
    (e : TypeId) (i : TypeInfo) (z : Value) (size bytes : Nat) (ht : P.underlying t = some (.slice e)) (hi : P.info? e = some i) (hz : i.zero = some z) (hsize : i.size = size) (hby : i.bytes = bytes) (hzs : z.cells.size = size) (hsz : 0 < size)
    (base : Nat) (v : Value) (n : Nat) (vs : List Value) (hs : a.eval s = v) (hown : w.ownsRow base e size v n vs)
    (ad : Addr) (m c : Nat) (us : List Value) (hx : a.eval x = .slice (some ad) m c) (hl : us.length = m * size) (hus : CV w (some ad) us) (h1 : ∀ u ∈ us, u.oneCell' = true)
    (h63 : n + m ≤ maxLen) (hbytes : (n + m) * bytes ≤ 140737488355328) (hbase : base ≤ w.heap.size)
    (hK : ∀ v' w', w'.ownsRow base e size v' (n + m) (vs ++ us) → w.grownBy w' v.ownBlock → (v'.ownBlock = v.ownBlock ∨ v'.ownBlock = some w.heap.size) → K (a.put o.dst v') w') :
    if Region.wanted o (yielded ops a.tmps) = true then Oper.wp P o a w K Q else E := by
  have hw : Region.wanted o (yielded ops a.tmps) = true := by simp [Region.wanted, hgd]
  rw [if_pos hw]
  obtain ⟨v', w', hr, h2, h3, _, h5⟩ := run_append_own_at (P := P) w base t o.type e i z size bytes ht hi hz hsize hby hzs hsz v n vs hown ad m c us hl (by
    intro j u hj
    obtain ⟨hlt, e⟩ := List.getElem?_eq_some_iff.1 hj
    rw [hus.2 ad rfl j hlt, e]) h1 h63 hbytes hbase
  unfold Oper.wp execOp
  simp only [ho, resolve, invoke, builtin, Sem.run_bind, Sem.run_pure, Result.andThen_ok, List.map_toArray, List.map_cons, List.map_nil, hs, hx, hr]
  exact hK v' w' h2 h3 h5

/-- A whole row read in a statement whose order is open. -/
theorem step_load_row {P : Program} {ops : Array Oper} {o : Oper} {a : Act} {w : World} {K : Act → World → Prop} {Q : Exit → Act → World → Prop} {E : Prop}
    (hgd : o.guard = none) (ty : TypeId) (x : Operand) (ho : o.op = .load ty x) (g : Nat) (hx : a.eval x = .pointer (some ⟨g, 0, none⟩)) (t : TypeId) (cs : Array Value) (d : TypeDesc) (A : VAt w g t cs)
    (hu : P.underlying ty = some d) (hd : (match d with | .struct _ | .array _ _ => true | _ => false) = true) (hi : (P.info? ty).map (·.size) = some cs.size) (hK : K (a.put o.dst (.agg cs)) w) :
    if Region.wanted o (yielded ops a.tmps) = true then Oper.wp P o a w K Q else E := by
  have hw : Region.wanted o (yielded ops a.tmps) = true := by simp [Region.wanted, hgd]
  rw [if_pos hw]
  unfold Oper.wp execOp
  simp only [ho, hx, Instr.loadAt, Instr.sureAddr, Sem.run_bind, Sem.run_pure, Result.andThen_ok, run_loadVar_row w g t ty cs (0, 0) d A hu hd hi]
  exact hK

theorem own_sl {w : World} {base e size n : Nat} {v : Value} {vs : List Value} (h : w.ownsRow base e size v n vs) : ∃ a l k, v = .slice a l k := by
  rcases h.2 with ⟨rfl, -⟩ | ⟨g, cap, cur, rfl, -⟩
  · exact ⟨_, _, _, rfl⟩
  · exact ⟨_, _, _, rfl⟩

theorem wpList_lit {P : Program} {ops : Array Oper} {rest : List Oper} {op : Oper} {a : Act} {w : World} {Q : Exit → Act → World → Prop} (hw : Region.wanted op (yielded ops a.tmps) = true)
    (t : TypeId) (n : Nat) (ps : Array (Nat × Operand)) (ho : op.op = .buildSlice t n ps) (qs : Array (Nat × Value)) (hq : ps.map (fun (i, x) => (i, a.eval x)) = qs) (cs : List Value) (e : TypeId)
    (hr : ∀ W : World, (Instr.buildSlice t n qs).run P W = .ok (.slice (some ⟨W.heap.size, 0, none⟩) n n) (W.alloc (.cells cs.toArray e)))
    (h : ∀ V w', CV w' (some ⟨V, 0, none⟩) cs → w.grownBy w' none → wpList P ops Q rest (a.put op.dst (.slice (some ⟨V, 0, none⟩) n n)) w') : wpList P ops Q (op :: rest) a w :=
  BigFrame.wpList_want hw fun _ hK => by
    unfold Oper.wp execOp
    have hr' := hr w
    rw [← hq] at hr'
    simp only [ho, Sem.run_bind, Sem.run_pure, Result.andThen_ok, hr']
    exact hK _ _ (h _ _ (cv_lit w e cs) (World.grownBy_alloc _ _ _))

/-- A struct put together. -/
theorem wpList_bld {P : Program} {ops : Array Oper} {rest : List Oper} {op : Oper} {a : Act} {w : World} {Q : Exit → Act → World → Prop} (hgd : op.guard = none)
    (t : TypeId) (ps : Array (Nat × Operand)) (ho : op.op = .build t ps) (qs : Array (Nat × Value)) (hq : ps.map (fun (i, x) => (i, a.eval x)) = qs) (v : Value)
    (hr : ∀ W : World, (Instr.build t qs).run P W = .ok v W)
    (h : wpList P ops Q rest (a.put op.dst v) w) : wpList P ops Q (op :: rest) a w :=
  wpList_plain hgd fun _ hK => by
    unfold Oper.wp execOp
    have hr' := hr w
    rw [← hq] at hr'
    simp only [ho, Sem.run_bind, Sem.run_pure, Result.andThen_ok, hr']
    exact hK _ _ h

/-- The beginning of an owned row is one. -/
theorem owns_take {w : World} {base e size g n cap m : Nat} {vs : List Value} (h : w.ownsRow base e size (.slice (some ⟨g, 0, none⟩) n cap) n vs) (hm : m ≤ n) : w.ownsRow base e size (.slice (some ⟨g, 0, none⟩) m cap) m (vs.take (m * size)) := by
  have h0 := h.1
  rcases h.2 with ⟨h, _⟩ | ⟨g', cap', cur, hv, hb, hg, hc, hmx, hs, ht⟩
  · cases h
  · simp only [Value.slice.injEq, Option.some.injEq, Addr.mk.injEq] at hv
    obtain ⟨⟨rfl, _⟩, _, rfl⟩ := hv
    have hle : m * size ≤ n * size := Nat.mul_le_mul_right _ hm
    refine ⟨by rw [List.length_take, h0]; omega, .inr ⟨g, cap, cur, rfl, hb, hg, by omega, hmx, hs, ?_⟩⟩
    rw [← ht, List.take_take, Nat.min_eq_left hle]

theorem own_kind {w : World} {base e size n x : Nat} {v : Value} {vs : List Value} (h : w.ownsRow base e size v n vs) (hx : v.ownBlock = some x) : ∃ cur, w.heap[x]? = some (.cells cur e (0, 0)) := by
  rcases h.2 with ⟨rfl, -⟩ | ⟨g, cap, cur, rfl, -, hg, -⟩
  · cases hx
  · cases hx
    exact ⟨cur, hg⟩
theorem own_other {w : World} {base e size n x base' e' size' n' : Nat} {v v' : Value} {vs vs' : List Value} (h : w.ownsRow base e size v n vs) (h' : w.ownsRow base' e' size' v' n' vs') (he : e ≠ e') (hx : v.ownBlock = some x) : ¬ v'.ownBlock = some x := fun hy => by
  obtain ⟨c1, k1⟩ := own_kind h hx
  obtain ⟨c2, k2⟩ := own_kind h' hy
  rw [k1] at k2
  injection k2 with k2
  injection k2 with _ k3
  exact he k3
theorem own_vat {w : World} {base e size n g t : Nat} {v : Value} {vs : List Value} {cs : Array Value} (h : w.ownsRow base e size v n vs) (A : VAt w g t cs) (he : e ≠ t) : ¬ v.ownBlock = some g := fun hx => by
  obtain ⟨c1, k1⟩ := own_kind h hx
  unfold VAt at A
  rw [k1] at A
  injection A with A
  injection A with _ A
  exact he A

theorem own_kept {w w' : World} {base e size n g : Nat} {v : Value} {vs : List Value} (h : w.ownsRow base e size v n vs) (K : w.grownBy w' (some g)) (hne : ¬ v.ownBlock = some g) : w'.ownsRow base e size v n vs := h.kept K (.inr hne)


/-- 'append(dst, src...)': what was there still stands where it stood. -/
theorem wpList_append_keep {P : Program} {w : World} {ops : Array Oper} {rest : List Oper} {o : Oper} {a : Act} {Q : Exit → Act → World → Prop} (hgd : o.guard = none) (s x : Operand) (t : TypeId)
    (ho : o.op = .call { callee := .builtin .append, args := #[s, x], argTypes := #[t, t] })
    (e : TypeId) (i : TypeInfo) (z : Value) (size bytes : Nat) (ht : P.underlying t = some (.slice e)) (hi : P.info? e = some i) (hz : i.zero = some z) (hsize : i.size = size) (hby : i.bytes = bytes) (hzs : z.cells.size = size) (hsz : 0 < size)
    (base : Nat) (v : Value) (n : Nat) (vs : List Value) (hs : a.eval s = v) (hown : w.ownsRow base e size v n vs)
    (ad : Addr) (m c : Nat) (us : List Value) (hx : a.eval x = .slice (some ad) m c) (hl : us.length = m * size) (hus : CV w (some ad) us) (h1 : ∀ u ∈ us, u.oneCell' = true)
    (h63 : n + m ≤ maxLen) (hbytes : (n + m) * bytes ≤ 140737488355328) (hbase : base ≤ w.heap.size)
    (h : ∀ v' w', w'.ownsRow base e size v' (n + m) (vs ++ us) → w'.ownsRow base e size v n vs → w.grownBy w' v.ownBlock → wpList P ops Q rest (a.put o.dst v') w') : wpList P ops Q (o :: rest) a w := by
  have hcells : ∀ j u, us[j]? = some u → w.cell? (ad.add j) = some u := by
    intro j u hj
    obtain ⟨hlt, e⟩ := List.getElem?_eq_some_iff.1 hj
    rw [hus.2 ad rfl j hlt, e]
  have hl0 := hown.1
  rcases hown.2 with ⟨rfl, rfl⟩ | ⟨g, cap, cur, rfl, hb, hg, hc, hmm, hss, htt⟩
  · refine wpList_append_own w hgd s x t ho base e i z size bytes ht hi hz hsize hby hzs hsz _ 0 vs hs hown ad m c us hx hl hcells h1 h63 hbytes hbase fun v' w' k1 k2 _ => h v' w' k1 ?_ k2
    have : vs = [] := List.eq_nil_of_length_eq_zero (by simpa using hl0)
    subst this
    exact World.ownsRow_nil _ _ _ _
  · by_cases hr : n + m ≤ cap
    · refine wpList_append_fits w hgd s x t ho base e i size ht hi hsize g n cap vs hs hown ad m c us hx hl hcells h1 hr fun w' k1 k2 => h _ w' k1 ?_ k2
      have := owns_take k1 (m := n) (by omega)
      rw [List.take_left' hl0] at this
      exact this
    · refine wpList_append_grows w hgd s x t ho e i z size bytes ht hi hz hsize hby hzs hsz (some ⟨g, 0, none⟩) n cap vs hs (by simp) hl0 ?_ ad m c us hx hl hcells h1 (by omega) h63 hbytes fun v' w' k1 k2 => h v' w' (owns_mono k1 hbase) (owns_keptNone hown k2) (grown_mono k2)
      intro b hb' j u hj
      obtain rfl := Option.some.inj hb'
      exact hown.cells (g := g) rfl j u hj

end Go.Proofs.YtencoknpocipbaaGreat

namespace Go.Proofs.YtencoknpocipbaaGreat
open Go.RowKit
set_option maxRecDepth 100000

/-- Nothing is written but new memory, and the blocks of S. -/
structure GB (w w' : World) (S : Nat → Prop) : Prop where
  os : w'.os = w.os
  tape : w'.tape = w.tape
  output : w'.output = w.output
  size : w.heap.size ≤ w'.heap.size
  block : ∀ i, i < w.heap.size → ¬ S i → w'.heap[i]? = w.heap[i]?

theorem GB.of {w w' : World} {row : Option Nat} {S : Nat → Prop} (h : w.grownBy w' row) (hs : ∀ x, row = some x → S x) : GB w w' S :=
  ⟨h.os, h.tape, h.output, h.size, fun i hi hn => h.block i hi (fun e => hn (hs i e.symm))⟩
theorem GB.non {w w' : World} {S : Nat → Prop} (h : w.grownBy w' none) : GB w w' S := GB.of h (fun x hx => by cases hx)
theorem GB.refl (w : World) (S : Nat → Prop) : GB w w S := ⟨rfl, rfl, rfl, Nat.le_refl _, fun _ _ _ => rfl⟩
theorem GB.trans {w w1 w2 : World} {S S' : Nat → Prop} (h : GB w w1 S) (k : GB w1 w2 S') (hs : ∀ x, x < w.heap.size → S' x → S x) : GB w w2 S :=
  ⟨k.os.trans h.os, k.tape.trans h.tape, k.output.trans h.output, Nat.le_trans h.size k.size, fun i hi hn => (k.block i (Nat.lt_of_lt_of_le hi h.size) (fun e => hn (hs i hi e))).trans (h.block i hi hn)⟩
theorem GB.mono {w w' : World} {S S' : Nat → Prop} (h : GB w w' S) (hs : ∀ x, S x → S' x) : GB w w' S' := ⟨h.os, h.tape, h.output, h.size, fun i hi hn => h.block i hi (fun e => hn (hs i e))⟩
/-- Where S lies in new memory alone. -/
theorem GB.grown {w w' : World} {S : Nat → Prop} (h : GB w w' S) (hs : ∀ x, x < w.heap.size → ¬ S x) : w.grownBy w' none := ⟨h.os, h.tape, h.output, h.size, fun i hi _ => h.block i hi (hs i hi)⟩
theorem GB.one {w w' : World} {S : Nat → Prop} {g : Nat} (h : GB w w' S) (hs : ∀ x, x < w.heap.size → S x → x = g) : w.grownBy w' (some g) := ⟨h.os, h.tape, h.output, h.size, fun i hi hn => h.block i hi (fun e => hn (congrArg some (hs i hi e)))⟩

theorem GB.vat {w w' : World} {S : Nat → Prop} {g t : Nat} {cs : Array Value} (h : GB w w' S) (A : VAt w g t cs) (hg : ¬ S g) : VAt w' g t cs := by
  have := h.block g A.lt hg
  unfold VAt at *
  rw [this, A]
theorem GB.owns {w w' : World} {S : Nat → Prop} {base e size n : Nat} {v : Value} {vs : List Value} (h : GB w w' S) (O : w.ownsRow base e size v n vs) (hv : ∀ x, v.ownBlock = some x → ¬ S x) : w'.ownsRow base e size v n vs := by
  refine ⟨O.1, ?_⟩
  rcases O.2 with h0 | ⟨g, cap, cur, hv', hb, hg, r⟩
  · exact .inl h0
  · right
    refine ⟨g, cap, cur, hv', hb, ?_, r⟩
    have hlt : g < w.heap.size := by
      by_cases hh : g < w.heap.size
      · exact hh
      · rw [Array.getElem?_eq_none (by omega)] at hg; cases hg
    rw [h.block g hlt (hv g (by rw [hv']; rfl)), hg]
theorem GB.cell {w w' : World} {S : Nat → Prop} {ad : Addr} {v : Value} (h : GB w w' S) (hc : w.cell? ad = some v) (ha : ¬ S ad.block) (hlt : ad.block < w.heap.size) : w'.cell? ad = some v := by
  have := h.block ad.block hlt ha
  unfold World.cell? at *
  rw [this]
  exact hc
theorem GB.cells {w w' : World} {S : Nat → Prop} {ao : Option Addr} {xs : List UInt8} (h : GB w w' S) (hc : Cells w ao xs) (ha : ∀ ad, ao = some ad → xs ≠ [] → ¬ S ad.block) : Cells w' ao xs := by
  have hu := hc.under
  refine hc.same fun b off i hb hi => ?_
  have hne : xs ≠ [] := by
    intro e
    rw [e] at hi
    simp at hi
  have h1 := ha _ hb hne
  have h2 := hu _ hb hne
  have := h.block b h2 h1
  unfold World.cell?
  simp only [this]

end Go.Proofs.YtencoknpocipbaaGreat
