/-
  Steps: a list written down, elements appended, a whole row read, in a statement whose order is open or not.
-/
import Derived.Test.YtgoiblnddfggbaaLotP3
import Derived.Test.YtgoiblnddfggbaaLotP8
import Derived.Maps.AppendAt
import Derived.Deep.RegionLaw
import Derived.BigQuiet
namespace Go.Proofs.Ytgoiblnddfggbaa
open Go.RowKit
set_option maxRecDepth 100000

/-- A list of one element written down in a statement whose order is open. -/
theorem step_lit {P : Program} {ops : Array Oper} {o : Oper} {a : Act} {w : World} {K : Act → World → Prop} {Q : Exit → Act → World → Prop} {E : Prop}
    (hgd : o.guard = none) (t : TypeId) (n : Nat) (ps : Array (Nat × Operand)) (ho : o.op = .buildSlice t n ps) (qs : Array (Nat × Value)) (hq : ps.map (fun (i, x) => (i, a.eval x)) = qs) (cs : List Value) (e : TypeId)
    (hr : ∀ W : World, (Instr.buildSlice t n qs).run P W = .ok (.slice (some ⟨W.heap.size, 0, none⟩) n n) (W.alloc (.cells cs.toArray e)))
    (hK : ∀ ad w', CV w' (some ad) cs → w.grownBy w' none → K (a.put o.dst (.slice (some ad) n n)) w') :
    if Region.wanted o (yielded ops a.tmps) = true then Oper.wp P o a w K Q else E := by
  have hw : Region.wanted o (yielded ops a.tmps) = true := by simp [Region.wanted, hgd]
  rw [if_pos hw]
  unfold Oper.wp execOp
  have hr' := hr w
  rw [← hq] at hr'
  simp only [ho, Sem.run_bind, Sem.run_pure, Result.andThen_ok, hr']
  exact hK _ _ (cv_lit w e cs) (World.grownBy_alloc _ _ _)

/-- Elements appended in a statement whose order is open, and where they lie. -/
theorem step_append_own {P : Program} {ops : Array Oper} {o : Oper} {a : Act} {w : World} {K : Act → World → Prop} {Q : Exit → Act → World → Prop} {E : Prop}
    (hgd : o.guard = none) (s x : Operand) (t : TypeId) (ho : o.op = .call { callee := .builtin .append, args := #[s, x], argTypes := #[t, t] })
    (e : TypeId) (i : TypeInfo) (z : Value) (size bytes : Nat) (ht : P.underlying t = some (.slice e)) (hi : P.info? e = some i) (hz : i.zero = some z) (hsize : i.size = size) (hby : i.bytes = bytes) (hzs : z.cells.size = size) (hsz : 0 < size)
    (base : Nat) (v : Value) (n : Nat) (vs : List Value) (hs : a.eval s = v) (hown : w.ownsRow base e size v n vs)
    (ad : Addr) (m c : Nat) (us : List Value) (hx : a.eval x = .slice (some ad) m c) (hl : us.length = m * size) (hus : CV w (some ad) us) (h1 : ∀ u ∈ us, u.oneCell' = true)
    (h63 : n + m ≤ maxLen) (hbytes : (n + m) * bytes ≤ 140737488355328) (hbase : base ≤ w.heap.size)
    (hK : ∀ v' w', w'.ownsRow base e size v' (n + m) (vs ++ us) → w.grownBy w' v.ownBlock → (v'.ownBlock = v.ownBlock ∨ v'.ownBlock = some w.heap.size) → K (a.put o.dst v') w') :
    if Region.wanted o (yielded ops a.tmps) = true then Oper.wp P o a w K Q else E := by
  have hw : Region.wanted o (yielded ops a.tmps) = true := by simp [Region.wanted, hgd]
  rw [if_pos hw]
  obtain ⟨v', w', hr, h2, h3, _, h5⟩ := run_append_own_at (P := P) w base t o.type e i z size bytes ht hi hz hsize hby hzs hsz v n vs hown ad m c us hl (by
    intro j u hj
    obtain ⟨hlt, e⟩ := List.getElem?_eq_some_iff.1 hj
    rw [hus.2 ad rfl j hlt, e]) h1 h63 hbytes hbase
  unfold Oper.wp execOp
  simp only [ho, resolve, invoke, builtin, Sem.run_bind, Sem.run_pure, Result.andThen_ok, List.map_toArray, List.map_cons, List.map_nil, hs, hx, hr]
  exact hK v' w' h2 h3 h5

/-- A whole row read in a statement whose order is open. -/
theorem step_load_row {P : Program} {ops : Array Oper} {o : Oper} {a : Act} {w : World} {K : Act → World → Prop} {Q : Exit → Act → World → Prop} {E : Prop}
    (hgd : o.guard = none) (ty : TypeId) (x : Operand) (ho : o.op = .load ty x) (g : Nat) (hx : a.eval x = .pointer (some ⟨g, 0, none⟩)) (t : TypeId) (cs : Array Value) (d : TypeDesc) (A : VAt w g t cs)
    (hu : P.underlying ty = some d) (hd : (match d with | .struct _ | .array _ _ => true | _ => false) = true) (hi : (P.info? ty).map (·.size) = some cs.size) (hK : K (a.put o.dst (.agg cs)) w) :
    if Region.wanted o (yielded ops a.tmps) = true then Oper.wp P o a w K Q else E := by
  have hw : Region.wanted o (yielded ops a.tmps) = true := by simp [Region.wanted, hgd]
  rw [if_pos hw]
  unfold Oper.wp execOp
  simp only [ho, hx, Instr.loadAt, Instr.sureAddr, Sem.run_bind, Sem.run_pure, Result.andThen_ok, run_loadVar_row w g t ty cs (0, 0) d A hu hd hi]
  exact hK

theorem own_sl {w : World} {base e size n : Nat} {v : Value} {vs : List Value} (h : w.ownsRow base e size v n vs) : ∃ a l k, v = .slice a l k := by
  rcases h.2 with ⟨rfl, -⟩ | ⟨g, cap, cur, rfl, -⟩
  · exact ⟨_, _, _, rfl⟩
  · exact ⟨_, _, _, rfl⟩

theorem wpList_lit {P : Program} {ops : Array Oper} {rest : List Oper} {op : Oper} {a : Act} {w : World} {Q : Exit → Act → World → Prop} (hw : Region.wanted op (yielded ops a.tmps) = true)
    (t : TypeId) (n : Nat) (ps : Array (Nat × Operand)) (ho : op.op = .buildSlice t n ps) (qs : Array (Nat × Value)) (hq : ps.map (fun (i, x) => (i, a.eval x)) = qs) (cs : List Value) (e : TypeId)
    (hr : ∀ W : World, (Instr.buildSlice t n qs).run P W = .ok (.slice (some ⟨W.heap.size, 0, none⟩) n n) (W.alloc (.cells cs.toArray e)))
    (h : ∀ V w', CV w' (some ⟨V, 0, none⟩) cs → w.grownBy w' none → wpList P ops Q rest (a.put op.dst (.slice (some ⟨V, 0, none⟩) n n)) w') : wpList P ops Q (op :: rest) a w :=
  BigFrame.wpList_want hw fun _ hK => by
    unfold Oper.wp execOp
    have hr' := hr w
    rw [← hq] at hr'
    simp only [ho, Sem.run_bind, Sem.run_pure, Result.andThen_ok, hr']
    exact hK _ _ (h _ _ (cv_lit w e cs) (World.grownBy_alloc _ _ _))

/-- A struct put together. -/
theorem wpList_bld {P : Program} {ops : Array Oper} {rest : List Oper} {op : Oper} {a : Act} {w : World} {Q : Exit → Act → World → Prop} (hgd : op.guard = none)
    (t : TypeId) (ps : Array (Nat × Operand)) (ho : op.op = .build t ps) (qs : Array (Nat × Value)) (hq : ps.map (fun (i, x) => (i, a.eval x)) = qs) (v : Value)
    (hr : ∀ W : World, (Instr.build t qs).run P W = .ok v W)
    (h : wpList P ops Q rest (a.put op.dst v) w) : wpList P ops Q (op :: rest) a w :=
  wpList_plain hgd fun _ hK => by
    unfold Oper.wp execOp
    have hr' := hr w
    rw [← hq] at hr'
    simp only [ho, Sem.run_bind, Sem.run_pure, Result.andThen_ok, hr']
    exact hK _ _ h

/-- The beginning of an owned row is one. -/
theorem owns_take {w : World} {base e size g n cap m : Nat} {vs : List Value} (h : w.ownsRow base e size (.slice (some ⟨g, 0, none⟩) n cap) n vs) (hm : m ≤ n) : w.ownsRow base e size (.slice (some ⟨g, 0, none⟩) m cap) m (vs.take (m * size)) := by
  have h0 := h.1
  rcases h.2 with ⟨h, _⟩ | ⟨g', cap', cur, hv, hb, hg, hc, hmx, hs, ht⟩
  · cases h
  · simp only [Value.slice.injEq, Option.some.injEq, Addr.mk.injEq] at hv
    obtain ⟨⟨rfl, _⟩, _, rfl⟩ := hv
    have hle : m * size ≤ n * size := Nat.mul_le_mul_right _ hm
    refine ⟨by rw [List.length_take, h0]; omega, .inr ⟨g, cap, cur, rfl, hb, hg, by omega, hmx, hs, ?_⟩⟩
    rw [← ht, List.take_take, Nat.min_eq_left hle]

theorem own_kind {w : World} {base e size n x : Nat} {v : Value} {vs : List Value} (h : w.ownsRow base e size v n vs) (hx : v.ownBlock = some x) : ∃ cur, w.heap[x]? = some (.cells cur e (0, 0)) := by
  rcases h.2 with ⟨rfl, -⟩ | ⟨g, cap, cur, rfl, -, hg, -⟩
  · cases hx
  · cases hx
    exact ⟨cur, hg⟩
theorem own_other {w : World} {base e size n x base' e' size' n' : Nat} {v v' : Value} {vs vs' : List Value} (h : w.ownsRow base e size v n vs) (h' : w.ownsRow base' e' size' v' n' vs') (he : e ≠ e') (hx : v.ownBlock = some x) : ¬ v'.ownBlock = some x := fun hy => by
  obtain ⟨c1, k1⟩ := own_kind h hx
  obtain ⟨c2, k2⟩ := own_kind h' hy
  rw [k1] at k2
  injection k2 with k2
  injection k2 with _ k3
  exact he k3
theorem own_vat {w : World} {base e size n g t : Nat} {v : Value} {vs : List Value} {cs : Array Value} (h : w.ownsRow base e size v n vs) (A : VAt w g t cs) (he : e ≠ t) : ¬ v.ownBlock = some g := fun hx => by
  obtain ⟨c1, k1⟩ := own_kind h hx
  unfold VAt at A
  rw [k1] at A
  injection A with A
  injection A with _ A
  exact he A

theorem own_kept {w w' : World} {base e size n g : Nat} {v : Value} {vs : List Value} (h : w.ownsRow base e size v n vs) (K : w.grownBy w' (some g)) (hne : ¬ v.ownBlock = some g) : w'.ownsRow base e size v n vs := h.kept K (.inr hne)


/-- 'append(dst, src...)': what was there still stands where it stood. -/
theorem wpList_append_keep {P : Program} {w : World} {ops : Array Oper} {rest : List Oper} {o : Oper} {a : Act} {Q : Exit → Act → World → Prop} (hgd : o.guard = none) (s x : Operand) (t : TypeId)
    (ho : o.op = .call { callee := .builtin .append, args := #[s, x], argTypes := #[t, t] })
    (e : TypeId) (i : TypeInfo) (z : Value) (size bytes : Nat) (ht : P.underlying t = some (.slice e)) (hi : P.info? e = some i) (hz : i.zero = some z) (hsize : i.size = size) (hby : i.bytes = bytes) (hzs : z.cells.size = size) (hsz : 0 < size)
    (base : Nat) (v : Value) (n : Nat) (vs : List Value) (hs : a.eval s = v) (hown : w.ownsRow base e size v n vs)
    (ad : Addr) (m c : Nat) (us : List Value) (hx : a.eval x = .slice (some ad) m c) (hl : us.length = m * size) (hus : CV w (some ad) us) (h1 : ∀ u ∈ us, u.oneCell' = true)
    (h63 : n + m ≤ maxLen) (hbytes : (n + m) * bytes ≤ 140737488355328) (hbase : base ≤ w.heap.size)
    (h : ∀ v' w', w'.ownsRow base e size v' (n + m) (vs ++ us) → w'.ownsRow base e size v n vs → w.grownBy w' v.ownBlock → wpList P ops Q rest (a.put o.dst v') w') : wpList P ops Q (o :: rest) a w := by
  have hcells : ∀ j u, us[j]? = some u → w.cell? (ad.add j) = some u := by
    intro j u hj
    obtain ⟨hlt, e⟩ := List.getElem?_eq_some_iff.1 hj
    rw [hus.2 ad rfl j hlt, e]
  have hl0 := hown.1
  rcases hown.2 with ⟨rfl, rfl⟩ | ⟨g, cap, cur, rfl, hb, hg, hc, hmm, hss, htt⟩
  · refine wpList_append_own w hgd s x t ho base e i z size bytes ht hi hz hsize hby hzs hsz _ 0 vs hs hown ad m c us hx hl hcells h1 h63 hbytes hbase fun v' w' k1 k2 _ => h v' w' k1 ?_ k2
    have : vs = [] := List.eq_nil_of_length_eq_zero (by simpa using hl0)
    subst this
    exact World.ownsRow_nil _ _ _ _
  · by_cases hr : n + m ≤ cap
    · refine wpList_append_fits w hgd s x t ho base e i size ht hi hsize g n cap vs hs hown ad m c us hx hl hcells h1 hr fun w' k1 k2 => h _ w' k1 ?_ k2
      have := owns_take k1 (m := n) (by omega)
      rw [List.take_left' hl0] at this
      exact this
    · refine wpList_append_grows w hgd s x t ho e i z size bytes ht hi hz hsize hby hzs hsz (some ⟨g, 0, none⟩) n cap vs hs (by simp) hl0 ?_ ad m c us hx hl hcells h1 (by omega) h63 hbytes fun v' w' k1 k2 => h v' w' (owns_mono k1 hbase) (owns_keptNone hown k2) (grown_mono k2)
      intro b hb' j u hj
      obtain rfl := Option.some.inj hb'
      exact hown.cells (g := g) rfl j u hj

end Go.Proofs.Ytgoiblnddfggbaa
