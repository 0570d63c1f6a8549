/-
  Memory for queues: what is written, what stays; rows of elements of one cell that may begin behind their block's head.
-/
import Derived.Test.YtnkdcehnamkoaaaICopy
import Derived.ArgAppend
import Derived.Deep.RegionLaw
namespace Go.Proofs.Ytnkdcehnamkoaaa
open Go.RowKit
set_option maxRecDepth 100000

/-- Cells lie in a block of their own. -/
def QBk (w : World) (g t : Nat) (cs : Array Value) : Prop := w.heap[g]? = some (.cells cs t (0, 0))
theorem QBk.cell {w : World} {g t : Nat} {cs : Array Value} (h : QBk w g t cs) (i : Nat) : w.cell? ⟨g, i, none⟩ = cs[i]? := cell_of_row w g i cs t (0, 0) h
theorem QBk.free {w : World} {g t : Nat} {cs : Array Value} (h : QBk w g t cs) (i : Nat) : w.frozen? ⟨g, i, none⟩ = false := by
  unfold QBk at h
  simp [World.frozen?, h]
theorem QBk.lt {w : World} {g t : Nat} {cs : Array Value} (h : QBk w g t cs) : g < w.heap.size := by
  unfold QBk at h
  exact (Array.getElem?_eq_some_iff.1 h).1
theorem QBk.kept {w w' : World} {g t : Nat} {cs : Array Value} {row : Option Nat} (h : QBk w g t cs) (G : w.grownBy w' row) (hr : row ≠ some g) : QBk w' g t cs := by
  have := G.block g h.lt (fun e => hr e.symm)
  unfold QBk at *
  rw [this, h]
theorem QBk.keptNone {w w' : World} {g t : Nat} {cs : Array Value} (h : QBk w g t cs) (G : w.grownBy w' none) : QBk w' g t cs := h.kept G (by simp)
theorem QBk.set {w : World} {g t : Nat} {cs : Array Value} (h : QBk w g t cs) (i : Nat) (v : Value) : QBk (w.setCell ⟨g, i, none⟩ v) g t (cs.setIfInBounds i v) := by
  have hl := h.lt
  unfold QBk at *
  simp only [World.setCell, Array.getElem?_modify, h]
  simp
theorem QBk.alloc (w : World) (t : Nat) (cs : Array Value) : QBk (w.alloc (.cells cs t)) w.heap.size t cs := heap_alloc_new w _
theorem QBk.tys {w : World} {g g' t t' : Nat} {cs cs' : Array Value} (h : QBk w g t cs) (h' : QBk w g' t' cs') (ht : t ≠ t') : g ≠ g' := by
  rintro rfl
  unfold QBk at h h'
  rw [h] at h'
  simp only [Option.some.injEq, Obj.cells.injEq] at h'
  exact ht h'.2.1

/-- Nothing is written but new memory and the blocks of S. -/
structure GW (w w' : World) (S : Nat → Prop) : Prop where
  os : w'.os = w.os
  tape : w'.tape = w.tape
  output : w'.output = w.output
  size : w.heap.size ≤ w'.heap.size
  block : ∀ i, i < w.heap.size → ¬ S i → w'.heap[i]? = w.heap[i]?

theorem GW.of {w w' : World} {row : Option Nat} {S : Nat → Prop} (h : w.grownBy w' row) (hs : ∀ x, row = some x → S x) : GW w w' S :=
  ⟨h.os, h.tape, h.output, h.size, fun i hi hn => h.block i hi (fun e => hn (hs i e.symm))⟩
theorem GW.non {w w' : World} {S : Nat → Prop} (h : w.grownBy w' none) : GW w w' S := GW.of h (fun x hx => by cases hx)
theorem GW.refl (w : World) (S : Nat → Prop) : GW w w S := ⟨rfl, rfl, rfl, Nat.le_refl _, fun _ _ _ => rfl⟩
theorem GW.trans {w w1 w2 : World} {S S' : Nat → Prop} (h : GW w w1 S) (k : GW w1 w2 S') (hs : ∀ x, x < w.heap.size → S' x → S x) : GW w w2 S :=
  ⟨k.os.trans h.os, k.tape.trans h.tape, k.output.trans h.output, Nat.le_trans h.size k.size, fun i hi hn => (k.block i (Nat.lt_of_lt_of_le hi h.size) (fun e => hn (hs i hi e))).trans (h.block i hi hn)⟩
theorem GW.mono {w w' : World} {S S' : Nat → Prop} (h : GW w w' S) (hs : ∀ x, x < w.heap.size → S x → S' x) : GW w w' S' := ⟨h.os, h.tape, h.output, h.size, fun i hi hn => h.block i hi (fun e => hn (hs i hi e))⟩
theorem GW.grown {w w' : World} {S : Nat → Prop} (h : GW w w' S) (hs : ∀ x, x < w.heap.size → ¬ S x) : w.grownBy w' none := ⟨h.os, h.tape, h.output, h.size, fun i hi _ => h.block i hi (hs i hi)⟩
theorem GW.set {w w' : World} {S : Nat → Prop} (h : GW w w' S) (p : Addr) (u : Value) (hp : S p.block ∨ w.heap.size ≤ p.block) : GW w (w'.setCell p u) S :=
  h.trans (GW.of (row := some p.block) (S := fun i => i = p.block) (grown_setCell (World.grownBy.refl _ _) _ _ (.inl rfl)) (fun x hx => (Option.some.inj hx).symm)) (fun x hx e => by
    have e : x = p.block := e
    subst e
    rcases hp with h1 | h1
    · exact h1
    · omega)
theorem GW.qbk {w w' : World} {S : Nat → Prop} {g t : Nat} {cs : Array Value} (h : GW w w' S) (A : QBk w g t cs) (hg : ¬ S g) : QBk w' g t cs := by
  have := h.block g A.lt hg
  unfold QBk at *
  rw [this, A]
theorem GW.row {w w' : World} {S : Nat → Prop} {base e size n : Nat} {v : Value} {vs : List Value} (h : GW w w' S) (O : w.ownsRow base e size v n vs) (hv : ∀ x, v.ownBlock = some x → ¬ S x) : w'.ownsRow base e size v n vs := by
  refine ⟨O.1, ?_⟩
  rcases O.2 with h0 | ⟨g, cap, cur, hv', hb, hg, r⟩
  · exact .inl h0
  · right
    refine ⟨g, cap, cur, hv', hb, ?_, r⟩
    have hlt : g < w.heap.size := (Array.getElem?_eq_some_iff.1 hg).1
    rw [h.block g hlt (hv g (by rw [hv']; rfl)), hg]
theorem GW.cv {w w' : World} {S : Nat → Prop} {ao : Option Addr} {vs : List Value} (h : GW w w' S) (hc : CV w ao vs) (ha : ∀ ad, ao = some ad → vs ≠ [] → ¬ S ad.block) : CV w' ao vs :=
  hc.same fun ad had hne hlt => h.block _ hlt (ha ad had hne)

/-- A row of elements of one cell, of its own, that may begin behind its block's head. -/
def ORow (w : World) (base e : Nat) (v : Value) (vs : List Value) : Prop :=
  (v = .slice none 0 0 ∧ vs = []) ∨
  ∃ g off cap cur, v = .slice (some ⟨g, off, none⟩) vs.length cap ∧ base ≤ g ∧ w.heap[g]? = some (.cells cur e (0, 0)) ∧ vs.length ≤ cap ∧ cap ≤ maxLen ∧ off + cap ≤ cur.size ∧ ∀ i, i < vs.length → cur[off + i]? = vs[i]?

theorem ORow.nil (w : World) (base e : Nat) : ORow w base e (.slice none 0 0) [] := .inl ⟨rfl, rfl⟩
theorem ORow.ofRow {w : World} {base e n : Nat} {v : Value} {vs : List Value} (h : w.ownsRow base e 1 v n vs) : ORow w base e v vs := by
  have h0 : vs.length = n := by have := h.1; omega
  rcases h.2 with ⟨rfl, hn⟩ | ⟨g, cap, cur, rfl, hb, hg, hc, hm, hs, ht⟩
  · exact .inl ⟨rfl, List.eq_nil_of_length_eq_zero (by omega)⟩
  · refine .inr ⟨g, 0, cap, cur, by rw [h0], hb, hg, by omega, hm, by omega, fun i hi => ?_⟩
    rw [← ht, List.getElem?_take]
    rw [if_pos (by omega)]
    simp
theorem ORow.lt {w : World} {base e : Nat} {v : Value} {vs : List Value} (h : ORow w base e v vs) : ∀ k, v.ownBlock = some k → base ≤ k ∧ k < w.heap.size := by
  intro k hk
  rcases h with ⟨rfl, _⟩ | ⟨g, off, cap, cur, rfl, hb, hg, _⟩
  · cases hk
  · simp only [Value.ownBlock, Option.some.injEq] at hk
    subst hk
    exact ⟨hb, (Array.getElem?_eq_some_iff.1 hg).1⟩
theorem ORow.same {w w' : World} {base e : Nat} {v : Value} {vs : List Value} (h : ORow w base e v vs) (hs : ∀ k, v.ownBlock = some k → k < w.heap.size → w'.heap[k]? = w.heap[k]?) : ORow w' base e v vs := by
  rcases h with h | ⟨g, off, cap, cur, rfl, hb, hg, r⟩
  · exact .inl h
  · exact .inr ⟨g, off, cap, cur, rfl, hb, by rw [hs g rfl (Array.getElem?_eq_some_iff.1 hg).1]; exact hg, r⟩
theorem ORow.kept {w w' : World} {base e : Nat} {v : Value} {vs : List Value} {row : Option Nat} (h : ORow w base e v vs) (G : w.grownBy w' row) (hr : ∀ k, v.ownBlock = some k → row ≠ some k) : ORow w' base e v vs :=
  h.same fun k hk hl => G.block k hl (fun e => hr k hk e.symm)
theorem ORow.keptNone {w w' : World} {base e : Nat} {v : Value} {vs : List Value} (h : ORow w base e v vs) (G : w.grownBy w' none) : ORow w' base e v vs := h.kept G (fun _ _ => by simp)
theorem ORow.mono {w : World} {base base' e : Nat} {v : Value} {vs : List Value} (h : ORow w base e v vs) (hb : base' ≤ base) : ORow w base' e v vs := by
  rcases h with h | ⟨g, off, cap, cur, hv, hg, r⟩
  · exact .inl h
  · exact .inr ⟨g, off, cap, cur, hv, Nat.le_trans hb hg, r⟩
theorem GW.orow {w w' : World} {S : Nat → Prop} {base e : Nat} {v : Value} {vs : List Value} (h : GW w w' S) (O : ORow w base e v vs) (hv : ∀ x, v.ownBlock = some x → ¬ S x) : ORow w' base e v vs :=
  O.same fun k hk hl => h.block k hl (hv k hk)

/-- It reads as cells. -/
theorem ORow.cv {w : World} {base e : Nat} {v : Value} {vs : List Value} (h : ORow w base e v vs) :
    ∃ ao cap, v = .slice ao vs.length cap ∧ CV w ao vs ∧ vs.length ≤ cap ∧ cap ≤ maxLen ∧ (ao = none → cap = 0) ∧ (∀ ad, ao = some ad → base ≤ ad.block ∧ ad.block < w.heap.size) ∧ v.ownBlock = ao.map (·.block) := by
  have hl := h.lt
  rcases h with ⟨rfl, rfl⟩ | ⟨g, off, cap, cur, rfl, hb, hg, hc, hm, hs, ht⟩
  · exact ⟨none, 0, rfl, ⟨fun _ => rfl, fun ad had => (by cases had)⟩, Nat.le_refl _, Nat.zero_le _, fun _ => rfl, fun ad had => (by cases had), rfl⟩
  · refine ⟨some ⟨g, off, none⟩, cap, rfl, ⟨fun h => (by cases h), fun ad had i hi => ?_⟩, hc, hm, fun h => (by cases h), fun ad had => ?_, rfl⟩
    · obtain rfl := Option.some.inj had
      rw [Addr.add_lit, cell_of_row w g (off + i) cur e (0, 0) hg, ht i hi, List.getElem?_eq_getElem hi]
    · obtain rfl := Option.some.inj had
      exact hl g rfl
theorem ORow.len {w : World} {base e : Nat} {v : Value} {vs : List Value} (h : ORow w base e v vs) : ∃ ao cap, v = .slice ao vs.length cap := by
  obtain ⟨ao, cap, hv, _⟩ := h.cv
  exact ⟨ao, cap, hv⟩

/-- A row that is not empty: where its first element stands, that it may be written; what is left without it. -/
theorem ORow.first {w : World} {base e : Nat} {v x : Value} {vs : List Value} (h : ORow w base e v (x :: vs)) :
    ∃ g off cap, v = .slice (some ⟨g, off, none⟩) (vs.length + 1) cap ∧ w.cell? ⟨g, off, none⟩ = some x ∧ w.frozen? ⟨g, off, none⟩ = false ∧ base ≤ g ∧ g < w.heap.size ∧ vs.length + 1 ≤ cap ∧ cap ≤ maxLen ∧ (∃ cur, QBk w g e cur) ∧
      (∀ off', off' = off + 1 ∨ (cap = 1 ∧ off' = off) → ORow w base e (.slice (some ⟨g, off', none⟩) vs.length (cap - 1)) vs ∧ ∀ u, ORow (w.setCell ⟨g, off, none⟩ u) base e (.slice (some ⟨g, off', none⟩) vs.length (cap - 1)) vs) := by
  rcases h with ⟨_, h0⟩ | ⟨g, off, cap, cur, rfl, hb, hg, hc, hm, hs, ht⟩
  · cases h0
  · have A : QBk w g e cur := hg
    simp only [List.length_cons] at hc ht
    refine ⟨g, off, cap, by rw [List.length_cons], ?_, A.free _, hb, A.lt, hc, hm, ⟨cur, A⟩, fun off' ho => ?_⟩
    · rw [A.cell]
      have := ht 0 (by omega)
      simpa using this
    · have tl : ∀ i, i < vs.length → cur[off + 1 + i]? = vs[i]? := fun i hi => by
        have := ht (i + 1) (by omega)
        rw [List.getElem?_cons_succ] at this
        rw [← this]
        congr 1
        omega
      have hoff : 0 < vs.length → off' = off + 1 := fun hp => by
        rcases ho with h1 | ⟨h1, _⟩
        · exact h1
        · omega
      have hsz : off' + (cap - 1) ≤ cur.size := by
        rcases ho with h1 | ⟨h1, h2⟩ <;> omega
      refine ⟨.inr ⟨g, off', cap - 1, cur, rfl, hb, hg, by omega, by omega, hsz, fun i hi => ?_⟩, fun u => .inr ⟨g, off', cap - 1, cur.setIfInBounds off u, rfl, hb, A.set off u, by omega, by omega, by simpa using hsz, fun i hi => ?_⟩⟩
      · rw [hoff (by omega)]
        exact tl i hi
      · rw [hoff (by omega), Array.getElem?_setIfInBounds, if_neg (by omega)]
        exact tl i hi

/-- One element more. -/
theorem run_append_orow {P : Program} {w : World} (t ty e : TypeId) (i : TypeInfo) (z : Value) (bytes : Nat) (ht : P.underlying t = some (.slice e)) (hi : P.info? e = some i) (hz : i.zero = some z) (hsize : i.size = 1) (hby : i.bytes = bytes) (hzs : z.cells.size = 1)
    (base : Nat) (v : Value) (vs : List Value) (h : ORow w base e v vs) (ad : Addr) (c : Nat) (u : Value) (hu : CV w (some ad) [u]) (h1 : u.oneCell' = true)
    (h63 : vs.length + 1 ≤ maxLen) (hbytes : (vs.length + 1) * bytes ≤ 140737488355328) (hbase : base ≤ w.heap.size) :
    ∃ v' w', (Builtin.append_ #[t, t] ty #[v, .slice (some ad) 1 c]).run P w = .ok v' w' ∧ ORow w' base e v' (vs ++ [u]) ∧ w.grownBy w' v.ownBlock ∧ (v'.ownBlock = v.ownBlock ∨ ∀ y, v'.ownBlock = some y → w.heap.size ≤ y) := by
  have hn : ∀ j x, [u][j]? = some x → w.cell? (ad.add j) = some x := by
    intro j x hx
    obtain ⟨hlt, e⟩ := List.getElem?_eq_some_iff.1 hx
    rw [hu.2 ad rfl j hlt, e]
  have hone : ∀ x ∈ [u], x.oneCell' = true := by simpa using h1
  rcases h with ⟨rfl, rfl⟩ | ⟨g, off, cap, cur, rfl, hb, hg, hc, hm, hs, htk⟩
  · obtain ⟨v', w', hr, r1, r2, _⟩ := run_append_own (P := P) w w.heap.size t ty e i z 1 bytes ht hi hz hsize hby hzs (by decide) (.slice none 0 0) 0 [] (World.ownsRow_nil _ _ _ _) ad 1 c [u] (by simp) hn hone (by simpa using h63) (by simpa using hbytes) (Nat.le_refl _)
    exact ⟨v', w', hr, (ORow.ofRow r1).mono hbase, r2, .inr fun y hy => (r1.lt y hy).1⟩
  · have A : QBk w g e cur := hg
    by_cases hroom : vs.length + 1 ≤ cap
    · have hcell : ∀ j, j < [u].length → (w.cell? ⟨g, off + vs.length * i.size + j, none⟩).isSome = true := fun j hj => by
        rw [A.cell, hsize, Array.getElem?_eq_getElem (by simp at hj; omega)]
        rfl
      have hr := run_append_room_cells (P := P) w t ty e i ht hi g off vs.length cap ad 1 c [u] (by simp [hsize]) hn hone hroom hcell (fun j _ => A.free _)
      have es : w.setCells g (off + vs.length * i.size) [u] = w.setCell ⟨g, off + vs.length, none⟩ u := by
        rw [hsize, Nat.mul_one]
        rfl
      rw [es] at hr
      refine ⟨_, _, hr, .inr ⟨g, off, cap, cur.setIfInBounds (off + vs.length) u, by simp, hb, A.set _ _, by simpa using hroom, hm, by simpa using hs, fun j hj => ?_⟩, grown_setCell (World.grownBy.refl _ _) _ _ (.inl rfl), .inl rfl⟩
      simp only [List.length_append, List.length_cons, List.length_nil] at hj
      rw [Array.getElem?_setIfInBounds]
      by_cases hj2 : j = vs.length
      · subst hj2
        rw [if_pos rfl, if_pos (by omega)]
        simp
      · rw [if_neg (by omega), List.getElem?_append_left (by omega)]
        exact htk j (by omega)
    · obtain ⟨v', w', hr, r1, r2⟩ := run_append_arg_grows (P := P) w t ty e i z 1 bytes ht hi hz hsize hby hzs (by decide) ⟨g, off, none⟩ vs.length cap vs (by simp) (fun j x hx => by
        have hj := (List.getElem?_eq_some_iff.1 hx).1
        rw [Addr.add_lit, A.cell, htk j hj, hx]) ad 1 c [u] (by simp) hn (by omega) h63 hbytes
      exact ⟨v', w', hr, (ORow.ofRow r1).mono hbase, grown_mono r2, .inr fun y hy => (r1.lt y hy).1⟩

theorem wpList_append_orow {P : Program} {w : World} {ops : Array Oper} {rest : List Oper} {o : Oper} {a : Act} {Q : Exit → Act → World → Prop} (hgd : o.guard = none) (s x : Operand) (t : TypeId)
    (ho : o.op = .call { callee := .builtin .append, args := #[s, x], argTypes := #[t, t] })
    (e : TypeId) (i : TypeInfo) (z : Value) (bytes : Nat) (ht : P.underlying t = some (.slice e)) (hi : P.info? e = some i) (hz : i.zero = some z) (hsize : i.size = 1) (hby : i.bytes = bytes) (hzs : z.cells.size = 1)
    (base : Nat) (v : Value) (vs : List Value) (hs : a.eval s = v) (h : ORow w base e v vs) (ad : Addr) (c : Nat) (u : Value) (hx : a.eval x = .slice (some ad) 1 c) (hu : CV w (some ad) [u]) (h1 : u.oneCell' = true)
    (h63 : vs.length + 1 ≤ maxLen) (hbytes : (vs.length + 1) * bytes ≤ 140737488355328) (hbase : base ≤ w.heap.size)
    (hK : ∀ v' w', ORow w' base e v' (vs ++ [u]) → w.grownBy w' v.ownBlock → (v'.ownBlock = v.ownBlock ∨ ∀ y, v'.ownBlock = some y → w.heap.size ≤ y) → wpList P ops Q rest (a.put o.dst v') w') : wpList P ops Q (o :: rest) a w :=
  wpList_plain hgd fun _ hK' => by
    obtain ⟨v', w', hr, h2, h3, h4⟩ := run_append_orow (P := P) t o.type e i z bytes ht hi hz hsize hby hzs base v vs h ad c u hu h1 h63 hbytes hbase
    unfold Oper.wp execOp
    simp only [ho, resolve, invoke, builtin, Sem.run_bind, Sem.run_pure, Result.andThen_ok, List.map_toArray, List.map_cons, List.map_nil, hs, hx, hr]
    exact hK' _ _ (hK v' w' h2 h3 h4)

theorem step_append_orow {P : Program} {ops : Array Oper} {o : Oper} {a : Act} {w : World} {K : Act → World → Prop} {Q : Exit → Act → World → Prop} {E : Prop}
    (hgd : o.guard = none) (s x : Operand) (t : TypeId) (ho : o.op = .call { callee := .builtin .append, args := #[s, x], argTypes := #[t, t] })
    (e : TypeId) (i : TypeInfo) (z : Value) (bytes : Nat) (ht : P.underlying t = some (.slice e)) (hi : P.info? e = some i) (hz : i.zero = some z) (hsize : i.size = 1) (hby : i.bytes = bytes) (hzs : z.cells.size = 1)
    (base : Nat) (v : Value) (vs : List Value) (hs : a.eval s = v) (h : ORow w base e v vs) (ad : Addr) (c : Nat) (u : Value) (hx : a.eval x = .slice (some ad) 1 c) (hu : CV w (some ad) [u]) (h1 : u.oneCell' = true)
    (h63 : vs.length + 1 ≤ maxLen) (hbytes : (vs.length + 1) * bytes ≤ 140737488355328) (hbase : base ≤ w.heap.size)
    (hK : ∀ v' w', ORow w' base e v' (vs ++ [u]) → w.grownBy w' v.ownBlock → (v'.ownBlock = v.ownBlock ∨ ∀ y, v'.ownBlock = some y → w.heap.size ≤ y) → K (a.put o.dst v') w') :
    if Region.wanted o (yielded ops a.tmps) = true then Oper.wp P o a w K Q else E := by
  have hw : Region.wanted o (yielded ops a.tmps) = true := by simp [Region.wanted, hgd]
  rw [if_pos hw]
  obtain ⟨v', w', hr, h2, h3, h4⟩ := run_append_orow (P := P) t o.type e i z bytes ht hi hz hsize hby hzs base v vs h ad c u hu h1 h63 hbytes hbase
  unfold Oper.wp execOp
  simp only [ho, resolve, invoke, builtin, Sem.run_bind, Sem.run_pure, Result.andThen_ok, List.map_toArray, List.map_cons, List.map_nil, hs, hx, hr]
  exact hK v' w' h2 h3 h4

/-- A list of one element written down in a statement whose order is open. -/
theorem step_litq {P : Program} {ops : Array Oper} {o : Oper} {a : Act} {w : World} {K : Act → World → Prop} {Q : Exit → Act → World → Prop} {E : Prop}
    (hgd : o.guard = none) (t : TypeId) (n : Nat) (ps : Array (Nat × Operand)) (ho : o.op = .buildSlice t n ps) (qs : Array (Nat × Value)) (hq : ps.map (fun (i, x) => (i, a.eval x)) = qs) (cs : List Value) (e : TypeId)
    (hr : ∀ W : World, (Instr.buildSlice t n qs).run P W = .ok (.slice (some ⟨W.heap.size, 0, none⟩) n n) (W.alloc (.cells cs.toArray e)))
    (hK : ∀ ad w', CV w' (some ad) cs → w.grownBy w' none → K (a.put o.dst (.slice (some ad) n n)) w') :
    if Region.wanted o (yielded ops a.tmps) = true then Oper.wp P o a w K Q else E := by
  have hw : Region.wanted o (yielded ops a.tmps) = true := by simp [Region.wanted, hgd]
  rw [if_pos hw]
  unfold Oper.wp execOp
  have hr' := hr w
  rw [← hq] at hr'
  simp only [ho, Sem.run_bind, Sem.run_pure, Result.andThen_ok, hr']
  exact hK _ _ (cv_lit w e cs) (World.grownBy_alloc _ _ _)

end Go.Proofs.Ytnkdcehnamkoaaa
