import Derived.Test.YtlfmddjppejmaaaGreatDoorqLotQ2
import Derived.Test.YtlfmddjppejmaaaGreatDoorqLotQ6
import Derived.Maps.AppendAt
import Derived.Deep.RegionLaw
import Derived.BigQuiet
import Derived.Test.YtlfmddjppejmaaaGreatDoorqLotQ11
import Derived.Test.YtlfmddjppejmaaaGreatDoorqLotQ13
import Derived.Test.YtlfmddjppejmaaaGreatDoorqLotQ4
namespace Go.Proofs.YtlfmddjppejmaaaGreatDoor
open Go.RowKit
set_option maxRecDepth 100000
theorem a26 {P : Program} {ops : Array Oper} {o : Oper} {a : Act} {w : World} {K : Act → World → Prop} {Q : Exit → Act → World → Prop} {E : Prop}
  (hgd : o.guard = none) (t : TypeId) (n : Nat) (ps : Array (Nat × Operand)) (ho : o.op = .buildSlice t n ps) (qs : Array (Nat × Value)) (hq : ps.map (fun (i, x) => (i, a.eval x)) = qs) (cs : List Value) (e : TypeId)
  (hr : ∀ W : World, (Instr.buildSlice t n qs).run P W = .ok (.slice (some ⟨W.heap.size, 0, none⟩) n n) (W.alloc (.cells cs.toArray e)))
  (hK : ∀ ad w', CV w' (some ad) cs → w.grownBy w' none → K (a.put o.dst (.slice (some ad) n n)) w') :
  if Region.wanted o (yielded ops a.tmps) = true then Oper.wp P o a w K Q else E := by
 have hw : Region.wanted o (yielded ops a.tmps) = true := by simp [Region.wanted, hgd]
 rw [if_pos hw]
 unfold Oper.wp execOp
 have hr' := hr w
 rw [← hq] at hr'
 simp only [ho, Sem.run_bind, Sem.run_pure, Result.andThen_ok, hr']
 exact hK _ _ (m8 w e cs) (World.grownBy_alloc _ _ _)
theorem a0X {P : Program} {ops : Array Oper} {o : Oper} {a : Act} {w : World} {K : Act → World → Prop} {Q : Exit → Act → World → Prop} {E : Prop}
  (hgd : o.guard = none) (s x : Operand) (t : TypeId) (ho : o.op = .call { callee := .builtin .append, args := #[s, x], argTypes := #[t, t] })
  (e : TypeId) (i : TypeInfo) (z : Value) (size bytes : Nat) (ht : P.underlying t = some (.slice e)) (hi : P.info? e = some i) (hz : i.zero = some z) (hsize : i.size = size) (hby : i.bytes = bytes) (hzs : z.cells.size = size) (hsz : 0 < size)
  (base : Nat) (v : Value) (n : Nat) (vs : List Value) (hs : a.eval s = v) (hown : w.ownsRow base e size v n vs)
  (ad : Addr) (m c : Nat) (us : List Value) (hx : a.eval x = .slice (some ad) m c) (hl : us.length = m * size) (hus : CV w (some ad) us) (h1 : ∀ u ∈ us, u.oneCell' = true)
  (h63 : n + m ≤ maxLen) (hbytes : (n + m) * bytes ≤ 140737488355328) (hbase : base ≤ w.heap.size)
  (hK : ∀ v' w', w'.ownsRow base e size v' (n + m) (vs ++ us) → w.grownBy w' v.ownBlock → (v'.ownBlock = v.ownBlock ∨ v'.ownBlock = some w.heap.size) → K (a.put o.dst v') w') :
  if Region.wanted o (yielded ops a.tmps) = true then Oper.wp P o a w K Q else E := by
 have hw : Region.wanted o (yielded ops a.tmps) = true := by simp [Region.wanted, hgd]
 rw [if_pos hw]
 obtain ⟨v', w', hr, h2, h3, _, h5⟩ := run_append_own_at (P := P) w base t o.type e i z size bytes ht hi hz hsize hby hzs hsz v n vs hown ad m c us hl (by
  intro j u hj
  obtain ⟨hlt, e⟩ := List.getElem?_eq_some_iff.1 hj
  rw [hus.2 ad rfl j hlt, e]) h1 h63 hbytes hbase
 unfold Oper.wp execOp
 simp only [ho, resolve, invoke, builtin, Sem.run_bind, Sem.run_pure, Result.andThen_ok, List.map_toArray, List.map_cons, List.map_nil, hs, hx, hr]
 exact hK v' w' h2 h3 h5
theorem S0 {w : World} {base e size n : Nat} {v : Value} {vs : List Value} (h : w.ownsRow base e size v n vs) : ∃ a l k, v = .slice a l k := by
 rcases h.2 with ⟨rfl, -⟩ | ⟨g, cap, cur, rfl, -⟩
 ·exact ⟨_, _, _, rfl⟩
 ·exact ⟨_, _, _, rfl⟩
theorem a5E {P : Program} {ops : Array Oper} {rest : List Oper} {op : Oper} {a : Act} {w : World} {Q : Exit → Act → World → Prop} (hw : Region.wanted op (yielded ops a.tmps) = true)
  (t : TypeId) (n : Nat) (ps : Array (Nat × Operand)) (ho : op.op = .buildSlice t n ps) (qs : Array (Nat × Value)) (hq : ps.map (fun (i, x) => (i, a.eval x)) = qs) (cs : List Value) (e : TypeId)
  (hr : ∀ W : World, (Instr.buildSlice t n qs).run P W = .ok (.slice (some ⟨W.heap.size, 0, none⟩) n n) (W.alloc (.cells cs.toArray e)))
  (h : ∀ V w', CV w' (some ⟨V, 0, none⟩) cs → w.grownBy w' none → wpList P ops Q rest (a.put op.dst (.slice (some ⟨V, 0, none⟩) n n)) w') : wpList P ops Q (op :: rest) a w :=
 BigFrame.wpList_want hw fun _ hK => by
  unfold Oper.wp execOp
  have hr' := hr w
  rw [← hq] at hr'
  simp only [ho, Sem.run_bind, Sem.run_pure, Result.andThen_ok, hr']
  exact hK _ _ (h _ _ (m8 w e cs) (World.grownBy_alloc _ _ _))
theorem o6 {P : Program} {ops : Array Oper} {rest : List Oper} {op : Oper} {a : Act} {w : World} {Q : Exit → Act → World → Prop} (hgd : op.guard = none)
  (t : TypeId) (ps : Array (Nat × Operand)) (ho : op.op = .build t ps) (qs : Array (Nat × Value)) (hq : ps.map (fun (i, x) => (i, a.eval x)) = qs) (v : Value)
  (hr : ∀ W : World, (Instr.build t qs).run P W = .ok v W)
  (h : wpList P ops Q rest (a.put op.dst v) w) : wpList P ops Q (op :: rest) a w :=
 wpList_plain hgd fun _ hK => by
  unfold Oper.wp execOp
  have hr' := hr w
  rw [← hq] at hr'
  simp only [ho, Sem.run_bind, Sem.run_pure, Result.andThen_ok, hr']
  exact hK _ _ h
theorem a2N {w : World} {base e size n x : Nat} {v : Value} {vs : List Value} (h : w.ownsRow base e size v n vs) (hx : v.ownBlock = some x) : ∃ cur, w.heap[x]? = some (.cells cur e (0, 0)) := by
 rcases h.2 with ⟨rfl, -⟩ | ⟨g, cap, cur, rfl, -, hg, -⟩
 ·cases hx
 ·cases hx
  exact ⟨cur, hg⟩
theorem a8n {w : World} {base e size n x base' e' size' n' : Nat} {v v' : Value} {vs vs' : List Value} (h : w.ownsRow base e size v n vs) (h' : w.ownsRow base' e' size' v' n' vs') (he : e ≠ e') (hx : v.ownBlock = some x) : ¬ v'.ownBlock = some x := fun hy => by
 obtain ⟨c1, k1⟩ := a2N h hx
 obtain ⟨c2, k2⟩ := a2N h' hy
 rw [k1] at k2
 injection k2 with k2
 injection k2 with _ k3
 exact he k3
theorem J0 {w : World} {base e size n g t : Nat} {v : Value} {vs : List Value} {cs : Array Value} (h : w.ownsRow base e size v n vs) (A : VAt w g t cs) (he : e ≠ t) : ¬ v.ownBlock = some g := fun hx => by
 obtain ⟨c1, k1⟩ := a2N h hx
 unfold VAt at A
 rw [k1] at A
 injection A with A
 injection A with _ A
 exact he A
theorem H9 {w w' : World} {base e size n g : Nat} {v : Value} {vs : List Value} (h : w.ownsRow base e size v n vs) (K : w.grownBy w' (some g)) (hne : ¬ v.ownBlock = some g) : w'.ownsRow base e size v n vs := h.kept K (.inr hne)
structure PC where
 w0 : World
 g : Nat
 tv : Value
 all : List Tk
def d3 (g : Nat) (vt vp : Value) (x : Nat) : Prop := x = g ∨ vt.ownBlock = some x ∨ vp.ownBlock = some x
def plc (p : Nd × Nat) : Int := (p.2 : Int)
structure PS (c : PC) (w : World) (i : Nat) (vt vp : Value) (ts : List Tk) (nest bud : Nat) (ns : List (Nd × Nat)) : Prop where
 tab : x5 c.w0
 grown : c.w0.grownBy w none
 blk : VAt w c.g 51 #[c.tv, .int .i64 (i : Int), .int .i64 (nest : Int), vt, vp]
 new : c.w0.heap.size ≤ c.g
 toks : D9 w c.w0.heap.size c.tv c.all
 drop : c.all.drop i = ts
 good : I0 ts
 len : c.all.length ≤ 65537
 nest_le : nest ≤ 200
 bud_le : ns.length + ts.length + bud ≤ 65537
 tree : S2 w c.w0.heap.size vt (ns.map Prod.fst)
 places : U6 w c.w0.heap.size vp (ns.map plc)

section
variable {c : PC} {w w' : World} {i nest bud : Nat} {vt vp : Value} {ts : List Tk} {ns : List (Nd × Nat)}
theorem PS.lt (h : PS c w i vt vp ts nest bud ns) {x : Nat} (hx : d3 c.g vt vp x) : x < w.heap.size := by
 rcases hx with rfl | hx | hx
 ·exact h.blk.lt
 ·exact (h.tree.lt x hx).2
 ·exact (h.places.lt x hx).2
theorem PS.ge (h : PS c w i vt vp ts nest bud ns) {x : Nat} (hx : d3 c.g vt vp x) : c.w0.heap.size ≤ x := by
 rcases hx with rfl | hx | hx
 ·exact h.new
 ·exact (h.tree.lt x hx).1
 ·exact (h.places.lt x hx).1
theorem PS.ne_tree (h : PS c w i vt vp ts nest bud ns) : ¬ vt.ownBlock = some c.g := J0 h.tree h.blk (by decide)
theorem PS.ne_places (h : PS c w i vt vp ts nest bud ns) : ¬ vp.ownBlock = some c.g := J0 h.places h.blk (by decide)
theorem PS.keep (h : PS c w i vt vp ts nest bud ns) (G : w.grownBy w' none) : PS c w' i vt vp ts nest bud ns :=
 { h with grown := d5 h.grown G, blk := h.blk.kept G, toks := y8 h.toks G, tree := y8 h.tree G, places := y8 h.places G }
theorem PS.less (h : PS c w i vt vp ts nest bud ns) {b : Nat} (hb : b ≤ bud) : PS c w i vt vp ts nest b ns := { h with bud_le := by have := h.bud_le; omega }
theorem PS.tabw (h : PS c w i vt vp ts nest bud ns) : x5 w := h.tab.grown h.grown
theorem PS.gb (h : PS c w i vt vp ts nest bud ns) (G : GB w w' (d3 c.g vt vp)) : c.w0.grownBy w' none :=
 ⟨G.os.trans h.grown.os, G.tape.trans h.grown.tape, G.output.trans h.grown.output, Nat.le_trans h.grown.size G.size, fun k hk _ =>
  (G.block k (Nat.lt_of_lt_of_le hk h.grown.size) (fun hf => by have := h.ge hf; omega)).trans (h.grown.block k hk (by simp))⟩
theorem PS.idx (h : PS c w i vt vp ts nest bud ns) : ∃ hi : i < c.all.length, c.all[i] = hdT ts ∧ c.all.drop (i + 1) = ts.tail := by
 have hne := h.good.ne
 have hd := h.drop
 have hi : i < c.all.length := by
  by_cases hh : i < c.all.length
  ·exact hh
  ·rw [List.drop_eq_nil_of_le (by omega)] at hd
   exact absurd hd.symm hne
 rw [List.drop_eq_getElem_cons hi] at hd
 refine ⟨hi, ?_, ?_⟩
 ·rw [← hd]; rfl
 ·rw [← hd]; rfl
theorem a5g (W : World) (g j k : Nat) (v : Value) (h : k ≠ g) : (W.setCell ⟨g, j, none⟩ v).heap[k]? = W.heap[k]? := Below.heap_setCell _ _ _ _ h
theorem D3 (W : World) (g j : Nat) (v : Value) : W.grownBy (W.setCell ⟨g, j, none⟩ v) (some g) := L5 (World.grownBy.refl W (some g)) _ _ (.inl rfl)
theorem PS.store (h : PS c w i vt vp ts nest bud ns) (j : Nat) (v : Value) {i' nest' : Nat} {ts' : List Tk} {bud' : Nat} (hc : (#[c.tv, .int .i64 (i : Int), .int .i64 (nest : Int), vt, vp] : Array Value).setIfInBounds j v = #[c.tv, .int .i64 (i' : Int), .int .i64 (nest' : Int), vt, vp])
  (h1 : c.all.drop i' = ts') (h2 : I0 ts') (h3 : nest' ≤ 200) (h4 : ns.length + ts'.length + bud' ≤ 65537) : PS c (w.setCell ⟨c.g, j, none⟩ v) i' vt vp ts' nest' bud' ns := by
 have G := D3 w c.g j v
 exact { h with
  grown := z6 h.grown G (fun x hx => by cases hx; exact h.new)
  blk := by have := h.blk.set j v; rw [hc] at this; exact this
  toks := H9 h.toks G (J0 h.toks h.blk (by decide))
  drop := h1, good := h2, nest_le := h3, bud_le := h4
  tree := H9 h.tree G h.ne_tree
  places := H9 h.places G h.ne_places }
def Ret (c : PC) (w : World) (vt vp : Value) (ts' : List Tk) (nest' bud' : Nat) (ns' : List (Nd × Nat)) (w' : World) : Prop :=
 ∃ i' vt' vp', PS c w' i' vt' vp' ts' nest' bud' ns' ∧ GB w w' (d3 c.g vt vp) ∧ ∀ x, x < w.heap.size → d3 c.g vt' vp' x → d3 c.g vt vp x
theorem Ret.same (h : PS c w' i vt vp ts nest bud ns) (G : GB w w' (d3 c.g vt vp)) : Ret c w vt vp ts nest bud ns w' := ⟨i, vt, vp, h, G, fun _ _ k => k⟩
theorem Ret.of {w1 : World} {vt1 vp1 : Value} (G : GB w w1 (d3 c.g vt vp)) (hf : ∀ x, x < w.heap.size → d3 c.g vt1 vp1 x → d3 c.g vt vp x) (R : Ret c w1 vt1 vp1 ts nest bud ns w') : Ret c w vt vp ts nest bud ns w' := by
 obtain ⟨i', vt', vp', h, G', hf'⟩ := R
 exact ⟨i', vt', vp', h, G.trans G' hf, fun x hx k => hf x hx (hf' x (Nat.lt_of_lt_of_le hx G.size) k)⟩
theorem Ret.less (R : Ret c w vt vp ts nest bud ns w') {b : Nat} (hb : b ≤ bud) : Ret c w vt vp ts nest b ns w' := by
 obtain ⟨i', vt', vp', h, r⟩ := R
 exact ⟨i', vt', vp', h.less hb, r⟩
theorem PS.take (h : PS c w i vt vp ts nest bud ns) (hk : (hdT ts).kind ≠ 0) : PS c (w.setCell ⟨c.g, 1, none⟩ (.int .i64 ((i + 1 : Nat) : Int))) (i + 1) vt vp ts.tail nest (bud + 1) ns := by
 obtain ⟨hi, h1, h2⟩ := h.idx
 refine h.store 1 _ rfl h2 (h.good.tail hk) h.nest_le ?_
 have := h.bud_le
 have := List.length_pos_iff.2 h.good.ne
 rw [List.length_tail]
 omega
theorem PS.away {R : Nat} (h : PS c w i vt vp ts nest bud ns) (K : w.grownBy w' (some R)) (hf : ¬ d3 c.g vt vp R) (ht : ¬ c.tv.ownBlock = some R) (h0 : c.w0.heap.size ≤ R) : PS c w' i vt vp ts nest bud ns :=
 { h with
  grown := z6 h.grown K (fun x hx => by cases hx; exact h0)
  blk := h.blk.grown K (fun e => by cases e; exact hf (.inl rfl))
  toks := H9 h.toks K ht
  tree := H9 h.tree K (fun e => hf (.inr (.inl e)))
  places := H9 h.places K (fun e => hf (.inr (.inr e))) }
theorem PS.toks_lt (h : PS c w i vt vp ts nest bud ns) {x : Nat} (hx : c.tv.ownBlock = some x) : x < w.heap.size := (h.toks.lt x hx).2
theorem Ret.fin {W W' : World} {R i0 nest0 bud0 i1 : Nat} {ts0 : List Tk} {ns0 : List (Nd × Nat)} {vt1 vp1 : Value} (h0 : PS c w i0 vt vp ts0 nest0 bud0 ns0) (G : GB w W (d3 c.g vt vp)) (hf : ∀ x, x < w.heap.size → d3 c.g vt1 vp1 x → d3 c.g vt vp x) (P : PS c W i1 vt1 vp1 ts nest bud ns) (K : W.grownBy W' (some R)) (hR : w.heap.size ≤ R) (hfR : ¬ d3 c.g vt1 vp1 R) : Ret c w vt vp ts nest bud ns W' := by
 refine ⟨i1, vt1, vp1, P.away K hfR (fun e => by have := h0.toks_lt e; omega) (Nat.le_trans h0.grown.size hR), G.trans (GB.of K (S := fun x => x = R) (fun x hx => by cases hx; rfl)) (fun x hx e => by omega), hf⟩
theorem PS.awayG {S : Nat → Prop} (h : PS c w i vt vp ts nest bud ns) (K : GB w w' S) (hS : ∀ x, S x → ¬ d3 c.g vt vp x ∧ ¬ c.tv.ownBlock = some x ∧ c.w0.heap.size ≤ x) : PS c w' i vt vp ts nest bud ns :=
 { h with
  grown := ⟨K.os.trans h.grown.os, K.tape.trans h.grown.tape, K.output.trans h.grown.output, Nat.le_trans h.grown.size K.size, fun k hk _ => (K.block k (Nat.lt_of_lt_of_le hk h.grown.size) (fun hs => by have := (hS k hs).2.2; omega)).trans (h.grown.block k hk (by simp))⟩
  blk := K.vat h.blk (fun hs => (hS _ hs).1 (.inl rfl))
  toks := K.owns h.toks (fun x hx hs => (hS x hs).2.1 hx)
  tree := K.owns h.tree (fun x hx hs => (hS x hs).1 (.inr (.inl hx)))
  places := K.owns h.places (fun x hx hs => (hS x hs).1 (.inr (.inr hx))) }
theorem Ret.finG {S : Nat → Prop} {W W' : World} {i0 nest0 bud0 i1 : Nat} {ts0 : List Tk} {ns0 : List (Nd × Nat)} {vt1 vp1 : Value} (h0 : PS c w i0 vt vp ts0 nest0 bud0 ns0) (G : GB w W (d3 c.g vt vp)) (hf : ∀ x, x < w.heap.size → d3 c.g vt1 vp1 x → d3 c.g vt vp x) (P : PS c W i1 vt1 vp1 ts nest bud ns) (K : GB W W' S) (hS : ∀ x, S x → w.heap.size ≤ x ∧ ¬ d3 c.g vt1 vp1 x) : Ret c w vt vp ts nest bud ns W' :=
 ⟨i1, vt1, vp1, P.awayG K (fun x hx => ⟨(hS x hx).2, fun e => by have := (h0.toks.lt x e).2; have := (hS x hx).1; omega, Nat.le_trans h0.grown.size (hS x hx).1⟩), G.trans K (fun x hx hs => by have := (hS x hs).1; omega), hf⟩
theorem PS.not_foot (h : PS c w i vt vp ts nest bud ns) {R : Nat} (hR : w.heap.size ≤ R) : ¬ d3 c.g vt vp R := fun e => by have := h.lt e; omega
theorem GB.set (W : World) (vt vp : Value) (g j : Nat) (v : Value) : GB W (W.setCell ⟨g, j, none⟩ v) (d3 g vt vp) := GB.of (D3 W g j v) (fun x hx => by cases hx; exact .inl rfl)
end
structure HS (c : PC) (w : World) (i : Nat) (vt vp : Value) (nest : Nat) (xs : List Nd) (zs : List Int) : Prop where
 grown : c.w0.grownBy w none
 blk : VAt w c.g 51 #[c.tv, .int .i64 (i : Int), .int .i64 (nest : Int), vt, vp]
 new : c.w0.heap.size ≤ c.g
 toks : D9 w c.w0.heap.size c.tv c.all
 tree : S2 w c.w0.heap.size vt xs
 places : U6 w c.w0.heap.size vp zs
section
variable {c : PC} {w w' : World} {i nest bud : Nat} {vt vp : Value} {ts : List Tk} {ns : List (Nd × Nat)} {xs : List Nd} {zs : List Int}
theorem PS.hs (h : PS c w i vt vp ts nest bud ns) : HS c w i vt vp nest (ns.map Prod.fst) (ns.map plc) := ⟨h.grown, h.blk, h.new, h.toks, h.tree, h.places⟩
theorem HS.keep (h : HS c w i vt vp nest xs zs) (G : w.grownBy w' none) : HS c w' i vt vp nest xs zs := ⟨d5 h.grown G, h.blk.kept G, h.new, y8 h.toks G, y8 h.tree G, y8 h.places G⟩
theorem a08 {w w' : World} {base e size n base' e' size' n' : Nat} {v v' : Value} {vs vs' : List Value} (h : w.ownsRow base e size v n vs) (O : w.ownsRow base' e' size' v' n' vs') (he : e ≠ e') (K : w.grownBy w' v'.ownBlock) : w'.ownsRow base e size v n vs := by
 refine h.kept K ?_
 by_cases hv : v.ownBlock = none
 ·exact .inl hv
 ·right
  intro e
  obtain ⟨x, hx⟩ := Option.ne_none_iff_exists'.1 hv
  exact a8n h O he hx (e ▸ hx)
theorem a04 {w w' : World} {base e size n g t : Nat} {v : Value} {vs : List Value} {cs : Array Value} (A : VAt w g t cs) (O : w.ownsRow base e size v n vs) (he : e ≠ t) (K : w.grownBy w' v.ownBlock) : VAt w' g t cs := A.grown K (J0 O A he)
theorem HS.put_tree (h : HS c w i vt vp nest xs zs) {x : Nd} {v4 : Value} {w4 : World} (O : w4.ownsRow c.w0.heap.size 54 24 v4 (xs.length + 1) (y6 xs ++ x.cells)) (K : w.grownBy w4 vt.ownBlock) (B : v4.ownBlock = vt.ownBlock ∨ v4.ownBlock = some w.heap.size) :
  HS c (w4.setCell ⟨c.g, 3, none⟩ v4) i v4 vp nest (xs ++ [x]) zs ∧ GB w (w4.setCell ⟨c.g, 3, none⟩ v4) (d3 c.g vt vp) ∧ ∀ y, y < w.heap.size → d3 c.g v4 vp y → d3 c.g vt vp y := by
 have A := a04 h.blk h.tree (by decide) K
 have T := a08 h.toks h.tree (by decide) K
 have P := a08 h.places h.tree (by decide) K
 have G := D3 w4 c.g 3 v4
 have g4 : c.w0.grownBy w4 none := z6 h.grown K (fun y hy => (h.tree.lt y hy).1)
 refine ⟨⟨z6 g4 G (fun y hy => by cases hy; exact h.new), A.set 3 v4, h.new, H9 T G (J0 T A (by decide)), ?_, H9 P G (J0 P A (by decide))⟩, ?_, ?_⟩
 ·have := H9 O G (J0 O A (by decide))
  show World.ownsRow _ _ _ _ _ _ _
  rw [List.length_append, a3T, a3V]
  exact this
 ·exact (GB.of K (S := d3 c.g vt vp) (fun y hy => .inr (.inl hy))).trans (GB.set w4 vt vp c.g 3 v4) (fun _ _ h => h)
 ·rintro y hy (rfl | e | e)
  ·exact .inl rfl
  ·rcases B with B | B
   ·exact .inr (.inl (B ▸ e))
   ·rw [B] at e
    cases e
    omega
  ·exact .inr (.inr e)
theorem HS.put_places (h : HS c w i vt vp nest xs zs) {z : Int} {v4 : Value} {w4 : World} (O : w4.ownsRow c.w0.heap.size 3 1 v4 (zs.length + 1) (zs.map iv ++ [.int .i64 z])) (K : w.grownBy w4 vp.ownBlock) (B : v4.ownBlock = vp.ownBlock ∨ v4.ownBlock = some w.heap.size) :
  HS c (w4.setCell ⟨c.g, 4, none⟩ v4) i vt v4 nest xs (zs ++ [z]) ∧ GB w (w4.setCell ⟨c.g, 4, none⟩ v4) (d3 c.g vt vp) ∧ ∀ y, y < w.heap.size → d3 c.g vt v4 y → d3 c.g vt vp y := by
 have A := a04 h.blk h.places (by decide) K
 have T := a08 h.toks h.places (by decide) K
 have P := a08 h.tree h.places (by decide) K
 have G := D3 w4 c.g 4 v4
 have g4 : c.w0.grownBy w4 none := z6 h.grown K (fun y hy => (h.places.lt y hy).1)
 refine ⟨⟨z6 g4 G (fun y hy => by cases hy; exact h.new), A.set 4 v4, h.new, H9 T G (J0 T A (by decide)), H9 P G (J0 P A (by decide)), ?_⟩, ?_, ?_⟩
 ·have := H9 O G (J0 O A (by decide))
  show World.ownsRow _ _ _ _ _ _ _
  rw [List.length_append, List.map_append]
  exact this
 ·exact (GB.of K (S := d3 c.g vt vp) (fun y hy => .inr (.inr hy))).trans (GB.set w4 vt vp c.g 4 v4) (fun _ _ h => h)
 ·rintro y hy (rfl | e | e)
  ·exact .inl rfl
  ·exact .inr (.inl e)
  ·rcases B with B | B
   ·exact .inr (.inr (B ▸ e))
   ·rw [B] at e
    cases e
    omega
theorem PS.of_hs {bud' : Nat} {ns' : List (Nd × Nat)} {w1 : World} {vt1 vp1 : Value} (h0 : PS c w i vt vp ts nest bud ns) (h : HS c w1 i vt1 vp1 nest (ns'.map Prod.fst) (ns'.map plc)) (hb : ns'.length + ts.length + bud' ≤ 65537) : PS c w1 i vt1 vp1 ts nest bud' ns' :=
 { h0 with grown := h.grown, blk := h.blk, new := h.new, toks := h.toks, tree := h.tree, places := h.places, bud_le := hb }
end
def M5 (er : Er) : List PanicEntry := [{ v := .iface 46 (.agg #[.int .i64 (er.1 : Int), .int .i64 er.2]), recovered := false }]
def l6 (c : PC) (w : World) (vt vp : Value) (nest bud : Nat) (ns : List (Nd × Nat)) (r : Out) (e : Ending) (w' : World) : Prop := match r with
 | .ok (ms, ts') => e = .returned (.tuple #[]) ∧ Ret c w vt vp ts' nest bud (ns ++ ms) w'
 | .error er => e = .panicked (M5 er) ∧ GB w w' (d3 c.g vt vp)
def M6 {α : Type} (c : PC) (w : World) (vt vp : Value) (nest bud : Nat) (ns : List (Nd × Nat)) (val : α → Value) (r : Except Er (α × List Tk)) (e : Ending) (w' : World) : Prop := match r with
 | .ok (v, ts') => e = .returned (val v) ∧ Ret c w vt vp ts' nest bud ns w'
 | .error er => e = .panicked (M5 er) ∧ GB w w' (d3 c.g vt vp)
theorem a5u {ts : List Tk} (h : ts ≠ []) : ts.tail.length + 1 = ts.length := by
 cases ts with
 | nil => exact absurd rfl h
 | cons a r => rfl
end Go.Proofs.YtlfmddjppejmaaaGreatDoor
