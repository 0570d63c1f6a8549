/-
  The library's variables that package addr's calls read; strings.Cut and strconv.AppendUint to base ten. The landed parser's state: its block of five cells, its nodes and places; what a reading leaves.
-/
import Derived.Test.YtbdmpjnlgdahmaaGreatDoorLotP20
import Derived.Test.YtbdmpjnlgdahmaaGreatDoorLotP2
import Derived.Test.YtbdmpjnlgdahmaaGreatDoorLotP16
import Derived.Lib.LaidTab
import Derived.Shelf.Vars
import Derived.Lib.OwnKind
import Derived.Test.YtbdmpjnlgdahmaaGreatDoorLotP8
namespace Go.Proofs.YtbdmpjnlgdahmaaGreatDoor
open Go.RowKit
set_option maxRecDepth 100000

theorem cell_same {w w' : World} (a : Addr) (h : w'.heap[a.block]? = w.heap[a.block]?) : w'.cell? a = w.cell? a := by unfold World.cell?; rw [h]

/-- A length is some number. -/
def TabA (w : World) : Prop := ∃ m, w.cell? ⟨6, 0, none⟩ = some (.int .i64 m)
theorem TabA.len {w : World} (T : TabA w) : ∃ m, w.cell? ⟨6, 0, none⟩ = some (.int .i64 m) := T
theorem TabA.size {w : World} (T : TabA w) : 6 < w.heap.size := by
  obtain ⟨m, this⟩ := T
  by_cases h : 6 < w.heap.size
  · exact h
  · unfold World.cell? at this
    rw [Array.getElem?_eq_none (by simpa using h)] at this
    simp at this
theorem TabA.blocks {w w' : World} (T : TabA w) (h : ∀ k, k ≤ 6 → w'.heap[k]? = w.heap[k]?) : TabA w' := by
  obtain ⟨m, hm⟩ := T
  exact ⟨m, by rw [cell_same ⟨6, 0, none⟩ (h 6 (Nat.le_refl _))]; exact hm⟩

theorem TabA.grown {w w' : World} (T : TabA w) (G : w.grownBy w' none) : TabA w' := T.blocks (fun k hk => G.block k (by have := T.size; omega) (by simp))
theorem TabA.below {w w' : World} {B : Nat} (T : TabA w) (hB : 6 < B) (h : Below B w w') : TabA w' := T.blocks (fun k hk => h.block k (by omega))

/-- What a call leaves that appends to bytes which lie from block B on: all below, and all that are no bytes, as they were. -/
def Ap (B : Nat) (w w' : World) : Prop := Below B w w' ∧ Lib.OthersKept 5 none w w'

theorem Ap.refl (B : Nat) (w : World) : Ap B w w := ⟨Below.refl _ _, Lib.OthersKept.refl _ _ _⟩
theorem Ap.trans {B : Nat} {a b c : World} (h : Ap B a b) (k : Ap B b c) : Ap B a c := ⟨h.1.trans k.1, h.2.trans k.2⟩
theorem Ap.ofNone {B : Nat} {w w' : World} (hB : B ≤ w.heap.size) (G : w.grownBy w' none) : Ap B w w' :=
  ⟨(Below.refl _ _).grown G hB (by simp), (Lib.OthersKept.refl _ _ _).grown G (by simp)⟩
theorem Ap.ofOwn {B n : Nat} {w w' : World} {v : Value} {vs : List Value} (O : w.ownsRow B 5 1 v n vs) (hB : B ≤ w.heap.size) (G : w.grownBy w' v.ownBlock) : Ap B w w' :=
  ⟨(Below.refl _ _).grown G hB (fun k hk => (O.lt k hk).1), (Lib.OthersKept.refl _ _ _).grown G (Lib.ownsRow_kind O)⟩
theorem Ap.none {w w' : World} (h : Ap w.heap.size w w') : w.grownBy w' none := ⟨h.1.os, h.1.tape, h.1.output, h.1.size, fun k hk _ => h.1.block k hk⟩
theorem Ap.heap {B : Nat} {w w' : World} (h : Ap B w w') {b : Nat} {cs : Array Value} {e : TypeId} {fz : Nat × Nat} (hb : w.heap[b]? = some (.cells cs e fz)) (he : e ≠ 5) : w'.heap[b]? = some (.cells cs e fz) :=
  h.2 b _ hb (by simp) (fun c f hc => he (by injection hc))
theorem Ap.size {B : Nat} {w w' : World} (h : Ap B w w') : w.heap.size ≤ w'.heap.size := h.1.size

theorem byteCells_bv (xs : List UInt8) : Lib.byteCells xs = xs.map bv := rfl

/-- strings.Cut at a letter. -/
theorem cut1_any (b : UInt8) (s : List UInt8) (w : World) (hs : s.length < 4294967281) (T : TabA w) :
    Calls Tryz.prog 174 #[str s, .string ⟨#[b]⟩] w fun e w' => (∃ x y m, e = .returned (.tuple #[str x, str y, .bool m]) ∧ ((m = false ∧ x = s ∧ y = [] ∧ splitV b s = [s]) ∨ (m = true ∧ splitV b s = x :: splitV b y ∧ x.length + y.length + 1 = s.length))) ∧ ∃ n, w' = w.drewN n := by
  obtain ⟨m, hm⟩ := T.len
  refine (Tryz.strings_Cut ⟨s.toArray⟩ ⟨#[b]⟩ m w (by rw [← sl_len]; exact hs) hm).mono ?_
  rintro e w' ⟨rfl, n, rfl⟩
  refine ⟨?_, n, rfl⟩
  show ∃ x y m, Ending.returned (.tuple #[str (Lib.cut s [b]).1, str (Lib.cut s [b]).2.1, .bool (Lib.cut s [b]).2.2]) = _ ∧ _
  rcases cut_one b s with ⟨h1, h2⟩ | ⟨x, y, h1, h2, h3⟩
  · rw [h1]
    exact ⟨s, [], false, rfl, .inl ⟨rfl, rfl, rfl, h2⟩⟩
  · rw [h1]
    exact ⟨x, y, true, rfl, .inr ⟨rfl, h2, h3⟩⟩

/-- strings.Cut at two colons. -/
theorem cut2_any (s : List UInt8) (w : World) (hs : s.length < 4294967281) (T : TabA w) :
    Calls Tryz.prog 174 #[str s, .string ⟨#[58, 58]⟩] w fun e w' => (∃ x y m, e = .returned (.tuple #[str x, str y, .bool m]) ∧ ((m = false ∧ gapV s = none ∧ x = s ∧ y = []) ∨ (m = true ∧ ∃ k, gapV s = some k ∧ x = s.take k ∧ y = s.drop (k + 2)))) ∧ ∃ n, w' = w.drewN n := by
  obtain ⟨m, hm⟩ := T.len
  refine (Tryz.strings_Cut ⟨s.toArray⟩ ⟨#[58, 58]⟩ m w (by rw [← sl_len]; exact hs) hm).mono ?_
  rintro e w' ⟨rfl, n, rfl⟩
  refine ⟨?_, n, rfl⟩
  show ∃ x y m, Ending.returned (.tuple #[str (Lib.cut s [58, 58]).1, str (Lib.cut s [58, 58]).2.1, .bool (Lib.cut s [58, 58]).2.2]) = _ ∧ _
  cases hg : gapV s with
  | none =>
    rw [cut_gap_none s hg]
    exact ⟨s, [], false, rfl, .inl ⟨rfl, rfl, rfl, rfl⟩⟩
  | some k =>
    rw [cut_gap_some s k hg]
    exact ⟨_, _, true, rfl, .inr ⟨rfl, k, rfl, rfl, rfl⟩⟩

end Go.Proofs.YtbdmpjnlgdahmaaGreatDoor

namespace Go.Proofs.YtbdmpjnlgdahmaaGreatDoor
open Go.RowKit
set_option maxRecDepth 100000

/-- A reading: the world at its beginning, the parser's block, its tokens. -/
structure PC where
  w0 : World
  g : Nat
  tv : Value
  all : List Tk

/-- The blocks that a reading may write. -/
def foot (g : Nat) (vt vp : Value) (x : Nat) : Prop := x = g ∨ vt.ownBlock = some x ∨ vp.ownBlock = some x

def plc (p : Nd × Nat) : Int := (p.2 : Int)
structure PS (c : PC) (w : World) (i : Nat) (vt vp : Value) (ts : List Tk) (nest bud : Nat) (ns : List (Nd × Nat)) : Prop where
  tab : TabA c.w0
  grown : c.w0.grownBy w none
  blk : VAt w c.g 65 #[c.tv, .int .i64 (i : Int), .int .i64 (nest : Int), vt, vp]
  new : c.w0.heap.size ≤ c.g
  toks : TOwns w c.w0.heap.size c.tv c.all
  drop : c.all.drop i = ts
  good : TksG ts
  len : c.all.length ≤ 65537
  nest_le : nest ≤ 200
  bud_le : ns.length + ts.length + bud ≤ 65537
  tree : NOwns w c.w0.heap.size vt (ns.map Prod.fst)
  places : ZOwns w c.w0.heap.size vp (ns.map plc)

theorem own_kind {w : World} {base e size n x : Nat} {v : Value} {vs : List Value} (h : w.ownsRow base e size v n vs) (hx : v.ownBlock = some x) : ∃ cur, w.heap[x]? = some (.cells cur e (0, 0)) := by
  rcases h.2 with ⟨rfl, -⟩ | ⟨g, cap, cur, rfl, -, hg, -⟩
  · cases hx
  · cases hx
    exact ⟨cur, hg⟩
theorem own_other {w : World} {base e size n x base' e' size' n' : Nat} {v v' : Value} {vs vs' : List Value} (h : w.ownsRow base e size v n vs) (h' : w.ownsRow base' e' size' v' n' vs') (he : e ≠ e') (hx : v.ownBlock = some x) : ¬ v'.ownBlock = some x := fun hy => by
  obtain ⟨c1, k1⟩ := own_kind h hx
  obtain ⟨c2, k2⟩ := own_kind h' hy
  rw [k1] at k2
  injection k2 with k2
  injection k2 with _ k3
  exact he k3
theorem own_vat {w : World} {base e size n g t : Nat} {v : Value} {vs : List Value} {cs : Array Value} (h : w.ownsRow base e size v n vs) (A : VAt w g t cs) (he : e ≠ t) : ¬ v.ownBlock = some g := fun hx => by
  obtain ⟨c1, k1⟩ := own_kind h hx
  unfold VAt at A
  rw [k1] at A
  injection A with A
  injection A with _ A
  exact he A

theorem own_kept {w w' : World} {base e size n g : Nat} {v : Value} {vs : List Value} (h : w.ownsRow base e size v n vs) (K : w.grownBy w' (some g)) (hne : ¬ v.ownBlock = some g) : w'.ownsRow base e size v n vs := h.kept K (.inr hne)

section
variable {c : PC} {w w' : World} {i nest bud : Nat} {vt vp : Value} {ts : List Tk} {ns : List (Nd × Nat)}

theorem PS.lt (h : PS c w i vt vp ts nest bud ns) {x : Nat} (hx : foot c.g vt vp x) : x < w.heap.size := by
  rcases hx with rfl | hx | hx
  · exact h.blk.lt
  · exact (h.tree.lt x hx).2
  · exact (h.places.lt x hx).2
theorem PS.ge (h : PS c w i vt vp ts nest bud ns) {x : Nat} (hx : foot c.g vt vp x) : c.w0.heap.size ≤ x := by
  rcases hx with rfl | hx | hx
  · exact h.new
  · exact (h.tree.lt x hx).1
  · exact (h.places.lt x hx).1
theorem PS.apart (h : PS c w i vt vp ts nest bud ns) {x : Nat} (hx : c.tv.ownBlock = some x) : ¬ foot c.g vt vp x := by
  rintro (rfl | hy | hy)
  · exact own_vat h.toks h.blk (by decide) hx
  · exact own_other h.toks h.tree (by decide) hx hy
  · exact own_other h.toks h.places (by decide) hx hy
theorem PS.ne_tree (h : PS c w i vt vp ts nest bud ns) : ¬ vt.ownBlock = some c.g := own_vat h.tree h.blk (by decide)
theorem PS.ne_places (h : PS c w i vt vp ts nest bud ns) : ¬ vp.ownBlock = some c.g := own_vat h.places h.blk (by decide)
theorem PS.ne_both (h : PS c w i vt vp ts nest bud ns) {x : Nat} (hx : vt.ownBlock = some x) : ¬ vp.ownBlock = some x := own_other h.tree h.places (by decide) hx

/-- Nothing that lay there was written. -/
theorem PS.keep (h : PS c w i vt vp ts nest bud ns) (G : w.grownBy w' none) : PS c w' i vt vp ts nest bud ns :=
  { h with grown := grown_trans h.grown G, blk := h.blk.kept G, toks := owns_keptNone h.toks G, tree := owns_keptNone h.tree G, places := owns_keptNone h.places G }
theorem PS.less (h : PS c w i vt vp ts nest bud ns) {b : Nat} (hb : b ≤ bud) : PS c w i vt vp ts nest b ns := { h with bud_le := by have := h.bud_le; omega }
theorem PS.tabw (h : PS c w i vt vp ts nest bud ns) : TabA w := h.tab.grown h.grown
theorem PS.gb (h : PS c w i vt vp ts nest bud ns) (G : GB w w' (foot c.g vt vp)) : c.w0.grownBy w' none :=
  ⟨G.os.trans h.grown.os, G.tape.trans h.grown.tape, G.output.trans h.grown.output, Nat.le_trans h.grown.size G.size, fun k hk _ =>
    (G.block k (Nat.lt_of_lt_of_le hk h.grown.size) (fun hf => by have := h.ge hf; omega)).trans (h.grown.block k hk (by simp))⟩

/-- The index is within the tokens. -/
theorem PS.idx (h : PS c w i vt vp ts nest bud ns) : ∃ hi : i < c.all.length, c.all[i] = hdT ts ∧ c.all.drop (i + 1) = ts.tail := by
  have hne := h.good.ne
  have hd := h.drop
  have hi : i < c.all.length := by
    by_cases hh : i < c.all.length
    · exact hh
    · rw [List.drop_eq_nil_of_le (by omega)] at hd
      exact absurd hd.symm hne
  rw [List.drop_eq_getElem_cons hi] at hd
  refine ⟨hi, ?_, ?_⟩
  · rw [← hd]; rfl
  · rw [← hd]; rfl

theorem setCell_ne (W : World) (g j k : Nat) (v : Value) (h : k ≠ g) : (W.setCell ⟨g, j, none⟩ v).heap[k]? = W.heap[k]? := Below.heap_setCell _ _ _ _ h
theorem grown_set (W : World) (g j : Nat) (v : Value) : W.grownBy (W.setCell ⟨g, j, none⟩ v) (some g) := grown_setCell (World.grownBy.refl W (some g)) _ _ (.inl rfl)
/-- A cell of the parser's block was written. -/
theorem PS.store (h : PS c w i vt vp ts nest bud ns) (j : Nat) (v : Value) {i' nest' : Nat} {ts' : List Tk} {bud' : Nat} (hc : (#[c.tv, .int .i64 (i : Int), .int .i64 (nest : Int), vt, vp] : Array Value).setIfInBounds j v = #[c.tv, .int .i64 (i' : Int), .int .i64 (nest' : Int), vt, vp])
    (h1 : c.all.drop i' = ts') (h2 : TksG ts') (h3 : nest' ≤ 200) (h4 : ns.length + ts'.length + bud' ≤ 65537) : PS c (w.setCell ⟨c.g, j, none⟩ v) i' vt vp ts' nest' bud' ns := by
  have G := grown_set w c.g j v
  exact { h with
    grown := grown_trans_new h.grown G (fun x hx => by cases hx; exact h.new)
    blk := by have := h.blk.set j v; rw [hc] at this; exact this
    toks := own_kept h.toks G (own_vat h.toks h.blk (by decide))
    drop := h1, good := h2, nest_le := h3, bud_le := h4
    tree := own_kept h.tree G h.ne_tree
    places := own_kept h.places G h.ne_places }

/-- What a reading leaves that goes on. -/
def Ret (c : PC) (w : World) (vt vp : Value) (ts' : List Tk) (nest' bud' : Nat) (ns' : List (Nd × Nat)) (w' : World) : Prop :=
  ∃ i' vt' vp', PS c w' i' vt' vp' ts' nest' bud' ns' ∧ GB w w' (foot c.g vt vp) ∧ ∀ x, x < w.heap.size → foot c.g vt' vp' x → foot c.g vt vp x
theorem Ret.same (h : PS c w' i vt vp ts nest bud ns) (G : GB w w' (foot c.g vt vp)) : Ret c w vt vp ts nest bud ns w' := ⟨i, vt, vp, h, G, fun _ _ k => k⟩
theorem Ret.of {w1 : World} {vt1 vp1 : Value} (G : GB w w1 (foot c.g vt vp)) (hf : ∀ x, x < w.heap.size → foot c.g vt1 vp1 x → foot c.g vt vp x) (R : Ret c w1 vt1 vp1 ts nest bud ns w') : Ret c w vt vp ts nest bud ns w' := by
  obtain ⟨i', vt', vp', h, G', hf'⟩ := R
  exact ⟨i', vt', vp', h, G.trans G' hf, fun x hx k => hf x hx (hf' x (Nat.lt_of_lt_of_le hx G.size) k)⟩
theorem Ret.less (R : Ret c w vt vp ts nest bud ns w') {b : Nat} (hb : b ≤ bud) : Ret c w vt vp ts nest b ns w' := by
  obtain ⟨i', vt', vp', h, r⟩ := R
  exact ⟨i', vt', vp', h.less hb, r⟩
/-- A token is gone by. -/
theorem PS.take (h : PS c w i vt vp ts nest bud ns) (hk : (hdT ts).kind ≠ 0) : PS c (w.setCell ⟨c.g, 1, none⟩ (.int .i64 ((i + 1 : Nat) : Int))) (i + 1) vt vp ts.tail nest (bud + 1) ns := by
  obtain ⟨hi, h1, h2⟩ := h.idx
  refine h.store 1 _ rfl h2 (h.good.tail hk) h.nest_le ?_
  have := h.bud_le
  have := List.length_pos_iff.2 h.good.ne
  rw [List.length_tail]
  omega
/-- A block that is none of the reading's own was written. -/
theorem PS.away {R : Nat} (h : PS c w i vt vp ts nest bud ns) (K : w.grownBy w' (some R)) (hf : ¬ foot c.g vt vp R) (ht : ¬ c.tv.ownBlock = some R) (h0 : c.w0.heap.size ≤ R) : PS c w' i vt vp ts nest bud ns :=
  { h with
    grown := grown_trans_new h.grown K (fun x hx => by cases hx; exact h0)
    blk := h.blk.grown K (fun e => by cases e; exact hf (.inl rfl))
    toks := own_kept h.toks K ht
    tree := own_kept h.tree K (fun e => hf (.inr (.inl e)))
    places := own_kept h.places K (fun e => hf (.inr (.inr e))) }
theorem PS.toks_lt (h : PS c w i vt vp ts nest bud ns) {x : Nat} (hx : c.tv.ownBlock = some x) : x < w.heap.size := (h.toks.lt x hx).2
/-- A result's cell, laid behind all that lay there, was written last. -/
theorem Ret.fin {W W' : World} {R i0 nest0 bud0 i1 : Nat} {ts0 : List Tk} {ns0 : List (Nd × Nat)} {vt1 vp1 : Value} (h0 : PS c w i0 vt vp ts0 nest0 bud0 ns0) (G : GB w W (foot c.g vt vp)) (hf : ∀ x, x < w.heap.size → foot c.g vt1 vp1 x → foot c.g vt vp x) (P : PS c W i1 vt1 vp1 ts nest bud ns) (K : W.grownBy W' (some R)) (hR : w.heap.size ≤ R) (hfR : ¬ foot c.g vt1 vp1 R) : Ret c w vt vp ts nest bud ns W' := by
  refine ⟨i1, vt1, vp1, P.away K hfR (fun e => by have := h0.toks_lt e; omega) (Nat.le_trans h0.grown.size hR), G.trans (GB.of K (S := fun x => x = R) (fun x hx => by cases hx; rfl)) (fun x hx e => by omega), hf⟩
theorem PS.awayG {S : Nat → Prop} (h : PS c w i vt vp ts nest bud ns) (K : GB w w' S) (hS : ∀ x, S x → ¬ foot c.g vt vp x ∧ ¬ c.tv.ownBlock = some x ∧ c.w0.heap.size ≤ x) : PS c w' i vt vp ts nest bud ns :=
  { h with
    grown := ⟨K.os.trans h.grown.os, K.tape.trans h.grown.tape, K.output.trans h.grown.output, Nat.le_trans h.grown.size K.size, fun k hk _ => (K.block k (Nat.lt_of_lt_of_le hk h.grown.size) (fun hs => by have := (hS k hs).2.2; omega)).trans (h.grown.block k hk (by simp))⟩
    blk := K.vat h.blk (fun hs => (hS _ hs).1 (.inl rfl))
    toks := K.owns h.toks (fun x hx hs => (hS x hs).2.1 hx)
    tree := K.owns h.tree (fun x hx hs => (hS x hs).1 (.inr (.inl hx)))
    places := K.owns h.places (fun x hx hs => (hS x hs).1 (.inr (.inr hx))) }
theorem Ret.finG {S : Nat → Prop} {W W' : World} {i0 nest0 bud0 i1 : Nat} {ts0 : List Tk} {ns0 : List (Nd × Nat)} {vt1 vp1 : Value} (h0 : PS c w i0 vt vp ts0 nest0 bud0 ns0) (G : GB w W (foot c.g vt vp)) (hf : ∀ x, x < w.heap.size → foot c.g vt1 vp1 x → foot c.g vt vp x) (P : PS c W i1 vt1 vp1 ts nest bud ns) (K : GB W W' S) (hS : ∀ x, S x → w.heap.size ≤ x ∧ ¬ foot c.g vt1 vp1 x) : Ret c w vt vp ts nest bud ns W' :=
  ⟨i1, vt1, vp1, P.awayG K (fun x hx => ⟨(hS x hx).2, fun e => by have := (h0.toks.lt x e).2; have := (hS x hx).1; omega, Nat.le_trans h0.grown.size (hS x hx).1⟩), G.trans K (fun x hx hs => by have := (hS x hs).1; omega), hf⟩
theorem PS.not_foot (h : PS c w i vt vp ts nest bud ns) {R : Nat} (hR : w.heap.size ≤ R) : ¬ foot c.g vt vp R := fun e => by have := h.lt e; omega
theorem GB.set (W : World) (vt vp : Value) (g j : Nat) (v : Value) : GB W (W.setCell ⟨g, j, none⟩ v) (foot g vt vp) := GB.of (grown_set W g j v) (fun x hx => by cases hx; exact .inl rfl)
end

/-- The state while a node is put down: its place may lack. -/
structure HS (c : PC) (w : World) (i : Nat) (vt vp : Value) (nest : Nat) (xs : List Nd) (zs : List Int) : Prop where
  grown : c.w0.grownBy w none
  blk : VAt w c.g 65 #[c.tv, .int .i64 (i : Int), .int .i64 (nest : Int), vt, vp]
  new : c.w0.heap.size ≤ c.g
  toks : TOwns w c.w0.heap.size c.tv c.all
  tree : NOwns w c.w0.heap.size vt xs
  places : ZOwns w c.w0.heap.size vp zs
section
variable {c : PC} {w w' : World} {i nest bud : Nat} {vt vp : Value} {ts : List Tk} {ns : List (Nd × Nat)} {xs : List Nd} {zs : List Int}
theorem PS.hs (h : PS c w i vt vp ts nest bud ns) : HS c w i vt vp nest (ns.map Prod.fst) (ns.map plc) := ⟨h.grown, h.blk, h.new, h.toks, h.tree, h.places⟩
theorem HS.keep (h : HS c w i vt vp nest xs zs) (G : w.grownBy w' none) : HS c w' i vt vp nest xs zs := ⟨grown_trans h.grown G, h.blk.kept G, h.new, owns_keptNone h.toks G, owns_keptNone h.tree G, owns_keptNone h.places G⟩
theorem own_kept' {w w' : World} {base e size n base' e' size' n' : Nat} {v v' : Value} {vs vs' : List Value} (h : w.ownsRow base e size v n vs) (O : w.ownsRow base' e' size' v' n' vs') (he : e ≠ e') (K : w.grownBy w' v'.ownBlock) : w'.ownsRow base e size v n vs := by
  refine h.kept K ?_
  by_cases hv : v.ownBlock = none
  · exact .inl hv
  · right
    intro e
    obtain ⟨x, hx⟩ := Option.ne_none_iff_exists'.1 hv
    exact own_other h O he hx (e ▸ hx)
theorem blk_kept' {w w' : World} {base e size n g t : Nat} {v : Value} {vs : List Value} {cs : Array Value} (A : VAt w g t cs) (O : w.ownsRow base e size v n vs) (he : e ≠ t) (K : w.grownBy w' v.ownBlock) : VAt w' g t cs := A.grown K (own_vat O A he)
/-- A node was appended and the tree stored. -/
theorem HS.put_tree (h : HS c w i vt vp nest xs zs) {x : Nd} {v4 : Value} {w4 : World} (O : w4.ownsRow c.w0.heap.size 46 24 v4 (xs.length + 1) (flatN xs ++ x.cells)) (K : w.grownBy w4 vt.ownBlock) (B : v4.ownBlock = vt.ownBlock ∨ v4.ownBlock = some w.heap.size) :
    HS c (w4.setCell ⟨c.g, 3, none⟩ v4) i v4 vp nest (xs ++ [x]) zs ∧ GB w (w4.setCell ⟨c.g, 3, none⟩ v4) (foot c.g vt vp) ∧ ∀ y, y < w.heap.size → foot c.g v4 vp y → foot c.g vt vp y := by
  have A := blk_kept' h.blk h.tree (by decide) K
  have T := own_kept' h.toks h.tree (by decide) K
  have P := own_kept' h.places h.tree (by decide) K
  have G := grown_set w4 c.g 3 v4
  have g4 : c.w0.grownBy w4 none := grown_trans_new h.grown K (fun y hy => (h.tree.lt y hy).1)
  refine ⟨⟨grown_trans_new g4 G (fun y hy => by cases hy; exact h.new), A.set 3 v4, h.new, own_kept T G (own_vat T A (by decide)), ?_, own_kept P G (own_vat P A (by decide))⟩, ?_, ?_⟩
  · have := own_kept O G (own_vat O A (by decide))
    show World.ownsRow _ _ _ _ _ _ _
    rw [List.length_append, flatN_append, flatN_one1]
    exact this
  · exact (GB.of K (S := foot c.g vt vp) (fun y hy => .inr (.inl hy))).trans (GB.set w4 vt vp c.g 3 v4) (fun _ _ h => h)
  · rintro y hy (rfl | e | e)
    · exact .inl rfl
    · rcases B with B | B
      · exact .inr (.inl (B ▸ e))
      · rw [B] at e
        cases e
        omega
    · exact .inr (.inr e)
/-- A place was appended and the places stored. -/
theorem HS.put_places (h : HS c w i vt vp nest xs zs) {z : Int} {v4 : Value} {w4 : World} (O : w4.ownsRow c.w0.heap.size 3 1 v4 (zs.length + 1) (zs.map iv ++ [.int .i64 z])) (K : w.grownBy w4 vp.ownBlock) (B : v4.ownBlock = vp.ownBlock ∨ v4.ownBlock = some w.heap.size) :
    HS c (w4.setCell ⟨c.g, 4, none⟩ v4) i vt v4 nest xs (zs ++ [z]) ∧ GB w (w4.setCell ⟨c.g, 4, none⟩ v4) (foot c.g vt vp) ∧ ∀ y, y < w.heap.size → foot c.g vt v4 y → foot c.g vt vp y := by
  have A := blk_kept' h.blk h.places (by decide) K
  have T := own_kept' h.toks h.places (by decide) K
  have P := own_kept' h.tree h.places (by decide) K
  have G := grown_set w4 c.g 4 v4
  have g4 : c.w0.grownBy w4 none := grown_trans_new h.grown K (fun y hy => (h.places.lt y hy).1)
  refine ⟨⟨grown_trans_new g4 G (fun y hy => by cases hy; exact h.new), A.set 4 v4, h.new, own_kept T G (own_vat T A (by decide)), own_kept P G (own_vat P A (by decide)), ?_⟩, ?_, ?_⟩
  · have := own_kept O G (own_vat O A (by decide))
    show World.ownsRow _ _ _ _ _ _ _
    rw [List.length_append, List.map_append]
    exact this
  · exact (GB.of K (S := foot c.g vt vp) (fun y hy => .inr (.inr hy))).trans (GB.set w4 vt vp c.g 4 v4) (fun _ _ h => h)
  · rintro y hy (rfl | e | e)
    · exact .inl rfl
    · exact .inr (.inl e)
    · rcases B with B | B
      · exact .inr (.inr (B ▸ e))
      · rw [B] at e
        cases e
        omega
theorem PS.of_hs {bud' : Nat} {ns' : List (Nd × Nat)} {w1 : World} {vt1 vp1 : Value} (h0 : PS c w i vt vp ts nest bud ns) (h : HS c w1 i vt1 vp1 nest (ns'.map Prod.fst) (ns'.map plc)) (hb : ns'.length + ts.length + bud' ≤ 65537) : PS c w1 i vt1 vp1 ts nest bud' ns' :=
  { h0 with grown := h.grown, blk := h.blk, new := h.new, toks := h.toks, tree := h.tree, places := h.places, bud_le := hb }
end

/-- A panic that tells a place and why. -/
def PanS (er : Er) : List PanicEntry := [{ v := .iface 60 (.agg #[.int .i64 (er.1 : Int), .int .i64 er.2]), recovered := false }]

/-- What a reading comes to that makes nodes. -/
def RunP (c : PC) (w : World) (vt vp : Value) (nest bud : Nat) (ns : List (Nd × Nat)) (r : Out) (e : Ending) (w' : World) : Prop := match r with
  | .ok (ms, ts') => e = .returned (.tuple #[]) ∧ Ret c w vt vp ts' nest bud (ns ++ ms) w'
  | .error er => e = .panicked (PanS er) ∧ GB w w' (foot c.g vt vp)
/-- What a reading comes to that tells something. -/
def TellP {α : Type} (c : PC) (w : World) (vt vp : Value) (nest bud : Nat) (ns : List (Nd × Nat)) (val : α → Value) (r : Except Er (α × List Tk)) (e : Ending) (w' : World) : Prop := match r with
  | .ok (v, ts') => e = .returned (val v) ∧ Ret c w vt vp ts' nest bud ns w'
  | .error er => e = .panicked (PanS er) ∧ GB w w' (foot c.g vt vp)

end Go.Proofs.YtbdmpjnlgdahmaaGreatDoor
