/-
  A bundle that is alive while a statement walks: what it has; what was there ahead of it stays. What is read of an argument that is a list of bytes; how much the second form counts. What is read of an argument that is a link. What the laws of stage 9 share: a link in a block; loads of two pieces. SameLists: two lists of lists that read alike.
-/
import Derived.Test.YtkjofgnmjfngeaaLotBundleLost21
import Derived.Test.YtkjofgnmjfngeaaBase
import Derived.Test.YtkjofgnmjfngeaaRows
import Derived.ProofKit
import Derived.OpenShut
import Derived.ShutString
import Derived.ChangeOld
import Derived.SizedLaws
import Derived.JoinedCond
import Derived.Test.YtkjofgnmjfngeaaLotBundleLost7
import Derived.Deep.Slices
import Derived.Test.YtkjofgnmjfngeaaLotBundleLost16
import Derived.Deep.RegionHeld3
import Derived.Deep.DeepCutAuto
import Derived.Test.YtkjofgnmjfngeaaLotBundleLost13
import Derived.Test.YtkjofgnmjfngeaaLotBundleLost1
import Derived.Deep.RegionWith
namespace Go.Proofs.Ytkjofgnmjfngeaa
open Go.RowKit
set_option maxRecDepth 100000

/-- A bundle made at wN; its blocks lie outside of m .. m'. -/
def BW (wN : World) (p : Value) (l : Lk) (u : Bs) (m m' : Nat) (W : World) : Prop :=
  ∃ S : Nat → Prop, BAt W wN.heap.size p l u S ∧ wN.grownBy W none ∧ ∀ y, S y → y < m ∨ m' ≤ y
theorem BW.kept {wN W W' : World} {p : Value} {l : Lk} {u : Bs} {m m' : Nat} (h : BW wN p l u m m' W) (K : W.grownBy W' none) : BW wN p l u m m' W' := by
  obtain ⟨S, h1, h2, h3⟩ := h
  exact ⟨S, h1.kept (S' := fun _ => False) (GB.non K) (fun _ _ h => h), grown_trans h2 K, h3⟩
theorem BW.ptr {wN W : World} {p : Value} {l : Lk} {u : Bs} {m m' : Nat} (h : BW wN p l u m m' W) : ∃ ad, p = .pointer (some ad) := by
  obtain ⟨S, h1, -, -⟩ := h
  exact h1.lt.2
theorem BW.up {wN W : World} {p : Value} {l : Lk} {u : Bs} {m m' : Nat} (h : BW wN p l u m m' W) : wN.grownBy W none := h.choose_spec.2.1
/-- Behind it something was made. -/
theorem BW.range {wN W W' : World} {p : Value} {l : Lk} {u : Bs} {m m' : Nat} (h : BW wN p l u m m' W) (K : W.grownBy W' none) : BW wN p l u W.heap.size W'.heap.size W' := by
  obtain ⟨S, h1, h2, h3⟩ := h
  exact ⟨S, h1.kept (S' := fun _ => False) (GB.non K) (fun _ _ h => h), grown_trans h2 K, fun y hy => .inl (h1.lt.1 y hy).2⟩
theorem BW.free {wN W : World} {p : Value} {l : Lk} {u : Bs} {m m' : Nat} (h : BW wN p l u m m' W) : BW wN p l u 0 0 W := by
  obtain ⟨S, h1, h2, h3⟩ := h
  exact ⟨S, h1, h2, fun y _ => .inr (Nat.zero_le y)⟩
/-- A new one. -/
theorem BW.new {wN W : World} {p : Value} {l : Lk} {u : Bs} {S : Nat → Prop} (h : BAt W wN.heap.size p l u S) (K : wN.grownBy W none) : BW wN p l u 0 0 W := ⟨S, h, K, fun y _ => .inr (Nat.zero_le y)⟩

/-- What lies in m .. m', or ahead of the bundle, is as it was. -/
def Rest (wN : World) (m m' : Nat) (W W' : World) : Prop := GB W W' (fun y => wN.heap.size ≤ y ∧ (y < m ∨ m' ≤ y))

theorem BW.feed0 {wN W : World} {p : Value} {l : Lk} {u : Bs} {m m' : Nat} (h : BW wN p l u m m' W) (a : Option Addr) (ca : Nat) (b : List UInt8) (ha : Cells W a b) (hc0 : a = none → ca = 0) (hca : b.length ≤ ca) (hn : b.length ≤ 140737488355328) (hm : m' ≤ W.heap.size) (hap : ∀ ad, a = some ad → b ≠ [] → m ≤ ad.block ∧ ad.block < m') :
    Calls Try.prog 9 #[p, .slice a b.length ca] W fun e w' => ∃ x, e = .returned (.tuple #[x, .bool (exV (u, [], false) (feedX l u b)).2.2, .int .i64 (exE (feedX l u b))]) ∧ Owns w' W.heap.size x (exV (u, [], false) (feedX l u b)).2.1 ∧ BW wN p l (exV (u, [], false) (feedX l u b)).1 m m' w' ∧ Rest wN m m' W w' := by
  obtain ⟨S, h1, h2, h3⟩ := h
  refine (feed_any wN.heap.size p l u S a ca b W h1 ha hc0 hca hn (fun ad had hne hs => by
    have := hap ad had hne
    have := h3 _ hs
    omega)).mono ?_
  rintro e w' ⟨x, S', rfl, O, B, hS', -, G⟩
  refine ⟨x, rfl, O, ⟨S', B, ((GB.non (S := S) h2).trans G (fun _ _ h => h)).grown (fun y hy hs => by have := (h1.lt.1 y hs).1; omega), fun y hy => ?_⟩, G.mono (fun y hy => ⟨(h1.lt.1 y hy).1, h3 y hy⟩)⟩
  rcases hS' y hy with q | q
  · exact h3 y q
  · exact .inr (by omega)

/-- Fed with a copy. -/
theorem BW.feed {wN W0 W : World} {p y : Value} {l : Lk} {u : Bs} {m m' : Nat} {b : List UInt8} (h : BW wN p l u m m' W0) (K : W0.grownBy W none) (O : Owns W W0.heap.size y b) (hn : b.length ≤ 140737488355328) :
    Calls Try.prog 9 #[p, y] W fun e w' => ∃ x, e = .returned (.tuple #[x, .bool (exV (u, [], false) (feedX l u b)).2.2, .int .i64 (exE (feedX l u b))]) ∧ Owns w' W.heap.size x (exV (u, [], false) (feedX l u b)).2.1 ∧ BW wN p l (exV (u, [], false) (feedX l u b)).1 0 0 w' := by
  obtain ⟨ao, ca, rfl, C, h1, -, h2, -⟩ := O.shape
  have h0 : ao = none → ca = 0 := by
    obtain ⟨ao', cap', e', -, -, -, h0, -⟩ := cv_of_row O
    simp only [Value.slice.injEq] at e'
    obtain ⟨rfl, -, rfl⟩ := e'
    exact h0
  refine ((h.range K).feed0 ao ca b C h0 h1 hn (Nat.le_refl _) (fun ad had _ => h2 ad had)).mono ?_
  rintro e w' ⟨x, rfl, O', B', -⟩
  exact ⟨x, rfl, O', B'.free⟩
theorem BW.feed_ok {wN W0 W : World} {p y : Value} {l : Lk} {u u' : Bs} {m m' : Nat} {b r : List UInt8} {d : Bool} (h : BW wN p l u m m' W0) (K : W0.grownBy W none) (O : Owns W W0.heap.size y b) (hn : b.length ≤ 140737488355328) (hf : feedX l u b = .ok (u', r, d)) :
    Calls Try.prog 9 #[p, y] W fun e w' => ∃ x, e = .returned (.tuple #[x, .bool d, .int .i64 0]) ∧ Owns w' W.heap.size x r ∧ BW wN p l u' 0 0 w' := by
  have k := h.feed K O hn
  rw [hf] at k
  exact k
theorem BW.feed_er {wN W0 W : World} {p y : Value} {l : Lk} {u : Bs} {m m' : Nat} {b : List UInt8} {er : Int} (h : BW wN p l u m m' W0) (K : W0.grownBy W none) (O : Owns W W0.heap.size y b) (hn : b.length ≤ 140737488355328) (hf : feedX l u b = .error er) :
    Calls Try.prog 9 #[p, y] W fun e w' => ∃ x, e = .returned (.tuple #[x, .bool false, .int .i64 er]) ∧ Owns w' W.heap.size x [] ∧ BW wN p l u 0 0 w' := by
  have k := h.feed K O hn
  rw [hf] at k
  exact k
theorem BW.waits {wN W : World} {p : Value} {l : Lk} {u : Bs} {m m' : Nat} (h : BW wN p l u m m' W) :
    Calls Try.prog 11 #[p] W fun e w' => e = .returned (.tuple #[.int .u32 (u.nxt : Int), .int .i64 (u.has.length : Int)]) ∧ BW wN p l u m m' w' ∧ W.grownBy w' none := by
  obtain ⟨S, h1, h2, h3⟩ := h
  refine (waits_any wN.heap.size p l u S W h1).mono ?_
  rintro e w' ⟨rfl, n, rfl⟩
  exact ⟨rfl, BW.kept ⟨S, h1, h2, h3⟩ (grown_drewN W n none), grown_drewN W n none⟩

end Go.Proofs.Ytkjofgnmjfngeaa

namespace Go.Proofs.Ytkjofgnmjfngeaa
open Go.ChangeShapes Go.WideShapes Go.ChangeAt Go.RowKit
set_option maxRecDepth 100000

theorem own : ownKnob Try.prog.godebug = none := by kernel_rfl
theorem laidOut : laidOutB Try.prog = true := by kernel_rfl
theorem bytes5 : Try.prog.bytesOf 5 = 1 := by kernel_rfl

theorem open_bytes {H : Type} {enc : TypeId × Value → H} {P : Program} {W : World} {t e : TypeId} {d : DataW H} {ps : List MemPlace} {a : Option Addr} {len cap : Nat}
    (ht : P.underlying t = some (.slice e)) (he : P.underlying e = some (.int .u8)) (hc : P.cellsOf e = 1)
    (h : DataW.Trod enc P W 0 (fun _ => true) true t (.slice a len cap) d ps) :
    ∃ xs : List UInt8, len = xs.length ∧ Cells W a xs ∧ (a = none → cap = 0) ∧ ((d = .nil ∧ xs = []) ∨ ∃ elems spare, d = .slice elems spare ∧ xs.length ≤ elems.length + spare.length) := by
  obtain ⟨fuel, hf⟩ := h
  rcases open_ints ht he hc hf with ⟨hcs, hx⟩ | ⟨x, l, c, zs, hcs, _, hl, hm, hz, hx, hcell, hwz⟩
  · simp [Value.cells] at hcs
    obtain ⟨rfl, rfl, rfl⟩ := hcs
    simp only [Prod.mk.injEq] at hx
    exact ⟨[], rfl, ⟨fun _ => rfl, fun ad had => (by cases had)⟩, fun _ => rfl, .inl ⟨hx.1, rfl⟩⟩
  · simp [Value.cells] at hcs
    obtain ⟨rfl, rfl, rfl⟩ := hcs
    simp only [Prod.mk.injEq] at hx
    have hz' : zs.length = cap := by simpa using hz
    have hlen : ((zs.take len).map fun z => UInt8.ofNat z.toNat).length = len := by simp; omega
    refine ⟨(zs.take len).map fun z => UInt8.ofNat z.toNat, hlen.symm, ⟨fun h => (by cases h), fun ad had i hi => ?_⟩, fun h => (by cases h), .inr ⟨_, _, hx.1, ?_⟩⟩
    · obtain rfl := Option.some.inj had
      rw [hlen] at hi
      have hiz : i < zs.length := by omega
      rw [hcell i hiz]
      have hw := bounds_u8 (hwz (zs[i]) (List.getElem_mem hiz))
      simp only [List.getD_eq_getElem?_getD, List.getElem?_eq_getElem hiz, Option.getD_some, List.getElem_map, List.getElem_take, bv]
      congr 2
      simp
      omega
    · rw [hlen]
      simp [lits]
      omega

theorem bulk_one {H : Type} (d : DataW H) : 1 ≤ Rows.uptoBulk d := by
  unfold Rows.uptoBulk
  split <;> omega

theorem bulk_all {H : Type} (l : List (DataW H)) : l.length ≤ Rows.uptoBulkAll l := by
  induction l with
  | nil => exact Nat.zero_le _
  | cons x r ih =>
    have := bulk_one x
    rw [Rows.uptoBulkAll, List.length_cons]
    omega

/-- A list's places count. -/
theorem bulk_slice {H : Type} (elems spare : List (DataW H)) : elems.length + spare.length + 1 ≤ Rows.uptoBulk (.slice elems spare) := by
  have h1 := bulk_all elems
  have h2 := bulk_all spare
  rw [Rows.uptoBulk]
  omega

/-- A text's letters count. -/
theorem bulk_string {H : Type} (s : ByteArray) : Rows.uptoBulk (DataW.lit (H := H) (.string s.data.toList)) = s.size + 1 := by
  rw [Rows.uptoBulk, Array.length_toList]
  rfl

end Go.Proofs.Ytkjofgnmjfngeaa

namespace Go.Proofs.Ytkjofgnmjfngeaa
open Go.ChangeShapes Go.WideShapes Go.ChangeAt Go.RowKit
set_option maxRecDepth 100000

theorem cellsLink : Try.prog.cellsOf 26 = 3 := by kernel_rfl
theorem cellsBool : Try.prog.cellsOf 4 = 1 := by kernel_rfl
theorem cellsInt : Try.prog.cellsOf 3 = 1 := by kernel_rfl

/-- The link that three cells are. -/
def lkOf : List Value → Lk
  | [.bool a, .bool b, .int _ c] => ⟨a, b, c⟩
  | _ => ⟨false, false, 0⟩

theorem link_cells {H : Type} {enc : TypeId × Value → H} {W : World} {base : Nat} {spare : Nat → Bool} {held : Bool} {fuel : Nat} {cs : List Value} {x : DataW H × List MemPlace} (h : DataW.trod enc Try.prog W base spare held fuel 26 cs = some x) : cs = (lkA (lkOf cs)).toList := by
  obtain ⟨ys, n, _, rfl, hl, hlen, hf⟩ := DataW.trod_struct Try.underlying26 h
  rw [cellsLink] at hl
  match cs, hl with
  | [c0, c1, c2], _ =>
    match ys, hlen with
    | [y0, y1, y2], _ =>
      have f0 : DataW.trod enc Try.prog W base spare held n 4 (([c0, c1, c2].drop 0).take (Try.prog.cellsOf 4)) = some y0 := hf 0 _ rfl
      have f1 : DataW.trod enc Try.prog W base spare held n 4 (([c0, c1, c2].drop 1).take (Try.prog.cellsOf 4)) = some y1 := hf 1 _ rfl
      have f2 : DataW.trod enc Try.prog W base spare held n 3 (([c0, c1, c2].drop 2).take (Try.prog.cellsOf 3)) = some y2 := hf 2 _ rfl
      rw [cellsBool] at f0 f1
      rw [cellsInt] at f2
      obtain ⟨n0, e0, _⟩ := DataW.trod_bool Try.underlying4 f0
      obtain ⟨n1, e1, _⟩ := DataW.trod_bool Try.underlying4 f1
      obtain ⟨n2, e2, _, _⟩ := DataW.trod_int Try.underlying3 f2
      simp at e0 e1 e2
      subst e0 e1 e2
      rfl

/-- A link that is handed in. -/
theorem open_link {H : Type} {enc : TypeId × Value → H} {W : World} {d : DataW H} {ps : List MemPlace} {v : Value}
    (h : DataW.Trod enc Try.prog W 0 (fun _ => true) true 26 v d ps) : ∃ x : Lk, v = .agg (lkA x) := by
  obtain ⟨fuel, hf⟩ := h
  have e := link_cells hf
  refine ⟨lkOf v.cells.toList, ?_⟩
  cases v with
  | agg cs =>
    simp only [Value.cells] at e ⊢
    congr 1
    exact Array.toList_inj.1 e
  | _ => have := congrArg List.length e; simp [Value.cells, lkA] at this

/-- How much room a list of bytes has that is handed in. -/
theorem open_cap {H : Type} {enc : TypeId × Value → H} {P : Program} {W : World} {t e : TypeId} {d : DataW H} {ps : List MemPlace} {a : Option Addr} {len cap : Nat}
    (ht : P.underlying t = some (.slice e)) (he : P.underlying e = some (.int .u8)) (hc : P.cellsOf e = 1)
    (h : DataW.Trod enc P W 0 (fun _ => true) true t (.slice a len cap) d ps) : len ≤ cap := by
  obtain ⟨fuel, hf⟩ := h
  rcases open_ints ht he hc hf with ⟨hcs, hx⟩ | ⟨x, l, c, zs, hcs, _, hl, hm, hz, hx, hcell, hwz⟩
  · simp [Value.cells] at hcs
    obtain ⟨rfl, rfl, rfl⟩ := hcs
    exact Nat.le_refl _
  · simp [Value.cells] at hcs
    obtain ⟨rfl, rfl, rfl⟩ := hcs
    exact hl

end Go.Proofs.Ytkjofgnmjfngeaa

namespace Go.Proofs.Ytkjofgnmjfngeaa
open Go.RowKit
set_option maxRecDepth 100000

/-- A link in a block, while memory is made behind it. -/
abbrev K3 (w : World) (L : Nat) (mp : Int) (W : World) : Prop := W.cell? ⟨L, 0, none⟩ = some (.bool false) ∧ W.cell? ⟨L, 1, none⟩ = some (.bool false) ∧ W.cell? ⟨L, 2, none⟩ = some (.int .i64 mp) ∧ w.grownBy W none
theorem k3_call {w W W' : World} {L : Nat} {mp : Int} (K : W.grownBy W' none) (h : K3 w L mp W) : K3 w L mp W' := ⟨K.cell h.1 (by simp), K.cell h.2.1 (by simp), K.cell h.2.2.1 (by simp), grown_trans h.2.2.2 K⟩
theorem k3_drew {w W : World} {L : Nat} {mp : Int} (h : K3 w L mp W) : K3 w L mp W.drew := k3_call (grown_drewN W 1 none) h

theorem feed_err {l : Lk} {u : Bs} {b : List UInt8} {e : Int} (h : feedX l u b = .error e) : (e != 0) = true := by
  unfold feedX at h
  cases hp : pieceV l b with
  | error e' =>
    rw [hp] at h
    have : e' = e := by simpa [Except.bind] using h
    rw [← this]
    exact piece_er9 hp
  | ok v =>
    rw [hp] at h
    simp only [Except.bind] at h
    split at h
    · cases h
    · have : (94 : Int) = e := by simpa using h
      rw [← this]
      rfl

theorem except_cases9' {α : Type} (x : Except Int α) : (∃ e, x = .error e) ∨ ∃ a, x = .ok a := by
  cases x with
  | error e => exact .inl ⟨e, rfl⟩
  | ok a => exact .inr ⟨a, rfl⟩
theorem Owns.items {w : World} {base : Nat} {v : Value} {xs : List UInt8} (h : Owns w base v xs) : ∃ ao ca, v = .slice ao xs.length ca ∧ Cells w ao xs ∧ (ao = none → ca = 0) ∧ xs.length ≤ ca := by
  obtain ⟨p1, q1, r1, -, s1, -, u1, -⟩ := cv_of_row h
  obtain ⟨ao, cap, rfl, C, h1, -⟩ := h.shape
  simp only [Value.slice.injEq] at r1
  obtain ⟨rfl, -, rfl⟩ := r1
  exact ⟨ao, cap, rfl, C, u1, h1⟩

/-! A load of two pieces. -/
theorem cnt_two {n : Nat} (h : 2 ≤ n) : cntV n ((n + 1) / 2) = 2 := by
  have h1 := cnt_ge (n := n) (most := (n + 1) / 2) (by omega)
  have h2 := cnt_pos n ((n + 1) / 2) (by omega)
  by_cases h3 : 2 + 1 ≤ cntV n ((n + 1) / 2)
  · have := cnt_lt (n := n) (most := (n + 1) / 2) (i := 1) (by omega) (by omega)
    omega
  · by_cases h4 : cntV n ((n + 1) / 2) = 1
    · rw [h4] at h1
      omega
    · omega
theorem split_two {b : List UInt8} (h : 2 ≤ b.length) (h2 : b.length ≤ 2000) : splitX k9 b (((b.length + 1) / 2 : Nat) : Int) 7 = .ok [pcV k9 b ((b.length + 1) / 2) 7 0, pcV k9 b ((b.length + 1) / 2) 7 1] := by
  unfold splitX
  rw [if_neg (by decide), if_neg (by rw [show spV k9 = 4096 from rfl]; omega), if_neg (by omega), if_neg (by omega), splitL, Int.toNat_natCast, cnt_two h]
  rfl
theorem two_one {b : List UInt8} (h : 2 ≤ b.length) (h2 : b.length ≤ 2000) : feedX k9 ⟨7, false, []⟩ (pcV k9 b ((b.length + 1) / 2) 7 0) = .ok (rowS k9 b ((b.length + 1) / 2) 7 1, [], false) := by
  rw [feed_row k9 _ b ((b.length + 1) / 2) 7 0 (by decide) (by omega) (by omega) (by omega) (by rw [cnt_two h]; omega) (.inl rfl), cnt_two h]
  rfl
theorem two_two {b : List UInt8} (h : 2 ≤ b.length) (h2 : b.length ≤ 2000) : feedX k9 (rowS k9 b ((b.length + 1) / 2) 7 1) (pcV k9 b ((b.length + 1) / 2) 7 1) = .ok (rowS k9 b ((b.length + 1) / 2) 7 2, b, true) := by
  rw [feed_row k9 _ b ((b.length + 1) / 2) 7 1 (by decide) (by omega) (by omega) (by omega) (by rw [cnt_two h]; omega) (.inr rfl), cnt_two h]
  rfl
theorem new_seven : newX k9 7 = .ok ⟨7, false, []⟩ := by kernel_rfl

/-- The pieces of a load, as they lie. -/
theorem LLv.pieces {W : World} {base : Nat} {v : Value} {vs : List Value} {l : Lk} {b : List UInt8} {most first n : Nat} (h : LLv W base v vs (splitL l b most first)) (hn : cntV b.length most = n) (h1 : 1 ≤ n) :
    ∃ g cap, v = .slice (some ⟨g, 0, none⟩) n cap ∧ ∀ i, i < n → ∃ ao ca, W.cell? ⟨g, i, none⟩ = some (.slice ao (pcV l b most first i).length ca) ∧ Cells W ao (pcV l b most first i) ∧ (ao = none → ca = 0) := by
  have hLL : (splitL l b most first).length = n := by rw [splitL, List.length_map, List.length_range, hn]
  obtain ⟨g, cap, -, -, hv, -⟩ := h.item (i := 0) (by omega)
  rw [hLL] at hv
  refine ⟨g, cap, hv, fun i hi => ?_⟩
  obtain ⟨g', cap', ao, ca, hv', hc, -, C, O⟩ := h.item (i := i) (by omega)
  rw [hLL, hv] at hv'
  simp only [Value.slice.injEq, Option.some.injEq, Addr.mk.injEq, and_true, true_and] at hv'
  obtain ⟨rfl, rfl⟩ := hv'
  have e : (splitL l b most first).getD i [] = pcV l b most first i := by
    unfold splitL
    rw [List.getD_eq_getElem?_getD, List.getElem?_map, List.getElem?_range (by rw [hn]; exact hi)]
    rfl
  rw [e] at hc C O
  obtain ⟨p1, q1, r1, -, -, -, u1, -⟩ := cv_of_row O
  simp only [Value.slice.injEq] at r1
  obtain ⟨rfl, -, rfl⟩ := r1
  exact ⟨ao, ca, hc, C, u1⟩

theorem cnt_max {n sz : Nat} (hs : 1 ≤ sz) : cntV n sz = max 1 ((n + sz - 1) / sz) := by
  unfold cntV
  split
  · rename_i h
    rw [h, Nat.zero_add, Nat.div_eq_of_lt (by omega)]
    rfl
  · rename_i h
    have : 1 ≤ (n + sz - 1) / sz := (Nat.le_div_iff_mul_le (by omega)).2 (by omega)
    omega
theorem cnt_many {n sz : Nat} (hs : 1 ≤ sz) (h : n ≤ 4096 * sz) : cntV n sz ≤ 4096 := by
  by_cases h1 : 4096 + 1 ≤ cntV n sz
  · have := cnt_lt (n := n) (most := sz) (i := 4095) hs (by omega)
    omega
  · omega

end Go.Proofs.Ytkjofgnmjfngeaa

namespace Go.Proofs.Ytkjofgnmjfngeaa
open Go.RowKit
set_option maxRecDepth 100000

theorem part_kept {p : Part} {w w' : World} (h : p.ok w) (K : w.grownBy w' none) : p.ok w' := ⟨h.1.keptNone K, h.2⟩

end Go.Proofs.Ytkjofgnmjfngeaa
