/-
  A list of pieces and whose they are, in memory, while both grow. Low: a number without its sign. What is read of an argument that is a list of lists of bytes. Arguments that are lists of lists of bytes, and lists of ints: what is read of them, and how much the second form counts.
-/
import Derived.Test.YtkjofgnmjfngeaaLotBundleLost23
import Derived.Test.YtkjofgnmjfngeaaBase
import Derived.Test.YtkjofgnmjfngeaaLotBundleLost22
import Derived.Test.YtkjofgnmjfngeaaLotBundleLost13
import Derived.Deep.Slices
namespace Go.Proofs.Ytkjofgnmjfngeaa
open Go.RowKit
set_option maxRecDepth 100000

/-- What is written in a row of another kind leaves lists of lists as they were. -/
theorem LLv.kinds {w w' : World} {base base' e' size' n' : Nat} {v v' : Value} {vs vs' : List Value} {xss : List (List UInt8)} (h : LLv w base v vs xss) (O : w.ownsRow base' e' size' v' n' vs') (h1 : (28 : Nat) ≠ e') (h2 : (5 : Nat) ≠ e') (K : w.grownBy w' v'.ownBlock) : LLv w' base v vs xss :=
  ⟨ll_kinds h.1 O h1 K, h.2.1, fun i hi => ll_kinds (h.2.2.1 i hi) O h2 K, h.2.2.2⟩

/-- The first pieces of a list are laid behind others. -/
theorem take_push {α : Type} (xs : List α) (j : Nat) (d : α) (h : j < xs.length) : xs.take j ++ [xs.getD j d] = xs.take (j + 1) := by
  rw [List.take_succ_eq_append_getElem h, List.getD_eq_getElem?_getD, List.getElem?_eq_getElem h]
  rfl

/-- While a load's pieces are laid behind those of the loads ahead of it. -/
structure PO (w : World) (m m' : Nat) (b1 : Nat) (vp vo pv : Value) (vs0 vsp : List Value) (P0 spl : List (List UInt8)) (O : List Int) (j : Nat) (W : World) : Prop where
  a : LLv W w.heap.size vp (vs0 ++ vsp.take j) (P0 ++ spl.take j)
  b : W.ownsRow w.heap.size 3 1 vo O.length (O.map (Value.int .i64))
  c : LLv W b1 pv vsp spl
  d : w.grownBy W none
  e : ∀ y, vp.ownBlock = some y → y < m ∨ m' ≤ y
  f : m' ≤ W.heap.size

/-- What lies where. -/
structure POs (w : World) (m m' : Nat) (b1 : Nat) (pv : Value) (vs0 vsp : List Value) (P0 spl : List (List UInt8)) : Prop where
  b1 : w.heap.size ≤ b1
  old : ∀ k, k < P0.length → ∀ y, (vs0.getD k undef).ownBlock = some y → y < m
  l0 : vs0.length = P0.length
  row : ∀ y, pv.ownBlock = some y → m ≤ y ∧ y < m'
  pcs : ∀ k, k < spl.length → ∀ y, (vsp.getD k undef).ownBlock = some y → m ≤ y ∧ y < m'

section
variable {w W W' : World} {m m' b1 j : Nat} {vp vo pv : Value} {vs0 vsp : List Value} {P0 spl : List (List UInt8)} {O : List Int}
theorem PO.non (h : PO w m m' b1 vp vo pv vs0 vsp P0 spl O j W) (K : W.grownBy W' none) : PO w m m' b1 vp vo pv vs0 vsp P0 spl O j W' :=
  ⟨h.a.keptNone K, owns_keptNone h.b K, h.c.keptNone K, grown_trans h.d K, h.e, Nat.le_trans h.f K.size⟩
/-- A piece is laid behind. -/
theorem PO.push (h : PO w m m' b1 vp vo pv vs0 vsp P0 spl O j W) (s : POs w m m' b1 pv vs0 vsp P0 spl) (hj : j < spl.length) {vp' : Value} (O' : W'.ownsRow w.heap.size 28 1 vp' ((vs0 ++ vsp.take j).length + 1) ((vs0 ++ vsp.take j) ++ [vsp.getD j undef])) (K : W.grownBy W' vp.ownBlock) (L : vp'.ownBlock = vp.ownBlock ∨ vp'.ownBlock = some W.heap.size) (h1 : (5 : Nat) ≠ 28) (h2 : (3 : Nat) ≠ 28) :
    PO w m m' b1 vp' vo pv vs0 vsp P0 spl O (j + 1) W' := by
  have hl := h.c.2.1
  have e1 : (vs0 ++ vsp.take j) ++ [vsp.getD j undef] = vs0 ++ vsp.take (j + 1) := by rw [List.append_assoc, take_push vsp j undef (by omega)]
  have e2 : (P0 ++ spl.take j) ++ [spl.getD j []] = P0 ++ spl.take (j + 1) := by rw [List.append_assoc, take_push spl j [] hj]
  have pj := h.c.2.2.1 j hj
  have A := h.a.push (owns_mono pj s.b1) (fun k hk y hy hp => by
    rw [List.getD_eq_getElem?_getD] at hy
    rw [List.length_append, List.length_take] at hk
    have q := s.pcs j hj y hp
    by_cases hk0 : k < P0.length
    · rw [List.getElem?_append_left (by rw [s.l0]; exact hk0), ← List.getD_eq_getElem?_getD] at hy
      have := s.old k hk0 y hy
      omega
    · rw [List.getElem?_append_right (by rw [s.l0]; omega), s.l0, List.getElem?_take_of_lt (by omega), ← List.getD_eq_getElem?_getD] at hy
      exact h.c.2.2.2 (k - P0.length) j (by omega) hj y hy hp) O' K h1
  rw [e1, e2] at A
  refine ⟨A, ll_kinds h.b h.a.1 h2 K, h.c.kept K ?_ (fun k hk => ?_), ?_, fun y hy => ?_, Nat.le_trans h.f K.size⟩
  · cases hv : pv.ownBlock with
    | none => exact .inl rfl
    | some y =>
      right
      intro e
      have := s.row y hv
      have := h.e y e.symm
      omega
  · cases hv : (vsp.getD k undef).ownBlock with
    | none => exact .inl rfl
    | some y =>
      right
      intro e
      have := s.pcs k hk y hv
      have := h.e y e.symm
      omega
  · exact grown_trans_new h.d K (fun x hx => (h.a.1.lt x hx).1)
  · rcases L with L | L
    · exact h.e y (by rw [← L]; exact hy)
    · rw [L] at hy
      cases hy
      exact .inr h.f
/-- Whose it is. -/
theorem PO.tell (h : PO w m m' b1 vp vo pv vs0 vsp P0 spl O j W) {vo' : Value} {z : Int} (O' : W'.ownsRow w.heap.size 3 1 vo' (O.length + 1) (O.map (Value.int .i64) ++ [.int .i64 z])) (K : W.grownBy W' vo.ownBlock) (h1 : (28 : Nat) ≠ 3) (h2 : (5 : Nat) ≠ 3) :
    PO w m m' b1 vp vo' pv vs0 vsp P0 spl (O ++ [z]) j W' :=
  ⟨h.a.kinds h.b h1 h2 K, by rw [List.length_append, List.length_singleton, List.map_append]; exact O', h.c.kinds h.b h1 h2 K, grown_trans_new h.d K (fun x hx => (h.b.lt x hx).1), h.e, Nat.le_trans h.f K.size⟩
end

theorem infoI3 : (Try.prog.info? 3).map (fun i => (i.zero, i.size, i.bytes)) = some (some (.int .i64 0), 1, 8) := by kernel_rfl

end Go.Proofs.Ytkjofgnmjfngeaa

namespace Go.Proofs.Ytkjofgnmjfngeaa
open Go.RowKit
set_option maxRecDepth 100000

/-- The number's 63 low bits. -/
def lowV (x : Int) : Nat := (BitVec.ofInt IntKind.i64.bits x).toNat % 2 ^ 63

theorem lowV_lt (x : Int) : lowV x < 2 ^ 63 := Nat.mod_lt _ (by decide)

theorem low_bits (x : Int) : bits .and .i64 x 9223372036854775807 = (lowV x : Int) := by
  have hm : (9223372036854775807 : Int) = ((2 ^ 63 - 1 : Nat) : Int) := by decide
  rw [hm]
  have h64 : IntKind.i64.bits = 64 := rfl
  simp only [bits, BitVec.ofInt_natCast, BitVec.toNat_and, BitVec.toNat_ofNat, h64]
  rw [show (2 ^ 63 - 1) % 2 ^ 64 = 2 ^ 63 - 1 by decide, Nat.and_two_pow_sub_one_eq_mod]
  have h := lowV_lt x
  unfold lowV at h ⊢
  generalize (BitVec.ofInt IntKind.i64.bits x).toNat % 2 ^ 63 = n at *
  rw [IntKind.wrap_i64]
  omega

set_option maxHeartbeats 400000 in
theorem low_any (x : Int) (w : World) : Calls Try.prog 4 #[.int .i64 x] w fun e w' => e = .returned (.int .i64 (lowV x : Int)) ∧ w = w' := by
  go_enter Try.func4, Try.ntmps4
  go_wp2
  go_ret
  exact ⟨ret_int (low_bits x), rfl⟩

end Go.Proofs.Ytkjofgnmjfngeaa

namespace Go.Proofs.Ytkjofgnmjfngeaa
open Go.ChangeShapes Go.WideShapes Go.ChangeAt Go.RowKit
set_option maxRecDepth 100000

theorem cellsB8 : Try.prog.cellsOf 5 = 1 := by kernel_rfl
theorem cellsB1 : Try.prog.cellsOf 28 = 1 := by kernel_rfl
theorem bytesB8 : Try.prog.bytesOf 5 = 1 := by kernel_rfl
theorem bytesB1 : Try.prog.bytesOf 28 = 24 := by kernel_rfl
def DatIs9 {H : Type} (d : DataW H) (xs : List UInt8) : Prop := (d = .nil ∧ xs = []) ∨ ∃ elems spare, d = .slice elems spare ∧ xs.length ≤ elems.length + spare.length

/-- One list of bytes, in a cell. -/
theorem open_part {H : Type} {enc : TypeId × Value → H} {W : World} {fuel : Nat} {v : Value} {x : DataW H × List MemPlace}
    (h : DataW.trod enc Try.prog W 0 (fun _ => true) true fuel 28 [v] = some x) : ∃ p : Part, p.v = v ∧ p.ok W ∧ p.bs.length ≤ p.cap ∧ DatIs9 x.1 p.bs := by
  rcases open_ints Try.underlying28 Try.underlying5 cellsB8 h with ⟨hcs, hx⟩ | ⟨ad, l, c, zs, hcs, _, hl, hm, hz, hx, hcell, hwz⟩
  · simp only [List.cons.injEq, and_true] at hcs
    subst hcs
    exact ⟨⟨none, 0, []⟩, rfl, ⟨⟨fun _ => rfl, fun ad had => (by cases had)⟩, fun _ => rfl⟩, Nat.le_refl _, .inl ⟨by rw [hx], rfl⟩⟩
  · simp only [List.cons.injEq, and_true] at hcs
    subst hcs
    have hz' : zs.length = c := by simpa using hz
    have hlen : ((zs.take l).map fun z => UInt8.ofNat z.toNat).length = l := by simp; omega
    refine ⟨⟨some ad, c, (zs.take l).map fun z => UInt8.ofNat z.toNat⟩, ?_, ⟨⟨fun h => (by cases h), fun ad' had i hi => ?_⟩, fun h => (by cases h)⟩, ?_, .inr ⟨_, _, by rw [hx], ?_⟩⟩
    · simp only [Part.v, hlen]
    · obtain rfl := Option.some.inj had
      simp only at hi
      rw [hlen] at hi
      have hiz : i < zs.length := by omega
      rw [hcell i hiz]
      have hw := bounds_u8 (hwz (zs[i]) (List.getElem_mem hiz))
      simp only [List.getD_eq_getElem?_getD, List.getElem?_eq_getElem hiz, Option.getD_some, List.getElem_map, List.getElem_take, bv]
      congr 2
      simp
      omega
    · simp only [hlen]
      exact hl
    · simp only [hlen]
      simp [lits]
      omega

/-- A list of lists of bytes that is handed in. -/
theorem open_lists {H : Type} {enc : TypeId × Value → H} {W : World} {d : DataW H} {ps : List MemPlace} {a : Option Addr} {len cap : Nat}
    (h : DataW.Trod enc Try.prog W 0 (fun _ => true) true 22 (.slice a len cap) d ps) :
    ∃ qs : List Part, len = qs.length ∧ CV W a (qs.map Part.v) ∧ (a = none → cap = 0) ∧ (∀ p ∈ qs, p.ok W ∧ p.bs.length ≤ p.cap) ∧ ((d = .nil ∧ qs = []) ∨ ∃ elems spare, d = .slice elems spare ∧ qs.length ≤ elems.length + spare.length ∧ ∀ p ∈ qs, ∃ e ∈ elems, DatIs9 e p.bs) := by
  obtain ⟨fuel, hf⟩ := h
  rcases Go.Deep.open_slice1 Try.underlying22 cellsB1 hf with ⟨hcs, hx⟩ | ⟨x, l, c, m, n, V, D, Pl, hcs, _, hl, hm, hmm, hx, hcell⟩
  · simp [Value.cells] at hcs
    obtain ⟨rfl, rfl, rfl⟩ := hcs
    simp only [Prod.mk.injEq] at hx
    exact ⟨[], rfl, ⟨fun _ => rfl, fun ad had => (by cases had)⟩, fun _ => rfl, fun p hp => (by cases hp), .inl ⟨hx.1, rfl⟩⟩
  · simp [Value.cells] at hcs
    obtain ⟨rfl, rfl, rfl⟩ := hcs
    simp only [Prod.mk.injEq] at hx
    simp only [if_true] at hmm
    have hlm : len ≤ m := by omega
    have hex : ∀ i, i < len → ∃ p : Part, p.v = V i ∧ p.ok W ∧ p.bs.length ≤ p.cap ∧ DatIs9 (D i) p.bs := fun i hi => open_part (hcell i (by omega)).2
    haveI : Inhabited Part := ⟨⟨none, 0, []⟩⟩
    obtain ⟨F, hF⟩ := Go.Deep.choose_lt hex
    have hml : ((List.range len).map F).length = len := by simp
    refine ⟨(List.range len).map F, hml.symm, ⟨fun h => (by cases h), fun ad had i hi => ?_⟩, fun h => (by cases h), fun p hp => ?_, .inr ⟨_, _, hx.1, ?_, fun p hp => ?_⟩⟩
    · obtain rfl := Option.some.inj had
      have hi' : i < len := by simpa using hi
      rw [(hcell i (by omega)).1]
      simp [(hF i hi').1]
    · obtain ⟨i, hi, rfl⟩ := List.mem_map.1 hp
      have := hF i (List.mem_range.1 hi)
      exact ⟨this.2.1, this.2.2.1⟩
    · simp
    · obtain ⟨i, hi, rfl⟩ := List.mem_map.1 hp
      exact ⟨D i, List.mem_map.2 ⟨i, hi, rfl⟩, (hF i (List.mem_range.1 hi)).2.2.2⟩

theorem weights_all_mem {H : Type} {P : Program} {e : TypeId} : ∀ {l : List (DataW H)} {d : DataW H}, d ∈ l → ∀ n ∈ d.weights P e, n ∈ DataW.weightsAll P e l
  | d0 :: r, d, hd, n, hn => by
    simp only [DataW.weightsAll, List.mem_append]
    rcases List.mem_cons.1 hd with rfl | h
    · exact .inl hn
    · exact .inr (weights_all_mem h n hn)

/-- How great it is. -/
theorem sized_lists {H : Type} {ts : List TypeId} {ds : List (DataW H)} (h : (DataW.weightsEach Try.prog ts ds).all (· ≤ reachBytes) = true) {j : Nat} {d : DataW H} {qs : List Part} (ht : ts[j]? = some 22) (hd : ds[j]? = some d)
    (hx : (d = .nil ∧ qs = []) ∨ ∃ elems spare, d = .slice elems spare ∧ qs.length ≤ elems.length + spare.length ∧ ∀ p ∈ qs, ∃ e ∈ elems, DatIs9 e p.bs) : qs.length * 24 ≤ 140737488351232 ∧ ∀ p ∈ qs, p.bs.length ≤ 140737488351232 := by
  rcases hx with ⟨_, rfl⟩ | ⟨elems, spare, rfl, hle, hp⟩
  · simp
  · have hw : ∀ n ∈ (DataW.slice elems spare : DataW H).weights Try.prog 22, n ≤ reachBytes := fun n hn => by
      have := List.all_eq_true.1 h _ (DataW.weights_mem_each ht hd n hn)
      simpa using this
    simp only [DataW.weights, Try.underlying22, List.mem_cons, List.mem_append] at hw
    constructor
    · have := hw _ (.inl rfl)
      rw [bytesB1] at this
      unfold reachBytes at this
      omega
    · intro p hp'
      obtain ⟨e, he, hd'⟩ := hp p hp'
      rcases hd' with ⟨_, h0⟩ | ⟨el, sp, rfl, hl⟩
      · rw [h0]; simp
      · have := hw ((el.length + sp.length) * Try.prog.bytesOf 5) (.inr (.inl (weights_all_mem he _ (by simp [DataW.weights, Try.underlying28]))))
        rw [bytesB8] at this
        unfold reachBytes at this
        omega

end Go.Proofs.Ytkjofgnmjfngeaa

namespace Go.Proofs.Ytkjofgnmjfngeaa
open Go.ChangeShapes Go.WideShapes Go.ChangeAt Go.RowKit
set_option maxRecDepth 100000

/-- A list of lists of bytes that is handed in, place by place. -/
theorem open_listsU {H : Type} {enc : TypeId × Value → H} {W : World} {d : DataW H} {ps : List MemPlace} {a : Option Addr} {len cap : Nat}
    (h : DataW.Trod enc Try.prog W 0 (fun _ => true) true 22 (.slice a len cap) d ps) :
    ∃ qs : List Part, len = qs.length ∧ CV W a (qs.map Part.v) ∧ (a = none → cap = 0) ∧ (∀ p ∈ qs, p.ok W ∧ p.bs.length ≤ p.cap) ∧ ((d = .nil ∧ qs = []) ∨ ∃ (D : Nat → DataW H) (spare : List (DataW H)) (F : Nat → Part), d = .slice ((List.range len).map D) spare ∧ qs = (List.range len).map F ∧ ∀ i, i < len → DatIs9 (D i) (F i).bs) := by
  obtain ⟨fuel, hf⟩ := h
  rcases Go.Deep.open_slice1 Try.underlying22 cellsB1 hf with ⟨hcs, hx⟩ | ⟨x, l, c, m, n, V, D, Pl, hcs, _, hl, hm, hmm, hx, hcell⟩
  · simp [Value.cells] at hcs
    obtain ⟨rfl, rfl, rfl⟩ := hcs
    simp only [Prod.mk.injEq] at hx
    exact ⟨[], rfl, ⟨fun _ => rfl, fun ad had => (by cases had)⟩, fun _ => rfl, fun p hp => (by cases hp), .inl ⟨hx.1, rfl⟩⟩
  · simp [Value.cells] at hcs
    obtain ⟨rfl, rfl, rfl⟩ := hcs
    simp only [Prod.mk.injEq] at hx
    simp only [if_true] at hmm
    have hlm : len ≤ m := by omega
    have hex : ∀ i, i < len → ∃ p : Part, p.v = V i ∧ p.ok W ∧ p.bs.length ≤ p.cap ∧ DatIs9 (D i) p.bs := fun i hi => open_part (hcell i (by omega)).2
    haveI : Inhabited Part := ⟨⟨none, 0, []⟩⟩
    obtain ⟨F, hF⟩ := Go.Deep.choose_lt hex
    have hml : ((List.range len).map F).length = len := by simp
    refine ⟨(List.range len).map F, hml.symm, ⟨fun h => (by cases h), fun ad had i hi => ?_⟩, fun h => (by cases h), fun p hp => ?_, .inr ⟨D, _, F, hx.1, rfl, fun i hi => (hF i hi).2.2.2⟩⟩
    · obtain rfl := Option.some.inj had
      have hi' : i < len := by simpa using hi
      rw [(hcell i (by omega)).1]
      simp [(hF i hi').1]
    · obtain ⟨i, hi, rfl⟩ := List.mem_map.1 hp
      have := hF i (List.mem_range.1 hi)
      exact ⟨this.2.1, this.2.2.1⟩

theorem bulk_dat {H : Type} {d : DataW H} {xs : List UInt8} (h : DatIs9 d xs) : xs.length + 1 ≤ Rows.uptoBulk d := by
  rcases h with ⟨rfl, rfl⟩ | ⟨el, sp, rfl, hl⟩
  · simp [Rows.uptoBulk]
  · have := bulk_slice el sp
    omega

theorem bulk_map {H : Type} (D : Nat → DataW H) (F : Nat → Part) : ∀ (l : List Nat), (∀ i ∈ l, DatIs9 (D i) (F i).bs) → ((l.map F).map fun p => p.bs.length + 1).sum ≤ Rows.uptoBulkAll (l.map D)
  | [], _ => by simp [Rows.uptoBulkAll]
  | x :: r, h => by
    have h1 := bulk_map D F r (fun i hi => h i (List.mem_cons_of_mem _ hi))
    have h2 := bulk_dat (h x (List.mem_cons_self ..))
    simp only [List.map_cons, List.sum_cons, Rows.uptoBulkAll]
    omega

theorem bulk_lists {H : Type} {d : DataW H} {qs : List Part} {len : Nat} (h : (d = .nil ∧ qs = []) ∨ ∃ (D : Nat → DataW H) (spare : List (DataW H)) (F : Nat → Part), d = .slice ((List.range len).map D) spare ∧ qs = (List.range len).map F ∧ ∀ i, i < len → DatIs9 (D i) (F i).bs) : (qs.map fun p => p.bs.length + 1).sum ≤ Rows.uptoBulk d := by
  rcases h with ⟨rfl, rfl⟩ | ⟨D, spare, F, rfl, rfl, hd⟩
  · simp
  · have := bulk_map D F (List.range len) (fun i hi => hd i (List.mem_range.1 hi))
    rw [Rows.uptoBulk]
    omega

/-- A list of ints that is handed in. -/
theorem open_intl {H : Type} {enc : TypeId × Value → H} {P : Program} {W : World} {t e : TypeId} {d : DataW H} {ps : List MemPlace} {a : Option Addr} {len cap : Nat}
    (ht : P.underlying t = some (.slice e)) (he : P.underlying e = some (.int .i64)) (hc : P.cellsOf e = 1)
    (h : DataW.Trod enc P W 0 (fun _ => true) true t (.slice a len cap) d ps) :
    ∃ zs : List Int, len = zs.length ∧ CV W a (zs.map (Value.int .i64)) ∧ (a = none → cap = 0) ∧ ((d = .nil ∧ zs = []) ∨ ∃ elems spare, d = .slice elems spare ∧ zs.length ≤ elems.length + spare.length) := by
  obtain ⟨fuel, hf⟩ := h
  rcases open_ints ht he hc hf with ⟨hcs, hx⟩ | ⟨x, l, c, zs, hcs, _, hl, hm, hz, hx, hcell, hwz⟩
  · simp [Value.cells] at hcs
    obtain ⟨rfl, rfl, rfl⟩ := hcs
    simp only [Prod.mk.injEq] at hx
    exact ⟨[], rfl, ⟨fun _ => rfl, fun ad had => (by cases had)⟩, fun _ => rfl, .inl ⟨hx.1, rfl⟩⟩
  · simp [Value.cells] at hcs
    obtain ⟨rfl, rfl, rfl⟩ := hcs
    simp only [Prod.mk.injEq] at hx
    have hz' : zs.length = cap := by simpa using hz
    have hlen : (zs.take len).length = len := by simp; omega
    refine ⟨zs.take len, hlen.symm, ⟨fun h => (by cases h), fun ad had i hi => ?_⟩, fun h => (by cases h), .inr ⟨_, _, hx.1, ?_⟩⟩
    · obtain rfl := Option.some.inj had
      rw [List.length_map, hlen] at hi
      have hiz : i < zs.length := by omega
      rw [hcell i hiz]
      simp only [List.getD_eq_getElem?_getD, List.getElem?_eq_getElem hiz, Option.getD_some, List.getElem_map, List.getElem_take]
    · rw [hlen]
      simp [lits]
      omega

end Go.Proofs.Ytkjofgnmjfngeaa
