/-
  The document's own Split. What a call leaves that may write several blocks. What both bundles' walks share. Lists written down in a row, and joined.
-/
import Derived.Test.YtkjofgnmjfngeaaLotBundleLost6
import Derived.Test.YtkjofgnmjfngeaaLotBundleLost12
import Derived.Test.YtkjofgnmjfngeaaLotBundleLost8
import Derived.Test.YtkjofgnmjfngeaaLotBundleLost15
import Derived.Test.YtkjofgnmjfngeaaBase
import Derived.Test.YtkjofgnmjfngeaaLotBundleLost7
import Derived.Deep.RegionWith
import Derived.Deep.DeepCutAuto
import Derived.Maps.AppendAt
import Derived.Test.YtkjofgnmjfngeaaLotBundleLost13
namespace Go.Proofs.Ytkjofgnmjfngeaa
open Go.RowKit
set_option maxRecDepth 100000

/-- The test at the loop's head. -/
theorem cnt_iff {n most i : Nat} (hm : 1 ≤ most) (hi : 1 ≤ i) : i < cntV n most ↔ i * most < n := by
  constructor
  · intro h
    have := cnt_lt (n := n) (i := i - 1) hm (by omega)
    rw [show i - 1 + 1 = i by omega] at this
    exact this
  · intro h
    have := cnt_ge (n := n) hm
    have h2 : i * most < cntV n most * most := by omega
    exact Nat.lt_of_mul_lt_mul_right h2
theorem last_iff {n most i : Nat} (hm : 1 ≤ most) (hi : i < cntV n most) (hle : i * most ≤ n) : (i + 1 = cntV n most) ↔ n - i * most ≤ most := by
  have h1 := cnt_iff (n := n) (i := i + 1) hm (by omega)
  have h2 : (i + 1) * most = i * most + most := Nat.succ_mul _ _
  omega
theorem at_le {n most i : Nat} (hm : 1 ≤ most) (hi : i < cntV n most) : i * most ≤ n := by
  by_cases h0 : i = 0
  · subst h0; omega
  · have := (cnt_iff (n := n) hm (by omega)).1 hi
    omega

/-- A chunk, as a slice of the load. -/
theorem chunk_cells {w : World} {bb o ca k : Nat} {b : List UInt8} {most i : Nat} (h : Cells w (some ⟨bb, o, none⟩) b) (hk : i * most = k) (hle : k ≤ b.length) (hc : b.length ≤ ca) : Cells w (if ca = k then some ⟨bb, o, none⟩ else some ⟨bb, o + k, none⟩) (chunkV b most i) := by
  unfold chunkV
  rw [hk]
  by_cases hck : ca = k
  · have hd : b.drop k = [] := List.drop_eq_nil_of_le (by omega)
    rw [hd]
    exact ⟨fun _ => by simp, fun ad _ j hj => absurd hj (by simp)⟩
  · rw [if_neg hck]
    refine ⟨fun e => by simp at e, fun ad had j hj => ?_⟩
    obtain rfl := Option.some.inj had
    have hj2 : j < most ∧ j < b.length - k := by
      rw [List.length_take, List.length_drop] at hj
      omega
    have q := h.2 _ rfl (k + j) (by omega)
    rw [Addr.add_lit] at q ⊢
    rw [show o + k + j = o + (k + j) by omega, q]
    congr 2
    rw [List.getElem_take, List.getElem_drop]
theorem chunk_any {w : World} {a : Option Addr} {ca k : Nat} {b : List UInt8} {most i : Nat} (h : Cells w a b) (hk : i * most = k) (hle : k ≤ b.length) (hc : b.length ≤ ca) : Cells w (if ca = k then a else Option.map (fun x => x.add k) a) (chunkV b most i) := by
  cases b with
  | nil =>
    have e : chunkV [] most i = [] := by simp [chunkV]
    rw [e]
    exact ⟨fun _ => rfl, fun ad _ j hj => absurd hj (by simp)⟩
  | cons x xs =>
    obtain ⟨bb, o, rfl, -⟩ := h.addr (k := 0) (by simp)
    have q := chunk_cells h hk hle hc
    rw [show Option.map (fun x : Addr => x.add k) (some ⟨bb, o, none⟩) = some ⟨bb, o + k, none⟩ from congrArg some (Addr.add_lit _ _ _)]
    exact q
theorem chunk_size (b : List UInt8) (most i : Nat) (hm : 1 ≤ most) (hi : i < cntV b.length most) : (chunkV b most i).length = if i + 1 = cntV b.length most then b.length - i * most else most := by
  have h1 := last_iff hm hi (at_le hm hi)
  unfold chunkV
  rw [List.length_take, List.length_drop]
  split <;> omega

theorem infoS28 : (Try.prog.info? 28).map (fun i => (i.zero, i.size, i.bytes)) = some (some (.slice none 0 0), 1, 24) := by kernel_rfl

theorem below_all {w : World} {base : Nat} {v : Value} {vs : List Value} {xss : List (List UInt8)} (h : LLv w base v vs xss) : (∀ x, v.ownBlock = some x → x < w.heap.size) ∧ ∀ i, i < xss.length → ∀ x, (vs.getD i undef).ownBlock = some x → x < w.heap.size :=
  ⟨fun x hx => (h.1.lt x hx).2, fun i hi x hx => (World.ownsRow.lt (h.2.2.1 i hi) x hx).2⟩
/-- What is written from a block on that lies behind all of it. -/
theorem LLv.keptUp {w w1 w2 : World} {base g : Nat} {v f : Value} {vs : List Value} {xss : List (List UInt8)} {n : Nat} {ys : List Value} (h0 : LLv w base v vs xss) (h : LLv w1 base v vs xss) (hg : w.heap.size ≤ g) (O : w1.ownsRow g 5 1 f n ys) (K : w1.grownBy w2 f.ownBlock) : LLv w2 base v vs xss := by
  obtain ⟨b1, b2⟩ := below_all h0
  cases hf : f.ownBlock with
  | none =>
    rw [hf] at K
    exact h.keptNone K
  | some y =>
    have hy := (O.lt y hf).1
    rw [hf] at K
    exact h.keptNew K (fun x hx => by have := b1 x hx; omega) (fun i hi x hx => by have := b2 i hi x hx; omega)

end Go.Proofs.Ytkjofgnmjfngeaa

namespace Go.Proofs.Ytkjofgnmjfngeaa
open Go.RowKit
set_option maxRecDepth 100000

/-- Nothing is written but new memory, and the blocks of S. -/
structure GB (w w' : World) (S : Nat → Prop) : Prop where
  os : w'.os = w.os
  tape : w'.tape = w.tape
  output : w'.output = w.output
  size : w.heap.size ≤ w'.heap.size
  block : ∀ i, i < w.heap.size → ¬ S i → w'.heap[i]? = w.heap[i]?

theorem GB.of {w w' : World} {row : Option Nat} {S : Nat → Prop} (h : w.grownBy w' row) (hs : ∀ x, row = some x → S x) : GB w w' S :=
  ⟨h.os, h.tape, h.output, h.size, fun i hi hn => h.block i hi (fun e => hn (hs i e.symm))⟩
theorem GB.non {w w' : World} {S : Nat → Prop} (h : w.grownBy w' none) : GB w w' S := GB.of h (fun x hx => by cases hx)
theorem GB.refl (w : World) (S : Nat → Prop) : GB w w S := ⟨rfl, rfl, rfl, Nat.le_refl _, fun _ _ _ => rfl⟩
theorem GB.trans {w w1 w2 : World} {S S' : Nat → Prop} (h : GB w w1 S) (k : GB w1 w2 S') (hs : ∀ x, x < w.heap.size → S' x → S x) : GB w w2 S :=
  ⟨k.os.trans h.os, k.tape.trans h.tape, k.output.trans h.output, Nat.le_trans h.size k.size, fun i hi hn => (k.block i (Nat.lt_of_lt_of_le hi h.size) (fun e => hn (hs i hi e))).trans (h.block i hi hn)⟩
theorem GB.mono {w w' : World} {S S' : Nat → Prop} (h : GB w w' S) (hs : ∀ x, S x → S' x) : GB w w' S' := ⟨h.os, h.tape, h.output, h.size, fun i hi hn => h.block i hi (fun e => hn (hs i e))⟩
/-- Where S lies in new memory alone. -/
theorem GB.grown {w w' : World} {S : Nat → Prop} (h : GB w w' S) (hs : ∀ x, x < w.heap.size → ¬ S x) : w.grownBy w' none := ⟨h.os, h.tape, h.output, h.size, fun i hi _ => h.block i hi (hs i hi)⟩
theorem GB.one {w w' : World} {S : Nat → Prop} {g : Nat} (h : GB w w' S) (hs : ∀ x, x < w.heap.size → S x → x = g) : w.grownBy w' (some g) := ⟨h.os, h.tape, h.output, h.size, fun i hi hn => h.block i hi (fun e => hn (congrArg some (hs i hi e)))⟩

theorem GB.vat {w w' : World} {S : Nat → Prop} {g t : Nat} {cs : Array Value} (h : GB w w' S) (A : VAt w g t cs) (hg : ¬ S g) : VAt w' g t cs := by
  have := h.block g A.lt hg
  unfold VAt at *
  rw [this, A]
theorem GB.owns {w w' : World} {S : Nat → Prop} {base e size n : Nat} {v : Value} {vs : List Value} (h : GB w w' S) (O : w.ownsRow base e size v n vs) (hv : ∀ x, v.ownBlock = some x → ¬ S x) : w'.ownsRow base e size v n vs := by
  refine ⟨O.1, ?_⟩
  rcases O.2 with h0 | ⟨g, cap, cur, hv', hb, hg, r⟩
  · exact .inl h0
  · right
    refine ⟨g, cap, cur, hv', hb, ?_, r⟩
    have hlt : g < w.heap.size := by
      by_cases hh : g < w.heap.size
      · exact hh
      · rw [Array.getElem?_eq_none (by omega)] at hg; cases hg
    rw [h.block g hlt (hv g (by rw [hv']; rfl)), hg]
theorem GB.cell {w w' : World} {S : Nat → Prop} {ad : Addr} {v : Value} (h : GB w w' S) (hc : w.cell? ad = some v) (ha : ¬ S ad.block) (hlt : ad.block < w.heap.size) : w'.cell? ad = some v := by
  have := h.block ad.block hlt ha
  unfold World.cell? at *
  rw [this]
  exact hc
theorem GB.cells {w w' : World} {S : Nat → Prop} {ao : Option Addr} {xs : List UInt8} (h : GB w w' S) (hc : Cells w ao xs) (ha : ∀ ad, ao = some ad → xs ≠ [] → ¬ S ad.block) : Cells w' ao xs := by
  have hu := hc.under
  refine hc.same fun b off i hb hi => ?_
  have hne : xs ≠ [] := by
    intro e
    rw [e] at hi
    simp at hi
  have h1 := ha _ hb hne
  have h2 := hu _ hb hne
  have := h.block b h2 h1
  unfold World.cell?
  simp only [this]

end Go.Proofs.Ytkjofgnmjfngeaa

namespace Go.Proofs.Ytkjofgnmjfngeaa
open Go.RowKit
set_option maxRecDepth 100000

theorem piece_er9 {l : Lk} {b : List UInt8} {e : Int} (h : pieceV l b = .error e) : (e != 0) = true := by
  unfold pieceV at h
  split at h
  · cases h; rfl
  · cases hp : plainV l b with
    | error x => rw [hp] at h; cases h; exact plain_err hp
    | ok p =>
      rw [bind_of hp] at h
      cases hq : protoV l b p with
      | error x => rw [hq] at h; cases h; exact proto_err hq
      | ok q =>
        rw [bind_of hq] at h
        split at h
        · cases h
        · cases hh : headV l b q.2 with
          | error x => rw [hh] at h; cases h; exact head_err hh
          | ok z => rw [bind_of hh] at h; cases h

theorem owns_not {w : World} {base e size n g t : Nat} {v : Value} {vs : List Value} {cs : Array Value} (O : w.ownsRow base e size v n vs) (A : VAt w g t cs) (he : e ≠ t) : v.ownBlock ≠ some g := by
  intro hv
  rcases O.2 with ⟨rfl, -⟩ | ⟨g', cap, cur, rfl, -, hg, -⟩
  · cases hv
  · simp only [Value.ownBlock, Option.some.injEq] at hv
    subst hv
    unfold VAt at A
    rw [A] at hg
    simp only [Option.some.injEq, Obj.cells.injEq] at hg
    exact he hg.2.1.symm
theorem vat_not {w : World} {g g' t t' : Nat} {cs cs' : Array Value} (A : VAt w g t cs) (B : VAt w g' t' cs') (he : t ≠ t') : g ≠ g' := by
  rintro rfl
  unfold VAt at A B
  rw [A] at B
  simp only [Option.some.injEq, Obj.cells.injEq] at B
  exact he B.2.1

/-- The bytes from a place on, as a slice. -/
theorem drop_any {w : World} {a : Option Addr} {ca k : Nat} {b : List UInt8} (h : Cells w a b) (hle : k ≤ b.length) (hc : b.length ≤ ca) : Cells w (if ca = k then a else Option.map (fun x => x.add k) a) (b.drop k) := by
  cases b with
  | nil =>
    rw [List.drop_nil]
    exact ⟨fun _ => rfl, fun ad _ j hj => absurd hj (by simp)⟩
  | cons x xs =>
    obtain ⟨bb, o, rfl, -⟩ := h.addr (k := 0) (by simp)
    rw [show Option.map (fun x : Addr => x.add k) (some ⟨bb, o, none⟩) = some ⟨bb, o + k, none⟩ from congrArg some (Addr.add_lit _ _ _)]
    by_cases hck : ca = k
    · have hd : (x :: xs).drop k = [] := List.drop_eq_nil_of_le (by omega)
      rw [hd]
      exact ⟨fun _ => rfl, fun ad _ j hj => absurd hj (by simp)⟩
    · rw [if_neg hck]
      refine ⟨fun e => by simp at e, fun ad had j hj => ?_⟩
      obtain rfl := Option.some.inj had
      have hj2 : j < (x :: xs).length - k := by
        rw [List.length_drop] at hj
        exact hj
      have q := h.2 _ rfl (k + j) (by omega)
      rw [Addr.add_lit] at q ⊢
      rw [show o + k + j = o + (k + j) by omega, q]
      congr 2
      rw [List.getElem_drop]

/-- Bytes appended in a region that draws its order, and where they lie. -/
theorem step_append_at {P : Program} {ops : Array Oper} {o : Oper} {a : Act} {w : World} {K : Act → World → Prop} {Q : Exit → Act → World → Prop} {E : Prop}
    (hgd : o.guard = none) (s x : Operand) (t : TypeId) (ho : o.op = .call { callee := .builtin .append, args := #[s, x], argTypes := #[t, t] })
    (i : TypeInfo) (ht : P.underlying t = some (.slice 5)) (hi : P.info? 5 = some i) (hz : i.zero = some (.int .u8 0)) (hsize : i.size = 1) (hby : i.bytes = 1)
    (base : Nat) (v : Value) (xs : List UInt8) (hs : a.eval s = v) (hown : Owns w base v xs)
    (ad : Addr) (c : Nat) (ys : List UInt8) (hx : a.eval x = .slice (some ad) ys.length c) (hys : Cells w (some ad) ys)
    (hbytes : xs.length + ys.length ≤ 140737488355328) (hbase : base ≤ w.heap.size)
    (hK : ∀ v' w', Owns w' base v' (xs ++ ys) → w.grownBy w' v.ownBlock → (v'.ownBlock = v.ownBlock ∨ v'.ownBlock = some w.heap.size) → K (a.put o.dst v') w') :
    if Region.wanted o (yielded ops a.tmps) = true then Oper.wp P o a w K Q else E := by
  have hw : Region.wanted o (yielded ops a.tmps) = true := by simp [Region.wanted, hgd]
  rw [if_pos hw]
  obtain ⟨v', w', hr, h2, h3, _, h5⟩ := run_append_own_at (P := P) w base t o.type 5 i (.int .u8 0) 1 1 ht hi hz hsize hby rfl (by decide) v xs.length (xs.map bv) hown ad ys.length c (ys.map bv) (by simp) (by
    intro j u hj
    obtain ⟨hlt, e⟩ := List.getElem?_eq_some_iff.1 hj
    simp only [List.length_map] at hlt
    rw [hys.2 ad rfl j hlt, ← e]
    simp) (bv_one ys) (by unfold maxLen; omega) (by omega) hbase
  unfold Oper.wp execOp
  simp only [ho, resolve, invoke, builtin, Sem.run_bind, Sem.run_pure, Result.andThen_ok, List.map_toArray, List.map_cons, List.map_nil, hs, hx, hr]
  refine hK v' w' ?_ h3 h5
  unfold Owns
  rw [List.length_append, List.map_append]
  exact h2

theorem fed_eq {sp sq nn : Nat} {u : Bs} {be fi o1 o2 : Bool} {c h1 h2 : List UInt8} (e1 : (if sq = u.nxt then u.opn else false) = o1 ∧ (if sq = u.nxt then u.has else []) = h1) (e2 : (be || o1) = o2 ∧ (if be = true then c else if o1 = true then h1 ++ c else h1) = h2) (hn : (sq + 1) % sp = nn) :
    fedV sp u sq be fi c = if 65535 < h2.length then (⟨nn, false, []⟩, [], false) else if o2 = true ∧ fi = true then (⟨nn, false, []⟩, h2, true) else (⟨nn, o2, h2⟩, [], false) := by
  obtain ⟨a1, a2⟩ := e1
  obtain ⟨b1, b2⟩ := e2
  subst a1 a2 b1 b2 hn
  unfold fedV
  cases be
  · by_cases hs : sq = u.nxt
    · cases u.opn <;> simp [hs]
    · simp [hs]
  · simp

end Go.Proofs.Ytkjofgnmjfngeaa

namespace Go.Proofs.Ytkjofgnmjfngeaa
open Go.RowKit
set_option maxRecDepth 100000

/-- Lists of bytes laid in a row, and joined. -/
theorem lit_join (ps : List Part) (n : Nat) (hn' : ps.length = n) (t : TypeId) (W : World) (hok : ∀ p ∈ ps, p.ok W) (hn : n ≤ 100) (hm : (joinS ps).length ≤ 140737488355328) :
    Calls Try.prog 16 #[.slice (some ⟨W.heap.size, 0, none⟩) n n] (W.alloc (.cells (ps.map Part.v).toArray t)) fun e w' => ∃ v, e = .returned v ∧ Owns w' W.heap.size v (joinS ps) ∧ (W.alloc (.cells (ps.map Part.v).toArray t)).grownBy w' none := by
  subst hn'
  have K := World.grownBy_alloc W (.cells (ps.map Part.v).toArray t) none
  have C1 := cv_lit W t (ps.map Part.v)
  refine (join_any (some ⟨W.heap.size, 0, none⟩) ps.length ps _ C1 (fun p hp => (hok p hp).kept K) (by omega) hm).mono ?_
  rintro e w' ⟨v, rfl, O, K'⟩
  exact ⟨v, rfl, owns_mono O (by simp), K'⟩

/-- Two parts joined. -/
theorem lit_two {W : World} {a1 a2 : Option Addr} {k1 k2 : Nat} {x1 x2 : List UInt8} (t : TypeId) (C1 : Cells W a1 x1) (z1 : a1 = none → k1 = 0) (C2 : Cells W a2 x2) (z2 : a2 = none → k2 = 0) (hm : x1.length + x2.length ≤ 140737488355328) :
    Calls Try.prog 16 #[.slice (some ⟨W.heap.size, 0, none⟩) 2 2] (W.alloc (.cells #[.slice a1 x1.length k1, .slice a2 x2.length k2] t)) fun e w' => ∃ v, e = .returned v ∧ Owns w' W.heap.size v (x1 ++ x2) ∧ (W.alloc (.cells #[.slice a1 x1.length k1, .slice a2 x2.length k2] t)).grownBy w' none := by
  have k := lit_join [⟨a1, k1, x1⟩, ⟨a2, k2, x2⟩] 2 rfl t W (by simpa using ⟨⟨C1, z1⟩, ⟨C2, z2⟩⟩) (by omega) (by simpa [joinS] using hm)
  have e : joinS [⟨a1, k1, x1⟩, ⟨a2, k2, x2⟩] = x1 ++ x2 := by simp [joinS]
  rw [e] at k
  exact k

/-- One part copied. -/
theorem lit_one {W : World} {a1 : Option Addr} {k1 : Nat} {x1 : List UInt8} (t : TypeId) (C1 : Cells W a1 x1) (z1 : a1 = none → k1 = 0) (hm : x1.length ≤ 140737488355328) :
    Calls Try.prog 16 #[.slice (some ⟨W.heap.size, 0, none⟩) 1 1] (W.alloc (.cells #[.slice a1 x1.length k1] t)) fun e w' => ∃ v, e = .returned v ∧ Owns w' W.heap.size v x1 ∧ (W.alloc (.cells #[.slice a1 x1.length k1] t)).grownBy w' none := by
  have k := lit_join [⟨a1, k1, x1⟩] 1 rfl t W (by simpa using ⟨C1, z1⟩) (by omega) (by simpa [joinS] using hm)
  have e : joinS [⟨a1, k1, x1⟩] = x1 := by simp [joinS]
  rw [e] at k
  exact k

/-- Three parts joined. -/
theorem lit_three {W : World} {a1 a2 a3 : Option Addr} {k1 k2 k3 : Nat} {x1 x2 x3 : List UInt8} (t : TypeId) (C1 : Cells W a1 x1) (z1 : a1 = none → k1 = 0) (C2 : Cells W a2 x2) (z2 : a2 = none → k2 = 0) (C3 : Cells W a3 x3) (z3 : a3 = none → k3 = 0) (hm : x1.length + (x2.length + x3.length) ≤ 140737488355328) :
    Calls Try.prog 16 #[.slice (some ⟨W.heap.size, 0, none⟩) 3 3] (W.alloc (.cells #[.slice a1 x1.length k1, .slice a2 x2.length k2, .slice a3 x3.length k3] t)) fun e w' => ∃ v, e = .returned v ∧ Owns w' W.heap.size v (x1 ++ (x2 ++ x3)) ∧ (W.alloc (.cells #[.slice a1 x1.length k1, .slice a2 x2.length k2, .slice a3 x3.length k3] t)).grownBy w' none := by
  have k := lit_join [⟨a1, k1, x1⟩, ⟨a2, k2, x2⟩, ⟨a3, k3, x3⟩] 3 rfl t W (by simpa using ⟨⟨C1, z1⟩, ⟨C2, z2⟩, ⟨C3, z3⟩⟩) (by omega) (by simpa [joinS] using hm)
  have e : joinS [⟨a1, k1, x1⟩, ⟨a2, k2, x2⟩, ⟨a3, k3, x3⟩] = x1 ++ (x2 ++ x3) := by simp [joinS]
  rw [e] at k
  exact k

end Go.Proofs.Ytkjofgnmjfngeaa
