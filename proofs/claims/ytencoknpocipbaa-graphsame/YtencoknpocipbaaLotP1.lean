/-
  What a slice of bytes reads as, what is owned, and how both stay behind calls: no Go text here. SameBytes of two lists that read alike answers true. CopyBytes, LendBytes: new memory that reads as what was handed in. SpoilBytes writes its own block alone; KeptBytes tells that what was lent is as it was.
-/
import Derived.Test.YtencoknpocipbaaProg
import Derived.WalkKit
import Derived.WalkSpells
import Derived.WalkLawsBesides
import Derived.Deep.QuietTactic
import Derived.BigQuiet
import Derived.Laws.AppendOwnNone
namespace Go.Proofs.Ytencoknpocipbaa
open Go.RowKit
set_option maxRecDepth 100000

/-- A byte as a cell. -/
def bv (c : UInt8) : Value := .int .u8 (c.toNat : Int)

/-- The cells from an address on read as these bytes (no address: no bytes). -/
def Cells (w : World) (ao : Option Addr) (xs : List UInt8) : Prop :=
  (ao = none → xs = []) ∧ ∀ ad, ao = some ad → ∀ i (h : i < xs.length), w.cell? (ad.add i) = some (bv xs[i])

theorem Cells.addr {w : World} {ao : Option Addr} {xs : List UInt8} (h : Cells w ao xs) {k : Nat} (hk : k < xs.length) :
    ∃ b off, ao = some ⟨b, off, none⟩ ∧ ∀ i (hi : i < xs.length), w.cell? ⟨b, off + i, none⟩ = some (.int .u8 (xs[i].toNat : Int)) := by
  cases ao with
  | none => have := h.1 rfl; subst this; simp at hk
  | some ad =>
    obtain ⟨b, off, spot⟩ := ad
    have h0 := h.2 _ rfl 0 (by omega)
    have hspot : spot = none := by simpa [Addr.add] using World.cell?_spot h0
    subst hspot
    refine ⟨b, off, rfl, fun i hi => ?_⟩
    have := h.2 _ rfl i hi
    rw [Addr.add_lit] at this
    exact this

theorem Cells.same {w w' : World} {ao : Option Addr} {xs : List UInt8} (h : Cells w ao xs) (hs : ∀ b off i, ao = some ⟨b, off, none⟩ → i < xs.length → w'.cell? ⟨b, off + i, none⟩ = w.cell? ⟨b, off + i, none⟩) : Cells w' ao xs := by
  refine ⟨h.1, fun ad had i hi => ?_⟩
  obtain ⟨b, off, hao, hc⟩ := h.addr hi
  rw [hao] at had
  obtain rfl := Option.some.inj had
  rw [Addr.add_lit, hs b off i hao hi]
  exact hc i hi

/-- Where the bytes lie: below a block's number. -/
def Under (ao : Option Addr) (xs : List UInt8) (B : Nat) : Prop := ∀ ad, ao = some ad → xs ≠ [] → ad.block < B

theorem Cells.under {w : World} {ao : Option Addr} {xs : List UInt8} (h : Cells w ao xs) : Under ao xs w.heap.size := by
  intro ad had hne
  have hl : 0 < xs.length := List.length_pos_iff.2 hne
  have := World.block_lt_of_cell? w _ (h.2 ad had 0 hl)
  simpa [Addr.add] using this

/-- Bytes stay behind whatever writes other blocks alone. -/
theorem Cells.kept {w w' : World} {row : Option Nat} {ao : Option Addr} {xs : List UInt8} (h : Cells w ao xs) (hg : w.grownBy w' row) (hne : ∀ ad, ao = some ad → xs ≠ [] → some ad.block ≠ row) : Cells w' ao xs := by
  refine h.same fun b off i hao hi => World.cell?_of_block (hg.block b ?_ ?_)
  · have := h.under _ hao (by intro e; subst e; simp at hi)
    exact this
  · exact hne _ hao (by intro e; subst e; simp at hi)

theorem Cells.keptNone {w w' : World} {ao : Option Addr} {xs : List UInt8} (h : Cells w ao xs) (hg : w.grownBy w' none) : Cells w' ao xs := h.kept hg (fun _ _ _ => by simp)

theorem Cells.below {w w' : World} {B : Nat} {ao : Option Addr} {xs : List UInt8} (h : Cells w ao xs) (hu : Under ao xs B) (hb : Below B w w') : Cells w' ao xs := by
  refine h.same fun b off i hao hi => hb.cell (p := ⟨b, off + i, none⟩) ?_
  show b < B
  exact hu ⟨b, off, none⟩ hao (by intro e; subst e; simp at hi)

theorem Under.mono {ao : Option Addr} {xs : List UInt8} {B C : Nat} (h : Under ao xs B) (hB : B ≤ C) : Under ao xs C := fun ad had hne => Nat.lt_of_lt_of_le (h ad had hne) hB

theorem grown_drewN (w : World) (n : Nat) (row : Option Nat) : w.grownBy (w.drewN n) row := ⟨rfl, rfl, rfl, Nat.le_refl _, fun _ _ _ => rfl⟩

theorem grown_trans {a b c : World} {row : Option Nat} (h : a.grownBy b row) (k : b.grownBy c row) : a.grownBy c row :=
  ⟨k.os.trans h.os, k.tape.trans h.tape, k.output.trans h.output, Nat.le_trans h.size k.size, fun i hi hne => (k.block i (Nat.lt_of_lt_of_le hi h.size) hne).trans (h.block i hi hne)⟩

/-- A second step that writes a row which the first one made. -/
theorem grown_trans_new {a b c : World} {row : Option Nat} {g : Option Nat} (h : a.grownBy b row) (k : b.grownBy c g) (hg : ∀ x, g = some x → a.heap.size ≤ x) : a.grownBy c row :=
  ⟨k.os.trans h.os, k.tape.trans h.tape, k.output.trans h.output, Nat.le_trans h.size k.size, fun i hi hne => (k.block i (Nat.lt_of_lt_of_le hi h.size) (fun e => by have := hg i e.symm; omega)).trans (h.block i hi hne)⟩

theorem grown_mono {a b : World} {row : Option Nat} (h : a.grownBy b none) : a.grownBy b row := ⟨h.os, h.tape, h.output, h.size, fun i hi _ => h.block i hi (by simp)⟩

theorem below_of_grown {B : Nat} {a w w' : World} {row : Option Nat} (h : Below B a w) (hg : w.grownBy w' row) (hB : B ≤ w.heap.size) (hr : ∀ k, row = some k → B ≤ k) : Below B a w' := h.grown hg hB hr

/-- An owned row of bytes. -/
abbrev Owns (w : World) (base : Nat) (v : Value) (xs : List UInt8) : Prop := w.ownsRow base 5 1 v xs.length (xs.map bv)

theorem bv_one (xs : List UInt8) : ∀ u ∈ xs.map bv, u.oneCell' = true := by
  intro u hu
  obtain ⟨x, _, rfl⟩ := List.mem_map.1 hu
  rfl

/-- An owned row, as bytes that are read. -/
theorem Owns.shape {w : World} {base : Nat} {v : Value} {xs : List UInt8} (h : Owns w base v xs) :
    ∃ ao cap, v = .slice ao xs.length cap ∧ Cells w ao xs ∧ xs.length ≤ cap ∧ cap ≤ maxLen ∧ (∀ ad, ao = some ad → base ≤ ad.block ∧ ad.block < w.heap.size) ∧ v.ownBlock = ao.map (·.block) := by
  have hl := h.lt
  rcases h.2 with ⟨rfl, hn⟩ | ⟨g, cap, cur, rfl, hb, hg, hc, hm, hs, ht⟩
  · refine ⟨none, 0, by rw [hn], ⟨fun _ => List.eq_nil_of_length_eq_zero hn, fun ad had => (by cases had)⟩, by omega, Nat.zero_le _, fun ad had => (by cases had), rfl⟩
  · refine ⟨some ⟨g, 0, none⟩, cap, rfl, ⟨fun h => (by cases h), fun ad had i hi => ?_⟩, hc, hm, fun ad had => ?_, rfl⟩
    · obtain rfl := Option.some.inj had
      exact h.cells (g := g) rfl i _ (by simp [hi])
    · obtain rfl := Option.some.inj had
      exact hl g rfl

/-- An owned row that is not nil lies at the head of its block. -/
theorem Owns.head {w : World} {base : Nat} {v : Value} {xs : List UInt8} (h : Owns w base v xs) (hne : v ≠ .slice none 0 0) :
    ∃ g cap, v = .slice (some ⟨g, 0, none⟩) xs.length cap ∧ xs.length ≤ cap ∧ cap ≤ maxLen ∧ base ≤ g ∧ g < w.heap.size := by
  have hl := h.lt
  rcases h.2 with ⟨rfl, hn⟩ | ⟨g, cap, cur, rfl, hb, hg, hc, hm, hs, ht⟩
  · exact absurd rfl hne
  · exact ⟨g, cap, rfl, hc, hm, (hl g rfl).1, (hl g rfl).2⟩

theorem Owns.headL {w : World} {base : Nat} {v : Value} {xs : List UInt8} (h : Owns w base v xs) (hne : 0 < xs.length) :
    ∃ g cap, v = .slice (some ⟨g, 0, none⟩) xs.length cap ∧ xs.length ≤ cap ∧ cap ≤ maxLen ∧ base ≤ g ∧ g < w.heap.size := by
  refine h.head ?_
  rintro rfl
  rcases h.2 with ⟨_, hn⟩ | ⟨g, cap, cur, hv, _⟩
  · omega
  · cases hv

theorem owns_made (w : World) (base : Nat) (hb : base ≤ w.heap.size) : Owns (w.alloc (.cells #[] 5)) base (.slice (some ⟨w.heap.size, 0, none⟩) 0 0) [] :=
  World.ownsRow_made w #[] 0 hb (Nat.zero_le _) rfl

/-- Bytes that stand written out, in a new block. -/
theorem owns_lit (w : World) (base : Nat) (hb : base ≤ w.heap.size) (xs : List UInt8) (hx : xs.length ≤ maxLen) : Owns (w.alloc (.cells (xs.map bv).toArray 5)) base (.slice (some ⟨w.heap.size, 0, none⟩) xs.length xs.length) xs := by
  have h := World.ownsRow_lit (e := 5) (size := 1) w (xs.map bv).toArray xs.length hb hx (by simp)
  simpa using h

theorem cells_lit (w : World) (xs : List UInt8) : Cells (w.alloc (.cells (xs.map bv).toArray 5)) (some ⟨w.heap.size, 0, none⟩) xs := by
  refine ⟨fun h => (by cases h), fun ad had i hi => ?_⟩
  obtain rfl := Option.some.inj had
  have hh : (w.alloc (.cells (xs.map bv).toArray 5)).heap[w.heap.size]? = some (.cells (xs.map bv).toArray 5 (0, 0)) := heap_alloc_new w _
  rw [Addr.add_lit, Nat.zero_add, cell_of_row _ w.heap.size i _ _ _ hh]
  simp [hi]

/-- What was lent: bytes with three marked ones behind them. -/
def Lent (w : World) (base : Nat) (v : Value) (xs : List UInt8) : Prop :=
  ∃ g cap, v = .slice (some ⟨g, 0, none⟩) xs.length cap ∧ xs.length + 3 ≤ cap ∧ cap ≤ maxLen ∧ base ≤ g ∧ g < w.heap.size ∧ w.ownsRow base 5 1 (.slice (some ⟨g, 0, none⟩) (xs.length + 3) cap) (xs.length + 3) ((xs ++ [201, 201, 201]).map bv)

/-- 'append(dst, src...)': dst the call's own, src whatever is read: nil, empty or not. -/
theorem wpList_append_rd {P : Program} {w : World} {ops : Array Oper} {rest : List Oper} {o : Oper} {a : Act} {Q : Exit → Act → World → Prop} (hgd : o.guard = none) (s x : Operand) (t : TypeId)
    (ho : o.op = .call { callee := .builtin .append, args := #[s, x], argTypes := #[t, t] })
    (i : TypeInfo) (ht : P.underlying t = some (.slice 5)) (hi : P.info? 5 = some i) (hz : i.zero = some (.int .u8 0)) (hsize : i.size = 1) (hby : i.bytes = 1)
    (base : Nat) (v : Value) (xs : List UInt8) (hs : a.eval s = v) (hown : Owns w base v xs)
    (ao : Option Addr) (c : Nat) (ys : List UInt8) (hx : a.eval x = .slice ao ys.length c) (hc0 : ao = none → c = 0) (hys : Cells w ao ys)
    (hbytes : xs.length + ys.length ≤ 140737488355328) (hbase : base ≤ w.heap.size)
    (h : ∀ v' w', Owns w' base v' (xs ++ ys) → w.grownBy w' v.ownBlock → wpList P ops Q rest (a.put o.dst v') w') : wpList P ops Q (o :: rest) a w := by
  cases ao with
  | none =>
    have e := hys.1 rfl
    subst e
    have e := hc0 rfl
    subst e
    refine wpList_append_own_none hgd s x t ho base 5 i 1 ht hi v xs.length (xs.map bv) hs hown (by simpa using hx) (h v w (by simpa using hown) (World.grownBy.refl _ _))
  | some ad =>
    refine wpList_append_own w hgd s x t ho base 5 i (.int .u8 0) 1 1 ht hi hz hsize hby rfl (by decide) v xs.length (xs.map bv) hs hown ad ys.length c (ys.map bv) hx (by simp) ?_ (bv_one ys) (by unfold maxLen; omega) (by omega) hbase ?_
    · intro j u hj
      obtain ⟨hlt, e⟩ := List.getElem?_eq_some_iff.1 hj
      simp only [List.length_map] at hlt
      rw [hys.2 ad rfl j hlt, ← e]
      simp
    · intro v' w' h1 h2 _
      refine h v' w' ?_ h2
      unfold Owns
      rw [List.length_append, List.map_append]
      exact h1

end Go.Proofs.Ytencoknpocipbaa

namespace Go.Proofs.Ytencoknpocipbaa
open Go.RowKit
set_option maxRecDepth 100000

end Go.Proofs.Ytencoknpocipbaa

namespace Go.Proofs.Ytencoknpocipbaa
open Go.RowKit
set_option maxRecDepth 100000

theorem info5 : (Try.prog.info? 5).map (fun i => (i.zero, i.size, i.bytes)) = some (some (.int .u8 0), 1, 1) := by kernel_rfl

set_option maxHeartbeats 400000 in
theorem copy_any (a : Option Addr) (ca : Nat) (xs : List UInt8) (w : World) (ha : Cells w a xs) (hc0 : a = none → ca = 0) (hm : xs.length ≤ 140737488355328) :
    Calls Try.prog 11 #[.slice a xs.length ca] w fun e w' => ∃ v, e = .returned v ∧ Owns w' w.heap.size v xs ∧ w.grownBy w' none := by
  obtain ⟨i0, hi, hz0, hz1, hz2⟩ := info_parts info5
  have H : Hid (Cells w a xs) := ha
  clear ha
  go_enter Try.func11, Try.ntmps11
  go_wp2_with (at_builtin; refine wpList_append_rd rfl (.tmp 3) (.tmp 4) 23 rfl i0 Try.underlying23 hi hz0 hz1 hz2 w.heap.size _ [] rfl ?q1 a ca xs rfl hc0 ?q2 ?q3 ?q4 ?q5)
  case q1 => exact owns_made w _ (Nat.le_refl _)
  case q2 => exact H.out.keptNone (World.grownBy_alloc _ _ _)
  case q3 => simpa using hm
  case q4 => simp
  case q5 =>
    intro v' w' h1 h2
    have G : w.grownBy w' none := grown_trans_new (World.grownBy_alloc w _ _) h2 (by intro x hx; simp [Value.ownBlock] at hx; omega)
    clear h2
    go_wp2
    go_ret
    exact ⟨v', rfl, h1, G⟩

end Go.Proofs.Ytencoknpocipbaa

namespace Go.Proofs.Ytencoknpocipbaa
open Go.RowKit
set_option maxRecDepth 100000

/-- A block of bytes that may be written. -/
def Blk (w : World) (g cap : Nat) : Prop := ∃ cur : Array Value, w.heap[g]? = some (.cells cur 5 (0, 0)) ∧ cur.size = cap

theorem Blk.cell {w : World} {g cap : Nat} (h : Blk w g cap) {i : Nat} (hi : i < cap) : ∃ u, w.cell? ⟨g, i, none⟩ = some u := by
  obtain ⟨cur, hh, hs⟩ := h
  refine ⟨cur[i], ?_⟩
  rw [cell_of_row w g i cur _ _ hh]
  simp

theorem Blk.free {w : World} {g cap : Nat} (h : Blk w g cap) (i : Nat) : w.frozen? ⟨g, i, none⟩ = false := by
  obtain ⟨cur, hh, hs⟩ := h
  simp [World.frozen?, hh]

theorem Blk.lt {w : World} {g cap : Nat} (h : Blk w g cap) : g < w.heap.size := by
  obtain ⟨cur, hh, hs⟩ := h
  exact (Array.getElem?_eq_some_iff.1 hh).1

theorem Blk.setCell {w : World} {g cap : Nat} (h : Blk w g cap) (a : Addr) (u : Value) : Blk (w.setCell a u) g cap := by
  obtain ⟨cur, hh, hs⟩ := h
  by_cases e : g = a.block
  · subst e
    by_cases hsp : a.spot.isSome = true
    · refine ⟨cur, ?_, hs⟩
      simp only [World.setCell, Array.getElem?_modify, hh]
      simp [hsp]
    · refine ⟨cur.setIfInBounds a.off u, ?_, by simpa using hs⟩
      simp only [World.setCell, Array.getElem?_modify, hh]
      simp [hsp]
  · exact ⟨cur, by rw [Below.heap_setCell _ _ _ _ e]; exact hh, hs⟩

theorem Blk.kept {w w' : World} {g cap : Nat} {row : Option Nat} (h : Blk w g cap) (hg : w.grownBy w' row) (hne : some g ≠ row) : Blk w' g cap := by
  have hl := h.lt
  obtain ⟨cur, hh, hs⟩ := h
  exact ⟨cur, by rw [hg.block g hl hne]; exact hh, hs⟩

theorem Blk.ofRow {w : World} {base g n cap : Nat} {xs : List Value} (h : w.ownsRow base 5 1 (.slice (some ⟨g, 0, none⟩) n cap) n xs) : Blk w g cap ∧ n ≤ cap ∧ cap ≤ maxLen := by
  rcases h.2 with ⟨h, _⟩ | ⟨g', cap', cur, hv, hb, hg, hc, hm, hs, ht⟩
  · cases h
  · simp only [Value.slice.injEq, Option.some.injEq, Addr.mk.injEq] at hv
    obtain ⟨⟨rfl, _⟩, _, rfl⟩ := hv
    exact ⟨⟨cur, hg, by simpa using hs⟩, hc, hm⟩

theorem grown_set1 (w : World) (p : Addr) (u : Value) : w.grownBy (w.setCell p u) (some p.block) :=
  ⟨rfl, rfl, rfl, by simp, fun i _ hne => Below.heap_setCell _ _ _ _ (fun e => hne (by rw [e]))⟩

theorem grown_setCell {a w : World} {row : Option Nat} (h : a.grownBy w row) (p : Addr) (u : Value) (hp : row = some p.block ∨ a.heap.size ≤ p.block) : a.grownBy (w.setCell p u) row := by
  rcases hp with e | e
  · subst e
    exact grown_trans h (grown_set1 w p u)
  · exact grown_trans_new h (grown_set1 w p u) (by intro x hx; obtain rfl := Option.some.inj hx; exact e)

theorem Blk.row {w : World} {g cap : Nat} (h : Blk w g cap) (n : Nat) (hn : n ≤ cap) (hm : cap ≤ maxLen) : ∃ xs : List Value, w.ownsRow 0 5 1 (.slice (some ⟨g, 0, none⟩) n cap) n xs := by
  obtain ⟨cur, hh, hs⟩ := h
  exact ⟨cur.toList.take (n * 1), by simp; omega, .inr ⟨g, cap, cur, rfl, Nat.zero_le _, hh, hn, hm, by simpa using hs, rfl⟩⟩

/-- 'append(x, ..)', x at its block's head: it stays there, or lies in a new block. -/
theorem wpList_append_blk {P : Program} {w : World} {ops : Array Oper} {rest : List Oper} {o : Oper} {a : Act} {Q : Exit → Act → World → Prop} (hgd : o.guard = none) (s x : Operand) (t : TypeId)
    (ho : o.op = .call { callee := .builtin .append, args := #[s, x], argTypes := #[t, t] })
    (i : TypeInfo) (ht : P.underlying t = some (.slice 5)) (hi : P.info? 5 = some i) (hz : i.zero = some (.int .u8 0)) (hsize : i.size = 1) (hby : i.bytes = 1)
    (g n cap : Nat) (hs : a.eval s = .slice (some ⟨g, 0, none⟩) n cap) (hb : Blk w g cap) (hn : n ≤ cap) (hm : cap ≤ maxLen)
    (ad : Addr) (c : Nat) (ys : List UInt8) (hx : a.eval x = .slice (some ad) ys.length c) (hys : Cells w (some ad) ys)
    (hbytes : n + ys.length ≤ 140737488355328)
    (h : ∀ g' cap' w', (g' = g ∨ w.heap.size ≤ g') → Blk w' g cap → Blk w' g' cap' → n + ys.length ≤ cap' → cap' ≤ maxLen → w.grownBy w' (some g) → wpList P ops Q rest (a.put o.dst (.slice (some ⟨g', 0, none⟩) (n + ys.length) cap')) w') : wpList P ops Q (o :: rest) a w := by
  obtain ⟨xs, hrow⟩ := hb.row n hn hm
  have hcells : ∀ j u, (ys.map bv)[j]? = some u → w.cell? (ad.add j) = some u := by
    intro j u hj
    obtain ⟨hlt, e⟩ := List.getElem?_eq_some_iff.1 hj
    simp only [List.length_map] at hlt
    rw [hys.2 ad rfl j hlt, ← e]
    simp
  by_cases hr : n + ys.length ≤ cap
  · refine wpList_append_fits w hgd s x t ho 0 5 i 1 ht hi hsize g n cap xs hs hrow ad ys.length c (ys.map bv) hx (by simp) hcells (bv_one ys) hr ?_
    intro w' h1 h2
    have k := Blk.ofRow h1
    exact h g cap w' (.inl rfl) k.1 k.1 k.2.1 k.2.2 h2
  · refine wpList_append_grows w hgd s x t ho 5 i (.int .u8 0) 1 1 ht hi hz hsize hby rfl (by decide) (some ⟨g, 0, none⟩) n cap xs hs (by simp) hrow.1 ?_ ad ys.length c (ys.map bv) hx (by simp) hcells (bv_one ys) (by omega) (by unfold maxLen; omega) (by omega) ?_
    · intro b hb' j u hj
      obtain rfl := Option.some.inj hb'
      exact hrow.cells (g := g) rfl j u hj
    · intro v' w' h1 h2
      rcases h1.2 with ⟨rfl, hn0⟩ | ⟨g', cap', cur, rfl, hbb, hgg, hc, hmm, hss, htt⟩
      · omega
      · exact h g' cap' w' (.inr hbb) (hb.kept h2 (by simp)) ⟨cur, hgg, by simpa using hss⟩ hc hmm (grown_mono h2)

/-- The two loops of SpoilBytes, behind its append. -/
def SpoilRel (w : World) (row : Option Nat) (g g' cap cap' : Nat) (wr : World) : Prop := Blk wr g cap ∧ Blk wr g' cap' ∧ w.grownBy wr row

theorem SpoilRel.store1 {w wr : World} {row : Option Nat} {g g' cap cap' : Nat} (h : SpoilRel w row g g' cap cap' wr) (hp : row = some g ∨ w.heap.size ≤ g) (i : Nat) (u : Value) : SpoilRel w row g g' cap cap' (wr.setCell ⟨g, i, none⟩ u) :=
  ⟨h.1.setCell _ _, h.2.1.setCell _ _, grown_setCell h.2.2 _ _ hp⟩

theorem SpoilRel.store2 {w wr : World} {row : Option Nat} {g g' cap cap' : Nat} (h : SpoilRel w row g g' cap cap' wr) (hp : row = some g' ∨ w.heap.size ≤ g') (i : Nat) (u : Value) : SpoilRel w row g g' cap cap' (wr.setCell ⟨g', i, none⟩ u) :=
  ⟨h.1.setCell _ _, h.2.1.setCell _ _, grown_setCell h.2.2 _ _ hp⟩

/-- The first bytes of an owned row, and those behind. -/
theorem cells_front {w : World} {base g cap n : Nat} {xs ys : List UInt8} (h : w.ownsRow base 5 1 (.slice (some ⟨g, 0, none⟩) n cap) n ((xs ++ ys).map bv)) : Cells w (some ⟨g, 0, none⟩) xs ∧ Cells w (some ⟨g, xs.length, none⟩) ys := by
  refine ⟨⟨fun h => (by cases h), fun ad had i hi => ?_⟩, ⟨fun h => (by cases h), fun ad had i hi => ?_⟩⟩
  · obtain rfl := Option.some.inj had
    refine h.cells (g := g) rfl i _ ?_
    rw [List.map_append, List.getElem?_append_left (by simpa using hi)]
    simp [hi]
  · obtain rfl := Option.some.inj had
    have := h.cells (g := g) rfl (xs.length + i) (bv ys[i]) (by simp [hi])
    rw [Addr.add_lit, Nat.zero_add] at this
    rw [Addr.add_lit]
    exact this

end Go.Proofs.Ytencoknpocipbaa
