import Derived.Test.YtcodofamdhcfiaaGreatProg
import Derived.WalkKit
import Derived.WalkSpells
import Derived.WalkLawsBesides
import Derived.Deep.QuietTactic
import Derived.BigQuiet
import Derived.Laws.AppendOwnNone
import Derived.Deep.RegionLaw
namespace Go.Proofs.YtcodofamdhcfiaaGreat
open Go.RowKit
set_option maxRecDepth 100000
def bv (c : UInt8) : Value := .int .u8 (c.toNat : Int)
def Cells (w : World) (ao : Option Addr) (xs : List UInt8) : Prop :=
 (ao = none → xs = []) ∧ ∀ ad, ao = some ad → ∀ i (h : i < xs.length), w.cell? (ad.add i) = some (bv xs[i])
theorem Cells.addr {w : World} {ao : Option Addr} {xs : List UInt8} (h : Cells w ao xs) {k : Nat} (hk : k < xs.length) :
  ∃ b off, ao = some ⟨b, off, none⟩ ∧ ∀ i (hi : i < xs.length), w.cell? ⟨b, off + i, none⟩ = some (.int .u8 (xs[i].toNat : Int)) := by
 cases ao with
 | none => have := h.1 rfl; subst this; simp at hk
 | some ad =>
  obtain ⟨b, off, spot⟩ := ad
  have h0 := h.2 _ rfl 0 (by omega)
  have hspot : spot = none := by simpa [Addr.add] using World.cell?_spot h0
  subst hspot
  refine ⟨b, off, rfl, fun i hi => ?_⟩
  have := h.2 _ rfl i hi
  rw [Addr.add_lit] at this
  exact this
theorem Cells.same {w w' : World} {ao : Option Addr} {xs : List UInt8} (h : Cells w ao xs) (hs : ∀ b off i, ao = some ⟨b, off, none⟩ → i < xs.length → w'.cell? ⟨b, off + i, none⟩ = w.cell? ⟨b, off + i, none⟩) : Cells w' ao xs := by
 refine ⟨h.1, fun ad had i hi => ?_⟩
 obtain ⟨b, off, hao, hc⟩ := h.addr hi
 rw [hao] at had
 obtain rfl := Option.some.inj had
 rw [Addr.add_lit, hs b off i hao hi]
 exact hc i hi
def Under (ao : Option Addr) (xs : List UInt8) (B : Nat) : Prop := ∀ ad, ao = some ad → xs ≠ [] → ad.block < B
theorem Cells.under {w : World} {ao : Option Addr} {xs : List UInt8} (h : Cells w ao xs) : Under ao xs w.heap.size := by
 intro ad had hne
 have hl : 0 < xs.length := List.length_pos_iff.2 hne
 have := World.block_lt_of_cell? w _ (h.2 ad had 0 hl)
 simpa [Addr.add] using this
theorem Cells.kept {w w' : World} {row : Option Nat} {ao : Option Addr} {xs : List UInt8} (h : Cells w ao xs) (hg : w.grownBy w' row) (hne : ∀ ad, ao = some ad → xs ≠ [] → some ad.block ≠ row) : Cells w' ao xs := by
 refine h.same fun b off i hao hi => World.cell?_of_block (hg.block b ?_ ?_)
 ·have := h.under _ hao (by intro e; subst e; simp at hi)
  exact this
 ·exact hne _ hao (by intro e; subst e; simp at hi)
theorem Cells.keptNone {w w' : World} {ao : Option Addr} {xs : List UInt8} (h : Cells w ao xs) (hg : w.grownBy w' none) : Cells w' ao xs := h.kept hg (fun _ _ _ => by simp)
theorem Under.mono {ao : Option Addr} {xs : List UInt8} {B C : Nat} (h : Under ao xs B) (hB : B ≤ C) : Under ao xs C := fun ad had hne => Nat.lt_of_lt_of_le (h ad had hne) hB
theorem grown_drewN (w : World) (n : Nat) (row : Option Nat) : w.grownBy (w.drewN n) row := ⟨rfl, rfl, rfl, Nat.le_refl _, fun _ _ _ => rfl⟩
theorem grown_trans {a b c : World} {row : Option Nat} (h : a.grownBy b row) (k : b.grownBy c row) : a.grownBy c row :=
 ⟨k.os.trans h.os, k.tape.trans h.tape, k.output.trans h.output, Nat.le_trans h.size k.size, fun i hi hne => (k.block i (Nat.lt_of_lt_of_le hi h.size) hne).trans (h.block i hi hne)⟩
theorem grown_trans_new {a b c : World} {row : Option Nat} {g : Option Nat} (h : a.grownBy b row) (k : b.grownBy c g) (hg : ∀ x, g = some x → a.heap.size ≤ x) : a.grownBy c row :=
 ⟨k.os.trans h.os, k.tape.trans h.tape, k.output.trans h.output, Nat.le_trans h.size k.size, fun i hi hne => (k.block i (Nat.lt_of_lt_of_le hi h.size) (fun e => by have := hg i e.symm; omega)).trans (h.block i hi hne)⟩
theorem grown_mono {a b : World} {row : Option Nat} (h : a.grownBy b none) : a.grownBy b row := ⟨h.os, h.tape, h.output, h.size, fun i hi _ => h.block i hi (by simp)⟩
abbrev Owns (w : World) (base : Nat) (v : Value) (xs : List UInt8) : Prop := w.ownsRow base 5 1 v xs.length (xs.map bv)
theorem bv_one (xs : List UInt8) : ∀ u ∈ xs.map bv, u.oneCell' = true := by
 intro u hu
 obtain ⟨x, _, rfl⟩ := List.mem_map.1 hu
 rfl
theorem Owns.head {w : World} {base : Nat} {v : Value} {xs : List UInt8} (h : Owns w base v xs) (hne : v ≠ .slice none 0 0) :
  ∃ g cap, v = .slice (some ⟨g, 0, none⟩) xs.length cap ∧ xs.length ≤ cap ∧ cap ≤ maxLen ∧ base ≤ g ∧ g < w.heap.size := by
 have hl := h.lt
 rcases h.2 with ⟨rfl, hn⟩ | ⟨g, cap, cur, rfl, hb, hg, hc, hm, hs, ht⟩
 ·exact absurd rfl hne
 ·exact ⟨g, cap, rfl, hc, hm, (hl g rfl).1, (hl g rfl).2⟩
theorem Owns.headL {w : World} {base : Nat} {v : Value} {xs : List UInt8} (h : Owns w base v xs) (hne : 0 < xs.length) :
  ∃ g cap, v = .slice (some ⟨g, 0, none⟩) xs.length cap ∧ xs.length ≤ cap ∧ cap ≤ maxLen ∧ base ≤ g ∧ g < w.heap.size := by
 refine h.head ?_
 rintro rfl
 rcases h.2 with ⟨_, hn⟩ | ⟨g, cap, cur, hv, _⟩
 ·omega
 ·cases hv
theorem owns_made (w : World) (base : Nat) (hb : base ≤ w.heap.size) : Owns (w.alloc (.cells #[] 5)) base (.slice (some ⟨w.heap.size, 0, none⟩) 0 0) [] :=
 World.ownsRow_made w #[] 0 hb (Nat.zero_le _) rfl
theorem cells_lit (w : World) (xs : List UInt8) : Cells (w.alloc (.cells (xs.map bv).toArray 5)) (some ⟨w.heap.size, 0, none⟩) xs := by
 refine ⟨fun h => (by cases h), fun ad had i hi => ?_⟩
 obtain rfl := Option.some.inj had
 have hh : (w.alloc (.cells (xs.map bv).toArray 5)).heap[w.heap.size]? = some (.cells (xs.map bv).toArray 5 (0, 0)) := heap_alloc_new w _
 rw [Addr.add_lit, Nat.zero_add, cell_of_row _ w.heap.size i _ _ _ hh]
 simp [hi]
def Lent (w : World) (base : Nat) (v : Value) (xs : List UInt8) : Prop :=
 ∃ g cap, v = .slice (some ⟨g, 0, none⟩) xs.length cap ∧ xs.length + 3 ≤ cap ∧ cap ≤ maxLen ∧ base ≤ g ∧ g < w.heap.size ∧ w.ownsRow base 5 1 (.slice (some ⟨g, 0, none⟩) (xs.length + 3) cap) (xs.length + 3) ((xs ++ [201, 201, 201]).map bv)
theorem wpList_append_rd {P : Program} {w : World} {ops : Array Oper} {rest : List Oper} {o : Oper} {a : Act} {Q : Exit → Act → World → Prop} (hgd : o.guard = none) (s x : Operand) (t : TypeId)
  (ho : o.op = .call { callee := .builtin .append, args := #[s, x], argTypes := #[t, t] })
  (i : TypeInfo) (ht : P.underlying t = some (.slice 5)) (hi : P.info? 5 = some i) (hz : i.zero = some (.int .u8 0)) (hsize : i.size = 1) (hby : i.bytes = 1)
  (base : Nat) (v : Value) (xs : List UInt8) (hs : a.eval s = v) (hown : Owns w base v xs)
  (ao : Option Addr) (c : Nat) (ys : List UInt8) (hx : a.eval x = .slice ao ys.length c) (hc0 : ao = none → c = 0) (hys : Cells w ao ys)
  (hbytes : xs.length + ys.length ≤ 140737488355328) (hbase : base ≤ w.heap.size)
  (h : ∀ v' w', Owns w' base v' (xs ++ ys) → w.grownBy w' v.ownBlock → wpList P ops Q rest (a.put o.dst v') w') : wpList P ops Q (o :: rest) a w := by
 cases ao with
 | none =>
  have e := hys.1 rfl
  subst e
  have e := hc0 rfl
  subst e
  refine wpList_append_own_none hgd s x t ho base 5 i 1 ht hi v xs.length (xs.map bv) hs hown (by simpa using hx) (h v w (by simpa using hown) (World.grownBy.refl _ _))
 | some ad =>
  refine wpList_append_own w hgd s x t ho base 5 i (.int .u8 0) 1 1 ht hi hz hsize hby rfl (by decide) v xs.length (xs.map bv) hs hown ad ys.length c (ys.map bv) hx (by simp) ?_ (bv_one ys) (by unfold maxLen; omega) (by omega) hbase ?_
  ·intro j u hj
   obtain ⟨hlt, e⟩ := List.getElem?_eq_some_iff.1 hj
   simp only [List.length_map] at hlt
   rw [hys.2 ad rfl j hlt, ← e]
   simp
  ·intro v' w' h1 h2 _
   refine h v' w' ?_ h2
   unfold Owns
   rw [List.length_append, List.map_append]
   exact h1
set_option maxHeartbeats 400000 in
theorem same_any (a b : Option Addr) (ca cb : Nat) (xs : List UInt8) (w : World) (ha : Cells w a xs) (hb : Cells w b xs) (hm : xs.length ≤ 9223372036854775807) :
  Calls Tryz.prog 24 #[.slice a xs.length ca, .slice b xs.length cb] w fun e w' => e = .returned (.bool true) ∧ ∃ n, w' = w.drewN n := by
 have hne : ((xs.length : Int) != (xs.length : Int)) = false := by simp
 go_enter Tryz.func24, Tryz.ntmps24
 go_wp2
 go_loopw [5] (fun i wr => ∃ k : Nat, k ≤ xs.length ∧ i = .int .i64 k ∧ ∃ n, wr = w.drewN n) (fun i _ => xs.length - (intOf i).toNat)
 case atStart => exact ⟨0, Nat.zero_le _, rfl, 0, rfl⟩
 case round =>
  obtain ⟨k, hk, rfl, n, rfl⟩ := hrel
  by_cases hlt : k < xs.length
  ·obtain ⟨b1, o1, rfl, h1⟩ := ha.addr hlt
   obtain ⟨b2, o2, rfl, h2⟩ := hb.addr hlt
   have c1 := h1 k hlt
   have c2 := h2 k hlt
   clear ha hb h1 h2
   have hl : (k : Int) < (xs.length : Int) := by omega
   go_wp2
   go_quiet (fail)
   go_wp2
   go_roundw
   case rel => exact ⟨k + 1, by omega, by go_num, _, by rfl⟩
   case measure => simp [intOf]; omega
  ·go_wp2
   go_ret
   exact ⟨rfl, n, rfl⟩
theorem info5 : (Tryz.prog.info? 5).map (fun i => (i.zero, i.size, i.bytes)) = some (some (.int .u8 0), 1, 1) := by kernel_rfl
set_option maxHeartbeats 400000 in
theorem copy_any (a : Option Addr) (ca : Nat) (xs : List UInt8) (w : World) (ha : Cells w a xs) (hc0 : a = none → ca = 0) (hm : xs.length ≤ 140737488355328) :
  Calls Tryz.prog 19 #[.slice a xs.length ca] w fun e w' => ∃ v, e = .returned v ∧ Owns w' w.heap.size v xs ∧ w.grownBy w' none := by
 obtain ⟨i0, hi, hz0, hz1, hz2⟩ := info_parts info5
 have H : Hid (Cells w a xs) := ha
 clear ha
 go_enter Tryz.func19, Tryz.ntmps19
 go_wp2_with (at_builtin; refine wpList_append_rd rfl (.tmp 3) (.tmp 4) 25 rfl i0 Tryz.underlying25 hi hz0 hz1 hz2 w.heap.size _ [] rfl ?q1 a ca xs rfl hc0 ?q2 ?q3 ?q4 ?q5)
 case q1 => exact owns_made w _ (Nat.le_refl _)
 case q2 => exact H.out.keptNone (World.grownBy_alloc _ _ _)
 case q3 => simpa using hm
 case q4 => simp
 case q5 =>
  intro v' w' h1 h2
  have G : w.grownBy w' none := grown_trans_new (World.grownBy_alloc w _ _) h2 (by intro x hx; simp [Value.ownBlock] at hx; omega)
  clear h2
  go_wp2
  go_ret
  exact ⟨v', rfl, h1, G⟩
set_option maxHeartbeats 400000 in
theorem lend_any (a : Option Addr) (ca : Nat) (xs : List UInt8) (w : World) (ha : Cells w a xs) (hc0 : a = none → ca = 0) (hm : xs.length ≤ 140737488351232) :
  Calls Tryz.prog 7 #[.slice a xs.length ca] w fun e w' => ∃ v, e = .returned v ∧ Lent w' w.heap.size v xs ∧ w.grownBy w' none := by
 obtain ⟨i0, hi, hz0, hz1, hz2⟩ := info_parts info5
 go_enter Tryz.func7, Tryz.ntmps7
 go_wp2_with fail
 refine (copy_any a ca xs _ ha hc0 (by omega)).mono ?_
 rintro e w1 ⟨v, rfl, h1, h2⟩
 clear ha
 go_wp2_with (at_builtin; refine wpList_append_rd rfl (.tmp 5) (.tmp 6) 25 rfl i0 Tryz.underlying25 hi hz0 hz1 hz2 w.heap.size _ xs rfl ?q1 (some ⟨w1.heap.size, 0, none⟩) 3 [201, 201, 201] rfl (by simp) ?q2 ?q3 ?q4 ?q5)
 case q1 => exact h1.alloc _
 case q2 => exact cells_lit w1 [201, 201, 201]
 case q3 => simp; omega
 case q4 => have := h2.size; simp; omega
 case q5 =>
  intro v' w' h3 h4
  have G : w.grownBy w' none := grown_trans_new h2 (grown_trans (World.grownBy_alloc w1 _ _) h4) (fun x hx => (h1.lt x hx).1)
  obtain ⟨g, cap, hv, hc, hcm, hg1, hg2⟩ := h3.headL (by simp)
  have hlen : (xs ++ [201, 201, 201]).length = xs.length + 3 := by simp
  rw [hlen] at hv hc
  subst hv
  have R : Lent w' w.heap.size (.slice (some ⟨g, 0, none⟩) xs.length cap) xs := by
   refine ⟨g, cap, rfl, hc, hcm, hg1, hg2, ?_⟩
   have := h3
   unfold Owns at this
   rw [hlen] at this
   exact this
  clear h4 h3 h2 h1 hlen
  unfold maxLen at hcm
  have hx : (xs.length : Int) ≤ (cap : Int) := by omega
  go_wp2
  go_ret
  exact ⟨_, rfl, R, G⟩
def Blk (w : World) (g cap : Nat) : Prop := ∃ cur : Array Value, w.heap[g]? = some (.cells cur 5 (0, 0)) ∧ cur.size = cap
theorem Blk.cell {w : World} {g cap : Nat} (h : Blk w g cap) {i : Nat} (hi : i < cap) : ∃ u, w.cell? ⟨g, i, none⟩ = some u := by
 obtain ⟨cur, hh, hs⟩ := h
 refine ⟨cur[i], ?_⟩
 rw [cell_of_row w g i cur _ _ hh]
 simp
theorem Blk.free {w : World} {g cap : Nat} (h : Blk w g cap) (i : Nat) : w.frozen? ⟨g, i, none⟩ = false := by
 obtain ⟨cur, hh, hs⟩ := h
 simp [World.frozen?, hh]
theorem Blk.lt {w : World} {g cap : Nat} (h : Blk w g cap) : g < w.heap.size := by
 obtain ⟨cur, hh, hs⟩ := h
 exact (Array.getElem?_eq_some_iff.1 hh).1
theorem Blk.setCell {w : World} {g cap : Nat} (h : Blk w g cap) (a : Addr) (u : Value) : Blk (w.setCell a u) g cap := by
 obtain ⟨cur, hh, hs⟩ := h
 by_cases e : g = a.block
 ·subst e
  by_cases hsp : a.spot.isSome = true
  ·refine ⟨cur, ?_, hs⟩
   simp only [World.setCell, Array.getElem?_modify, hh]
   simp [hsp]
  ·refine ⟨cur.setIfInBounds a.off u, ?_, by simpa using hs⟩
   simp only [World.setCell, Array.getElem?_modify, hh]
   simp [hsp]
 ·exact ⟨cur, by rw [Below.heap_setCell _ _ _ _ e]; exact hh, hs⟩
theorem Blk.kept {w w' : World} {g cap : Nat} {row : Option Nat} (h : Blk w g cap) (hg : w.grownBy w' row) (hne : some g ≠ row) : Blk w' g cap := by
 have hl := h.lt
 obtain ⟨cur, hh, hs⟩ := h
 exact ⟨cur, by rw [hg.block g hl hne]; exact hh, hs⟩
theorem Blk.ofRow {w : World} {base g n cap : Nat} {xs : List Value} (h : w.ownsRow base 5 1 (.slice (some ⟨g, 0, none⟩) n cap) n xs) : Blk w g cap ∧ n ≤ cap ∧ cap ≤ maxLen := by
 rcases h.2 with ⟨h, _⟩ | ⟨g', cap', cur, hv, hb, hg, hc, hm, hs, ht⟩
 ·cases h
 ·simp only [Value.slice.injEq, Option.some.injEq, Addr.mk.injEq] at hv
  obtain ⟨⟨rfl, _⟩, _, rfl⟩ := hv
  exact ⟨⟨cur, hg, by simpa using hs⟩, hc, hm⟩
theorem grown_set1 (w : World) (p : Addr) (u : Value) : w.grownBy (w.setCell p u) (some p.block) :=
 ⟨rfl, rfl, rfl, by simp, fun i _ hne => Below.heap_setCell _ _ _ _ (fun e => hne (by rw [e]))⟩
theorem grown_setCell {a w : World} {row : Option Nat} (h : a.grownBy w row) (p : Addr) (u : Value) (hp : row = some p.block ∨ a.heap.size ≤ p.block) : a.grownBy (w.setCell p u) row := by
 rcases hp with e | e
 ·subst e
  exact grown_trans h (grown_set1 w p u)
 ·exact grown_trans_new h (grown_set1 w p u) (by intro x hx; obtain rfl := Option.some.inj hx; exact e)
theorem Blk.row {w : World} {g cap : Nat} (h : Blk w g cap) (n : Nat) (hn : n ≤ cap) (hm : cap ≤ maxLen) : ∃ xs : List Value, w.ownsRow 0 5 1 (.slice (some ⟨g, 0, none⟩) n cap) n xs := by
 obtain ⟨cur, hh, hs⟩ := h
 exact ⟨cur.toList.take (n * 1), by simp; omega, .inr ⟨g, cap, cur, rfl, Nat.zero_le _, hh, hn, hm, by simpa using hs, rfl⟩⟩
theorem wpList_append_blk {P : Program} {w : World} {ops : Array Oper} {rest : List Oper} {o : Oper} {a : Act} {Q : Exit → Act → World → Prop} (hgd : o.guard = none) (s x : Operand) (t : TypeId)
  (ho : o.op = .call { callee := .builtin .append, args := #[s, x], argTypes := #[t, t] })
  (i : TypeInfo) (ht : P.underlying t = some (.slice 5)) (hi : P.info? 5 = some i) (hz : i.zero = some (.int .u8 0)) (hsize : i.size = 1) (hby : i.bytes = 1)
  (g n cap : Nat) (hs : a.eval s = .slice (some ⟨g, 0, none⟩) n cap) (hb : Blk w g cap) (hn : n ≤ cap) (hm : cap ≤ maxLen)
  (ad : Addr) (c : Nat) (ys : List UInt8) (hx : a.eval x = .slice (some ad) ys.length c) (hys : Cells w (some ad) ys)
  (hbytes : n + ys.length ≤ 140737488355328)
  (h : ∀ g' cap' w', (g' = g ∨ w.heap.size ≤ g') → Blk w' g cap → Blk w' g' cap' → n + ys.length ≤ cap' → cap' ≤ maxLen → w.grownBy w' (some g) → wpList P ops Q rest (a.put o.dst (.slice (some ⟨g', 0, none⟩) (n + ys.length) cap')) w') : wpList P ops Q (o :: rest) a w := by
 obtain ⟨xs, hrow⟩ := hb.row n hn hm
 have hcells : ∀ j u, (ys.map bv)[j]? = some u → w.cell? (ad.add j) = some u := by
  intro j u hj
  obtain ⟨hlt, e⟩ := List.getElem?_eq_some_iff.1 hj
  simp only [List.length_map] at hlt
  rw [hys.2 ad rfl j hlt, ← e]
  simp
 by_cases hr : n + ys.length ≤ cap
 ·refine wpList_append_fits w hgd s x t ho 0 5 i 1 ht hi hsize g n cap xs hs hrow ad ys.length c (ys.map bv) hx (by simp) hcells (bv_one ys) hr ?_
  intro w' h1 h2
  have k := Blk.ofRow h1
  exact h g cap w' (.inl rfl) k.1 k.1 k.2.1 k.2.2 h2
 ·refine wpList_append_grows w hgd s x t ho 5 i (.int .u8 0) 1 1 ht hi hz hsize hby rfl (by decide) (some ⟨g, 0, none⟩) n cap xs hs (by simp) hrow.1 ?_ ad ys.length c (ys.map bv) hx (by simp) hcells (bv_one ys) (by omega) (by unfold maxLen; omega) (by omega) ?_
  ·intro b hb' j u hj
   obtain rfl := Option.some.inj hb'
   exact hrow.cells (g := g) rfl j u hj
  ·intro v' w' h1 h2
   rcases h1.2 with ⟨rfl, hn0⟩ | ⟨g', cap', cur, rfl, hbb, hgg, hc, hmm, hss, htt⟩
   ·omega
   ·exact h g' cap' w' (.inr hbb) (hb.kept h2 (by simp)) ⟨cur, hgg, by simpa using hss⟩ hc hmm (grown_mono h2)
def SpoilRel (w : World) (row : Option Nat) (g g' cap cap' : Nat) (wr : World) : Prop := Blk wr g cap ∧ Blk wr g' cap' ∧ w.grownBy wr row
theorem SpoilRel.store1 {w wr : World} {row : Option Nat} {g g' cap cap' : Nat} (h : SpoilRel w row g g' cap cap' wr) (hp : row = some g ∨ w.heap.size ≤ g) (i : Nat) (u : Value) : SpoilRel w row g g' cap cap' (wr.setCell ⟨g, i, none⟩ u) :=
 ⟨h.1.setCell _ _, h.2.1.setCell _ _, grown_setCell h.2.2 _ _ hp⟩
theorem SpoilRel.store2 {w wr : World} {row : Option Nat} {g g' cap cap' : Nat} (h : SpoilRel w row g g' cap cap' wr) (hp : row = some g' ∨ w.heap.size ≤ g') (i : Nat) (u : Value) : SpoilRel w row g g' cap cap' (wr.setCell ⟨g', i, none⟩ u) :=
 ⟨h.1.setCell _ _, h.2.1.setCell _ _, grown_setCell h.2.2 _ _ hp⟩
set_option maxHeartbeats 1000000 in
theorem spoil_any (g n cap : Nat) (w : World) (hb : Blk w g cap) (hn : n ≤ cap) (hcm : cap ≤ maxLen) (hm : n + 1 ≤ 140737488355328) :
  Calls Tryz.prog 25 #[.slice (some ⟨g, 0, none⟩) n cap] w fun e w' => e = .returned (.tuple #[]) ∧ w.grownBy w' (some g) := by
 obtain ⟨i0, hi, hz0, hz1, hz2⟩ := info_parts info5
 have H : Hid (Blk w g cap) := hb
 clear hb
 go_enter Tryz.func25, Tryz.ntmps25
 go_wp2_with (at_builtin; refine wpList_append_blk rfl (.tmp 5) (.tmp 6) 25 rfl i0 Tryz.underlying25 hi hz0 hz1 hz2 g n cap rfl ?q1 hn hcm ⟨w.heap.size, 0, none⟩ 1 [201] rfl ?q2 ?q3 ?q4)
 case q1 => exact H.out.kept (World.grownBy_alloc _ _ none) (by simp)
 case q2 => exact cells_lit w [201]
 case q3 => simpa using hm
 case q4 =>
  intro g' cap' w1 hg' hb1 hb2 hc' hcm' hgr
  have R : SpoilRel w (some g) g g' cap cap' w1 := ⟨hb1, hb2, grown_trans (World.grownBy_alloc _ _ _) hgr⟩
  have hp : some g = some g' ∨ w.heap.size ≤ g' := by
   rcases hg' with e | e
   ·exact .inl (by rw [e])
   ·right; omega
  clear hg' hb1 hb2 hgr
  unfold maxLen at hcm hcm'
  go_wp2
  go_loopw [3] (fun i wr => ∃ k : Nat, k ≤ n + 1 ∧ i = .int .i64 k ∧ SpoilRel w (some g) g g' cap cap' wr) (fun i _ => n + 1 - (intOf i).toNat)
  case atStart => exact ⟨0, Nat.zero_le _, rfl, R⟩
  case round =>
   obtain ⟨k, hk, rfl, R⟩ := hrel
   by_cases hlt : k < n + 1
   ·obtain ⟨u, hu⟩ := R.2.1.cell (i := k) (by omega)
    have hf := R.2.1.free k
    have R' := R.store2 hp k (.int .u8 201)
    clear R
    go_wp2
    go_roundw
    case rel => exact ⟨k + 1, by omega, by go_num, R'⟩
    case measure => simp [intOf]; omega
   ·go_wp2
    clear hk hlt
    go_loopw [4] (fun i wr => ∃ k : Nat, k ≤ n ∧ i = .int .i64 k ∧ SpoilRel w (some g) g g' cap cap' wr) (fun i _ => n - (intOf i).toNat)
    case atStart => exact ⟨0, Nat.zero_le _, rfl, R⟩
    case round =>
     clear R
     obtain ⟨k, hk, rfl, R⟩ := hrel
     by_cases hlt : k < n
     ·obtain ⟨u, hu⟩ := R.1.cell (i := k) (by omega)
      have hf := R.1.free k
      have R' := R.store1 (.inl rfl) k (.int .u8 201)
      clear R
      go_wp2
      go_roundw
      case rel => exact ⟨k + 1, by omega, by go_num, R'⟩
      case measure => simp [intOf]; omega
     ·go_wp2
      go_end0
      exact ⟨rfl, R.2.2⟩
theorem cells_front {w : World} {base g cap n : Nat} {xs ys : List UInt8} (h : w.ownsRow base 5 1 (.slice (some ⟨g, 0, none⟩) n cap) n ((xs ++ ys).map bv)) : Cells w (some ⟨g, 0, none⟩) xs ∧ Cells w (some ⟨g, xs.length, none⟩) ys := by
 refine ⟨⟨fun h => (by cases h), fun ad had i hi => ?_⟩, ⟨fun h => (by cases h), fun ad had i hi => ?_⟩⟩
 ·obtain rfl := Option.some.inj had
  refine h.cells (g := g) rfl i _ ?_
  rw [List.map_append, List.getElem?_append_left (by simpa using hi)]
  simp [hi]
 ·obtain rfl := Option.some.inj had
  have := h.cells (g := g) rfl (xs.length + i) (bv ys[i]) (by simp [hi])
  rw [Addr.add_lit, Nat.zero_add] at this
  rw [Addr.add_lit]
  exact this
set_option maxHeartbeats 1000000 in
theorem kept_any (g cap : Nat) (ao : Option Addr) (ca : Nat) (xs : List UInt8) (w : World) (hL : w.ownsRow 0 5 1 (.slice (some ⟨g, 0, none⟩) (xs.length + 3) cap) (xs.length + 3) ((xs ++ [201, 201, 201]).map bv))
  (ha : Cells w ao xs) (hm : xs.length ≤ 140737488351232) :
  Calls Tryz.prog 10 #[.slice (some ⟨g, 0, none⟩) xs.length cap, .slice ao xs.length ca] w fun e w' => e = .returned (.bool true) ∧ w.grownBy w' (some g) := by
 obtain ⟨hB, hc, hcm⟩ := Blk.ofRow hL
 obtain ⟨c1, c2⟩ := cells_front hL
 clear hL
 have HB : Hid (Blk w g cap) := hB
 have HC : Hid (Cells w (some ⟨g, xs.length, none⟩) [201, 201, 201]) := c2
 clear hB c2
 have hcm0 := hcm
 unfold maxLen at hcm
 have hx : (xs.length : Int) + 3 ≤ (cap : Int) := by omega
 go_enter Tryz.func10, Tryz.ntmps10
 go_wp2_with fail
 refine (same_any _ ao _ ca xs _ c1 ha (by omega)).mono ?_
 rintro e w1 ⟨rfl, n1, rfl⟩
 clear c1 ha
 go_wp2_with fail
 have G1 : w.grownBy ((w.drewN n1).alloc (.cells #[.int .u8 201, .int .u8 201, .int .u8 201] 5)) none := grown_trans (grown_drewN w n1 none) (World.grownBy_alloc _ _ _)
 have C1 := HC.out.keptNone G1
 have C2 : Cells ((w.drewN n1).alloc (.cells #[.int .u8 201, .int .u8 201, .int .u8 201] 5)) (some ⟨w.heap.size, 0, none⟩) [201, 201, 201] := cells_lit (w.drewN n1) [201, 201, 201]
 have B1 := HB.out.kept G1 (by simp)
 generalize (w.drewN n1).alloc (.cells #[.int .u8 201, .int .u8 201, .int .u8 201] 5) = w2 at *
 refine (same_any _ _ _ _ [201, 201, 201] _ C1 C2 (by simp)).mono ?_
 rintro e w3 ⟨rfl, n2, rfl⟩
 clear C1 C2
 have G2 : w.grownBy (w2.drewN n2) none := grown_trans G1 (grown_drewN _ _ _)
 have B2 : Blk (w2.drewN n2) g cap := B1
 clear G1 B1
 generalize w2.drewN n2 = w3 at *
 go_wp2_with fail
 refine (spoil_any g (xs.length + 3) cap _ B2 hc hcm0 (by omega)).mono ?_
 rintro e w4 ⟨rfl, G3⟩
 have G4 : w.grownBy w4 (some g) := grown_trans (grown_mono G2) G3
 clear G3 G2 B2
 go_wp2
 go_ret
 exact ⟨rfl, G4⟩
def okB (n : Nat) (p s : Int) : Bool := decide ((s = 1 ∨ s = 2 ∨ s = 4) ∧ 0 ≤ p ∧ p ≤ (n : Int) - s)
theorem ret_bool {a b : Bool} (h : a = b) : Ending.returned (.bool a) = .returned (.bool b) := by rw [h]
theorem ret_int {k : IntKind} {a b : Int} (h : a = b) : Ending.returned (.int k a) = .returned (.int k b) := by rw [h]
theorem okB_of {n : Nat} {p s : Int} {c : Prop} [Decidable c] (h : c ↔ ((s = 1 ∨ s = 2 ∨ s = 4) ∧ 0 ≤ p ∧ p ≤ (n : Int) - s)) : decide c = okB n p s := decide_eq_decide.2 h
theorem okB_no {n : Nat} {p s : Int} (h : ¬ ((s = 1 ∨ s = 2 ∨ s = 4) ∧ 0 ≤ p ∧ p ≤ (n : Int) - s)) : false = okB n p s := (decide_eq_false h).symm
theorem okB_yes {n : Nat} {p s : Int} (h : okB n p s = true) : (s = 1 ∨ s = 2 ∨ s = 4) ∧ 0 ≤ p ∧ p ≤ (n : Int) - s := of_decide_eq_true h
theorem three_tests {s : Int} (h : s = 1 ∨ s = 2 ∨ s = 4) : (s != 1) = false ∨ ((s != 1) = true ∧ (s != 2) = false) ∨ ((s != 1) = true ∧ (s != 2) = true ∧ (s != 4) = false) := by
 rcases h with rfl | rfl | rfl <;> simp
def numAt (xs : List UInt8) (p : Nat) : Nat → Nat
 | 0 => 0
 | k + 1 => numAt xs p k * 256 + (xs.getD (p + k) 0).toNat
theorem numAt_lt (xs : List UInt8) (p k : Nat) : numAt xs p k < 256 ^ k := by
 induction k with
 | zero => simp [numAt]
 | succ k ih =>
  have := (xs.getD (p + k) 0).toNat_lt
  simp only [numAt, Nat.pow_succ]
  omega
theorem numAt_lt3 (xs : List UInt8) (p k : Nat) (hk : k ≤ 3) : numAt xs p k < 16777216 := by
 have h := numAt_lt xs p k
 have h2 : 256 ^ k ≤ 256 ^ 3 := Nat.pow_le_pow_right (by decide) hk
 omega
theorem or_step (v c : Nat) (hv : v < 16777216) (hc : c < 256) : bits .or .u32 ((v : Int) * 256 % 4294967296) ((c : Int) % 4294967296) = ((v * 256 + c : Nat) : Int) := by
 rw [show ((v : Int) * 256 % 4294967296) = ((v * 256 : Nat) : Int) by omega, show ((c : Int) % 4294967296) = (c : Int) by omega, u32_or_nat _ _ (by omega) (by omega), nat_join 8 _ _ (by omega) (by omega)]
theorem numAt_step (xs : List UInt8) (p k : Nat) (hk : k ≤ 3) (hp : p + k < xs.length) :
  Value.int IntKind.u32 (bits BinOp.or IntKind.u32 ((numAt xs p k : Int) * 256 % 4294967296) ((xs[p + k].toNat : Int) % 4294967296)) = Value.int IntKind.u32 (numAt xs p (k + 1)) := by
 rw [or_step _ _ (numAt_lt3 xs p k hk) xs[p + k].toNat_lt]
 simp [numAt, hp]
def getV (xs : List UInt8) (p s : Int) : Int := if okB xs.length p s = true then (numAt xs p.toNat s.toNat : Int) else 0
def CV (w : World) (ao : Option Addr) (vs : List Value) : Prop :=
 (ao = none → vs = []) ∧ ∀ ad, ao = some ad → ∀ i (h : i < vs.length), w.cell? (ad.add i) = some vs[i]
theorem CV.addr {w : World} {ao : Option Addr} {vs : List Value} (h : CV w ao vs) {k : Nat} (hk : k < vs.length) :
  ∃ b off, ao = some ⟨b, off, none⟩ ∧ ∀ i (hi : i < vs.length), w.cell? ⟨b, off + i, none⟩ = some vs[i] := by
 cases ao with
 | none => have := h.1 rfl; subst this; simp at hk
 | some ad =>
  obtain ⟨b, off, spot⟩ := ad
  have h0 := h.2 _ rfl 0 (by omega)
  have hspot : spot = none := by simpa [Addr.add] using World.cell?_spot h0
  subst hspot
  refine ⟨b, off, rfl, fun i hi => ?_⟩
  have := h.2 _ rfl i hi
  rw [Addr.add_lit] at this
  exact this
theorem CV.under {w : World} {ao : Option Addr} {vs : List Value} (h : CV w ao vs) {ad : Addr} (had : ao = some ad) (hne : vs ≠ []) : ad.block < w.heap.size := by
 have hl : 0 < vs.length := List.length_pos_iff.2 hne
 have := World.block_lt_of_cell? w _ (h.2 ad had 0 hl)
 simpa [Addr.add] using this
theorem CV.same {w w' : World} {ao : Option Addr} {vs : List Value} (h : CV w ao vs) (hs : ∀ ad, ao = some ad → vs ≠ [] → ad.block < w.heap.size → w'.heap[ad.block]? = w.heap[ad.block]?) : CV w' ao vs := by
 refine ⟨h.1, fun ad had i hi => ?_⟩
 have hne : vs ≠ [] := by intro e; subst e; simp at hi
 rw [World.cell?_of_block (w := w) (w' := w') (a := ad.add i) ?_]
 ·exact h.2 ad had i hi
 ·have e : (ad.add i).block = ad.block := by unfold Addr.add; split <;> rfl
  rw [e]
  exact hs ad had hne (h.under had hne)
theorem CV.kept {w w' : World} {row : Option Nat} {ao : Option Addr} {vs : List Value} (h : CV w ao vs) (hg : w.grownBy w' row) (hne : ∀ ad, ao = some ad → vs ≠ [] → some ad.block ≠ row) : CV w' ao vs :=
 h.same fun ad had hv hl => hg.block ad.block hl (hne ad had hv)
theorem CV.keptNone {w w' : World} {ao : Option Addr} {vs : List Value} (h : CV w ao vs) (hg : w.grownBy w' none) : CV w' ao vs := h.kept hg (fun _ _ _ => by simp)
theorem Cells.cv {w : World} {ao : Option Addr} {xs : List UInt8} (h : Cells w ao xs) : CV w ao (xs.map bv) := by
 refine ⟨fun e => by rw [h.1 e]; rfl, fun ad had i hi => ?_⟩
 simp only [List.length_map] at hi
 rw [h.2 ad had i hi]
 simp
theorem CV.cells {w : World} {ao : Option Addr} {xs : List UInt8} (h : CV w ao (xs.map bv)) : Cells w ao xs := by
 refine ⟨fun e => by simpa using h.1 e, fun ad had i hi => ?_⟩
 rw [h.2 ad had i (by simpa using hi)]
 simp
theorem CV.ofRow {w : World} {base e n : Nat} {v : Value} {vs : List Value} (h : w.ownsRow base e 1 v n vs) :
  ∃ ao cap, v = .slice ao n cap ∧ CV w ao vs ∧ n ≤ cap ∧ cap ≤ maxLen ∧ (ao = none → cap = 0) ∧ (∀ ad, ao = some ad → base ≤ ad.block ∧ ad.block < w.heap.size) ∧ v.ownBlock = ao.map (·.block) := by
 have hl := h.lt
 have h0 := h.1
 rcases h.2 with ⟨rfl, hn⟩ | ⟨g, cap, cur, rfl, hb, hg, hc, hm, hs, ht⟩
 ·subst hn
  refine ⟨none, 0, rfl, ⟨fun _ => List.eq_nil_of_length_eq_zero (by simpa using h0), fun ad had => (by cases had)⟩, by omega, Nat.zero_le _, fun _ => rfl, fun ad had => (by cases had), rfl⟩
 ·refine ⟨some ⟨g, 0, none⟩, cap, rfl, ⟨fun h => (by cases h), fun ad had i hi => ?_⟩, hc, hm, fun h => (by cases h), fun ad had => ?_, rfl⟩
  ·obtain rfl := Option.some.inj had
   exact h.cells (g := g) rfl i _ (by simp [hi])
  ·obtain rfl := Option.some.inj had
   exact hl g rfl
theorem cv_lit (w : World) (e : TypeId) (vs : List Value) : CV (w.alloc (.cells vs.toArray e)) (some ⟨w.heap.size, 0, none⟩) vs := by
 refine ⟨fun h => (by cases h), fun ad had i hi => ?_⟩
 obtain rfl := Option.some.inj had
 have hh : (w.alloc (.cells vs.toArray e)).heap[w.heap.size]? = some (.cells vs.toArray e (0, 0)) := heap_alloc_new w _
 rw [Addr.add_lit, Nat.zero_add, cell_of_row _ w.heap.size i _ _ _ hh]
 simp [hi]
def shr8 (v k : Nat) : Nat := v / 256 ^ k
def putTo (xs : List UInt8) (p S : Nat) (v : Nat) : Nat → List UInt8
 | 0 => xs
 | k + 1 => (putTo xs p S v k).set (p + S - 1 - k) (UInt8.ofNat (shr8 v k))
theorem putTo_len (xs : List UInt8) (p S v k : Nat) : (putTo xs p S v k).length = xs.length := by
 induction k with
 | zero => rfl
 | succ k ih => simp [putTo, ih]
theorem owns_stored {w : World} {base g cap : Nat} {xs : List UInt8} (h : w.ownsRow base 5 1 (.slice (some ⟨g, 0, none⟩) xs.length cap) xs.length (xs.map bv)) (i : Nat) (c : Nat) :
  (w.setCell ⟨g, i, none⟩ (.int .u8 ((c : Int) % 256))).ownsRow base 5 1 (.slice (some ⟨g, 0, none⟩) xs.length cap) xs.length ((xs.set i (UInt8.ofNat c)).map bv) := by
 have := (h.stored i (.int .u8 ((c : Int) % 256))).1
 rw [List.map_set]
 have e : bv (UInt8.ofNat c) = .int .u8 ((c : Int) % 256) := by simp [bv]
 rw [e]
 exact this
def PutRel (w : World) (g cap : Nat) (xs : List UInt8) (p S v k : Nat) (wr : World) : Prop :=
 wr.ownsRow w.heap.size 5 1 (.slice (some ⟨g, 0, none⟩) xs.length cap) xs.length ((putTo xs p S v k).map bv) ∧ w.grownBy wr none
theorem PutRel.store {w wr : World} {g cap : Nat} {xs : List UInt8} {p S v k : Nat} (h : PutRel w g cap xs p S v k wr) : PutRel w g cap xs p S v (k + 1) (wr.setCell ⟨g, p + S - 1 - k, none⟩ (.int .u8 (((shr8 v k : Nat) : Int) % 256))) := by
 obtain ⟨ho, hg⟩ := h
 refine ⟨?_, grown_setCell hg _ _ (.inr (ho.lt g rfl).1)⟩
 have hl := putTo_len xs p S v k
 have h' : wr.ownsRow w.heap.size 5 1 (.slice (some ⟨g, 0, none⟩) (putTo xs p S v k).length cap) (putTo xs p S v k).length ((putTo xs p S v k).map bv) := by rw [hl]; exact ho
 have := owns_stored h' (p + S - 1 - k) (shr8 v k)
 rw [hl] at this
 exact this
theorem PutRel.cell {w wr : World} {g cap : Nat} {xs : List UInt8} {p S v k : Nat} (h : PutRel w g cap xs p S v k wr) {i : Nat} (hi : i < xs.length) : ∃ u, wr.cell? ⟨g, i, none⟩ = some u := by
 have := h.1.cellAt i (by omega)
 have hl := putTo_len xs p S v k
 refine ⟨bv ((putTo xs p S v k)[i]'(by omega)), ?_⟩
 rw [this]
 simp [hl, hi]
theorem PutRel.free {w wr : World} {g cap : Nat} {xs : List UInt8} {p S v k : Nat} (h : PutRel w g cap xs p S v k wr) (i : Nat) : wr.frozen? ⟨g, i, none⟩ = false := h.1.frozenAt i
theorem owns_mono {w : World} {base base' e size n : Nat} {v : Value} {vs : List Value} (h : w.ownsRow base e size v n vs) (hb : base' ≤ base) : w.ownsRow base' e size v n vs := by
 refine ⟨h.1, ?_⟩
 rcases h.2 with h | ⟨g, cap, cur, hv, hg, r⟩
 ·exact .inl h
 ·exact .inr ⟨g, cap, cur, hv, Nat.le_trans hb hg, r⟩
theorem Owns.rd {w : World} {base : Nat} {v : Value} {xs : List UInt8} (h : Owns w base v xs) :
  ∃ ao cap, v = .slice ao xs.length cap ∧ Cells w ao xs ∧ (ao = none → cap = 0) ∧ (∀ ad, ao = some ad → base ≤ ad.block ∧ ad.block < w.heap.size) ∧ v.ownBlock = ao.map (·.block) := by
 obtain ⟨ao, cap, hv, hc, _, _, h0, hb, ho⟩ := CV.ofRow h
 exact ⟨ao, cap, hv, hc.cells, h0, hb, ho⟩
theorem owns_keptNone {w w' : World} {base e size n : Nat} {v : Value} {vs : List Value} (h : w.ownsRow base e size v n vs) (hg : w.grownBy w' none) : w'.ownsRow base e size v n vs := h.kept hg (by cases hv : v.ownBlock <;> simp)

end Go.Proofs.YtcodofamdhcfiaaGreat
