/-
  CopyInsns, LendInsns, SpoilInsns, KeptInsns. The document's own Bytes, Encode and Decode. The document's own Check, Plain, Proto, Head. A view in a block; the document's own Piece. The document's own Space, zero, Field and Head of chapter 8. A spec in a block.
-/
import Derived.Test.YtnojpepjloceoaaGreatLotP3
import Derived.Deep.RegionHeld3
import Derived.Test.YtnojpepjloceoaaGreatFrameV
import Derived.Handy
import Derived.Laws.Rows
import Derived.Laws.Tables
import Derived.Laws.ResultCell
import Derived.Deep.DeepCutAuto
import Derived.Deep.MidRow
import Derived.Deep.RegionWith
import Derived.BigFrame
namespace Go.Proofs.YtnojpepjloceoaaGreat
open Go.RowKit
set_option maxRecDepth 100000

theorem cv_of_row {w : World} {base e size n : Nat} {v : Value} {vs : List Value} (h : w.ownsRow base e size v n vs) :
    ∃ ao cap, v = .slice ao n cap ∧ CV w ao vs ∧ n ≤ cap ∧ cap ≤ maxLen ∧ (ao = none → cap = 0) ∧ (∀ ad, ao = some ad → base ≤ ad.block ∧ ad.block < w.heap.size) ∧ v.ownBlock = ao.map (·.block) := by
  have hl := h.lt
  have h0 := h.1
  rcases h.2 with ⟨rfl, hn⟩ | ⟨g, cap, cur, rfl, hb, hg, hc, hm, hs, ht⟩
  · subst hn
    refine ⟨none, 0, rfl, ⟨fun _ => List.eq_nil_of_length_eq_zero (by simpa using h0), fun ad had => (by cases had)⟩, by omega, Nat.zero_le _, fun _ => rfl, fun ad had => (by cases had), rfl⟩
  · refine ⟨some ⟨g, 0, none⟩, cap, rfl, ⟨fun h => (by cases h), fun ad had i hi => ?_⟩, hc, hm, fun h => (by cases h), fun ad had => ?_, rfl⟩
    · obtain rfl := Option.some.inj had
      exact h.cells (g := g) rfl i _ (by simp [hi])
    · obtain rfl := Option.some.inj had
      exact hl g rfl

theorem owns_head {w : World} {base e size n : Nat} {v : Value} {vs : List Value} (h : w.ownsRow base e size v n vs) (hn : 0 < n) :
    ∃ g cap, v = .slice (some ⟨g, 0, none⟩) n cap ∧ n ≤ cap ∧ cap ≤ maxLen ∧ base ≤ g ∧ g < w.heap.size := by
  have hl := h.lt
  rcases h.2 with ⟨rfl, hn⟩ | ⟨g, cap, cur, rfl, hb, hg, hc, hm, hs, ht⟩
  · omega
  · exact ⟨g, cap, rfl, hc, hm, (hl g rfl).1, (hl g rfl).2⟩

/-- 'append(dst, src...)': dst the call's own, src whatever is read: nil, empty or not: elements of several cells. -/
theorem wpList_append_cv {P : Program} {w : World} {ops : Array Oper} {rest : List Oper} {o : Oper} {a : Act} {Q : Exit → Act → World → Prop} (hgd : o.guard = none) (s x : Operand) (t : TypeId)
    (ho : o.op = .call { callee := .builtin .append, args := #[s, x], argTypes := #[t, t] })
    (e : TypeId) (i : TypeInfo) (z : Value) (size bytes : Nat) (ht : P.underlying t = some (.slice e)) (hi : P.info? e = some i) (hz : i.zero = some z) (hsize : i.size = size) (hby : i.bytes = bytes) (hzs : z.cells.size = size) (hsz : 0 < size)
    (base : Nat) (v : Value) (n : Nat) (vs : List Value) (hs : a.eval s = v) (hown : w.ownsRow base e size v n vs)
    (ao : Option Addr) (m c : Nat) (us : List Value) (hx : a.eval x = .slice ao m c) (hl : us.length = m * size) (hc0 : ao = none → c = 0) (hus : CV w ao us) (h1 : ∀ u ∈ us, u.oneCell' = true)
    (h63 : n + m ≤ maxLen) (hbytes : (n + m) * bytes ≤ 140737488355328) (hbase : base ≤ w.heap.size)
    (h : ∀ v' w', w'.ownsRow base e size v' (n + m) (vs ++ us) → w.grownBy w' v.ownBlock → wpList P ops Q rest (a.put o.dst v') w') : wpList P ops Q (o :: rest) a w := by
  cases ao with
  | none =>
    have e0 := hus.1 rfl
    subst e0
    have e1 := hc0 rfl
    subst e1
    have e2 : m = 0 := by
      rcases Nat.mul_eq_zero.1 hl.symm with h | h
      · exact h
      · omega
    subst e2
    refine wpList_append_own_none hgd s x t ho base e i size ht hi v n vs hs hown hx (h v w (by simpa using hown) (World.grownBy.refl _ _))
  | some ad =>
    refine wpList_append_own w hgd s x t ho base e i z size bytes ht hi hz hsize hby hzs hsz v n vs hs hown ad m c us hx hl ?_ h1 h63 hbytes hbase fun v' w' h1 h2 _ => h v' w' h1 h2
    intro j u hj
    obtain ⟨hlt, e⟩ := List.getElem?_eq_some_iff.1 hj
    rw [hus.2 ad rfl j hlt, e]

/-- The same behind a guard that says yes ('.. && f(append(x, y...))'). -/
theorem wpList_append_cvg {P : Program} {w : World} {ops : Array Oper} {rest : List Oper} {o : Oper} {a : Act} {Q : Exit → Act → World → Prop} (hw : Region.wanted o (yielded ops a.tmps) = true) (s x : Operand) (t : TypeId)
    (ho : o.op = .call { callee := .builtin .append, args := #[s, x], argTypes := #[t, t] })
    (e : TypeId) (i : TypeInfo) (z : Value) (size bytes : Nat) (ht : P.underlying t = some (.slice e)) (hi : P.info? e = some i) (hz : i.zero = some z) (hsize : i.size = size) (hby : i.bytes = bytes) (hzs : z.cells.size = size) (hsz : 0 < size)
    (base : Nat) (v : Value) (n : Nat) (vs : List Value) (hs : a.eval s = v) (hown : w.ownsRow base e size v n vs)
    (ao : Option Addr) (m c : Nat) (us : List Value) (hx : a.eval x = .slice ao m c) (hl : us.length = m * size) (hc0 : ao = none → c = 0) (hus : CV w ao us) (h1 : ∀ u ∈ us, u.oneCell' = true)
    (h63 : n + m ≤ maxLen) (hbytes : (n + m) * bytes ≤ 140737488355328) (hbase : base ≤ w.heap.size)
    (h : ∀ v' w', w'.ownsRow base e size v' (n + m) (vs ++ us) → w.grownBy w' v.ownBlock → wpList P ops Q rest (a.put o.dst v') w') : wpList P ops Q (o :: rest) a w := by
  cases ao with
  | none =>
    have e0 := hus.1 rfl
    subst e0
    have e1 := hc0 rfl
    subst e1
    have e2 : m = 0 := by
      rcases Nat.mul_eq_zero.1 hl.symm with h | h
      · exact h
      · omega
    subst e2
    refine BigFrame.wpList_want hw fun K hK => ?_
    have hrun := run_append_owned_none (P := P) (w := w) base t o.type e i size ht hi v n vs hown
    unfold Oper.wp
    simp [execOp, ho, resolve, invoke, builtin, hs, hx, hrun, Result.andThen]
    exact hK _ _ (h v w (by simpa using hown) (World.grownBy.refl _ _))
  | some ad =>
    refine BigFrame.wpList_want hw fun K hK => wp_append_own w s x t ho base e i z size bytes ht hi hz hsize hby hzs hsz v n vs hs hown ad m c us hx hl ?_ h1 h63 hbytes hbase fun v' w' h1 h2 _ => hK _ _ (h v' w' h1 h2)
    intro j u hj
    obtain ⟨hlt, e⟩ := List.getElem?_eq_some_iff.1 hj
    rw [hus.2 ad rfl j hlt, e]

/-- The mark. -/
def mark : In := ⟨7, 0, 0, 77⟩

theorem marks3 : flat [mark, mark, mark] = [.int .u16 7, .int .u8 0, .int .u8 0, .int .u32 77, .int .u16 7, .int .u8 0, .int .u8 0, .int .u32 77, .int .u16 7, .int .u8 0, .int .u8 0, .int .u32 77] := by simp [flat, In.cells, mark]
theorem marks1 : flat [mark] = [.int .u16 7, .int .u8 0, .int .u8 0, .int .u32 77] := by simp [flat, In.cells, mark]

/-- A block of cells that may be written. -/
def BlkN (w : World) (e : TypeId) (g n : Nat) : Prop := ∃ cur : Array Value, w.heap[g]? = some (.cells cur e (0, 0)) ∧ cur.size = n

theorem BlkN.cell {w : World} {e : TypeId} {g n : Nat} (h : BlkN w e g n) {i : Nat} (hi : i < n) : ∃ u, w.cell? ⟨g, i, none⟩ = some u := by
  obtain ⟨cur, hh, hs⟩ := h
  refine ⟨cur[i], ?_⟩
  rw [cell_of_row w g i cur _ _ hh]
  simp

theorem BlkN.free {w : World} {e : TypeId} {g n : Nat} (h : BlkN w e g n) (i : Nat) : w.frozen? ⟨g, i, none⟩ = false := by
  obtain ⟨cur, hh, hs⟩ := h
  simp [World.frozen?, hh]

theorem BlkN.lt {w : World} {e : TypeId} {g n : Nat} (h : BlkN w e g n) : g < w.heap.size := by
  obtain ⟨cur, hh, hs⟩ := h
  exact (Array.getElem?_eq_some_iff.1 hh).1

theorem BlkN.setCell {w : World} {e : TypeId} {g n : Nat} (h : BlkN w e g n) (a : Addr) (u : Value) : BlkN (w.setCell a u) e g n := by
  obtain ⟨cur, hh, hs⟩ := h
  by_cases e : g = a.block
  · subst e
    by_cases hsp : a.spot.isSome = true
    · refine ⟨cur, ?_, hs⟩
      simp only [World.setCell, Array.getElem?_modify, hh]
      simp [hsp]
    · refine ⟨cur.setIfInBounds a.off u, ?_, by simpa using hs⟩
      simp only [World.setCell, Array.getElem?_modify, hh]
      simp [hsp]
  · exact ⟨cur, by rw [Below.heap_setCell _ _ _ _ e]; exact hh, hs⟩

theorem BlkN.kept {w w' : World} {e : TypeId} {g n : Nat} {row : Option Nat} (h : BlkN w e g n) (hg : w.grownBy w' row) (hne : some g ≠ row) : BlkN w' e g n := by
  have hl := h.lt
  obtain ⟨cur, hh, hs⟩ := h
  exact ⟨cur, by rw [hg.block g hl hne]; exact hh, hs⟩

theorem BlkN.ofRow {w : World} {base e size g n cap : Nat} {xs : List Value} (h : w.ownsRow base e size (.slice (some ⟨g, 0, none⟩) n cap) n xs) : BlkN w e g (cap * size) ∧ n ≤ cap ∧ cap ≤ maxLen := by
  rcases h.2 with ⟨h, _⟩ | ⟨g', cap', cur, hv, hb, hg, hc, hm, hs, ht⟩
  · cases h
  · simp only [Value.slice.injEq, Option.some.injEq, Addr.mk.injEq] at hv
    obtain ⟨⟨rfl, _⟩, _, rfl⟩ := hv
    exact ⟨⟨cur, hg, hs⟩, hc, hm⟩

theorem BlkN.row {w : World} {e size g cap : Nat} (h : BlkN w e g (cap * size)) (n : Nat) (hn : n ≤ cap) (hm : cap ≤ maxLen) : ∃ xs : List Value, w.ownsRow 0 e size (.slice (some ⟨g, 0, none⟩) n cap) n xs := by
  obtain ⟨cur, hh, hs⟩ := h
  have hle : n * size ≤ cap * size := Nat.mul_le_mul_right _ hn
  exact ⟨cur.toList.take (n * size), by rw [List.length_take, Array.length_toList, hs]; omega, .inr ⟨g, cap, cur, rfl, Nat.zero_le _, hh, hn, hm, hs, rfl⟩⟩

/-- 'append(x, ..)', x at its block's head: it stays there, or lies in a new block. -/
theorem wpList_append_blkN {P : Program} {w : World} {ops : Array Oper} {rest : List Oper} {o : Oper} {a : Act} {Q : Exit → Act → World → Prop} (hgd : o.guard = none) (s x : Operand) (t : TypeId)
    (ho : o.op = .call { callee := .builtin .append, args := #[s, x], argTypes := #[t, t] })
    (e : TypeId) (i : TypeInfo) (z : Value) (size bytes : Nat) (ht : P.underlying t = some (.slice e)) (hi : P.info? e = some i) (hz : i.zero = some z) (hsize : i.size = size) (hby : i.bytes = bytes) (hzs : z.cells.size = size) (hsz : 0 < size)
    (g n cap : Nat) (hs : a.eval s = .slice (some ⟨g, 0, none⟩) n cap) (hb : BlkN w e g (cap * size)) (hn : n ≤ cap) (hm : cap ≤ maxLen)
    (ad : Addr) (m c : Nat) (us : List Value) (hx : a.eval x = .slice (some ad) m c) (hl : us.length = m * size) (hus : CV w (some ad) us) (h1 : ∀ u ∈ us, u.oneCell' = true)
    (h63 : n + m ≤ maxLen) (hbytes : (n + m) * bytes ≤ 140737488355328)
    (h : ∀ g' cap' w', (g' = g ∨ w.heap.size ≤ g') → BlkN w' e g (cap * size) → BlkN w' e g' (cap' * size) → n + m ≤ cap' → cap' ≤ maxLen → w.grownBy w' (some g) → wpList P ops Q rest (a.put o.dst (.slice (some ⟨g', 0, none⟩) (n + m) cap')) w') : wpList P ops Q (o :: rest) a w := by
  obtain ⟨xs, hrow⟩ := hb.row n hn hm
  have hcells : ∀ j u, us[j]? = some u → w.cell? (ad.add j) = some u := by
    intro j u hj
    obtain ⟨hlt, e⟩ := List.getElem?_eq_some_iff.1 hj
    rw [hus.2 ad rfl j hlt, e]
  by_cases hr : n + m ≤ cap
  · refine wpList_append_fits w hgd s x t ho 0 e i size ht hi hsize g n cap xs hs hrow ad m c us hx hl hcells h1 hr ?_
    intro w' h1 h2
    have k := BlkN.ofRow h1
    exact h g cap w' (.inl rfl) k.1 k.1 k.2.1 k.2.2 h2
  · refine wpList_append_grows w hgd s x t ho e i z size bytes ht hi hz hsize hby hzs hsz (some ⟨g, 0, none⟩) n cap xs hs (by simp) hrow.1 ?_ ad m c us hx hl hcells h1 (by omega) h63 hbytes ?_
    · intro b hb' j u hj
      obtain rfl := Option.some.inj hb'
      exact hrow.cells (g := g) rfl j u hj
    · intro v' w' h1 h2
      rcases h1.2 with ⟨rfl, hn0⟩ | ⟨g', cap', cur, rfl, hbb, hgg, hc, hmm, hss, htt⟩
      · omega
      · exact h g' cap' w' (.inr hbb) (hb.kept h2 (by simp)) ⟨cur, hgg, hss⟩ hc hmm (grown_mono h2)

end Go.Proofs.YtnojpepjloceoaaGreat

namespace Go.Proofs.YtnojpepjloceoaaGreat
open Go.RowKit
set_option maxRecDepth 100000

/-- v in so many bytes. -/
def bytesV (S v : Nat) : List UInt8 := putTo (List.replicate S 0) 0 S v S

theorem bytesV_len (S v : Nat) : (bytesV S v).length = S := by simp [bytesV, putTo_len]

theorem bytesV_put (S v : Nat) (hS : S = 1 ∨ S = 2 ∨ S = 4) : putV (List.replicate S (0 : UInt8)) 0 S v = bytesV S v ∧ okB (List.replicate S (0 : UInt8)).length 0 S = true := by
  have hok : okB (List.replicate S (0 : UInt8)).length 0 S = true := decide_eq_true (by rw [List.length_replicate]; omega)
  refine ⟨?_, hok⟩
  simp only [putV, hok, if_pos]
  rfl

/-- An instruction's bytes; a program's. -/
def encI (x : In) : List UInt8 := bytesV 2 x.code.toNat ++ [x.jt, x.jf] ++ bytesV 4 x.k.toNat
def encS (xs : List In) : List UInt8 := xs.flatMap encI

theorem encI_len (x : In) : (encI x).length = 8 := by simp [encI, bytesV_len]
theorem encS_succ (xs : List In) (k : Nat) (hk : k < xs.length) : encS (xs.take (k + 1)) = encS (xs.take k) ++ encI xs[k] := by
  rw [List.take_succ_eq_append_getElem hk]; simp only [encS, List.flatMap_append, List.flatMap_cons, List.flatMap_nil, List.append_nil]
theorem encS_len (xs : List In) : (encS xs).length = 8 * xs.length := by
  induction xs with
  | nil => rfl
  | cons x xs ih => simp only [encS, List.flatMap_cons, List.length_append, List.length_cons, encI_len] at *; omega

/-- What a call leaves that makes bytes, or an error. -/
def MadeE (w w' : World) (e : Ending) (xs : List UInt8) (code : Int) : Prop := ∃ v, e = .returned (.tuple #[v, .int .i64 code]) ∧ Owns w' w.heap.size v xs ∧ w.grownBy w' none

def encV (xs : List In) : List UInt8 := if xs.length ≤ 4096 then encS xs else []
def encE (xs : List In) : Int := if xs.length ≤ 4096 then 0 else 21

end Go.Proofs.YtnojpepjloceoaaGreat

namespace Go.Proofs.YtnojpepjloceoaaGreat
open Go.RowKit
set_option maxRecDepth 100000

def lkA (l : Lk) : Array Value := #[.bool l.acfc, .bool l.pfc, .int .i64 l.mp]
def exV {α : Type} (d : α) : Except Int α → α
  | .ok a => a
  | .error _ => d
def exE {α : Type} : Except Int α → Int
  | .ok _ => 0
  | .error e => e

theorem Cells.bgc {w : World} {ao : Option Addr} {b : List UInt8} (h : Cells w ao b) {k : Nat} (hk : k < b.length) : ∃ bb off, ao = some ⟨bb, off, none⟩ ∧ ∀ i, i < b.length → w.cell? ⟨bb, off + i, none⟩ = some (.int .u8 (bg b i : Int)) := by
  obtain ⟨bb, off, hao, hc⟩ := h.addr hk
  refine ⟨bb, off, hao, fun i hi => ?_⟩
  rw [hc i hi, bg, List.getD_eq_getElem?_getD, List.getElem?_eq_getElem hi]
  rfl

theorem beq_nat {x k : Nat} (h : x = k) : ((x : Int) == (k : Int)) = true := by rw [h]; simp
theorem beq_nat_no {x k : Nat} (h : x ≠ k) : ((x : Int) == (k : Int)) = false := by rw [beq_eq_false_iff_ne]; omega

/-- The bits of a header. -/
theorem mod_and (h k : Nat) (hh : h < 4294967296) (hk : k ≤ 32) : bits .and .u32 (h : Int) ((2 ^ k - 1 : Nat) : Int) = ((h % 2 ^ k : Nat) : Int) := by
  have hlt : 2 ^ k ≤ 2 ^ 32 := Nat.pow_le_pow_right (by decide) hk
  have := u32_and_nat h (2 ^ k - 1) hh (by omega)
  rw [this, Nat.and_two_pow_sub_one_eq_mod]
theorem clear_top (h k : Nat) (hk : k < 32) (hh : h < 2 ^ (k + 1)) : h &&& (4294967295 - 2 ^ k) = h % 2 ^ k := by
  have hp : 2 ^ k < 2 ^ 32 := Nat.pow_lt_pow_right (by decide) hk
  apply Nat.eq_of_testBit_eq
  intro i
  rw [Nat.testBit_and, show 4294967295 - 2 ^ k = 2 ^ 32 - (2 ^ k + 1) by omega, Nat.testBit_two_pow_sub_succ hp, Nat.testBit_mod_two_pow, Nat.testBit_two_pow]
  by_cases hi : k + 1 ≤ i
  · have : h.testBit i = false := Nat.testBit_lt_two_pow (Nat.lt_of_lt_of_le hh (Nat.pow_le_pow_right (by decide) hi))
    rw [this]; simp
  · by_cases e : i = k
    · subst e; simp
    · have h1 : i < k := by omega
      have h2 : i < 32 := by omega
      have h3 : ¬ k = i := fun e' => e e'.symm
      simp [h1, h2, h3]
theorem notop (h k : Nat) (hk : k < 32) (hh : h < 2 ^ (k + 1)) (h32 : h < 4294967296) : bits .andNot .u32 (h : Int) ((2 ^ k : Nat) : Int) = ((h % 2 ^ k : Nat) : Int) := by
  have hp : 2 ^ k < 2 ^ 32 := Nat.pow_lt_pow_right (by decide) hk
  rw [u32_andNot_nat h (2 ^ k) h32 (by omega), clear_top h k hk hh]
theorem and_two (h k : Nat) : h &&& 2 ^ k = if h.testBit k = true then 2 ^ k else 0 := by
  apply Nat.eq_of_testBit_eq
  intro i
  rw [Nat.testBit_and, Nat.testBit_two_pow]
  by_cases e : k = i
  · subst e
    cases hb : h.testBit k <;> simp
  · cases hb : h.testBit k <;> simp [e]
theorem bit_of (h k : Nat) (hk : k < 32) (h32 : h < 4294967296) : (bits .and .u32 (h : Int) ((2 ^ k : Nat) : Int) != 0) = decide (h / 2 ^ k % 2 = 1) := by
  have hp : 2 ^ k < 2 ^ 32 := Nat.pow_lt_pow_right (by decide) hk
  have hpos : 0 < 2 ^ k := Nat.pos_of_ne_zero (by simp)
  rw [u32_and_nat h (2 ^ k) h32 (by omega), and_two, ← Nat.testBit_eq_decide_div_mod_eq]
  cases h.testBit k with
  | false => rfl
  | true =>
    rw [if_pos rfl, bne_iff_ne]
    omega

/-- Five results. -/
theorem results_tmp5 {fn : Func} {t u v x y : Tmp} (h : fn.results = #[.tmp t, .tmp u, .tmp v, .tmp x, .tmp y]) (tmps : Array Value) (P : Program) (w : World) :
    (results fn tmps).run P w = .ok (.tuple #[tmps.getD t undef, tmps.getD u undef, tmps.getD v undef, tmps.getD x undef, tmps.getD y undef]) w := by
  simp [results, h]

end Go.Proofs.YtnojpepjloceoaaGreat

namespace Go.Proofs.YtnojpepjloceoaaGreat
open Go.RowKit
set_option maxRecDepth 100000

def vwA (v : Vw) : Array Value := #[.int .u32 (v.proto : Int), .bool v.multi, .bool v.beg, .bool v.fin, .int .u32 (v.seq : Int), .int .i64 (v.pos : Int), .int .i64 (v.net : Int), .int .i64 (v.next : Int), .int .i64 (v.load : Int)]
/-- Cells lie in a block of their own. -/
def VAt (w : World) (g t : Nat) (cs : Array Value) : Prop := w.heap[g]? = some (.cells cs t (0, 0))
theorem VAt.cell {w : World} {g t : Nat} {cs : Array Value} (h : VAt w g t cs) (i : Nat) : w.cell? ⟨g, i, none⟩ = cs[i]? := cell_of_row w g i cs t (0, 0) h
theorem VAt.free {w : World} {g t : Nat} {cs : Array Value} (h : VAt w g t cs) (i : Nat) : w.frozen? ⟨g, i, none⟩ = false := by
  unfold VAt at h
  simp [World.frozen?, h]
theorem VAt.lt {w : World} {g t : Nat} {cs : Array Value} (h : VAt w g t cs) : g < w.heap.size := by
  unfold VAt at h
  by_cases hb : g < w.heap.size
  · exact hb
  · rw [Array.getElem?_eq_none (by omega)] at h; cases h
theorem VAt.grown {w w' : World} {g t : Nat} {cs : Array Value} {row : Option Nat} (h : VAt w g t cs) (G : w.grownBy w' row) (hr : row ≠ some g) : VAt w' g t cs := by
  have := G.block g h.lt (Ne.symm hr)
  unfold VAt at *
  rw [this, h]
theorem VAt.kept {w w' : World} {g t : Nat} {cs : Array Value} (h : VAt w g t cs) (G : w.grownBy w' none) : VAt w' g t cs := h.grown G (by simp)
theorem VAt.set {w : World} {g t : Nat} {cs : Array Value} (h : VAt w g t cs) (i : Nat) (v : Value) : VAt (w.setCell ⟨g, i, none⟩ v) g t (cs.setIfInBounds i v) := by
  unfold VAt at *
  simp only [World.setCell, Array.getElem?_modify, h, if_true, Option.map_some]
  rfl
theorem VAt.alloc (w : World) (t : Nat) (cs : Array Value) : VAt (w.alloc (.cells cs t)) w.heap.size t cs := heap_alloc_new w _
theorem VAt.setRow {w : World} {g t : Nat} {cs : Array Value} (h : VAt w g t cs) (ds : Array Value) : VAt (w.setRow g ds) g t ds := by
  unfold VAt at *
  exact setRow_heap w g _ _ t _ h
theorem vheap_setRow_ne (w : World) (g k : Nat) (cs : Array Value) (h : k ≠ g) : (w.setRow g cs).heap[k]? = w.heap[k]? := by
  simp [World.setRow, Array.getElem?_modify, Ne.symm h]
theorem vgrown_setRow {w W : World} {row : Option Nat} (G : w.grownBy W row) (g : Nat) (cs : Array Value) (hg : row = some g ∨ w.heap.size ≤ g) : w.grownBy (W.setRow g cs) row := by
  refine ⟨G.os, G.tape, G.output, by rw [setRow_size]; exact G.size, fun i hi hr => ?_⟩
  have : i ≠ g := by
    rintro rfl
    rcases hg with hg | hg
    · exact hr hg.symm
    · omega
  rw [vheap_setRow_ne _ _ _ _ this]
  exact G.block i hi hr
theorem VAt.other {w : World} {g t k : Nat} {cs : Array Value} (h : VAt w g t cs) (ds : Array Value) (hk : g ≠ k) : VAt (w.setRow k ds) g t cs := by
  unfold VAt at *
  rw [vheap_setRow_ne _ _ _ _ hk]
  exact h
theorem VAt.setOther {w : World} {g t k i : Nat} {cs : Array Value} (h : VAt w g t cs) (u : Value) (hk : g ≠ k) : VAt (w.setCell ⟨k, i, none⟩ u) g t cs := by
  unfold VAt at *
  simp only [World.setCell, Array.getElem?_modify, if_neg (Ne.symm hk)]
  exact h
/-- A result row that lies in a block, and a second result. -/
theorem ret_row {P : Program} {fn : Func} {p u : Tmp} {ty : TypeId} (h : fn.results = #[.cell p ty, .tmp u]) (tmps : Array Value) (w : World) (g : Nat) (cs : Array Value) (d : TypeDesc) (hp : tmps.getD p undef = .pointer (some ⟨g, 0, none⟩)) (A : VAt w g ty cs)
    (hu : P.underlying ty = some d) (hd : (match d with | .struct _ | .array _ _ => true | _ => false) = true) (hi : (P.info? ty).map (·.size) = some cs.size) : (results fn tmps).run P w = .ok (.tuple #[.agg cs, tmps.getD u undef]) w := by
  rw [results_cell_tmp h, hp]
  have := run_loadVar_row (P := P) w g ty ty cs (0, 0) _ A hu hd hi
  simp only [asAddr, Sem.run_pure, Result.andThen, this]

theorem size81 : (Tryz.prog.info? 81).map (·.size) = some 9 := by kernel_rfl

theorem size23 : (Tryz.prog.info? 23).map (·.size) = some 3 := by kernel_rfl

theorem vwA_all (v : Vw) : (vwA v).all (·.oneCell') = true := by simp [vwA, Value.oneCell']

/-- A boxed link, and a view behind it. -/
theorem two_blocks (w : World) (l : Lk) (t s : Nat) (cs : Array Value) :
    VAt ((w.alloc (.cells (lkA l) t)).alloc (.cells cs s)) w.heap.size t (lkA l) ∧ VAt ((w.alloc (.cells (lkA l) t)).alloc (.cells cs s)) (w.heap.size + 1) s cs ∧ w.grownBy ((w.alloc (.cells (lkA l) t)).alloc (.cells cs s)) none := by
  have A0 := VAt.alloc w t (lkA l)
  have A1 := VAt.alloc (w.alloc (.cells (lkA l) t)) s cs
  have K1 := World.grownBy_alloc (w.alloc (.cells (lkA l) t)) (.cells cs s) none
  rw [show (w.alloc (.cells (lkA l) t)).heap.size = w.heap.size + 1 by simp] at A1
  exact ⟨A0.kept K1, A1, grown_trans (World.grownBy_alloc w _ none) K1⟩

theorem plain_err {l : Lk} {b : List UInt8} {e : Int} (h : plainV l b = .error e) : (e != 0) = true := by
  unfold plainV at h
  split at h
  · cases h
  · split at h
    · cases h
    · split at h <;> cases h <;> rfl
theorem proto_err {l : Lk} {b : List UInt8} {p : Nat} {e : Int} (h : protoV l b p = .error e) : (e != 0) = true := by
  unfold protoV at h
  split at h
  · cases h; rfl
  · split at h
    · split at h <;> cases h; rfl
    · split at h
      · cases h; rfl
      · split at h <;> cases h; rfl
theorem head_err {l : Lk} {b : List UInt8} {p : Nat} {e : Int} (h : headV l b p = .error e) : (e != 0) = true := by
  unfold headV at h
  split at h
  · cases h; rfl
  · split at h <;> cases h; rfl

end Go.Proofs.YtnojpepjloceoaaGreat

namespace Go.Proofs.YtnojpepjloceoaaGreat
open Go.RowKit
set_option maxRecDepth 100000

theorem zeroB_end (xs : List UInt8) (h : xs.length = 16) : zeroB xs 16 = true := by
  unfold zeroB
  rw [List.drop_eq_nil_of_le (by omega)]
  rfl
theorem zeroB_step (xs : List UInt8) (k : Nat) (h : k < xs.length) : zeroB xs k = (xs[k] == 0 && zeroB xs (k + 1)) := by
  unfold zeroB
  rw [List.drop_eq_getElem_cons h, List.all_cons]

theorem be2_eq (v : Nat) : bytesV 2 v = be2 v := by
  show [UInt8.ofNat (shr8 v 1), UInt8.ofNat (shr8 v 0)] = _
  simp [be2, shr8]
theorem be4_eq (v : Nat) : bytesV 4 v = be4 v := by
  show [UInt8.ofNat (shr8 v 3), UInt8.ofNat (shr8 v 2), UInt8.ofNat (shr8 v 1), UInt8.ofNat (shr8 v 0)] = _
  simp [be4, shr8]

theorem or_top (k n : Nat) (h : n < 2 ^ k) : n ||| 2 ^ k = 2 ^ k + n := by
  have := Nat.two_pow_add_eq_or_of_lt h 1
  rw [Nat.mul_one] at this
  rw [Nat.or_comm]
  exact this.symm
theorem or_two (k n : Nat) (h : n < 2 ^ k) : (2 ^ (k + 1) + n) ||| 2 ^ k = 2 ^ (k + 1) + (2 ^ k + n) := by
  have h2 : 2 ^ k + n < 2 ^ (k + 1) := by rw [Nat.pow_succ]; omega
  have h1 : n < 2 ^ (k + 1) := by rw [Nat.pow_succ]; omega
  rw [← or_top (k + 1) n h1, Nat.or_comm n, Nat.or_assoc, or_top k n h, Nat.or_comm, or_top (k + 1) _ h2]

/-- A header's number, by bits. -/
theorem hd_bits (K seq : Nat) (beg fin : Bool) (h : seq < 2 ^ K) : ((if beg = true then seq ||| 2 ^ (K + 1) else seq) ||| (if fin = true then 2 ^ K else 0)) = (if beg = true then 2 ^ (K + 1) else 0) + (if fin = true then 2 ^ K else 0) + seq := by
  have h1 : seq < 2 ^ (K + 1) := by rw [Nat.pow_succ]; omega
  cases beg <;> cases fin <;> simp only [if_true, if_false, Bool.false_eq_true]
  · simp
  · rw [or_top K seq h]; omega
  · rw [or_top (K + 1) seq h1]; simp
  · rw [or_top (K + 1) seq h1, or_two K seq h]; omega

end Go.Proofs.YtnojpepjloceoaaGreat

namespace Go.Proofs.YtnojpepjloceoaaGreat
open Go.RowKit
set_option maxRecDepth 100000

def spL (s : Sp) (a : Option Addr) (ca : Nat) : List Value :=
  .bool s.plain :: .bool s.wide :: .bool s.multi :: .bool s.beg :: .bool s.fin :: .int .u32 (s.seq : Int) :: .int .u32 (s.proto : Int) :: .int .i64 s.next :: (s.src.map bv ++ (s.dst.map bv ++ [.bool s.ports, .int .u32 (s.frm : Int), .int .u32 (s.til : Int), .slice a s.data.length ca]))
def spA (s : Sp) (a : Option Addr) (ca : Nat) : Array Value := (spL s a ca).toArray
structure Sp.ok (s : Sp) : Prop where
  src : s.src.length = 16
  dst : s.dst.length = 16
  seq : s.seq ≤ 4294967295
  proto : s.proto ≤ 4294967295
  frm : s.frm ≤ 4294967295
  til : s.til ≤ 4294967295

theorem spL_len {s : Sp} (h : s.ok) (a : Option Addr) (ca : Nat) : (spL s a ca).length = 44 := by simp [spL, h.src, h.dst]
theorem spL_src {s : Sp} (h : s.ok) (a : Option Addr) (ca : Nat) (j : Nat) (hj : j < 16) : (spL s a ca)[8 + j]? = (s.src.map bv)[j]? := by
  show (.bool s.plain :: _ : List Value)[8 + j]? = _
  rw [show 8 + j = j + 1 + 1 + 1 + 1 + 1 + 1 + 1 + 1 by omega]
  simp only [List.getElem?_cons_succ]
  rw [List.getElem?_append_left (by simp [h.src]; omega)]
theorem spL_dst {s : Sp} (h : s.ok) (a : Option Addr) (ca : Nat) (j : Nat) (hj : j < 16) : (spL s a ca)[24 + j]? = (s.dst.map bv)[j]? := by
  show (.bool s.plain :: _ : List Value)[24 + j]? = _
  rw [show 24 + j = (16 + j) + 1 + 1 + 1 + 1 + 1 + 1 + 1 + 1 by omega]
  simp only [List.getElem?_cons_succ]
  rw [List.getElem?_append_right (by simp [h.src])]
  simp only [List.length_map, h.src, Nat.add_sub_cancel_left]
  rw [List.getElem?_append_left (by simp [h.dst]; omega)]
theorem spL_tail {s : Sp} (h : s.ok) (a : Option Addr) (ca : Nat) (j : Nat) : (spL s a ca)[40 + j]? = ([.bool s.ports, .int .u32 (s.frm : Int), .int .u32 (s.til : Int), .slice a s.data.length ca] : List Value)[j]? := by
  show (.bool s.plain :: _ : List Value)[40 + j]? = _
  rw [show 40 + j = (16 + (16 + j)) + 1 + 1 + 1 + 1 + 1 + 1 + 1 + 1 by omega]
  simp only [List.getElem?_cons_succ]
  rw [List.getElem?_append_right (by simp [h.src])]
  simp only [List.length_map, h.src, Nat.add_sub_cancel_left]
  rw [List.getElem?_append_right (by simp [h.dst])]
  simp only [List.length_map, h.dst, Nat.add_sub_cancel_left]

/-- It lies in a block. -/
def SAt (w : World) (g : Nat) (s : Sp) (a : Option Addr) (ca : Nat) : Prop := VAt w g 28 (spA s a ca) ∧ s.ok
theorem SAt.kept {w w' : World} {g : Nat} {s : Sp} {a : Option Addr} {ca : Nat} (h : SAt w g s a ca) (G : w.grownBy w' none) : SAt w' g s a ca := ⟨h.1.kept G, h.2⟩
theorem SAt.at {w : World} {g : Nat} {s : Sp} {a : Option Addr} {ca : Nat} (h : SAt w g s a ca) (i : Nat) : w.cell? ⟨g, i, none⟩ = (spL s a ca)[i]? := by
  rw [h.1.cell i, spA, List.getElem?_toArray]
theorem SAt.eight {w : World} {g : Nat} {s : Sp} {a : Option Addr} {ca : Nat} (h : SAt w g s a ca) : w.cell? ⟨g, 0, none⟩ = some (.bool s.plain) ∧ w.cell? ⟨g, 1, none⟩ = some (.bool s.wide) ∧ w.cell? ⟨g, 2, none⟩ = some (.bool s.multi) ∧ w.cell? ⟨g, 3, none⟩ = some (.bool s.beg) ∧ w.cell? ⟨g, 4, none⟩ = some (.bool s.fin) ∧ w.cell? ⟨g, 5, none⟩ = some (.int .u32 (s.seq : Int)) ∧ w.cell? ⟨g, 6, none⟩ = some (.int .u32 (s.proto : Int)) ∧ w.cell? ⟨g, 7, none⟩ = some (.int .i64 s.next) :=
  ⟨h.at 0, h.at 1, h.at 2, h.at 3, h.at 4, h.at 5, h.at 6, h.at 7⟩
theorem SAt.four {w : World} {g : Nat} {s : Sp} {a : Option Addr} {ca : Nat} (h : SAt w g s a ca) : w.cell? ⟨g, 40, none⟩ = some (.bool s.ports) ∧ w.cell? ⟨g, 41, none⟩ = some (.int .u32 (s.frm : Int)) ∧ w.cell? ⟨g, 42, none⟩ = some (.int .u32 (s.til : Int)) ∧ w.cell? ⟨g, 43, none⟩ = some (.slice a s.data.length ca) :=
  ⟨(h.at 40).trans (spL_tail h.2 a ca 0), (h.at 41).trans (spL_tail h.2 a ca 1), (h.at 42).trans (spL_tail h.2 a ca 2), (h.at 43).trans (spL_tail h.2 a ca 3)⟩
theorem SAt.srcR {w : World} {g : Nat} {s : Sp} {a : Option Addr} {ca : Nat} (h : SAt w g s a ca) : w.rangeAt g 8 (s.src.map bv) := fun j v hv => by
  have hj : j < 16 := by
    have := (List.getElem?_eq_some_iff.1 hv).1
    simpa [h.2.src] using this
  rw [h.at (8 + j), spL_src h.2 a ca j hj]
  exact hv
theorem SAt.dstR {w : World} {g : Nat} {s : Sp} {a : Option Addr} {ca : Nat} (h : SAt w g s a ca) : w.rangeAt g 24 (s.dst.map bv) := fun j v hv => by
  have hj : j < 16 := by
    have := (List.getElem?_eq_some_iff.1 hv).1
    simpa [h.2.dst] using this
  rw [h.at (24 + j), spL_dst h.2 a ca j hj]
  exact hv

/-- A load out of the middle of a block, guarded or not. -/
theorem wpList_load_midg {P : Program} {ops : Array Oper} {rest : List Oper} {o : Oper} {a : Act} {w : World} {Q : Exit → Act → World → Prop} (hw : Region.wanted o (yielded ops a.tmps) = true) (ty : TypeId) (x : Operand) (ho : o.op = .load ty x)
    (g k : Nat) (hx : a.eval x = .pointer (some ⟨g, k, none⟩)) (cs : List Value) (d : TypeDesc) (hc : w.rangeAt g k cs) (hu : P.underlying ty = some d) (hd : d.isRow = true) (hi : (P.info? ty).map (·.size) = some cs.length)
    (h : wpList P ops Q rest (a.put o.dst (.agg cs.toArray)) w) : wpList P ops Q (o :: rest) a w :=
  BigFrame.wpList_want hw fun _ hK => wp_load_mid ty x ho g k hx cs d hc hu hd hi (hK _ _ h)

theorem size25 : (Tryz.prog.info? 25).map (·.size) = some 16 := by kernel_rfl

theorem natbeq (n k : Nat) : (n == k) = ((n : Int) == (k : Int)) := by
  by_cases h : n = k
  · rw [h]; simp
  · rw [beq_eq_false_iff_ne.2 h, beq_eq_false_iff_ne.2 (by omega)]
theorem natbne (n k : Nat) : (n != k) = ((n : Int) != (k : Int)) := by
  rw [bne, bne, natbeq]

/-- What lies in memory while a spec is judged. -/
def FI (w : World) (B C : Nat) (l : Lk) (s : Sp) (a : Option Addr) (ca : Nat) (wx : World) : Prop := VAt wx B 23 (lkA l) ∧ SAt wx C s a ca ∧ w.grownBy wx none
theorem FI.kept {w : World} {B C : Nat} {l : Lk} {s : Sp} {a : Option Addr} {ca : Nat} {wx wy : World} (h : FI w B C l s a ca wx) (K : wx.grownBy wy none) : FI w B C l s a ca wy := ⟨h.1.kept K, h.2.1.kept K, grown_trans h.2.2 K⟩

end Go.Proofs.YtnojpepjloceoaaGreat
