/-
  The document's own Get. The document's own Check, Plain, Proto, Head. A view in a block; the document's own Piece. The document's own token of lex. Sources and their tokens: blanks, what stands behind a blank. No Go text here.
-/
import Derived.Test.YtbdmpjnlgdahmabGreatDoorLotP2
import Derived.Test.YtbdmpjnlgdahmabGreatDoorFrameV
import Derived.Test.YtbdmpjnlgdahmabGreatDoorLotP3
import Derived.Handy
import Derived.Laws.Rows
import Derived.Laws.Tables
import Derived.Laws.ResultCell
import Derived.Deep.DeepCutAuto
import Derived.Test.YtbdmpjnlgdahmabGreatDoorLotP8
namespace Go.Proofs.YtbdmpjnlgdahmabGreatDoor
open Go.RowKit
set_option maxRecDepth 100000

end Go.Proofs.YtbdmpjnlgdahmabGreatDoor

namespace Go.Proofs.YtbdmpjnlgdahmabGreatDoor
open Go.RowKit
set_option maxRecDepth 100000

def lkA (l : Lk) : Array Value := #[.bool l.acfc, .bool l.pfc, .int .i64 l.mp]
def exV {α : Type} (d : α) : Except Int α → α
  | .ok a => a
  | .error _ => d
def exE {α : Type} : Except Int α → Int
  | .ok _ => 0
  | .error e => e

theorem Cells.bgc {w : World} {ao : Option Addr} {b : List UInt8} (h : Cells w ao b) {k : Nat} (hk : k < b.length) : ∃ bb off, ao = some ⟨bb, off, none⟩ ∧ ∀ i, i < b.length → w.cell? ⟨bb, off + i, none⟩ = some (.int .u8 (bg b i : Int)) := by
  obtain ⟨bb, off, hao, hc⟩ := h.addr hk
  refine ⟨bb, off, hao, fun i hi => ?_⟩
  rw [hc i hi, bg, List.getD_eq_getElem?_getD, List.getElem?_eq_getElem hi]
  rfl

theorem beq_nat {x k : Nat} (h : x = k) : ((x : Int) == (k : Int)) = true := by rw [h]; simp
theorem beq_nat_no {x k : Nat} (h : x ≠ k) : ((x : Int) == (k : Int)) = false := by rw [beq_eq_false_iff_ne]; omega

/-- The bits of a header. -/
theorem mod_and (h k : Nat) (hh : h < 4294967296) (hk : k ≤ 32) : bits .and .u32 (h : Int) ((2 ^ k - 1 : Nat) : Int) = ((h % 2 ^ k : Nat) : Int) := by
  have hlt : 2 ^ k ≤ 2 ^ 32 := Nat.pow_le_pow_right (by decide) hk
  have := u32_and_nat h (2 ^ k - 1) hh (by omega)
  rw [this, Nat.and_two_pow_sub_one_eq_mod]
theorem clear_top (h k : Nat) (hk : k < 32) (hh : h < 2 ^ (k + 1)) : h &&& (4294967295 - 2 ^ k) = h % 2 ^ k := by
  have hp : 2 ^ k < 2 ^ 32 := Nat.pow_lt_pow_right (by decide) hk
  apply Nat.eq_of_testBit_eq
  intro i
  rw [Nat.testBit_and, show 4294967295 - 2 ^ k = 2 ^ 32 - (2 ^ k + 1) by omega, Nat.testBit_two_pow_sub_succ hp, Nat.testBit_mod_two_pow, Nat.testBit_two_pow]
  by_cases hi : k + 1 ≤ i
  · have : h.testBit i = false := Nat.testBit_lt_two_pow (Nat.lt_of_lt_of_le hh (Nat.pow_le_pow_right (by decide) hi))
    rw [this]; simp
  · by_cases e : i = k
    · subst e; simp
    · have h1 : i < k := by omega
      have h2 : i < 32 := by omega
      have h3 : ¬ k = i := fun e' => e e'.symm
      simp [h1, h2, h3]
theorem notop (h k : Nat) (hk : k < 32) (hh : h < 2 ^ (k + 1)) (h32 : h < 4294967296) : bits .andNot .u32 (h : Int) ((2 ^ k : Nat) : Int) = ((h % 2 ^ k : Nat) : Int) := by
  have hp : 2 ^ k < 2 ^ 32 := Nat.pow_lt_pow_right (by decide) hk
  rw [u32_andNot_nat h (2 ^ k) h32 (by omega), clear_top h k hk hh]
theorem and_two (h k : Nat) : h &&& 2 ^ k = if h.testBit k = true then 2 ^ k else 0 := by
  apply Nat.eq_of_testBit_eq
  intro i
  rw [Nat.testBit_and, Nat.testBit_two_pow]
  by_cases e : k = i
  · subst e
    cases hb : h.testBit k <;> simp
  · cases hb : h.testBit k <;> simp [e]
theorem bit_of (h k : Nat) (hk : k < 32) (h32 : h < 4294967296) : (bits .and .u32 (h : Int) ((2 ^ k : Nat) : Int) != 0) = decide (h / 2 ^ k % 2 = 1) := by
  have hp : 2 ^ k < 2 ^ 32 := Nat.pow_lt_pow_right (by decide) hk
  have hpos : 0 < 2 ^ k := Nat.pos_of_ne_zero (by simp)
  rw [u32_and_nat h (2 ^ k) h32 (by omega), and_two, ← Nat.testBit_eq_decide_div_mod_eq]
  cases h.testBit k with
  | false => rfl
  | true =>
    rw [if_pos rfl, bne_iff_ne]
    omega

/-- Five results. -/
theorem results_tmp5 {fn : Func} {t u v x y : Tmp} (h : fn.results = #[.tmp t, .tmp u, .tmp v, .tmp x, .tmp y]) (tmps : Array Value) (P : Program) (w : World) :
    (results fn tmps).run P w = .ok (.tuple #[tmps.getD t undef, tmps.getD u undef, tmps.getD v undef, tmps.getD x undef, tmps.getD y undef]) w := by
  simp [results, h]

end Go.Proofs.YtbdmpjnlgdahmabGreatDoor

namespace Go.Proofs.YtbdmpjnlgdahmabGreatDoor
open Go.RowKit
set_option maxRecDepth 100000

def vwA (v : Vw) : Array Value := #[.int .u32 (v.proto : Int), .bool v.multi, .bool v.beg, .bool v.fin, .int .u32 (v.seq : Int), .int .i64 (v.pos : Int), .int .i64 (v.net : Int), .int .i64 (v.next : Int), .int .i64 (v.load : Int)]
/-- Cells lie in a block of their own. -/
def VAt (w : World) (g t : Nat) (cs : Array Value) : Prop := w.heap[g]? = some (.cells cs t (0, 0))
theorem VAt.cell {w : World} {g t : Nat} {cs : Array Value} (h : VAt w g t cs) (i : Nat) : w.cell? ⟨g, i, none⟩ = cs[i]? := cell_of_row w g i cs t (0, 0) h
theorem VAt.free {w : World} {g t : Nat} {cs : Array Value} (h : VAt w g t cs) (i : Nat) : w.frozen? ⟨g, i, none⟩ = false := by
  unfold VAt at h
  simp [World.frozen?, h]
theorem VAt.lt {w : World} {g t : Nat} {cs : Array Value} (h : VAt w g t cs) : g < w.heap.size := by
  unfold VAt at h
  by_cases hb : g < w.heap.size
  · exact hb
  · rw [Array.getElem?_eq_none (by omega)] at h; cases h
theorem VAt.grown {w w' : World} {g t : Nat} {cs : Array Value} {row : Option Nat} (h : VAt w g t cs) (G : w.grownBy w' row) (hr : row ≠ some g) : VAt w' g t cs := by
  have := G.block g h.lt (Ne.symm hr)
  unfold VAt at *
  rw [this, h]
theorem VAt.kept {w w' : World} {g t : Nat} {cs : Array Value} (h : VAt w g t cs) (G : w.grownBy w' none) : VAt w' g t cs := h.grown G (by simp)
theorem VAt.set {w : World} {g t : Nat} {cs : Array Value} (h : VAt w g t cs) (i : Nat) (v : Value) : VAt (w.setCell ⟨g, i, none⟩ v) g t (cs.setIfInBounds i v) := by
  unfold VAt at *
  simp only [World.setCell, Array.getElem?_modify, h, if_true, Option.map_some]
  rfl
theorem VAt.alloc (w : World) (t : Nat) (cs : Array Value) : VAt (w.alloc (.cells cs t)) w.heap.size t cs := heap_alloc_new w _
theorem VAt.setRow {w : World} {g t : Nat} {cs : Array Value} (h : VAt w g t cs) (ds : Array Value) : VAt (w.setRow g ds) g t ds := by
  unfold VAt at *
  exact setRow_heap w g _ _ t _ h
theorem vheap_setRow_ne (w : World) (g k : Nat) (cs : Array Value) (h : k ≠ g) : (w.setRow g cs).heap[k]? = w.heap[k]? := by
  simp [World.setRow, Array.getElem?_modify, Ne.symm h]
theorem vgrown_setRow {w W : World} {row : Option Nat} (G : w.grownBy W row) (g : Nat) (cs : Array Value) (hg : row = some g ∨ w.heap.size ≤ g) : w.grownBy (W.setRow g cs) row := by
  refine ⟨G.os, G.tape, G.output, by rw [setRow_size]; exact G.size, fun i hi hr => ?_⟩
  have : i ≠ g := by
    rintro rfl
    rcases hg with hg | hg
    · exact hr hg.symm
    · omega
  rw [vheap_setRow_ne _ _ _ _ this]
  exact G.block i hi hr
theorem VAt.other {w : World} {g t k : Nat} {cs : Array Value} (h : VAt w g t cs) (ds : Array Value) (hk : g ≠ k) : VAt (w.setRow k ds) g t cs := by
  unfold VAt at *
  rw [vheap_setRow_ne _ _ _ _ hk]
  exact h
theorem VAt.setOther {w : World} {g t k i : Nat} {cs : Array Value} (h : VAt w g t cs) (u : Value) (hk : g ≠ k) : VAt (w.setCell ⟨k, i, none⟩ u) g t cs := by
  unfold VAt at *
  simp only [World.setCell, Array.getElem?_modify, if_neg (Ne.symm hk)]
  exact h
/-- A result row that lies in a block, and a second result. -/
theorem ret_row {P : Program} {fn : Func} {p u : Tmp} {ty : TypeId} (h : fn.results = #[.cell p ty, .tmp u]) (tmps : Array Value) (w : World) (g : Nat) (cs : Array Value) (d : TypeDesc) (hp : tmps.getD p undef = .pointer (some ⟨g, 0, none⟩)) (A : VAt w g ty cs)
    (hu : P.underlying ty = some d) (hd : (match d with | .struct _ | .array _ _ => true | _ => false) = true) (hi : (P.info? ty).map (·.size) = some cs.size) : (results fn tmps).run P w = .ok (.tuple #[.agg cs, tmps.getD u undef]) w := by
  rw [results_cell_tmp h, hp]
  have := run_loadVar_row (P := P) w g ty ty cs (0, 0) _ A hu hd hi
  simp only [asAddr, Sem.run_pure, Result.andThen, this]

theorem vwA_all (v : Vw) : (vwA v).all (·.oneCell') = true := by simp [vwA, Value.oneCell']

/-- A boxed link, and a view behind it. -/
theorem two_blocks (w : World) (l : Lk) (t s : Nat) (cs : Array Value) :
    VAt ((w.alloc (.cells (lkA l) t)).alloc (.cells cs s)) w.heap.size t (lkA l) ∧ VAt ((w.alloc (.cells (lkA l) t)).alloc (.cells cs s)) (w.heap.size + 1) s cs ∧ w.grownBy ((w.alloc (.cells (lkA l) t)).alloc (.cells cs s)) none := by
  have A0 := VAt.alloc w t (lkA l)
  have A1 := VAt.alloc (w.alloc (.cells (lkA l) t)) s cs
  have K1 := World.grownBy_alloc (w.alloc (.cells (lkA l) t)) (.cells cs s) none
  rw [show (w.alloc (.cells (lkA l) t)).heap.size = w.heap.size + 1 by simp] at A1
  exact ⟨A0.kept K1, A1, grown_trans (World.grownBy_alloc w _ none) K1⟩

theorem plain_err {l : Lk} {b : List UInt8} {e : Int} (h : plainV l b = .error e) : (e != 0) = true := by
  unfold plainV at h
  split at h
  · cases h
  · split at h
    · cases h
    · split at h <;> cases h <;> rfl
theorem proto_err {l : Lk} {b : List UInt8} {p : Nat} {e : Int} (h : protoV l b p = .error e) : (e != 0) = true := by
  unfold protoV at h
  split at h
  · cases h; rfl
  · split at h
    · split at h <;> cases h; rfl
    · split at h
      · cases h; rfl
      · split at h <;> cases h; rfl
theorem head_err {l : Lk} {b : List UInt8} {p : Nat} {e : Int} (h : headV l b p = .error e) : (e != 0) = true := by
  unfold headV at h
  split at h
  · cases h; rfl
  · split at h <;> cases h; rfl

end Go.Proofs.YtbdmpjnlgdahmabGreatDoor

namespace Go.Proofs.YtbdmpjnlgdahmabGreatDoor
open Go.RowKit
set_option maxRecDepth 100000

def tkA (q p : Nat) (t : List UInt8) (n : Nat) : Array Value := #[.int .i64 (q : Int), .int .i64 (p : Int), str t, .int .u32 (n : Int)]
theorem size33 : (Tryz.prog.info? 33).map (·.size) = some 4 := by kernel_rfl

/-- What is told of a token. -/
def tokA (p : Nat) (x : Except Int (Nat × List UInt8 × Nat)) : Array Value := match x with
  | .ok (q, t, n) => tkA q p t n
  | .error _ => tkA 0 0 [] 0
def tokE (x : Except Int (Nat × List UInt8 × Nat)) : Int := match x with
  | .ok _ => 0
  | .error e => e

end Go.Proofs.YtbdmpjnlgdahmabGreatDoor

namespace Go.Proofs.YtbdmpjnlgdahmabGreatDoor
open Go.RowKit
set_option maxRecDepth 100000

theorem lexF_fuel : ∀ (k k' p : Nat) (s : List UInt8), s.length ≤ k → s.length ≤ k' → lexF k p s = lexF k' p s
  | 0, k', p, s, h, h' => by
    have : s = [] := List.eq_nil_of_length_eq_zero (by omega)
    subst this
    cases k' <;> rfl
  | k + 1, 0, p, s, h, h' => by
    have : s = [] := List.eq_nil_of_length_eq_zero (by omega)
    subst this
    rfl
  | k + 1, k' + 1, p, [], _, _ => rfl
  | k + 1, k' + 1, p, c :: r, h, h' => by
    simp only [List.length_cons] at h h'
    rw [lexF, lexF]
    split
    · exact lexF_fuel k k' (p + 1) r (by omega) (by omega)
    · split
      · rfl
      · rename_i q t n ht
        have hl := List.length_pos_iff.2 (tok_ok ht).1
        rw [lexF_fuel k k' (p + t.length) ((c :: r).drop t.length) (by rw [List.length_drop, List.length_cons]; omega) (by rw [List.length_drop, List.length_cons]; omega)]

theorem lexR_nil (p : Nat) : lexR p [] = .ok [⟨0, p, [], 0⟩] := rfl
theorem lexR_blank (p : Nat) {c : UInt8} (r : List UInt8) (h : blankB c = true) : lexR p (c :: r) = lexR (p + 1) r := by
  unfold lexR
  rw [List.length_cons, lexF, if_pos h]
theorem lexR_err (p : Nat) {c : UInt8} {r : List UInt8} {e : Int} (h : blankB c = false) (ht : tokV (c :: r) = .error e) : lexR p (c :: r) = .error (p, e) := by
  unfold lexR
  rw [List.length_cons, lexF, if_neg (by rw [h]; simp), ht]
theorem lexR_tok (p : Nat) {c : UInt8} {r : List UInt8} {q n : Nat} {t : List UInt8} (h : blankB c = false) (ht : tokV (c :: r) = .ok (q, t, n)) :
    lexR p (c :: r) = match lexR (p + t.length) ((c :: r).drop t.length) with
      | .error e => .error e
      | .ok ts => .ok (⟨q, p, t, n⟩ :: ts) := by
  have hl := List.length_pos_iff.2 (tok_ok ht).1
  unfold lexR
  rw [List.length_cons, lexF, if_neg (by rw [h]; simp), ht]
  simp only
  rw [lexF_fuel r.length ((c :: r).drop t.length).length _ _ (by rw [List.length_drop, List.length_cons]; omega) (Nat.le_refl _)]
  cases lexF ((c :: r).drop t.length).length (p + t.length) ((c :: r).drop t.length) <;> rfl

theorem lexR_skip (p : Nat) : ∀ (bs r : List UInt8), (∀ b ∈ bs, blankB b = true) → lexR p (bs ++ r) = lexR (p + bs.length) r := by
  intro bs
  induction bs generalizing p with
  | nil => intro r _; rfl
  | cons b bs ih =>
    intro r h
    rw [List.cons_append, lexR_blank p _ (h b (List.mem_cons_self ..)), ih (p + 1) r (fun x hx => h x (List.mem_cons_of_mem _ hx)), List.length_cons, show p + 1 + bs.length = p + (bs.length + 1) by omega]

/-- The last token is the end. -/
theorem lexR_end : ∀ (k p : Nat) (s : List UInt8) (ts : List Tk), s.length ≤ k → lexR p s = .ok ts → ∃ us, ts = us ++ [⟨0, p + s.length, [], 0⟩] ∧ ∀ t ∈ us, t.text ≠ [] ∧ tokV t.text = .ok (t.kind, t.text, t.num)
  | k, p, [], ts, _, h => by
    rw [lexR_nil] at h
    cases h
    exact ⟨[], rfl, fun t ht => by cases ht⟩
  | 0, p, c :: r, ts, hk, h => by simp at hk
  | k + 1, p, c :: r, ts, hk, h => by
    simp only [List.length_cons] at hk
    cases hb : blankB c with
    | true =>
      rw [lexR_blank p r hb] at h
      obtain ⟨us, e, hu⟩ := lexR_end k (p + 1) r ts (by omega) h
      exact ⟨us, by rw [e, List.length_cons, show p + 1 + r.length = p + (r.length + 1) by omega], hu⟩
    | false =>
      cases ht : tokV (c :: r) with
      | error e => rw [lexR_err p hb ht] at h; cases h
      | ok x =>
        obtain ⟨q, t, n⟩ := x
        rw [lexR_tok p hb ht] at h
        have hok := tok_ok ht
        have hl := List.length_pos_iff.2 hok.1
        split at h
        · cases h
        · rename_i ts' h'
          cases h
          obtain ⟨us, e, hu⟩ := lexR_end k (p + t.length) ((c :: r).drop t.length) ts' (by rw [List.length_drop, List.length_cons]; omega) h'
          refine ⟨⟨q, p, t, n⟩ :: us, ?_, fun x hx => ?_⟩
          · rw [e, List.cons_append]
            have := hok.2.2.1
            rw [List.length_drop, show p + t.length + ((c :: r).length - t.length) = p + (c :: r).length by omega]
          · rcases List.mem_cons.1 hx with rfl | hx
            · exact ⟨hok.1, tok_alone ht⟩
            · exact hu x hx

/-- A source behind a blank: the one ahead of it decides first; its tokens stand, and those behind follow. -/
theorem lexR_app : ∀ (k p : Nat) (s : List UInt8) (b : UInt8) (m : List UInt8), s.length ≤ k → blankB b = true →
    lexR p (s ++ b :: m) = match lexR p s with
      | .error e => .error e
      | .ok ts => match lexR (p + s.length + 1) m with
        | .error e => .error e
        | .ok us => .ok (ts.dropLast ++ us)
  | k, p, [], b, m, _, hb => by
    rw [List.nil_append, lexR_blank p m hb, lexR_nil]
    simp only [List.length_nil, Nat.add_zero]
    split <;> rename_i h <;> rw [h] <;> rfl
  | 0, p, c :: r, b, m, hk, _ => by simp at hk
  | k + 1, p, c :: r, b, m, hk, hbb => by
    simp only [List.length_cons] at hk
    rw [List.cons_append]
    cases hb : blankB c with
    | true =>
      rw [lexR_blank p _ hb, lexR_blank p _ hb, lexR_app k (p + 1) r b m (by omega) hbb, List.length_cons, show p + (r.length + 1) + 1 = p + 1 + r.length + 1 by omega]
    | false =>
      have he : tokV (c :: (r ++ b :: m)) = tokV (c :: r) := tok_end (t := c :: r) (r := b :: m) (by simp) (.inr ⟨b, m, rfl, hbb⟩)
      cases ht : tokV (c :: r) with
      | error e => rw [lexR_err p hb ht, lexR_err p hb (by rw [he, ht])]
      | ok x =>
        obtain ⟨q, t, n⟩ := x
        have hok := tok_ok ht
        have hl := List.length_pos_iff.2 hok.1
        have hle := hok.2.2.1
        rw [lexR_tok p hb ht, lexR_tok p hb (by rw [he, ht]), show (c :: (r ++ b :: m)).drop t.length = (c :: r).drop t.length ++ b :: m by rw [← List.cons_append, List.drop_append_of_le_length hle],
          lexR_app k (p + t.length) ((c :: r).drop t.length) b m (by rw [List.length_drop, List.length_cons]; omega) hbb,
          show p + t.length + ((c :: r).drop t.length).length + 1 = p + (c :: r).length + 1 by rw [List.length_drop]; omega]
        cases h1 : lexR (p + t.length) ((c :: r).drop t.length) with
        | error e => rfl
        | ok ts =>
          simp only
          cases h2 : lexR (p + (c :: r).length + 1) m with
          | error e => rfl
          | ok us =>
            simp only
            obtain ⟨vs, e, -⟩ := lexR_end _ _ _ _ (Nat.le_refl _) h1
            have hd : ∀ (a z : Tk) (v : List Tk), (a :: (v ++ [z])).dropLast = a :: v := fun a z v => by rw [← List.cons_append, List.dropLast_concat]
            rw [e, List.dropLast_concat, hd, List.cons_append]

/-- Places from another beginning. -/
theorem lexR_shift : ∀ (k p d : Nat) (s : List UInt8), s.length ≤ k → lexR (p + d) s = match lexR p s with
      | .error e => .error (e.1 + d, e.2)
      | .ok ts => .ok (ts.map fun t => { t with pos := t.pos + d })
  | k, p, d, [], _ => rfl
  | 0, p, d, c :: r, hk => by simp at hk
  | k + 1, p, d, c :: r, hk => by
    simp only [List.length_cons] at hk
    cases hb : blankB c with
    | true => rw [lexR_blank _ _ hb, lexR_blank _ _ hb, show p + d + 1 = p + 1 + d by omega, lexR_shift k (p + 1) d r (by omega)]
    | false =>
      cases ht : tokV (c :: r) with
      | error e => rw [lexR_err _ hb ht, lexR_err _ hb ht]
      | ok x =>
        obtain ⟨q, t, n⟩ := x
        have hl := List.length_pos_iff.2 (tok_ok ht).1
        rw [lexR_tok _ hb ht, lexR_tok _ hb ht, show p + d + t.length = p + t.length + d by omega, lexR_shift k (p + t.length) d ((c :: r).drop t.length) (by rw [List.length_drop, List.length_cons]; omega)]
        cases h1 : lexR (p + t.length) ((c :: r).drop t.length) with
        | error e => rfl
        | ok ts => rfl

end Go.Proofs.YtbdmpjnlgdahmabGreatDoor
