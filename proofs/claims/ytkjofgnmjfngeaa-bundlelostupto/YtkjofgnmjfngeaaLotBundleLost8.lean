/-
  A view in a block; the document's own Piece. The landed reader's six steps, in words, and that they are the look of chapter 7. The program's own Get.
-/
import Derived.Test.YtkjofgnmjfngeaaLotBundleLost7
import Derived.Laws.Rows
import Derived.Laws.Tables
import Derived.Laws.ResultCell
import Derived.Deep.DeepCutAuto
import Derived.Test.YtkjofgnmjfngeaaFrameV
import Derived.Test.YtkjofgnmjfngeaaBase
namespace Go.Proofs.Ytkjofgnmjfngeaa
open Go.RowKit
set_option maxRecDepth 100000

def vwA (v : Vw) : Array Value := #[.int .u32 (v.proto : Int), .bool v.multi, .bool v.beg, .bool v.fin, .int .u32 (v.seq : Int), .int .i64 (v.pos : Int), .int .i64 (v.net : Int), .int .i64 (v.next : Int), .int .i64 (v.load : Int)]
/-- Cells lie in a block of their own. -/
def VAt (w : World) (g t : Nat) (cs : Array Value) : Prop := w.heap[g]? = some (.cells cs t (0, 0))
theorem VAt.cell {w : World} {g t : Nat} {cs : Array Value} (h : VAt w g t cs) (i : Nat) : w.cell? ⟨g, i, none⟩ = cs[i]? := cell_of_row w g i cs t (0, 0) h
theorem VAt.free {w : World} {g t : Nat} {cs : Array Value} (h : VAt w g t cs) (i : Nat) : w.frozen? ⟨g, i, none⟩ = false := by
  unfold VAt at h
  simp [World.frozen?, h]
theorem VAt.lt {w : World} {g t : Nat} {cs : Array Value} (h : VAt w g t cs) : g < w.heap.size := by
  unfold VAt at h
  by_cases hb : g < w.heap.size
  · exact hb
  · rw [Array.getElem?_eq_none (by omega)] at h; cases h
theorem VAt.grown {w w' : World} {g t : Nat} {cs : Array Value} {row : Option Nat} (h : VAt w g t cs) (G : w.grownBy w' row) (hr : row ≠ some g) : VAt w' g t cs := by
  have := G.block g h.lt (Ne.symm hr)
  unfold VAt at *
  rw [this, h]
theorem VAt.kept {w w' : World} {g t : Nat} {cs : Array Value} (h : VAt w g t cs) (G : w.grownBy w' none) : VAt w' g t cs := h.grown G (by simp)
theorem VAt.set {w : World} {g t : Nat} {cs : Array Value} (h : VAt w g t cs) (i : Nat) (v : Value) : VAt (w.setCell ⟨g, i, none⟩ v) g t (cs.setIfInBounds i v) := by
  unfold VAt at *
  simp only [World.setCell, Array.getElem?_modify, h, if_true, Option.map_some]
  rfl
theorem VAt.alloc (w : World) (t : Nat) (cs : Array Value) : VAt (w.alloc (.cells cs t)) w.heap.size t cs := heap_alloc_new w _
theorem VAt.setRow {w : World} {g t : Nat} {cs : Array Value} (h : VAt w g t cs) (ds : Array Value) : VAt (w.setRow g ds) g t ds := by
  unfold VAt at *
  exact setRow_heap w g _ _ t _ h
theorem vheap_setRow_ne (w : World) (g k : Nat) (cs : Array Value) (h : k ≠ g) : (w.setRow g cs).heap[k]? = w.heap[k]? := by
  simp [World.setRow, Array.getElem?_modify, Ne.symm h]
theorem vgrown_setRow {w W : World} {row : Option Nat} (G : w.grownBy W row) (g : Nat) (cs : Array Value) (hg : row = some g ∨ w.heap.size ≤ g) : w.grownBy (W.setRow g cs) row := by
  refine ⟨G.os, G.tape, G.output, by rw [setRow_size]; exact G.size, fun i hi hr => ?_⟩
  have : i ≠ g := by
    rintro rfl
    rcases hg with hg | hg
    · exact hr hg.symm
    · omega
  rw [vheap_setRow_ne _ _ _ _ this]
  exact G.block i hi hr
theorem VAt.other {w : World} {g t k : Nat} {cs : Array Value} (h : VAt w g t cs) (ds : Array Value) (hk : g ≠ k) : VAt (w.setRow k ds) g t cs := by
  unfold VAt at *
  rw [vheap_setRow_ne _ _ _ _ hk]
  exact h
theorem VAt.setOther {w : World} {g t k i : Nat} {cs : Array Value} (h : VAt w g t cs) (u : Value) (hk : g ≠ k) : VAt (w.setCell ⟨k, i, none⟩ u) g t cs := by
  unfold VAt at *
  simp only [World.setCell, Array.getElem?_modify, if_neg (Ne.symm hk)]
  exact h
/-- A result row that lies in a block, and a second result. -/
theorem ret_row {P : Program} {fn : Func} {p u : Tmp} {ty : TypeId} (h : fn.results = #[.cell p ty, .tmp u]) (tmps : Array Value) (w : World) (g : Nat) (cs : Array Value) (d : TypeDesc) (hp : tmps.getD p undef = .pointer (some ⟨g, 0, none⟩)) (A : VAt w g ty cs)
    (hu : P.underlying ty = some d) (hd : (match d with | .struct _ | .array _ _ => true | _ => false) = true) (hi : (P.info? ty).map (·.size) = some cs.size) : (results fn tmps).run P w = .ok (.tuple #[.agg cs, tmps.getD u undef]) w := by
  rw [results_cell_tmp h, hp]
  have := run_loadVar_row (P := P) w g ty ty cs (0, 0) _ A hu hd hi
  simp only [asAddr, Sem.run_pure, Result.andThen, this]

theorem size58 : (Try.prog.info? 58).map (·.size) = some 9 := by kernel_rfl

theorem size26 : (Try.prog.info? 26).map (·.size) = some 3 := by kernel_rfl

theorem vwA_all (v : Vw) : (vwA v).all (·.oneCell') = true := by simp [vwA, Value.oneCell']

/-- A boxed link, and a view behind it. -/
theorem two_blocks (w : World) (l : Lk) (t s : Nat) (cs : Array Value) :
    VAt ((w.alloc (.cells (lkA l) t)).alloc (.cells cs s)) w.heap.size t (lkA l) ∧ VAt ((w.alloc (.cells (lkA l) t)).alloc (.cells cs s)) (w.heap.size + 1) s cs ∧ w.grownBy ((w.alloc (.cells (lkA l) t)).alloc (.cells cs s)) none := by
  have A0 := VAt.alloc w t (lkA l)
  have A1 := VAt.alloc (w.alloc (.cells (lkA l) t)) s cs
  have K1 := World.grownBy_alloc (w.alloc (.cells (lkA l) t)) (.cells cs s) none
  rw [show (w.alloc (.cells (lkA l) t)).heap.size = w.heap.size + 1 by simp] at A1
  exact ⟨A0.kept K1, A1, grown_trans (World.grownBy_alloc w _ none) K1⟩

theorem plain_err {l : Lk} {b : List UInt8} {e : Int} (h : plainV l b = .error e) : (e != 0) = true := by
  unfold plainV at h
  split at h
  · cases h
  · split at h
    · cases h
    · split at h <;> cases h <;> rfl
theorem proto_err {l : Lk} {b : List UInt8} {p : Nat} {e : Int} (h : protoV l b p = .error e) : (e != 0) = true := by
  unfold protoV at h
  split at h
  · cases h; rfl
  · split at h
    · split at h <;> cases h; rfl
    · split at h
      · cases h; rfl
      · split at h <;> cases h; rfl
theorem head_err {l : Lk} {b : List UInt8} {p : Nat} {e : Int} (h : headV l b p = .error e) : (e != 0) = true := by
  unfold headV at h
  split at h
  · cases h; rfl
  · split at h <;> cases h; rfl

end Go.Proofs.Ytkjofgnmjfngeaa

namespace Go.Proofs.Ytkjofgnmjfngeaa
open Go.RowKit
set_option maxRecDepth 100000

def protoS (l : Lk) (b : List UInt8) (v : Vw) : Except Int Vw := (protoV l b v.pos).bind fun q => .ok { v with proto := q.1, pos := q.2 }
def headS (l : Lk) (b : List UInt8) (v : Vw) : Except Int Vw := if l.mp = 0 ∨ v.proto ≠ 61 then .ok v else (headV l b v.pos).bind fun h => .ok { v with multi := true, beg := h.1, fin := h.2.1, seq := h.2.2.1, pos := h.2.2.2 }
def netS (b : List UInt8) (v : Vw) : Except Int Vw := if v.proto = 33 ∨ v.proto = 87 then ipV v b else .ok v
/-- A step. -/
def stepX (l : Lk) (b : List UInt8) : Nat → Vw → Except Int Vw
  | 0, v => if 65535 < b.length then .error 71 else .ok v
  | 1, v => (plainV l b).bind fun p => .ok { v with pos := v.pos + p }
  | 2, v => protoS l b v
  | 3, v => headS l b v
  | 4, v => if v.beg = true then protoS l b v else .ok v
  | 5, v => netS b v
  | _, v => .ok v
/-- The steps from one on. -/
def chainX (l : Lk) (b : List UInt8) : Nat → Nat → Vw → Except Int Vw
  | 0, _, v => .ok v
  | n + 1, i, v => (stepX l b i v).bind (chainX l b n (i + 1))

theorem chain_err {l : Lk} {b : List UInt8} {n i : Nat} {v : Vw} {e : Int} (h : stepX l b i v = .error e) : chainX l b (n + 1) i v = .error e := by rw [chainX, h]; rfl
theorem chain_ok {l : Lk} {b : List UInt8} {n i : Nat} {v u : Vw} (h : stepX l b i v = .ok u) : chainX l b (n + 1) i v = chainX l b n (i + 1) u := by rw [chainX, h]; rfl

theorem except_cases {α : Type} (x : Except Int α) : (∃ e, x = .error e) ∨ ∃ a, x = .ok a := by
  cases x with
  | error e => exact .inl ⟨e, rfl⟩
  | ok a => exact .inr ⟨a, rfl⟩

theorem bind_err {α β : Type} {x : Except Int α} {f : α → Except Int β} {e : Int} (h : x = .error e) : x.bind f = .error e := by rw [h]; rfl

theorem chain_perr {l : Lk} {b : List UInt8} {n : Nat} {v : Vw} {e : Int} (h : protoV l b v.pos = .error e) : chainX l b (n + 1) 2 v = .error e := chain_err (show protoS l b v = _ from bind_err h)
theorem chain_pok {l : Lk} {b : List UInt8} {n : Nat} {v : Vw} {q : Nat × Nat} (h : protoV l b v.pos = .ok q) : chainX l b (n + 1) 2 v = chainX l b n 3 { v with proto := q.1, pos := q.2 } := chain_ok (show protoS l b v = _ from bind_of h)

theorem chain_h0 {l : Lk} {b : List UInt8} {n : Nat} {v : Vw} (h : l.mp = 0 ∨ v.proto ≠ 61) : chainX l b (n + 1) 3 v = chainX l b n 4 v := chain_ok (show headS l b v = _ by rw [headS, if_pos h])
theorem chain_herr {l : Lk} {b : List UInt8} {n : Nat} {v : Vw} {e : Int} (h : ¬ (l.mp = 0 ∨ v.proto ≠ 61)) (hh : headV l b v.pos = .error e) : chainX l b (n + 1) 3 v = .error e := chain_err (show headS l b v = _ by rw [headS, if_neg h]; exact bind_err hh)
theorem chain_hok {l : Lk} {b : List UInt8} {n : Nat} {v : Vw} {q : Bool × Bool × Nat × Nat} (h : ¬ (l.mp = 0 ∨ v.proto ≠ 61)) (hh : headV l b v.pos = .ok q) : chainX l b (n + 1) 3 v = chainX l b n 4 { v with multi := true, beg := q.1, fin := q.2.1, seq := q.2.2.1, pos := q.2.2.2 } := chain_ok (show headS l b v = _ by rw [headS, if_neg h]; exact bind_of hh)

theorem tail_eq (l : Lk) (b : List UInt8) (v : Vw) (hb : v.multi = false → v.beg = false) (hp : v.multi = true → v.beg = false → v.proto = 61) : chainX l b 2 4 v =
    (if v.multi = true ∧ v.beg = false then .ok v
    else (if v.multi = true then (protoV l b v.pos).bind fun q => .ok { v with proto := q.1, pos := q.2 } else .ok v).bind fun v =>
      if v.proto = 33 ∨ v.proto = 87 then ipV v b else .ok v) := by
  show (if v.beg = true then protoS l b v else .ok v).bind (fun v => (netS b v).bind fun v => .ok v) = _
  have hid : ∀ x : Except Int Vw, (x.bind fun v => .ok v) = x := fun x => by cases x <;> rfl
  have hn : (fun v => (netS b v).bind fun v => .ok v) = netS b := funext fun v => hid _
  rw [hn]
  obtain ⟨pr, mu, be, fi, sq, po, ne, nx, lo⟩ := v
  cases mu with
  | false =>
    cases be with
    | true => exact absurd (hb rfl) (by simp)
    | false => rfl
  | true =>
    cases be with
    | true => rfl
    | false =>
      show netS b _ = .ok _
      have h61 : pr = 61 := hp rfl rfl
      rw [netS, if_neg (by show ¬ (pr = 33 ∨ pr = 87); omega)]

theorem look_chain {l : Lk} (b : List UInt8) (hc : checkF l = 0) : chainX l b 6 0 Vw.zero = lookX l b := by
  have e0 : lookX l b = (pieceV l b).bind fun v => if v.multi = true ∧ v.beg = false then .ok v
    else (if v.multi = true then (protoV l b v.pos).bind fun q => .ok { v with proto := q.1, pos := q.2 } else .ok v).bind fun v =>
      if v.proto = 33 ∨ v.proto = 87 then ipV v b else .ok v := by rw [lookX, if_neg (by rw [hc]; simp)]
  rw [e0]
  by_cases hl : 65535 < b.length
  · have e1 : pieceV l b = .error 71 := by rw [pieceV, if_pos hl]
    rw [bind_err e1, chain_err (by rw [stepX, if_pos hl])]
  · have e1 : pieceV l b = (plainV l b).bind fun p => (protoV l b p).bind fun q =>
      if l.mp = 0 ∨ q.1 ≠ 61 then .ok ⟨q.1, false, false, false, 0, q.2, 0, 0, 0⟩
      else (headV l b q.2).bind fun h => .ok ⟨q.1, true, h.1, h.2.1, h.2.2.1, h.2.2.2, 0, 0, 0⟩ := by rw [pieceV, if_neg hl]
    rw [e1, chain_ok (u := Vw.zero) (by rw [stepX, if_neg hl])]
    rcases except_cases (plainV l b) with ⟨e, hp⟩ | ⟨p, hp⟩
    · rw [bind_err (bind_err hp), chain_err (i := 1) (show (plainV l b).bind _ = _ from bind_err hp)]
    · rw [bind_of hp, chain_ok (u := { Vw.zero with pos := p }) (by
        show (plainV l b).bind (fun p => Except.ok { Vw.zero with pos := Vw.zero.pos + p }) = _
        rw [bind_of hp]
        show Except.ok { Vw.zero with pos := 0 + p } = _
        rw [Nat.zero_add])]
      rcases except_cases (protoV l b p) with ⟨e, hq⟩ | ⟨q, hq⟩
      · rw [bind_err (bind_err hq), chain_perr hq]
      · rw [bind_of hq, chain_pok hq]
        by_cases hm : l.mp = 0 ∨ q.1 ≠ 61
        · rw [if_pos hm, chain_h0 hm]
          exact tail_eq l b _ (fun _ => rfl) (fun h => by cases h)
        · rw [if_neg hm]
          rcases except_cases (headV l b q.2) with ⟨e, hh⟩ | ⟨h, hh⟩
          · rw [bind_err (bind_err hh), chain_herr hm hh]
          · rw [bind_of hh, chain_hok hm hh]
            have h61 : q.1 = 61 := Classical.byContradiction fun e => hm (.inr e)
            exact tail_eq l b _ (fun h => by cases h) (fun _ _ => h61)

end Go.Proofs.Ytkjofgnmjfngeaa

namespace Go.Proofs.Ytkjofgnmjfngeaa
open Go.RowKit
set_option maxRecDepth 100000

set_option maxHeartbeats 400000 in
theorem holds_any (a : Option Addr) (ca n : Nat) (p s : Int) (w : World) (hn : n ≤ 140737488355328) :
    Calls Try.prog 21 #[.slice a n ca, .int .i64 p, .int .i64 s] w fun e w' => e = .returned (.bool (okB n p s)) ∧ w = w' := by
  by_cases h : s = 1 ∨ s = 2 ∨ s = 4
  · rcases h with rfl | rfl | rfl
    all_goals
      go_enter Try.func21, Try.ntmps21
      go_wp2
      · go_ret
        exact ⟨ret_bool (okB_of (by omega)), rfl⟩
      · go_ret
        exact ⟨ret_bool (okB_no (by omega)), rfl⟩
  · have h1 : (s != 1) = true := by rw [bne_iff_ne]; omega
    have h2 : (s != 2) = true := by rw [bne_iff_ne]; omega
    have h3 : (s != 4) = true := by rw [bne_iff_ne]; omega
    go_enter Try.func21, Try.ntmps21
    go_wp2
    go_ret
    exact ⟨ret_bool (okB_no (by omega)), rfl⟩

set_option maxHeartbeats 400000 in
theorem get_any (a : Option Addr) (ca : Nat) (xs : List UInt8) (p s : Int) (w : World) (ha : Cells w a xs) (hn : xs.length ≤ 140737488355328) :
    Calls Try.prog 29 #[.slice a xs.length ca, .int .i64 p, .int .i64 s] w fun e w' => e = .returned (.tuple #[.int .u32 (getV xs p s), .bool (okB xs.length p s)]) ∧ w = w' := by
  cases hok : okB xs.length p s with
  | false =>
    go_enter Try.func29, Try.ntmps29
    go_wp2_with (go_at_call 21; refine (holds_any a ca xs.length p s _ hn).mono ?_; rintro e w' ⟨rfl, rfl⟩)
    go_ret2
    simp [getV, hok]
  | true =>
    have hy := okB_yes hok
    obtain ⟨P, rfl⟩ := Int.eq_ofNat_of_zero_le hy.2.1
    obtain ⟨S, rfl⟩ : ∃ S : Nat, s = S := ⟨s.toNat, by omega⟩
    have hS : S = 1 ∨ S = 2 ∨ S = 4 := by omega
    have hP : P + S ≤ xs.length := by omega
    clear hy
    go_enter Try.func29, Try.ntmps29
    go_wp2_with (go_at_call 21; refine (holds_any a ca xs.length P S _ hn).mono ?_; rintro e w' ⟨rfl, rfl⟩)
    go_loop [8, 16, 9] (fun v i _ => ∃ k : Nat, k ≤ S ∧ i = .int .i64 k ∧ v = .int .u32 (numAt xs P k)) (fun _ i _ => S - (intOf i).toNat)
    case atStart => exact ⟨0, Nat.zero_le _, rfl, rfl⟩
    case round =>
      obtain ⟨k, hk, rfl, rfl⟩ := hrel
      by_cases hlt : k < S
      · obtain ⟨b, o, rfl, h1⟩ := ha.addr (k := P + k) (by omega)
        have c1 := h1 (P + k) (by omega)
        clear ha h1
        go_wp2
        go_round
        case rel => exact ⟨k + 1, by omega, by go_num, numAt_step xs P k (by omega) (by omega)⟩
        case measure => simp [intOf]; omega
      · obtain rfl : k = S := by omega
        go_wp2
        go_ret2
        simp [getV, hok]

end Go.Proofs.Ytkjofgnmjfngeaa
