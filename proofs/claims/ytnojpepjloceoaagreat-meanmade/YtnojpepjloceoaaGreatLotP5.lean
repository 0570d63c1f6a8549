/-
  Rows that grow beside a spec in its block. The document's own carried. The document's own fits. Steps within a statement whose order is open: new memory. Numbers of 32 bits; Sum. Join: the bytes of all parts, in new memory. The program's own Get. The program's own Put. What the landed forge's walks share: rows loaded first in a drawn region; parts laid in a row and joined. The document's own Make.
-/
import Derived.Test.YtnojpepjloceoaaGreatLotP4
import Derived.Test.YtnojpepjloceoaaGreatLotP1
import Derived.Deep.RegionLaw
import Derived.Laws.Rows
import Derived.Deep.RegionHeld3
import Derived.Deep.WholeRow
import Derived.Deep.MidRow
namespace Go.Proofs.YtnojpepjloceoaaGreat
open Go.RowKit
set_option maxRecDepth 100000

/-- A spec in a block, a row behind it that is done, and one behind that which grows. -/
structure CI (w : World) (C b1 b2 : Nat) (s : Sp) (a : Option Addr) (ca : Nat) (vl : Value) (ld : List UInt8) (vh : Value) (h : List UInt8) (W : World) : Prop where
  sp : SAt W C s a ca
  ol : Owns W b1 vl ld
  oh : Owns W b2 vh h
  up : w.grownBy W none
  c0 : w.heap.size ≤ C
  c1 : C < b1
  b12 : b1 ≤ b2
  bl : ∀ x, vl.ownBlock = some x → x < b2
  b2w : b2 ≤ W.heap.size

theorem CI.kept {w : World} {C b1 b2 : Nat} {s : Sp} {a : Option Addr} {ca : Nat} {vl : Value} {ld : List UInt8} {vh : Value} {h : List UInt8} {W W' : World} (I : CI w C b1 b2 s a ca vl ld vh h W) (K : W.grownBy W' none) : CI w C b1 b2 s a ca vl ld vh h W' :=
  ⟨I.sp.kept K, owns_keptNone I.ol K, owns_keptNone I.oh K, grown_trans I.up K, I.c0, I.c1, I.b12, I.bl, Nat.le_trans I.b2w K.size⟩

theorem CI.app {w : World} {C b1 b2 : Nat} {s : Sp} {a : Option Addr} {ca : Nat} {vl : Value} {ld : List UInt8} {vh v' : Value} {h h' : List UInt8} {W W' : World} (I : CI w C b1 b2 s a ca vl ld vh h W) (O : Owns W' b2 v' h') (K : W.grownBy W' vh.ownBlock) : CI w C b1 b2 s a ca vl ld v' h' W' := by
  have hc1 := I.c1
  have hb12 := I.b12
  have hc0 := I.c0
  refine ⟨⟨I.sp.1.grown K ?_, I.sp.2⟩, I.ol.kept K ?_, O, grown_trans_new I.up K ?_, I.c0, I.c1, I.b12, I.bl, Nat.le_trans I.b2w K.size⟩
  · intro e
    have := (I.oh.lt C e).1
    omega
  · cases hv : vl.ownBlock with
    | none => exact .inl rfl
    | some x =>
      right
      intro e
      have h1 := I.bl x hv
      have h2 := (I.oh.lt x e.symm).1
      omega
  · intro x hx
    have := (I.oh.lt x hx).1
    omega

/-- A row begins behind what is there. -/
theorem CI.new {w : World} {C b1 : Nat} {s : Sp} {a : Option Addr} {ca : Nat} {vl : Value} {ld h : List UInt8} {W : World} (sp : SAt W C s a ca) (ol : Owns W b1 vl ld) (up : w.grownBy W none) (c0 : w.heap.size ≤ C) (c1 : C < b1) (hb : b1 ≤ W.heap.size) (hh : h.length ≤ maxLen) :
    CI w C b1 W.heap.size s a ca vl ld (.slice (some ⟨W.heap.size, 0, none⟩) h.length h.length) h (W.alloc (.cells (h.map bv).toArray 5)) :=
  ⟨sp.kept (World.grownBy_alloc _ _ _), owns_keptNone ol (World.grownBy_alloc _ _ _), owns_lit W _ (Nat.le_refl _) h hh, grown_trans up (World.grownBy_alloc _ _ _), c0, c1, hb, fun x hx => (ol.lt x hx).2, (World.grownBy_alloc W _ none).size⟩

theorem Owns.cells {w : World} {base : Nat} {v : Value} {xs : List UInt8} (h : Owns w base v xs) : ∃ ao cap, v = .slice ao xs.length cap ∧ Cells w ao xs ∧ (ao = none → cap = 0) := by
  obtain ⟨ao, cap, h1, h2, h3, -⟩ := h.rd
  exact ⟨ao, cap, h1, h2, h3⟩

/-- The beginning of an array of bytes, as a list. -/
theorem frange_cells {w : World} {g k : Nat} {xs : List UInt8} (h : w.rangeAt g k (xs.map bv)) (n : Nat) : Cells w (some ⟨g, k, none⟩) (xs.take n) := by
  refine ⟨fun e => (by cases e), fun ad had i hi => ?_⟩
  obtain rfl := Option.some.inj had
  have hx : i < xs.length := by simp at hi; omega
  have := h i (bv xs[i]) (by rw [List.getElem?_map, List.getElem?_eq_getElem hx]; rfl)
  rw [Addr.add_mid, this]
  simp

end Go.Proofs.YtnojpepjloceoaaGreat

namespace Go.Proofs.YtnojpepjloceoaaGreat
open Go.RowKit
set_option maxRecDepth 100000

def preV8 (s : Sp) : List UInt8 := if s.ports = true then be2 s.frm ++ be2 s.til else []
theorem load_pre (s : Sp) : loadV s = preV8 s ++ s.data := rfl
theorem pre_len (s : Sp) : (preV8 s).length ≤ 4 := by
  unfold preV8
  split <;> simp [be2]

end Go.Proofs.YtnojpepjloceoaaGreat

namespace Go.Proofs.YtnojpepjloceoaaGreat
open Go.RowKit
set_option maxRecDepth 100000


end Go.Proofs.YtnojpepjloceoaaGreat

namespace Go.Proofs.YtnojpepjloceoaaGreat
open Go.RowKit
set_option maxRecDepth 100000

theorem step_alloc {P : Program} {ops : Array Oper} {o : Oper} {a : Act} {w : World} {K : Act → World → Prop} {Q : Exit → Act → World → Prop} {E : Prop}
    (hgd : o.guard = none) (t : TypeId) (ho : o.op = .alloc t) (cs : Array Value)
    (hr : ∀ W : World, (Instr.alloc t true (.tuple #[])).run P W = .ok (.pointer (some ⟨W.heap.size, 0, none⟩)) (W.alloc (.cells cs t)))
    (hK : ∀ V w', VAt w' V t cs → w.grownBy w' none → w.heap.size ≤ V → K (a.put o.dst (.pointer (some ⟨V, 0, none⟩))) w') :
    if Region.wanted o (yielded ops a.tmps) = true then Oper.wp P o a w K Q else E := by
  have hw : Region.wanted o (yielded ops a.tmps) = true := by simp [Region.wanted, hgd]
  rw [if_pos hw]
  unfold Oper.wp execOp
  simp only [ho, Sem.run_bind, Sem.run_pure, Result.andThen_ok, hr]
  exact hK _ _ (VAt.alloc w t cs) (World.grownBy_alloc _ _ _) (Nat.le_refl _)

/-- A load of a whole block's row may be taken first. -/
theorem yieldsIf_load_row {P : Program} {ops : Array Oper} {S : World → Prop} {op : Oper} {a : Act} (hw : Region.wanted op (yielded ops a.tmps) = true) (ty : TypeId) (x : Operand) (ho : op.op = .load ty x)
    (g : Nat) (hx : a.eval x = .pointer (some ⟨g, 0, none⟩)) (t : TypeId) (cs : Array Value) (d : TypeDesc) (hS : ∀ w, S w → VAt w g t cs)
    (hu : P.underlying ty = some d) (hd : (match d with | .struct _ | .array _ _ => true | _ => false) = true) (hi : (P.info? ty).map (·.size) = some cs.size) : YieldsIf P ops S op (.agg cs) a :=
  .inl ⟨hw, fun w hw' => by
    unfold execOp
    simp only [ho, hx, Instr.loadAt, Instr.sureAddr, Sem.run_bind, Sem.run_pure, Result.andThen_ok, run_loadVar_row w g t ty cs (0, 0) d (hS w hw') hu hd hi]⟩

/-- A list of bytes written down in a statement whose order is open. -/
theorem step_build {P : Program} {ops : Array Oper} {o : Oper} {a : Act} {w : World} {K : Act → World → Prop} {Q : Exit → Act → World → Prop} {E : Prop}
    (hgd : o.guard = none) (t : TypeId) (n : Nat) (ps : Array (Nat × Operand)) (ho : o.op = .buildSlice t n ps) (qs : Array (Nat × Value)) (hq : ps.map (fun (i, x) => (i, a.eval x)) = qs) (xs : List UInt8)
    (hr : ∀ W : World, (Instr.buildSlice t n qs).run P W = .ok (.slice (some ⟨W.heap.size, 0, none⟩) n n) (W.alloc (.cells (xs.map bv).toArray 5)))
    (hK : ∀ ad w', Cells w' (some ad) xs → w.grownBy w' none → K (a.put o.dst (.slice (some ad) n n)) w') :
    if Region.wanted o (yielded ops a.tmps) = true then Oper.wp P o a w K Q else E := by
  have hw : Region.wanted o (yielded ops a.tmps) = true := by simp [Region.wanted, hgd]
  rw [if_pos hw]
  unfold Oper.wp execOp
  have hr' := hr w
  rw [← hq] at hr'
  simp only [ho, Sem.run_bind, Sem.run_pure, Result.andThen_ok, hr']
  exact hK _ _ (cells_lit w xs) (World.grownBy_alloc _ _ _)

theorem bld2 (x y : UInt8) (W : World) : (Instr.buildSlice 26 2 #[(0, .int .u8 (x.toNat : Int)), (1, .int .u8 (y.toNat : Int))]).run Tryz.prog W = .ok (.slice (some ⟨W.heap.size, 0, none⟩) 2 2) (W.alloc (.cells ([x, y].map bv).toArray 5)) := by
  kernel_rfl
theorem bld4 (x y z u : UInt8) (W : World) : (Instr.buildSlice 26 4 #[(0, .int .u8 (x.toNat : Int)), (1, .int .u8 (y.toNat : Int)), (2, .int .u8 (z.toNat : Int)), (3, .int .u8 (u.toNat : Int))]).run Tryz.prog W = .ok (.slice (some ⟨W.heap.size, 0, none⟩) 4 4) (W.alloc (.cells ([x, y, z, u].map bv).toArray 5)) := by
  kernel_rfl

theorem alloc_view (W : World) : (Instr.alloc 81 true (.tuple #[])).run Tryz.prog W = .ok (.pointer (some ⟨W.heap.size, 0, none⟩)) (W.alloc (.cells (vwA Vw.zero) 81)) := by kernel_rfl

end Go.Proofs.YtnojpepjloceoaaGreat

namespace Go.Proofs.YtnojpepjloceoaaGreat
open Go.RowKit
set_option maxRecDepth 100000

/-- A number of 32 bits as a cell. -/
def wv (c : UInt32) : Value := .int .u32 (c.toNat : Int)

theorem CV.words {w : World} {ao : Option Addr} {xs : List UInt32} (h : CV w ao (xs.map wv)) {k : Nat} (hk : k < xs.length) :
    ∃ b off, ao = some ⟨b, off, none⟩ ∧ ∀ i (hi : i < xs.length), w.cell? ⟨b, off + i, none⟩ = some (.int .u32 (xs[i].toNat : Int)) := by
  obtain ⟨b, off, hao, hc⟩ := h.addr (k := k) (by simpa using hk)
  refine ⟨b, off, hao, fun i hi => ?_⟩
  rw [hc i (by simpa using hi)]
  simp [wv]

/-- The sum, however great. -/
def tot (xs : List UInt32) : Nat := (xs.map UInt32.toNat).sum

theorem tot_nil : tot [] = 0 := rfl

theorem tot_cons (x : UInt32) (xs : List UInt32) : tot (x :: xs) = x.toNat + tot xs := by simp [tot]

theorem tot_append (xs ys : List UInt32) : tot (xs ++ ys) = tot xs + tot ys := by simp [tot]

theorem tot_take_succ (xs : List UInt32) (k : Nat) (hk : k < xs.length) : tot (xs.take (k + 1)) = tot (xs.take k) + xs[k].toNat := by
  rw [List.take_succ_eq_append_getElem hk, tot_append, tot_cons, tot_nil]; omega

theorem tot_take_le (xs : List UInt32) (k : Nat) : tot (xs.take k) ≤ tot xs := by
  have h := tot_append (xs.take k) (xs.drop k)
  rw [List.take_append_drop] at h
  omega

/-- What Sum says. -/
def sumS (xs : List UInt32) : Nat := min (tot xs) 4294967295

theorem sum_stop {xs : List UInt32} {k : Nat} (hk : k < xs.length) (h : (4294967295 : Int) - (tot (xs.take k) : Int) < (xs[k].toNat : Int)) : (4294967295 : Int) = (sumS xs : Int) := by
  have h1 := tot_take_succ xs k hk
  have h2 := tot_take_le xs (k + 1)
  unfold sumS
  omega

set_option maxHeartbeats 400000 in
theorem sum_any (a : Option Addr) (ca : Nat) (xs : List UInt32) (w : World) (ha : CV w a (xs.map wv)) (hn : xs.length ≤ 140737488355328) :
    Calls Tryz.prog 40 #[.slice a xs.length ca] w fun e w' => e = .returned (.int .u32 (sumS xs)) ∧ w = w' := by
  go_enter Tryz.func40, Tryz.ntmps40
  go_wp2
  go_loop [3, 8, 5] (fun t i _ => ∃ k : Nat, k ≤ xs.length ∧ i = .int .i64 k ∧ t = .int .u32 (tot (xs.take k)) ∧ tot (xs.take k) ≤ 4294967295) (fun _ i _ => xs.length - (intOf i).toNat)
  case atStart => exact ⟨0, Nat.zero_le _, rfl, rfl, by simp [tot]⟩
  case round =>
    obtain ⟨k, hk, rfl, rfl, hle⟩ := hrel
    by_cases hlt : k < xs.length
    · obtain ⟨b, o, rfl, h1⟩ := ha.words hlt
      have c1 := h1 k hlt
      have hx := xs[k].toNat_lt
      have HT : Hid (tot (xs.take (k + 1)) = tot (xs.take k) + xs[k].toNat) := tot_take_succ xs k hlt
      clear ha h1
      go_wp2
      · go_ret
        exact ⟨ret_int (sum_stop hlt ‹_›), rfl⟩
      · have hs : (xs[k].toNat : Int) ≤ 4294967295 - (tot (List.take k xs) : Int) := by assumption
        go_round
        case rel => exact ⟨k + 1, by omega, by go_num, by rw [HT.out]; go_num, by rw [HT.out]; omega⟩
        case measure => simp [intOf]; omega
    · obtain rfl : k = xs.length := by omega
      rw [List.take_length] at hle ⊢
      go_wp2
      go_ret
      exact ⟨ret_int (by unfold sumS; omega), rfl⟩

theorem sum_len (a : Option Addr) (n ca : Nat) (xs : List UInt32) (hx : xs.length = n) (w : World) (ha : CV w a (xs.map wv)) (hn : xs.length ≤ 140737488355328) :
    Calls Tryz.prog 40 #[.slice a n ca] w fun e w' => e = .returned (.int .u32 (sumS xs)) ∧ w = w' := by
  subst hx
  exact sum_any a ca xs w ha hn

end Go.Proofs.YtnojpepjloceoaaGreat

namespace Go.Proofs.YtnojpepjloceoaaGreat
open Go.RowKit
set_option maxRecDepth 100000

theorem info24 : (Tryz.prog.info? 24).map (fun i => (i.zero, i.size, i.bytes)) = some (some (.int .u32 0), 1, 4) := by kernel_rfl

/-- One list of bytes among many: where it lies, its capacity, its bytes. -/
structure Part where
  ao : Option Addr
  cap : Nat
  bs : List UInt8

def Part.v (p : Part) : Value := .slice p.ao p.bs.length p.cap

/-- It can be read. -/
def Part.ok (p : Part) (w : World) : Prop := Cells w p.ao p.bs ∧ (p.ao = none → p.cap = 0)

def joinS (ps : List Part) : List UInt8 := ps.flatMap (·.bs)

theorem joinS_succ (ps : List Part) (k : Nat) (hk : k < ps.length) : joinS (ps.take (k + 1)) = joinS (ps.take k) ++ ps[k].bs := by
  rw [List.take_succ_eq_append_getElem hk]; simp only [joinS, List.flatMap_append, List.flatMap_cons, List.flatMap_nil, List.append_nil]

theorem joinS_append (ps qs : List Part) : joinS (ps ++ qs) = joinS ps ++ joinS qs := by simp only [joinS, List.flatMap_append]

theorem joinS_le (ps : List Part) (k : Nat) : (joinS (ps.take k)).length ≤ (joinS ps).length := by
  have h := joinS_append (ps.take k) (ps.drop k)
  rw [List.take_append_drop] at h
  rw [h, List.length_append]
  omega

theorem CV.parts {w : World} {ao : Option Addr} {ps : List Part} (h : CV w ao (ps.map Part.v)) {k : Nat} (hk : k < ps.length) :
    ∃ b off, ao = some ⟨b, off, none⟩ ∧ ∀ i (hi : i < ps.length), w.cell? ⟨b, off + i, none⟩ = some (.slice ps[i].ao ps[i].bs.length ps[i].cap) := by
  obtain ⟨b, off, hao, hc⟩ := h.addr (k := k) (by simpa using hk)
  refine ⟨b, off, hao, fun i hi => ?_⟩
  rw [hc i (by simpa using hi)]
  simp [Part.v]

/-- The list of sizes while it is filled. -/
def SizesRel (w : World) (g n : Nat) (wr : World) : Prop :=
  ∃ xs : List UInt32, xs.length = n ∧ wr.ownsRow w.heap.size 24 1 (.slice (some ⟨g, 0, none⟩) n n) n (xs.map wv) ∧ w.grownBy wr none

theorem SizesRel.store {w wr : World} {g n : Nat} (h : SizesRel w g n wr) (i : Nat) (m : Nat) : SizesRel w g n (wr.setCell ⟨g, i, none⟩ (.int .u32 ((m : Int) % 4294967296))) := by
  obtain ⟨xs, hx, ho, hg⟩ := h
  refine ⟨xs.set i (UInt32.ofNat m), by simpa using hx, ?_, ?_⟩
  · have := ho.stored i (.int .u32 ((m : Int) % 4294967296))
    rw [List.map_set]
    have e : wv (UInt32.ofNat m) = .int .u32 ((m : Int) % 4294967296) := by simp [wv]
    rw [e]
    exact this.1
  · exact grown_setCell hg _ _ (.inr (ho.lt g rfl).1)

theorem SizesRel.cell {w wr : World} {g n : Nat} (h : SizesRel w g n wr) {i : Nat} (hi : i < n) : ∃ u, wr.cell? ⟨g, i, none⟩ = some u := by
  obtain ⟨xs, hx, ho, hg⟩ := h
  have := ho.cellAt i (by omega)
  refine ⟨wv (xs[i]'(by omega)), ?_⟩
  rw [this]
  simp [show i < xs.length by omega]

theorem SizesRel.free {w wr : World} {g n : Nat} (h : SizesRel w g n wr) (i : Nat) : wr.frozen? ⟨g, i, none⟩ = false := by
  obtain ⟨xs, hx, ho, hg⟩ := h
  exact ho.frozenAt i

theorem Part.ok.kept {p : Part} {w w' : World} (h : p.ok w) (hg : w.grownBy w' none) : p.ok w' := ⟨h.1.keptNone hg, h.2⟩

set_option maxHeartbeats 1000000 in
theorem wjoin_any (a : Option Addr) (ca : Nat) (ps : List Part) (w : World) (ha : CV w a (ps.map Part.v)) (hp : ∀ p ∈ ps, p.ok w) (hn : ps.length ≤ 1099511627776) (hm : (joinS ps).length ≤ 140737488355328) :
    Calls Tryz.prog 12 #[.slice a ps.length ca] w fun e w' => ∃ v, e = .returned v ∧ Owns w' w.heap.size v (joinS ps) ∧ w.grownBy w' none := by
  obtain ⟨i0, hi, hz0, hz1, hz2⟩ := info_parts info5
  obtain ⟨i1, ji, jz0, jz1, jz2⟩ := info_parts info24
  have HA : Hid (CV w a (ps.map Part.v)) := ha
  have HP : Hid (∀ p ∈ ps, p.ok w) := hp
  clear ha hp
  go_enter Tryz.func12, Tryz.ntmps12
  go_wp2_with (at_make; refine wpList_make_full _ rfl (.tmp 10) (.tmp 10) 65 rfl w.heap.size 24 i1 (.int .u32 0) 1 Tryz.underlying65 ji jz0 jz1 .i64 .i64 (ps.length : Int) (ps.length : Int) ps.length rfl rfl rfl rfl ?q1 ?q2 ?q3 ?q4)
  case q1 => rw [jz2]; omega
  case q2 => unfold maxLen; omega
  case q3 => exact Nat.le_refl _
  case q4 =>
    intro w1 h1 h2
    have R : SizesRel w w.heap.size ps.length w1 := by
      refine ⟨List.replicate ps.length 0, by simp, ?_, h2⟩
      rw [toList_madeCells_one] at h1
      simpa [wv] using h1
    clear h1 h2
    go_wp2
    go_loopw [14] (fun i wr => ∃ k : Nat, k ≤ ps.length ∧ i = .int .i64 k ∧ SizesRel w w.heap.size ps.length wr) (fun i _ => ps.length - (intOf i).toNat)
    case atStart => exact ⟨0, Nat.zero_le _, rfl, R⟩
    case round =>
      clear R
      obtain ⟨k, hk, rfl, R⟩ := hrel
      by_cases hlt : k < ps.length
      · obtain ⟨b, o, rfl, hc⟩ := HA.out.parts hlt
        have c0 := hc k hlt
        have hbl : b < w.heap.size := World.block_lt_of_cell? w _ c0
        have c1 : wr.cell? ⟨b, o + k, none⟩ = some (.slice ps[k].ao ps[k].bs.length ps[k].cap) := by
          obtain ⟨_, _, _, hg⟩ := R
          exact hg.cell c0 (by simp)
        obtain ⟨u, hu⟩ := R.cell hlt
        have hf := R.free k
        have R' := R.store k ps[k].bs.length
        have hlk : ps[k].bs.length ≤ (joinS ps).length := by
          have h1 := joinS_le ps (k + 1)
          rw [joinS_succ ps k hlt, List.length_append] at h1
          omega
        clear R hc c0
        go_wp2
        go_roundw
        case rel => exact ⟨k + 1, by omega, by go_num, R'⟩
        case measure => simp [intOf]; omega
      · obtain ⟨xs, hx, ho, hg⟩ := R
        obtain ⟨ao, cap, hv, hcv, _⟩ := CV.ofRow ho
        simp only [Value.slice.injEq] at hv
        obtain ⟨rfl, _, rfl⟩ := hv
        have HX : Hid (xs.length = ps.length) := hx
        have hxl : xs.length ≤ 140737488355328 := by omega
        have hsum : sumS xs ≤ 4294967295 := by unfold sumS; omega
        obtain rfl : k = ps.length := by omega
        clear hx ho
        go_wp2_with fail
        refine (sum_len _ _ _ xs HX.out _ hcv hxl).mono ?_
        rintro e w2 ⟨rfl, rfl⟩
        go_wp2_with (at_make; refine wpList_make_own _ rfl (.const (.int .i64 0)) (.tmp 28) 26 rfl w.heap.size 5 i0 (.int .u8 0) 1 Tryz.underlying26 hi hz0 hz1 .i64 .i64 _ (sumS xs) rfl rfl ?r1 ?r2 ?r3 ?r4 ?r5)
        case r1 => rfl
        case r2 => rw [hz2]; omega
        case r3 => unfold maxLen; omega
        case r4 => exact hg.size
        case r5 =>
          intro w3 h3 h4
          have G3 : w.grownBy w3 none := grown_trans hg h4
          clear hg h4 hcv hxl hlt hk
          have O3 : Owns w3 w.heap.size (.slice (some ⟨wr.heap.size, 0, none⟩) 0 (sumS xs)) (joinS (ps.take 0)) := h3
          clear h3
          go_wp2
          go_loopw [6, 32] (fun v i wr => ∃ k : Nat, k ≤ ps.length ∧ i = .int .i64 k ∧ Owns wr w.heap.size v (joinS (ps.take k)) ∧ w.grownBy wr none) (fun _ i _ => ps.length - (intOf i).toNat)
          case atStart => exact ⟨0, Nat.zero_le _, rfl, O3, G3⟩
          case round =>
            clear O3 G3
            obtain ⟨k, hk, rfl, O, G⟩ := hrel
            by_cases hlt : k < ps.length
            · obtain ⟨b, o, rfl, hc⟩ := HA.out.parts hlt
              have c0 := hc k hlt
              have c1 : wr.cell? ⟨b, o + k, none⟩ = some (.slice ps[k].ao ps[k].bs.length ps[k].cap) := G.cell c0 (by simp)
              have hok := (HP.out ps[k] (List.getElem_mem hlt)).kept G
              have hlk : (joinS (ps.take k)).length + ps[k].bs.length ≤ (joinS ps).length := by
                have h1 := joinS_le ps (k + 1)
                rw [joinS_succ ps k hlt, List.length_append] at h1
                exact h1
              have HJ : Hid (joinS (ps.take (k + 1)) = joinS (ps.take k) ++ ps[k].bs) := joinS_succ ps k hlt
              have HO := O
              clear hc c0
              go_wp2_with (at_builtin; refine wpList_append_rd rfl (.tmp 36) (.tmp 37) 26 rfl i0 Tryz.underlying26 hi hz0 hz1 hz2 w.heap.size _ (joinS (ps.take k)) rfl ?s1 ps[k].ao ps[k].cap ps[k].bs rfl hok.2 hok.1 ?s3 ?s4 ?s5)
              case s1 => exact HO
              case s3 => omega
              case s4 => exact G.size
              case s5 =>
                intro v' w' h1 h2
                have G' : w.grownBy w' none := grown_trans_new G h2 (fun x hx => (HO.lt x hx).1)
                rw [← HJ.out] at h1
                clear h2 G HO O hok
                go_wp2
                go_roundw
                case rel => exact ⟨k + 1, by omega, by go_num, h1, G'⟩
                case measure => simp [intOf]; omega
            · obtain rfl : k = ps.length := by omega
              rw [List.take_length] at O
              go_wp2
              go_ret
              exact ⟨_, rfl, O, G⟩

end Go.Proofs.YtnojpepjloceoaaGreat

namespace Go.Proofs.YtnojpepjloceoaaGreat
open Go.RowKit
set_option maxRecDepth 100000

set_option maxHeartbeats 400000 in
theorem holds_any (a : Option Addr) (ca n : Nat) (p s : Int) (w : World) (hn : n ≤ 140737488355328) :
    Calls Tryz.prog 54 #[.slice a n ca, .int .i64 p, .int .i64 s] w fun e w' => e = .returned (.bool (okB n p s)) ∧ w = w' := by
  by_cases h : s = 1 ∨ s = 2 ∨ s = 4
  · rcases h with rfl | rfl | rfl
    all_goals
      go_enter Tryz.func54, Tryz.ntmps54
      go_wp2
      · go_ret
        exact ⟨ret_bool (okB_of (by omega)), rfl⟩
      · go_ret
        exact ⟨ret_bool (okB_no (by omega)), rfl⟩
  · have h1 : (s != 1) = true := by rw [bne_iff_ne]; omega
    have h2 : (s != 2) = true := by rw [bne_iff_ne]; omega
    have h3 : (s != 4) = true := by rw [bne_iff_ne]; omega
    go_enter Tryz.func54, Tryz.ntmps54
    go_wp2
    go_ret
    exact ⟨ret_bool (okB_no (by omega)), rfl⟩

set_option maxHeartbeats 400000 in
theorem get_any (a : Option Addr) (ca : Nat) (xs : List UInt8) (p s : Int) (w : World) (ha : Cells w a xs) (hn : xs.length ≤ 140737488355328) :
    Calls Tryz.prog 103 #[.slice a xs.length ca, .int .i64 p, .int .i64 s] w fun e w' => e = .returned (.tuple #[.int .u32 (getV xs p s), .bool (okB xs.length p s)]) ∧ w = w' := by
  cases hok : okB xs.length p s with
  | false =>
    go_enter Tryz.func103, Tryz.ntmps103
    go_wp2_with (go_at_call 54; refine (holds_any a ca xs.length p s _ hn).mono ?_; rintro e w' ⟨rfl, rfl⟩)
    go_ret2
    simp [getV, hok]
  | true =>
    have hy := okB_yes hok
    obtain ⟨P, rfl⟩ := Int.eq_ofNat_of_zero_le hy.2.1
    obtain ⟨S, rfl⟩ : ∃ S : Nat, s = S := ⟨s.toNat, by omega⟩
    have hS : S = 1 ∨ S = 2 ∨ S = 4 := by omega
    have hP : P + S ≤ xs.length := by omega
    clear hy
    go_enter Tryz.func103, Tryz.ntmps103
    go_wp2_with (go_at_call 54; refine (holds_any a ca xs.length P S _ hn).mono ?_; rintro e w' ⟨rfl, rfl⟩)
    go_loop [8, 16, 9] (fun v i _ => ∃ k : Nat, k ≤ S ∧ i = .int .i64 k ∧ v = .int .u32 (numAt xs P k)) (fun _ i _ => S - (intOf i).toNat)
    case atStart => exact ⟨0, Nat.zero_le _, rfl, rfl⟩
    case round =>
      obtain ⟨k, hk, rfl, rfl⟩ := hrel
      by_cases hlt : k < S
      · obtain ⟨b, o, rfl, h1⟩ := ha.addr (k := P + k) (by omega)
        have c1 := h1 (P + k) (by omega)
        clear ha h1
        go_wp2
        go_round
        case rel => exact ⟨k + 1, by omega, by go_num, numAt_step xs P k (by omega) (by omega)⟩
        case measure => simp [intOf]; omega
      · obtain rfl : k = S := by omega
        go_wp2
        go_ret2
        simp [getV, hok]

end Go.Proofs.YtnojpepjloceoaaGreat

namespace Go.Proofs.YtnojpepjloceoaaGreat
open Go.RowKit
set_option maxRecDepth 100000

set_option maxHeartbeats 1000000 in
theorem put_any (a : Option Addr) (ca : Nat) (xs : List UInt8) (p s : Int) (v : Nat) (w : World) (ha : Cells w a xs) (hc0 : a = none → ca = 0) (hn : xs.length ≤ 140737488355328) (hv : v ≤ 4294967295) :
    Calls Tryz.prog 48 #[.slice a xs.length ca, .int .i64 p, .int .i64 s, .int .u32 v] w fun e w' => MadeB w w' e (putV xs p s v) (okB xs.length p s) := by
  cases hok : okB xs.length p s with
  | false =>
    have hg : putV xs p s v = [] := by simp [putV, hok]
    rw [hg]
    clear hg
    go_enter Tryz.func48, Tryz.ntmps48
    go_wp2_with (go_at_call 54; refine (holds_any a ca xs.length p s _ hn).mono ?_; rintro e w' ⟨rfl, rfl⟩)
    go_ret2
    exact ⟨_, rfl, World.ownsRow_nil _ _ _ _, World.grownBy.refl _ _⟩
  | true =>
    have hy := okB_yes hok
    obtain ⟨P, rfl⟩ := Int.eq_ofNat_of_zero_le hy.2.1
    obtain ⟨S, rfl⟩ : ∃ S : Nat, s = S := ⟨s.toNat, by omega⟩
    have hS1 : 1 ≤ S := by omega
    have hS : S ≤ 4 := by omega
    have hP : P + S ≤ xs.length := by omega
    clear hy
    have hg : putV xs P S v = putTo xs P S v S := by simp [putV, hok]
    rw [hg]
    clear hg
    have H : Hid (Cells w a xs) := ha
    clear ha
    go_enter Tryz.func48, Tryz.ntmps48
    go_wp2_with (go_at_call 54; refine (holds_any a ca xs.length P S _ hn).mono ?_; rintro e w' ⟨rfl, rfl⟩)
    have G0 : w.grownBy (w.alloc (.cells #[.slice a xs.length ca] 26)) none := World.grownBy_alloc _ _ _
    have hs0 : (w.alloc (.cells #[.slice a xs.length ca] 26)).heap.size = w.heap.size + 1 := by simp
    refine (wjoin_any (some ⟨w.heap.size, 0, none⟩) 1 [⟨a, ca, xs⟩] _ ?_ ?_ (by simp) (by simpa [joinS] using hn)).mono ?_
    · exact cv_lit w 26 [.slice a xs.length ca]
    · intro q hq
      simp only [List.mem_singleton] at hq
      subst hq
      exact ⟨H.out.keptNone G0, hc0⟩
    rintro e w1 ⟨v1, rfl, h1, h2⟩
    have G1 : w.grownBy w1 none := grown_trans G0 h2
    rw [hs0] at h1
    have h1' : Owns w1 w.heap.size v1 xs := owns_mono (by simpa [joinS] using h1) (by omega)
    obtain ⟨g, cap, hv1, hc1, hc2, hg1, hg2⟩ := h1'.headL (by omega)
    subst hv1
    have R : PutRel w g cap xs P S v 0 w1 := ⟨h1', G1⟩
    clear h1 h1' h2 G1 G0 hs0 H
    unfold maxLen at hc2
    go_wp2
    go_loopw [3, 21] (fun x i wr => ∃ k : Nat, k ≤ S ∧ i = .int .i64 k ∧ x = .int .u32 ((shr8 v k : Nat) : Int) ∧ PutRel w g cap xs P S v k wr) (fun _ i _ => S - (intOf i).toNat)
    case atStart => exact ⟨0, Nat.zero_le _, rfl, by rw [shr8_zero], R⟩
    case round =>
      clear R
      obtain ⟨k, hk, rfl, rfl, R⟩ := hrel
      by_cases hlt : k < S
      · obtain ⟨u, hu⟩ := R.cell (i := P + S - 1 - k) (by omega)
        have hf := R.free (P + S - 1 - k)
        have R' := R.store
        have hq : shr8 v k ≤ 4294967295 := Nat.le_trans (shr8_le v k) hv
        have HQ : Hid (shr8 v (k + 1) = shr8 v k / 256) := shr8_succ v k
        clear R
        go_wp2
        go_roundw
        case rel => exact ⟨k + 1, by omega, by go_num, by rw [HQ.out]; go_num, R'⟩
        case measure => simp [intOf]; omega
      · obtain rfl : k = S := by omega
        go_wp2
        go_ret2
        refine ⟨_, rfl, ?_, R.2⟩
        unfold Owns
        rw [putTo_len]
        exact R.1

end Go.Proofs.YtnojpepjloceoaaGreat

namespace Go.Proofs.YtnojpepjloceoaaGreat
open Go.RowKit
set_option maxRecDepth 100000

theorem size28 : (Tryz.prog.info? 28).map (·.size) = some 44 := by kernel_rfl
theorem spA_size {s : Sp} (ok : s.ok) (a : Option Addr) (ca : Nat) : (Tryz.prog.info? 28).map (·.size) = some (spA s a ca).size := by
  rw [spA, List.size_toArray, spL_len ok]
  exact size28

abbrev LS (w : World) (B C : Nat) (l : Lk) (s : Sp) (a : Option Addr) (ca : Nat) (W : World) : Prop := VAt W B 23 (lkA l) ∧ VAt W C 28 (spA s a ca) ∧ w.grownBy W none
theorem ls_call {w W W' : World} {B C : Nat} {l : Lk} {s : Sp} {a : Option Addr} {ca : Nat} (K : W.grownBy W' none) (h : LS w B C l s a ca W) : LS w B C l s a ca W' := ⟨h.1.kept K, h.2.1.kept K, grown_trans h.2.2 K⟩
theorem ls_drew {w W : World} {B C : Nat} {l : Lk} {s : Sp} {a : Option Addr} {ca : Nat} (h : LS w B C l s a ca W) : LS w B C l s a ca W.drew := ls_call (grown_drewN W 1 none) h

/-- Lists of bytes laid in a row, and joined. -/
theorem join_lit (ps : List Part) (n : Nat) (hn' : ps.length = n) (t : TypeId) (W : World) (hok : ∀ p ∈ ps, p.ok W) (hn : n ≤ 100) (hm : (joinS ps).length ≤ 140737488355328) :
    Calls Tryz.prog 12 #[.slice (some ⟨W.heap.size, 0, none⟩) n n] (W.alloc (.cells (ps.map Part.v).toArray t)) fun e w' => ∃ v, e = .returned v ∧ Owns w' W.heap.size v (joinS ps) ∧ (W.alloc (.cells (ps.map Part.v).toArray t)).grownBy w' none := by
  subst hn'
  have K := World.grownBy_alloc W (.cells (ps.map Part.v).toArray t) none
  have C1 := cv_lit W t (ps.map Part.v)
  refine (wjoin_any (some ⟨W.heap.size, 0, none⟩) ps.length ps _ C1 (fun p hp => (hok p hp).kept K) (by omega) hm).mono ?_
  rintro e w' ⟨v, rfl, O, K'⟩
  exact ⟨v, rfl, owns_mono O (by simp), K'⟩

theorem Owns.part {w : World} {base : Nat} {v : Value} {xs : List UInt8} (h : Owns w base v xs) : ∃ p : Part, p.v = v ∧ p.bs = xs ∧ p.ok w := by
  obtain ⟨ao, cap, rfl, h2, h3⟩ := h.cells
  exact ⟨⟨ao, cap, xs⟩, rfl, rfl, h2, h3⟩

/-- A link and a spec are boxed, one behind the other. -/
theorem ls_boxes (w : World) (l : Lk) (s : Sp) (a : Option Addr) (ca : Nat) : LS w w.heap.size (w.heap.size + 1) l s a ca ((w.alloc (.cells (lkA l) 23)).alloc (.cells (spA s a ca) 28)) := by
  have L0 := VAt.alloc w 23 (lkA l)
  have K1 := World.grownBy_alloc (w.alloc (.cells (lkA l) 23)) (.cells (spA s a ca) 28) none
  have S1 := VAt.alloc (w.alloc (.cells (lkA l) 23)) 28 (spA s a ca)
  rw [show (w.alloc (.cells (lkA l) 23)).heap.size = w.heap.size + 1 by simp] at S1
  exact ⟨L0.kept K1, S1, grown_trans (World.grownBy_alloc w _ none) K1⟩

end Go.Proofs.YtnojpepjloceoaaGreat

namespace Go.Proofs.YtnojpepjloceoaaGreat
open Go.RowKit
set_option maxRecDepth 100000

/-- A link and a spec in their blocks, and a row that grows behind them. -/
structure MI (w : World) (B C b1 : Nat) (l : Lk) (s : Sp) (a : Option Addr) (ca : Nat) (v : Value) (cur : List UInt8) (W : World) : Prop where
  ci : CI w C b1 b1 s a ca (.slice none 0 0) [] v cur W
  lk : VAt W B 23 (lkA l)
  bc : B < b1
theorem MI.kept {w : World} {B C b1 : Nat} {l : Lk} {s : Sp} {a : Option Addr} {ca : Nat} {v : Value} {cur : List UInt8} {W W' : World} (I : MI w B C b1 l s a ca v cur W) (K : W.grownBy W' none) : MI w B C b1 l s a ca v cur W' := ⟨I.ci.kept K, I.lk.kept K, I.bc⟩
theorem MI.app {w : World} {B C b1 : Nat} {l : Lk} {s : Sp} {a : Option Addr} {ca : Nat} {v v' : Value} {cur cur' : List UInt8} {W W' : World} (I : MI w B C b1 l s a ca v cur W) (O : Owns W' b1 v' cur') (K : W.grownBy W' v.ownBlock) : MI w B C b1 l s a ca v' cur' W' := by
  refine ⟨I.ci.app O K, I.lk.grown K ?_, I.bc⟩
  intro e
  have h1 := (I.ci.oh.lt B e).1
  have h2 := I.bc
  omega

theorem field_len2 (l : Lk) (plain : Bool) (p : Nat) : (fieldV l plain p).length ≤ 2 := by
  rcases field_len l plain p with h | h <;> omega
theorem hd_len4 (l : Lk) (beg fin : Bool) (seq : Nat) : (hdB l beg fin seq).length ≤ 4 := by
  rw [hd_len, szV]
  split <;> omega
theorem front_len (l : Lk) (s : Sp) : (wideV s).length ≤ 2 ∧ (pieceB l s).length ≤ 6 ∧ (ownV l s).length ≤ 2 := by
  have h1 := field_len2 l s.plain 61
  have h2 := hd_len4 l s.beg s.fin s.seq
  have h3 := field_len2 l s.plain s.proto
  refine ⟨?_, ?_, ?_⟩
  · unfold wideV; split <;> simp
  · unfold pieceB
    split
    · rw [List.length_append]; omega
    · simp
  · unfold ownV
    split
    · exact h3
    · simp
theorem car_len (s : Sp) (h : s.ok) (hd : s.data.length ≤ 65535) : (carV s).length ≤ 70000 := by
  have h1 := h.src
  have h2 := h.dst
  have h3 := pre_len s
  have h4 : (loadV s).length ≤ 65539 := by rw [load_pre, List.length_append]; omega
  unfold carV
  split
  · omega
  · split
    · simp [be2]; omega
    · split
      · simp [be2]; omega
      · omega

end Go.Proofs.YtnojpepjloceoaaGreat
