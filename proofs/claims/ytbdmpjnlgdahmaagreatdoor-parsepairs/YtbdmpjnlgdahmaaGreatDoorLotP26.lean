/-
  Steps within a statement whose order is open: new memory. The landed reader of tokens: what stands there, and what is gone by. The landed reader of tokens: which sign or word stands there.
-/
import Derived.Test.YtbdmpjnlgdahmaaGreatDoorLotP12
import Derived.Test.YtbdmpjnlgdahmaaGreatDoorLotP2
import Derived.Laws.Rows
import Derived.Deep.RegionHeld3
import Derived.Deep.RegionLaw
import Derived.Deep.WholeRow
import Derived.Test.YtbdmpjnlgdahmaaGreatDoorLotP21
namespace Go.Proofs.YtbdmpjnlgdahmaaGreatDoor
open Go.RowKit
set_option maxRecDepth 100000

theorem step_alloc {P : Program} {ops : Array Oper} {o : Oper} {a : Act} {w : World} {K : Act → World → Prop} {Q : Exit → Act → World → Prop} {E : Prop}
    (hgd : o.guard = none) (t : TypeId) (ho : o.op = .alloc t) (cs : Array Value)
    (hr : ∀ W : World, (Instr.alloc t true (.tuple #[])).run P W = .ok (.pointer (some ⟨W.heap.size, 0, none⟩)) (W.alloc (.cells cs t)))
    (hK : ∀ V w', VAt w' V t cs → w.grownBy w' none → w.heap.size ≤ V → K (a.put o.dst (.pointer (some ⟨V, 0, none⟩))) w') :
    if Region.wanted o (yielded ops a.tmps) = true then Oper.wp P o a w K Q else E := by
  have hw : Region.wanted o (yielded ops a.tmps) = true := by simp [Region.wanted, hgd]
  rw [if_pos hw]
  unfold Oper.wp execOp
  simp only [ho, Sem.run_bind, Sem.run_pure, Result.andThen_ok, hr]
  exact hK _ _ (VAt.alloc w t cs) (World.grownBy_alloc _ _ _) (Nat.le_refl _)

/-- A load of a whole block's row may be taken first. -/
theorem yieldsIf_load_row {P : Program} {ops : Array Oper} {S : World → Prop} {op : Oper} {a : Act} (hw : Region.wanted op (yielded ops a.tmps) = true) (ty : TypeId) (x : Operand) (ho : op.op = .load ty x)
    (g : Nat) (hx : a.eval x = .pointer (some ⟨g, 0, none⟩)) (t : TypeId) (cs : Array Value) (d : TypeDesc) (hS : ∀ w, S w → VAt w g t cs)
    (hu : P.underlying ty = some d) (hd : (match d with | .struct _ | .array _ _ => true | _ => false) = true) (hi : (P.info? ty).map (·.size) = some cs.size) : YieldsIf P ops S op (.agg cs) a :=
  .inl ⟨hw, fun w hw' => by
    unfold execOp
    simp only [ho, hx, Instr.loadAt, Instr.sureAddr, Sem.run_bind, Sem.run_pure, Result.andThen_ok, run_loadVar_row w g t ty cs (0, 0) d (hS w hw') hu hd hi]⟩

/-- A list of bytes written down in a statement whose order is open. -/
theorem step_build {P : Program} {ops : Array Oper} {o : Oper} {a : Act} {w : World} {K : Act → World → Prop} {Q : Exit → Act → World → Prop} {E : Prop}
    (hgd : o.guard = none) (t : TypeId) (n : Nat) (ps : Array (Nat × Operand)) (ho : o.op = .buildSlice t n ps) (qs : Array (Nat × Value)) (hq : ps.map (fun (i, x) => (i, a.eval x)) = qs) (xs : List UInt8)
    (hr : ∀ W : World, (Instr.buildSlice t n qs).run P W = .ok (.slice (some ⟨W.heap.size, 0, none⟩) n n) (W.alloc (.cells (xs.map bv).toArray 5)))
    (hK : ∀ ad w', Cells w' (some ad) xs → w.grownBy w' none → K (a.put o.dst (.slice (some ad) n n)) w') :
    if Region.wanted o (yielded ops a.tmps) = true then Oper.wp P o a w K Q else E := by
  have hw : Region.wanted o (yielded ops a.tmps) = true := by simp [Region.wanted, hgd]
  rw [if_pos hw]
  unfold Oper.wp execOp
  have hr' := hr w
  rw [← hq] at hr'
  simp only [ho, Sem.run_bind, Sem.run_pure, Result.andThen_ok, hr']
  exact hK _ _ (cells_lit w xs) (World.grownBy_alloc _ _ _)

theorem bld2 (x y : UInt8) (W : World) : (Instr.buildSlice 126 2 #[(0, .int .u8 (x.toNat : Int)), (1, .int .u8 (y.toNat : Int))]).run Tryz.prog W = .ok (.slice (some ⟨W.heap.size, 0, none⟩) 2 2) (W.alloc (.cells ([x, y].map bv).toArray 5)) := by
  kernel_rfl
theorem bld4 (x y z u : UInt8) (W : World) : (Instr.buildSlice 126 4 #[(0, .int .u8 (x.toNat : Int)), (1, .int .u8 (y.toNat : Int)), (2, .int .u8 (z.toNat : Int)), (3, .int .u8 (u.toNat : Int))]).run Tryz.prog W = .ok (.slice (some ⟨W.heap.size, 0, none⟩) 4 4) (W.alloc (.cells ([x, y, z, u].map bv).toArray 5)) := by
  kernel_rfl

end Go.Proofs.YtbdmpjnlgdahmaaGreatDoor

namespace Go.Proofs.YtbdmpjnlgdahmaaGreatDoor
open Go.RowKit
set_option maxRecDepth 100000

theorem retRow1 {P : Program} {fn : Func} {p : Tmp} {ty : TypeId} (h : fn.results = #[.cell p ty]) (tmps : Array Value) (w : World) (g : Nat) (cs : Array Value) (d : TypeDesc) (hp : tmps.getD p undef = .pointer (some ⟨g, 0, none⟩)) (A : VAt w g ty cs)
    (hu : P.underlying ty = some d) (hd : (match d with | .struct _ | .array _ _ => true | _ => false) = true) (hi : (P.info? ty).map (·.size) = some cs.size) : (results fn tmps).run P w = .ok (.agg cs) w := by
  have hp' : tmps[p]?.getD undef = .pointer (some ⟨g, 0, none⟩) := by simpa using hp
  have h1 := run_loadVar_row (P := P) w g ty ty cs (0, 0) _ A hu hd hi
  simp [results, h, hp', asAddr, h1]

def tkC (t : Tk) : Array Value := #[.int .i64 (t.kind : Int), .int .i64 (t.pos : Int), str t.text, .int .u32 (t.num : Int)]
theorem sizeTk : (Tryz.prog.info? 42).map (·.size) = some 4 := by kernel_rfl
theorem tkC_all (t : Tk) : (tkC t).all (·.oneCell') = true := by simp [tkC, Value.oneCell']

theorem tok_put {w W : World} {R : Nat} {z0 z1 z2 z3 : Value} (hR : w.heap.size ≤ R) (A : VAt W R 42 #[z0, z1, z2, z3]) (G : w.grownBy W none) (a b d e : Value) :
    VAt ((((W.setCell ⟨R, 0, none⟩ a).setCell ⟨R, 1, none⟩ b).setCell ⟨R, 2, none⟩ d).setCell ⟨R, 3, none⟩ e) R 42 #[a, b, d, e] ∧ w.grownBy ((((W.setCell ⟨R, 0, none⟩ a).setCell ⟨R, 1, none⟩ b).setCell ⟨R, 2, none⟩ d).setCell ⟨R, 3, none⟩ e) none :=
  ⟨(((A.set 0 a).set 1 b).set 2 d).set 3 e, grown_setCell (grown_setCell (grown_setCell (grown_setCell G _ _ (.inr hR)) _ _ (.inr hR)) _ _ (.inr hR)) _ _ (.inr hR)⟩

section
variable {c : PC} {w : World} {i nest bud : Nat} {vt vp : Value} {ts : List Tk} {ns : List (Nd × Nat)}

/-- The cells that the next token is read from. -/
theorem PS.reads (h : PS c w i vt vp ts nest bud ns) : ∃ b off ca, c.tv = .slice (some ⟨b, off, none⟩) c.all.length ca ∧ i < c.all.length ∧ w.cell? ⟨c.g, 0, none⟩ = some (.slice (some ⟨b, off, none⟩) c.all.length ca) ∧ w.cell? ⟨c.g, 1, none⟩ = some (.int .i64 (i : Int)) ∧
    w.cell? ⟨b, off + i * 4, none⟩ = some (.int .i64 ((hdT ts).kind : Int)) ∧ w.cell? ⟨b, off + i * 4 + 1, none⟩ = some (.int .i64 ((hdT ts).pos : Int)) ∧ w.cell? ⟨b, off + i * 4 + 2, none⟩ = some (str (hdT ts).text) ∧ w.cell? ⟨b, off + i * 4 + 3, none⟩ = some (.int .u32 ((hdT ts).num : Int)) := by
  obtain ⟨hi, ht, -⟩ := h.idx
  obtain ⟨a, ca, htv, hC, -⟩ := h.toks.items
  obtain ⟨b, off, rfl, hc⟩ := hC.toks hi
  obtain ⟨k0, k1, k2, k3⟩ := hc i hi
  rw [ht] at k0 k1 k2 k3
  have c0 : w.cell? ⟨c.g, 0, none⟩ = some c.tv := h.blk.cell 0
  rw [htv] at c0
  exact ⟨b, off, ca, htv, hi, c0, h.blk.cell 1, k0, k1, k2, k3⟩

set_option maxHeartbeats 1000000 in
theorem rnext_any (h : PS c w i vt vp ts nest bud ns) :
    Calls Tryz.prog 47 #[.pointer (some ⟨c.g, 0, none⟩)] w fun e w' => e = .returned (.agg (tkC (hdT ts))) ∧ w.grownBy w' none := by
  have hl := h.len
  have G := World.grownBy_alloc w (.cells #[.int .i64 0, .int .i64 0, .string ⟨#[]⟩, .int .u32 0] 42) none
  have RA := VAt.alloc w 42 #[.int .i64 0, .int .i64 0, .string ⟨#[]⟩, .int .u32 0]
  obtain ⟨b, off, ca, -, hi, c0, c1, k0, k1, k2, k3⟩ := (h.keep G).reads
  clear h
  unfold tkC
  generalize hdT ts = t at *
  obtain ⟨tk, tp, tx, tn⟩ := t
  simp only at *
  generalize c.g = g at *
  generalize c.all.length = n at *
  have hlt : (i : Int) < (n : Int) := by omega
  go_enter Tryz.func47, Tryz.ntmps47
  go_upto_region 1 with fail
  have HR : Hid (w.heap.size ≤ w.heap.size) := Nat.le_refl _
  generalize w.alloc (.cells #[.int .i64 0, .int .i64 0, .string ⟨#[]⟩, .int .u32 0] 42) = W at *
  obtain ⟨R, hR⟩ : ∃ R, w.heap.size = R := ⟨_, rfl⟩
  rw [hR] at RA
  have r0 : W.cell? ⟨R, 0, none⟩ = some (.int .i64 0) := RA.cell 0
  have r1 : W.cell? ⟨R, 1, none⟩ = some (.int .i64 0) := RA.cell 1
  have r2 : W.cell? ⟨R, 2, none⟩ = some (.string ⟨#[]⟩) := RA.cell 2
  have r3 : W.cell? ⟨R, 3, none⟩ = some (.int .u32 0) := RA.cell 3
  have f0 := RA.free 0
  have f1 := RA.free 1
  have f2 := RA.free 2
  have f3 := RA.free 3
  rw [hR]
  have HR2 : Hid (w.heap.size ≤ R) := Nat.le_of_eq hR
  have HRA : Hid (VAt W R 42 #[.int .i64 0, .int .i64 0, .string ⟨#[]⟩, .int .u32 0]) := RA
  have HG : Hid (w.grownBy W none) := G
  clear hR HR RA G
  go_region
  go_wp2
  obtain ⟨A, K⟩ := tok_put HR2.out HRA.out HG.out (.int .i64 (tk : Int)) (.int .i64 (tp : Int)) (str tx) (.int .u32 (tn : Int))
  refine bodyPost_ret (retRow1 rfl _ _ R _ _ rfl A Tryz.underlying42 rfl sizeTk) rfl ?_
  exact ⟨rfl, grown_trans K (grown_drewN _ 1 none)⟩

set_option maxHeartbeats 1000000 in
theorem take_any (h : PS c w i vt vp ts nest bud ns) (hk : (hdT ts).kind ≠ 0) :
    Calls Tryz.prog 88 #[.pointer (some ⟨c.g, 0, none⟩)] w fun e w' => e = .returned (.agg (tkC (hdT ts))) ∧ Ret c w vt vp ts.tail nest (bud + 1) ns w' := by
  have hl := h.len
  have hi := h.idx.1
  have G := World.grownBy_alloc w (.cells #[.int .i64 0, .int .i64 0, .string ⟨#[]⟩, .int .u32 0] 42) none
  have RA := VAt.alloc w 42 #[.int .i64 0, .int .i64 0, .string ⟨#[]⟩, .int .u32 0]
  have H1 := h.keep G
  have HP : Hid (PS c w i vt vp ts nest bud ns) := h
  go_enter Tryz.func88, Tryz.ntmps88
  go_upto_region 1 with fail
  generalize w.alloc (.cells #[.int .i64 0, .int .i64 0, .string ⟨#[]⟩, .int .u32 0] 42) = W at *
  obtain ⟨R, hR⟩ : ∃ R, w.heap.size = R := ⟨_, rfl⟩
  rw [hR] at RA ⊢
  have HR2 : Hid (w.heap.size ≤ R) := Nat.le_of_eq hR
  clear h hR
  go_wp2_with fail
  refine (rnext_any H1).mono ?_
  rintro e w1 ⟨rfl, G1⟩
  have RA1 := RA.kept G1
  have H2 := H1.keep G1
  have G2 := grown_trans G G1
  clear H1 G1 RA G
  unfold tkC
  have HK : Hid ((hdT ts).kind ≠ 0) := hk
  clear hk
  obtain ⟨t, ht⟩ : ∃ t, hdT ts = t := ⟨_, rfl⟩
  have HT : Hid (hdT ts = t) := ht
  rw [ht]
  clear ht
  obtain ⟨tk, tp, tx, tn⟩ := t
  simp only
  have KA := World.grownBy_alloc w1 (.cells #[.int .i64 (tk : Int), .int .i64 (tp : Int), str tx, .int .u32 (tn : Int)] 42) none
  have VA := VAt.alloc w1 42 #[.int .i64 (tk : Int), .int .i64 (tp : Int), str tx, .int .u32 (tn : Int)]
  have H3 := H2.keep KA
  have RA2 := RA1.kept KA
  have G3 := grown_trans G2 KA
  have HV : Hid (w.heap.size ≤ w1.heap.size) := G2.size
  go_upto_region 2 with fail
  generalize w1.alloc (.cells #[.int .i64 (tk : Int), .int .i64 (tp : Int), .string ⟨tx.toArray⟩, .int .u32 (tn : Int)] 42) = w2 at *
  generalize w1.heap.size = V at *
  clear H2 RA1 G2 KA
  have c1 : w2.cell? ⟨c.g, 1, none⟩ = some (.int .i64 (i : Int)) := H3.blk.cell 1
  have f1 := H3.blk.free 1
  have hw : IntKind.i64.wrap ((i : Int) + 1) = ((i + 1 : Nat) : Int) := by rw [IntKind.wrap_i64]; omega
  have HQ : Hid (PS c (w2.setCell ⟨c.g, 1, none⟩ (.int .i64 ((i : Int) + 1))) (i + 1) vt vp ts.tail nest (bud + 1) ns ∧ GB w (w2.setCell ⟨c.g, 1, none⟩ (.int .i64 ((i : Int) + 1))) (foot c.g vt vp)) :=
    ⟨H3.take HK.out, (GB.non G3).trans (GB.set w2 vt vp c.g 1 _) (fun _ _ h => h)⟩
  have hgV : V ≠ c.g := fun e => by have := HP.out.blk.lt; have := HV.out; omega
  have hgR : R ≠ c.g := fun e => by have := HP.out.blk.lt; have := HR2.out; omega
  have VA3 := VA.grown (grown_set w2 c.g 1 (.int .i64 ((i : Int) + 1))) (fun e => hgV (Option.some.inj e).symm)
  have RA3 := RA2.grown (grown_set w2 c.g 1 (.int .i64 ((i : Int) + 1))) (fun e => hgR (Option.some.inj e).symm)
  clear VA RA2 H3 G3
  go_upto_region 3 with fail
  generalize w2.setCell ⟨c.g, 1, none⟩ (.int .i64 ((i : Int) + 1)) = w3 at *
  go_wp2_with (first
    | refine wpList_load_row rfl 42 (.tmp 3) rfl V rfl 42 _ (0, 0) _ VA3 Tryz.underlying42 rfl sizeTk ?_
    | refine wpList_store_row rfl 42 (.tmp 2) (.tmp 13) rfl R (tkC ⟨tk, tp, tx, tn⟩) rfl rfl 42 _ RA3 sizeTk rfl (tkC_all _) ?_)
  refine bodyPost_ret (retRow1 rfl _ _ R _ _ rfl (RA3.setRow _) Tryz.underlying42 rfl sizeTk) rfl ?_
  exact ⟨by rw [HT.out], Ret.fin HP.out HQ.out.2 (fun _ _ h => h) HQ.out.1 (vgrown_setRow (World.grownBy.refl w3 (some R)) R _ (.inl rfl)) HR2.out (HP.out.not_foot HR2.out)⟩

theorem fld_tok (k p : Int) (x : Value) (n : Int) (W : World) : (Instr.field 42 (.agg #[.int .i64 k, .int .i64 p, x, .int .u32 n]) 0).run Tryz.prog W = .ok (.int .i64 k) W ∧ (Instr.field 42 (.agg #[.int .i64 k, .int .i64 p, x, .int .u32 n]) 1).run Tryz.prog W = .ok (.int .i64 p) W ∧
    (Instr.field 42 (.agg #[.int .i64 k, .int .i64 p, x, .int .u32 n]) 2).run Tryz.prog W = .ok x W ∧ (Instr.field 42 (.agg #[.int .i64 k, .int .i64 p, x, .int .u32 n]) 3).run Tryz.prog W = .ok (.int .u32 n) W := ⟨by kernel_rfl, by kernel_rfl, by kernel_rfl, by kernel_rfl⟩

/-- Reading gives up. -/
theorem giveUp_any (h : PS c w i vt vp ts nest bud ns) (e : Int) :
    Calls Tryz.prog 69 #[.pointer (some ⟨c.g, 0, none⟩), .int .i64 e] w fun x w' => x = .panicked (PanS ((hdT ts).pos, e)) ∧ w.grownBy w' none := by
  have CN := rnext_any h
  unfold tkC at CN
  have HF := fun k p x n W => (fld_tok k p x n W).2.1
  unfold PanS
  generalize hdT ts = t at *
  obtain ⟨tk, tp, tx, tn⟩ := t
  simp only at *
  clear h
  go_enter Tryz.func69, Tryz.ntmps69
  go_wp2_with fail
  refine CN.mono ?_
  rintro x w1 ⟨rfl, G⟩
  clear CN
  go_wp2
  exact ⟨rfl, rfl, G⟩

/-- Where and why nothing that begins with the next token may stand there. -/
def stuckE (ts : List Tk) : Er := ((hdT ts).pos, if (hdT ts).kind = 0 then 110 else 111)
theorem fail_stuck {α : Type} (ts : List Tk) : (failV ts 111 : Except Er α) = .error (stuckE ts) := rfl

theorem stuck_any (h : PS c w i vt vp ts nest bud ns) :
    Calls Tryz.prog 48 #[.pointer (some ⟨c.g, 0, none⟩)] w fun x w' => x = .panicked (PanS (stuckE ts)) ∧ w.grownBy w' none := by
  have CN := rnext_any h
  unfold stuckE
  have HG : Hid (∀ W, w.grownBy W none → ∀ e, Calls Tryz.prog 69 #[.pointer (some ⟨c.g, 0, none⟩), .int .i64 e] W fun x w' => x = .panicked (PanS ((hdT ts).pos, e)) ∧ W.grownBy w' none) := fun W G e => giveUp_any (h.keep G) e
  unfold tkC at CN
  have HF := fun k p x n W => (fld_tok k p x n W).1
  generalize hdT ts = t at *
  obtain ⟨tk, tp, tx, tn⟩ := t
  simp only at *
  clear h
  by_cases hk : tk = 0
  · have hk' : ((tk : Int) == 0) = true := by rw [hk]; rfl
    rw [if_pos hk]
    clear hk
    go_enter Tryz.func48, Tryz.ntmps48
    go_wp2_with fail
    refine CN.mono ?_
    rintro x w1 ⟨rfl, G⟩
    clear CN
    go_wp2_with fail
    refine (HG.out w1 G _).mono ?_
    rintro x w2 ⟨rfl, G2⟩
    go_wp2
    exact ⟨rfl, rfl, grown_trans G G2⟩
  · have hk' : ((tk : Int) == 0) = false := by rw [beq_eq_false_iff_ne]; omega
    rw [if_neg hk]
    clear hk
    go_enter Tryz.func48, Tryz.ntmps48
    go_wp2_with fail
    refine CN.mono ?_
    rintro x w1 ⟨rfl, G⟩
    clear CN
    go_wp2_with fail
    refine (HG.out w1 G _).mono ?_
    rintro x w2 ⟨rfl, G2⟩
    go_wp2
    exact ⟨rfl, rfl, grown_trans G G2⟩

end
end Go.Proofs.YtbdmpjnlgdahmaaGreatDoor

namespace Go.Proofs.YtbdmpjnlgdahmaaGreatDoor
open Go.RowKit
set_option maxRecDepth 100000

set_option maxHeartbeats 1000000 in
theorem index_any (a : Option Addr) (ca : Nat) (xs : List (List UInt8)) (x : List UInt8) (w : World) (ha : CV w a (xs.map str)) (hm : xs.length ≤ 1000) :
    Calls Tryz.prog 116 #[.slice a xs.length ca, str x] w fun e w' => ∃ z : Int, e = .returned (.int .i64 z) ∧ (decide ((0 : Int) ≤ z) = decide (x ∈ xs)) ∧ ∃ n, w' = w.drewN n := by
  have HA : Hid (CV w a (xs.map str)) := ha
  clear ha
  go_enter Tryz.func116, Tryz.ntmps116
  go_wp2
  go_loopw [8] (fun i wr => ∃ k : Nat, k ≤ xs.length ∧ i = .int .i64 k ∧ Hid (∀ j, j < k → ∀ y, xs[j]? = some y → y ≠ x) ∧ ∃ n, wr = w.drewN n) (fun i _ => xs.length - (intOf i).toNat)
  case atStart => exact ⟨0, Nat.zero_le _, rfl, fun j hj => by omega, 0, rfl⟩
  case round =>
    obtain ⟨k, hk, rfl, HI, n, rfl⟩ := hrel
    by_cases hlt : k < xs.length
    · obtain ⟨b, o, rfl, hc⟩ := HA.out.addr (k := k) (by simpa using hlt)
      have hc1 := hc k (by simpa using hlt)
      rw [List.getElem_map] at hc1
      have hl : (k : Int) < (xs.length : Int) := by omega
      clear hc
      by_cases he : x = xs[k]
      · have HM : Hid (x ∈ xs) := by show x ∈ xs; rw [he]; exact List.getElem_mem hlt
        have hE : (x == xs[k]) = true := by simpa using he
        clear he
        generalize xs[k] = y at *
        go_wp2
        go_ret
        exact ⟨_, rfl, by rw [decide_eq_true HM.out]; simp, _, rfl⟩
      · have HN : Hid (∀ j, j < k + 1 → ∀ y, xs[j]? = some y → y ≠ x) := fun j hj y hy => by
          by_cases e : j = k
          · subst e
            rw [List.getElem?_eq_getElem hlt] at hy
            cases hy
            exact fun e => he e.symm
          · exact HI.out j (by omega) y hy
        have hE : (x == xs[k]) = false := by simpa using he
        clear he HI
        generalize xs[k] = y at *
        go_wp2
        go_roundw
        case rel => exact ⟨k + 1, by omega, by go_num, HN, _, by rfl⟩
        case measure => simp [intOf]; omega
    · obtain rfl : k = xs.length := by omega
      have HM : Hid (¬ x ∈ xs) := fun e => by
        obtain ⟨j, hj, e⟩ := List.getElem_of_mem e
        exact HI.out j hj _ (List.getElem?_eq_getElem hj) e
      clear HI
      go_wp2
      go_ret
      exact ⟨_, rfl, by rw [decide_eq_false HM.out]; simp, n, rfl⟩

set_option maxHeartbeats 1000000 in
theorem contains_any (a : Option Addr) (ca : Nat) (xs : List (List UInt8)) (x : List UInt8) (w : World) (ha : CV w a (xs.map str)) (hm : xs.length ≤ 1000) :
    Calls Tryz.prog 101 #[.slice a xs.length ca, str x] w fun e w' => e = .returned (.bool (decide (x ∈ xs))) ∧ ∃ n, w' = w.drewN n := by
  have C := index_any a ca xs x w ha hm
  generalize decide (x ∈ xs) = B at *
  clear ha
  go_enter Tryz.func101, Tryz.ntmps101
  go_wp2_with fail
  refine C.mono ?_
  rintro e w1 ⟨z, rfl, hz, n, rfl⟩
  clear C
  go_wp2
  go_ret
  exact ⟨rfl, n, rfl⟩

section
variable {c : PC} {w : World} {i nest bud : Nat} {vt vp : Value} {ts : List Tk} {ns : List (Nd × Nat)}

set_option maxHeartbeats 1000000 in
theorem stands_any (h : PS c w i vt vp ts nest bud ns) (a : Option Addr) (ca : Nat) (xs : List (List UInt8)) (ha : CV w a (xs.map str)) (hm : xs.length ≤ 1000) :
    Calls Tryz.prog 87 #[.pointer (some ⟨c.g, 0, none⟩), .slice a xs.length ca] w fun e w' => e = .returned (.bool (decide ((hdT ts).text ∈ xs))) ∧ w.grownBy w' none := by
  have CN := rnext_any h
  have HC : Hid (∀ W, w.grownBy W none → Calls Tryz.prog 101 #[.slice a xs.length ca, str (hdT ts).text] W fun e w' => e = .returned (.bool (decide ((hdT ts).text ∈ xs))) ∧ ∃ n, w' = W.drewN n) := fun W G => contains_any a ca xs _ W (ha.keptNone G) hm
  unfold tkC at CN
  have HF := fun k p x n W => (fld_tok k p x n W).2.2.1
  generalize hdT ts = t at *
  obtain ⟨tk, tp, tx, tn⟩ := t
  simp only at *
  generalize decide (tx ∈ xs) = B at *
  clear h ha
  go_enter Tryz.func87, Tryz.ntmps87
  go_wp2_with fail
  refine CN.mono ?_
  rintro x w1 ⟨rfl, G⟩
  clear CN
  go_wp2_with fail
  refine (HC.out w1 G).mono ?_
  rintro x w2 ⟨rfl, n, rfl⟩
  clear HC
  go_wp2
  go_ret
  exact ⟨rfl, grown_trans G (grown_drewN _ _ _)⟩

def SkipP (c : PC) (w : World) (vt vp : Value) (ts : List Tk) (nest bud : Nat) (ns : List (Nd × Nat)) : Bool → World → Prop
  | true, w' => Ret c w vt vp ts.tail nest (bud + 1) ns w'
  | false, w' => w.grownBy w' none

set_option maxHeartbeats 1000000 in
theorem skip_any (h : PS c w i vt vp ts nest bud ns) (x : List UInt8) (hx : Asked x) :
    Calls Tryz.prog 163 #[.pointer (some ⟨c.g, 0, none⟩), str x] w fun e w' => e = .returned (.bool (isB ts x)) ∧ SkipP c w vt vp ts nest bud ns (isB ts x) w' := by
  have hb := asked_is h.good.hd hx
  have G0 := World.grownBy_alloc w (.cells #[str x] 9) none
  have CS := stands_any (h.keep G0) (some ⟨w.heap.size, 0, none⟩) 1 [x] (cv_lit w _ _) (by simp)
  have hm : decide ((hdT ts).text ∈ [x]) = isB ts x := by rw [hb]; simp
  rw [hm] at CS
  have HT : Hid (∀ W, w.grownBy W none → isB ts x = true → Calls Tryz.prog 88 #[.pointer (some ⟨c.g, 0, none⟩)] W fun e w' => e = .returned (.agg (tkC (hdT ts))) ∧ Ret c w vt vp ts.tail nest (bud + 1) ns w') := fun W G hb' =>
    (take_any (h.keep G) (isB_k0 hb')).mono fun e w' ⟨he, hR⟩ => ⟨he, Ret.of (GB.non G) (fun _ _ k => k) hR⟩
  generalize (⟨x.toArray⟩ : ByteArray) = X at *
  clear h hm hb
  generalize isB ts x = B at *
  simp only [List.length_singleton] at CS
  cases B with
  | true =>
    go_enter Tryz.func163, Tryz.ntmps163
    go_wp2_with fail
    refine CS.mono ?_
    rintro e w1 ⟨rfl, G⟩
    clear CS
    go_wp2_with fail
    refine (HT.out w1 (grown_trans G0 G) (by first | trivial | rfl)).mono ?_
    rintro e w2 ⟨rfl, R⟩
    clear HT G G0
    go_wp2
    go_ret
    exact ⟨rfl, R⟩
  | false =>
    go_enter Tryz.func163, Tryz.ntmps163
    go_wp2_with fail
    refine CS.mono ?_
    rintro e w1 ⟨rfl, G⟩
    clear CS
    go_wp2
    go_ret
    exact ⟨rfl, grown_trans G0 G⟩

/-- What is read that tells nothing. -/
def MustP (c : PC) (w : World) (vt vp : Value) (nest bud : Nat) (ns : List (Nd × Nat)) (r : Except Er (List Tk)) (e : Ending) (w' : World) : Prop := match r with
  | .ok ts' => e = .returned (.tuple #[]) ∧ Ret c w vt vp ts' nest bud ns w'
  | .error er => e = .panicked (PanS er) ∧ GB w w' (foot c.g vt vp)

set_option maxHeartbeats 1000000 in
theorem must_any (h : PS c w i vt vp ts nest bud ns) (x : List UInt8) (hx : Asked x) :
    Calls Tryz.prog 159 #[.pointer (some ⟨c.g, 0, none⟩), str x] w (MustP c w vt vp nest (bud + 1) ns (mustV x ts)) := by
  have CS := skip_any h x hx
  have HS : Hid (∀ W, w.grownBy W none → Calls Tryz.prog 48 #[.pointer (some ⟨c.g, 0, none⟩)] W fun e w' => e = .panicked (PanS (stuckE ts)) ∧ W.grownBy w' none) := fun W G => stuck_any (h.keep G)
  unfold mustV
  generalize (⟨x.toArray⟩ : ByteArray) = X at *
  cases hb : isB ts x with
  | true =>
    rw [if_pos rfl]
    rw [hb] at CS
    clear h HS hb
    go_enter Tryz.func159, Tryz.ntmps159
    go_wp2_with fail
    refine CS.mono ?_
    rintro e w1 ⟨rfl, R⟩
    clear CS
    go_wp2
    go_end0
    exact ⟨rfl, R⟩
  | false =>
    rw [if_neg (by simp), fail_stuck]
    rw [hb] at CS
    clear h hb
    go_enter Tryz.func159, Tryz.ntmps159
    go_wp2_with fail
    refine CS.mono ?_
    rintro e w1 ⟨rfl, hG⟩
    have G : w.grownBy w1 none := hG
    clear CS hG
    go_wp2_with fail
    refine (HS.out w1 G).mono ?_
    rintro e w2 ⟨rfl, G2⟩
    clear HS
    go_wp2
    exact ⟨rfl, rfl, GB.non (grown_trans G G2)⟩

set_option maxHeartbeats 1000000 in
theorem rnumber_any (h : PS c w i vt vp ts nest bud ns) :
    Calls Tryz.prog 157 #[.pointer (some ⟨c.g, 0, none⟩)] w (TellP c w vt vp nest (bud + 1) ns (fun n : Nat => .int .u32 (n : Int)) (numT ts)) := by
  have CN := rnext_any h
  have HS : Hid (∀ W, w.grownBy W none → Calls Tryz.prog 48 #[.pointer (some ⟨c.g, 0, none⟩)] W fun e w' => e = .panicked (PanS (stuckE ts)) ∧ W.grownBy w' none) := fun W G => stuck_any (h.keep G)
  have HT : Hid (∀ W, w.grownBy W none → (hdT ts).kind ≠ 0 → Calls Tryz.prog 88 #[.pointer (some ⟨c.g, 0, none⟩)] W fun e w' => e = .returned (.agg (tkC (hdT ts))) ∧ Ret c w vt vp ts.tail nest (bud + 1) ns w') := fun W G hk =>
    (take_any (h.keep G) hk).mono fun e w' ⟨he, hR⟩ => ⟨he, Ret.of (GB.non G) (fun _ _ k => k) hR⟩
  unfold numT
  rw [fail_stuck]
  generalize stuckE ts = er at *
  unfold tkC at CN HT
  have HF := fun k p x n W => (fld_tok k p x n W).1
  have HF3 := fun k p x n W => (fld_tok k p x n W).2.2.2
  generalize hdT ts = t at *
  obtain ⟨tk, tp, tx, tn⟩ := t
  simp only at *
  clear h
  by_cases hk : tk = 1
  · rw [if_pos hk]
    have hk' : ((tk : Int) != 1) = false := by rw [hk]; rfl
    have hk0 : tk ≠ 0 := by omega
    clear hk HS
    go_enter Tryz.func157, Tryz.ntmps157
    go_wp2_with fail
    refine CN.mono ?_
    rintro e w1 ⟨rfl, G⟩
    clear CN
    go_wp2_with fail
    refine (HT.out w1 G hk0).mono ?_
    rintro e w2 ⟨rfl, R⟩
    clear HT G
    go_wp2
    go_ret
    exact ⟨rfl, R⟩
  · rw [if_neg hk]
    have hk' : ((tk : Int) != 1) = true := by rw [bne_iff_ne]; omega
    clear hk HT
    go_enter Tryz.func157, Tryz.ntmps157
    go_wp2_with fail
    refine CN.mono ?_
    rintro e w1 ⟨rfl, G⟩
    clear CN
    go_wp2_with fail
    refine (HS.out w1 G).mono ?_
    rintro e w2 ⟨rfl, G2⟩
    clear HS
    go_wp2
    exact ⟨rfl, rfl, GB.non (grown_trans G G2)⟩

set_option maxHeartbeats 1000000 in
/-- Nothing is left. -/
theorem end_any (h : PS c w i vt vp ts nest bud ns) :
    Calls Tryz.prog 29 #[.pointer (some ⟨c.g, 0, none⟩)] w fun e w' => w.grownBy w' none ∧ (((hdT ts).kind = 0 ∧ e = .returned (.tuple #[])) ∨ ((hdT ts).kind ≠ 0 ∧ e = .panicked (PanS (stuckE ts)))) := by
  have CN := rnext_any h
  have HS : Hid (∀ W, w.grownBy W none → Calls Tryz.prog 48 #[.pointer (some ⟨c.g, 0, none⟩)] W fun e w' => e = .panicked (PanS (stuckE ts)) ∧ W.grownBy w' none) := fun W G => stuck_any (h.keep G)
  generalize stuckE ts = er at *
  unfold tkC at CN
  have HF := fun k p x n W => (fld_tok k p x n W).1
  generalize hdT ts = t at *
  obtain ⟨tk, tp, tx, tn⟩ := t
  simp only at *
  clear h
  by_cases hk : tk = 0
  · have hk' : ((tk : Int) != 0) = false := by rw [hk]; rfl
    have HK : Hid (tk = 0) := hk
    clear hk HS
    go_enter Tryz.func29, Tryz.ntmps29
    go_wp2_with fail
    refine CN.mono ?_
    rintro e w1 ⟨rfl, G⟩
    clear CN
    go_wp2
    go_end0
    exact ⟨G, .inl ⟨HK.out, rfl⟩⟩
  · have hk' : ((tk : Int) != 0) = true := by rw [bne_iff_ne]; omega
    have HK : Hid (tk ≠ 0) := hk
    clear hk
    go_enter Tryz.func29, Tryz.ntmps29
    go_wp2_with fail
    refine CN.mono ?_
    rintro e w1 ⟨rfl, G⟩
    clear CN
    go_wp2_with fail
    refine (HS.out w1 G).mono ?_
    rintro e w2 ⟨rfl, G2⟩
    clear HS
    go_wp2
    exact ⟨rfl, grown_trans G G2, .inr ⟨HK.out, rfl⟩⟩

end
end Go.Proofs.YtbdmpjnlgdahmaaGreatDoor
