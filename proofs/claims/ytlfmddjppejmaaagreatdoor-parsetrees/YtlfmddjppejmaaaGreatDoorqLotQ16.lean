import Derived.Test.YtlfmddjppejmaaaGreatDoorqLotQ6
import Derived.Test.YtlfmddjppejmaaaGreatDoorqLotQ1
import Derived.Laws.Rows
import Derived.Deep.RegionHeld3
import Derived.Deep.RegionLaw
import Derived.Deep.WholeRow
import Derived.Test.YtlfmddjppejmaaaGreatDoorqLotQ14
import Derived.Test.YtlfmddjppejmaaaGreatDoorqLotQ15
set_option maxHeartbeats 64000000
set_option maxRecDepth 100000
namespace Go.Proofs.YtlfmddjppejmaaaGreatDoor
open Go.RowKit
theorem E8 {P : Program} {ops : Array Oper} {S : World → Prop} {op : Oper} {a : Act} (hw : Region.wanted op (yielded ops a.tmps) = true) (ty : TypeId) (x : Operand) (ho : op.op = .load ty x)
  (g : Nat) (hx : a.eval x = .pointer (some ⟨g, 0, none⟩)) (t : TypeId) (cs : Array Value) (d : TypeDesc) (hS : ∀ w, S w → VAt w g t cs)
  (hu : P.underlying ty = some d) (hd : (match d with | .struct _ | .array _ _ => true | _ => false) = true) (hi : (P.info? ty).map (·.size) = some cs.size) : YieldsIf P ops S op (.agg cs) a :=
 .inl ⟨hw, fun w hw' => by
  unfold execOp
  simp only [ho, hx, Instr.loadAt, Instr.sureAddr, Sem.run_bind, Sem.run_pure, Result.andThen_ok, run_loadVar_row w g t ty cs (0, 0) d (hS w hw') hu hd hi]⟩
theorem N8 {P : Program} {fn : Func} {p : Tmp} {ty : TypeId} (h : fn.results = #[.cell p ty]) (tmps : Array Value) (w : World) (g : Nat) (cs : Array Value) (d : TypeDesc) (hp : tmps.getD p undef = .pointer (some ⟨g, 0, none⟩)) (A : VAt w g ty cs)
  (hu : P.underlying ty = some d) (hd : (match d with | .struct _ | .array _ _ => true | _ => false) = true) (hi : (P.info? ty).map (·.size) = some cs.size) : (results fn tmps).run P w = .ok (.agg cs) w := by
 have hp' : tmps[p]?.getD undef = .pointer (some ⟨g, 0, none⟩) := by simpa using hp
 have h1 := run_loadVar_row (P := P) w g ty ty cs (0, 0) _ A hu hd hi
 simp [results, h, hp', asAddr, h1]
def tkC (t : Tk) : Array Value := #[.int .i64 (t.kind : Int), .int .i64 (t.pos : Int), str t.text, .int .u32 (t.num : Int)]
theorem D2 : (Tryz.prog.info? 42).map (·.size) = some 4 := by kernel_rfl
theorem a5x (t : Tk) : (tkC t).all (·.oneCell') = true := by simp [tkC, Value.oneCell']
theorem a5z {w W : World} {R : Nat} {z0 z1 z2 z3 : Value} (hR : w.heap.size ≤ R) (A : VAt W R 42 #[z0, z1, z2, z3]) (G : w.grownBy W none) (a b d e : Value) :
  VAt ((((W.setCell ⟨R, 0, none⟩ a).setCell ⟨R, 1, none⟩ b).setCell ⟨R, 2, none⟩ d).setCell ⟨R, 3, none⟩ e) R 42 #[a, b, d, e] ∧ w.grownBy ((((W.setCell ⟨R, 0, none⟩ a).setCell ⟨R, 1, none⟩ b).setCell ⟨R, 2, none⟩ d).setCell ⟨R, 3, none⟩ e) none :=
 ⟨(((A.set 0 a).set 1 b).set 2 d).set 3 e, L5 (L5 (L5 (L5 G _ _ (.inr hR)) _ _ (.inr hR)) _ _ (.inr hR)) _ _ (.inr hR)⟩

section
variable {c : PC} {w : World} {i nest bud : Nat} {vt vp : Value} {ts : List Tk} {ns : List (Nd × Nat)}
theorem PS.reads (h : PS c w i vt vp ts nest bud ns) : ∃ b off ca, c.tv = .slice (some ⟨b, off, none⟩) c.all.length ca ∧ i < c.all.length ∧ w.cell? ⟨c.g, 0, none⟩ = some (.slice (some ⟨b, off, none⟩) c.all.length ca) ∧ w.cell? ⟨c.g, 1, none⟩ = some (.int .i64 (i : Int)) ∧
  w.cell? ⟨b, off + i * 4, none⟩ = some (.int .i64 ((hdT ts).kind : Int)) ∧ w.cell? ⟨b, off + i * 4 + 1, none⟩ = some (.int .i64 ((hdT ts).pos : Int)) ∧ w.cell? ⟨b, off + i * 4 + 2, none⟩ = some (str (hdT ts).text) ∧ w.cell? ⟨b, off + i * 4 + 3, none⟩ = some (.int .u32 ((hdT ts).num : Int)) := by
 obtain ⟨hi, ht, -⟩ := h.idx
 obtain ⟨a, ca, htv, hC, -⟩ := h.toks.items
 obtain ⟨b, off, rfl, hc⟩ := hC.toks hi
 obtain ⟨k0, k1, k2, k3⟩ := hc i hi
 rw [ht] at k0 k1 k2 k3
 have c0 : w.cell? ⟨c.g, 0, none⟩ = some c.tv := h.blk.cell 0
 rw [htv] at c0
 exact ⟨b, off, ca, htv, hi, c0, h.blk.cell 1, k0, k1, k2, k3⟩
theorem x9 (h : PS c w i vt vp ts nest bud ns) :
  Calls Tryz.prog 34 #[.pointer (some ⟨c.g, 0, none⟩)] w fun e w' => e = .returned (.agg (tkC (hdT ts))) ∧ w.grownBy w' none := by
 have hl := h.len
 have G := World.grownBy_alloc w (.cells #[.int .i64 0, .int .i64 0, .string ⟨#[]⟩, .int .u32 0] 42) none
 have RA := VAt.alloc w 42 #[.int .i64 0, .int .i64 0, .string ⟨#[]⟩, .int .u32 0]
 obtain ⟨b, off, ca, -, hi, c0, c1, k0, k1, k2, k3⟩ := (h.keep G).reads
 clear h
 unfold tkC
 generalize hdT ts = t at *
 obtain ⟨tk, tp, tx, tn⟩ := t
 simp only at *
 generalize c.g = g at *
 generalize c.all.length = n at *
 have hlt : (i : Int) < (n : Int) := by omega
 go_enter Tryz.func34, Tryz.ntmps34
 go_upto_region 1 with fail
 have HR : Hid (w.heap.size ≤ w.heap.size) := Nat.le_refl _
 generalize w.alloc (.cells #[.int .i64 0, .int .i64 0, .string ⟨#[]⟩, .int .u32 0] 42) = W at *
 obtain ⟨R, hR⟩ : ∃ R, w.heap.size = R := ⟨_, rfl⟩
 rw [hR] at RA
 have r0 : W.cell? ⟨R, 0, none⟩ = some (.int .i64 0) := RA.cell 0
 have r1 : W.cell? ⟨R, 1, none⟩ = some (.int .i64 0) := RA.cell 1
 have r2 : W.cell? ⟨R, 2, none⟩ = some (.string ⟨#[]⟩) := RA.cell 2
 have r3 : W.cell? ⟨R, 3, none⟩ = some (.int .u32 0) := RA.cell 3
 have f0 := RA.free 0
 have f1 := RA.free 1
 have f2 := RA.free 2
 have f3 := RA.free 3
 rw [hR]
 have HR2 : Hid (w.heap.size ≤ R) := Nat.le_of_eq hR
 have HRA : Hid (VAt W R 42 #[.int .i64 0, .int .i64 0, .string ⟨#[]⟩, .int .u32 0]) := RA
 have HG : Hid (w.grownBy W none) := G
 clear hR HR RA G
 go_region
 go_wp2
 obtain ⟨A, K⟩ := a5z HR2.out HRA.out HG.out (.int .i64 (tk : Int)) (.int .i64 (tp : Int)) (str tx) (.int .u32 (tn : Int))
 refine bodyPost_ret (N8 rfl _ _ R _ _ rfl A Tryz.underlying42 rfl D2) rfl ?_
 exact ⟨rfl, d5 K (f8 _ 1 none)⟩
theorem I5 (h : PS c w i vt vp ts nest bud ns) (hk : (hdT ts).kind ≠ 0) :
  Calls Tryz.prog 66 #[.pointer (some ⟨c.g, 0, none⟩)] w fun e w' => e = .returned (.agg (tkC (hdT ts))) ∧ Ret c w vt vp ts.tail nest (bud + 1) ns w' := by
 have hl := h.len
 have hi := h.idx.1
 have G := World.grownBy_alloc w (.cells #[.int .i64 0, .int .i64 0, .string ⟨#[]⟩, .int .u32 0] 42) none
 have RA := VAt.alloc w 42 #[.int .i64 0, .int .i64 0, .string ⟨#[]⟩, .int .u32 0]
 have H1 := h.keep G
 have HP : Hid (PS c w i vt vp ts nest bud ns) := h
 go_enter Tryz.func66, Tryz.ntmps66
 go_upto_region 1 with fail
 generalize w.alloc (.cells #[.int .i64 0, .int .i64 0, .string ⟨#[]⟩, .int .u32 0] 42) = W at *
 obtain ⟨R, hR⟩ : ∃ R, w.heap.size = R := ⟨_, rfl⟩
 rw [hR] at RA ⊢
 have HR2 : Hid (w.heap.size ≤ R) := Nat.le_of_eq hR
 clear h hR
 go_wp2_with fail
 refine (x9 H1).mono ?_
 rintro e w1 ⟨rfl, G1⟩
 have RA1 := RA.kept G1
 have H2 := H1.keep G1
 have G2 := d5 G G1
 clear H1 G1 RA G
 unfold tkC
 have HK : Hid ((hdT ts).kind ≠ 0) := hk
 clear hk
 obtain ⟨t, ht⟩ : ∃ t, hdT ts = t := ⟨_, rfl⟩
 have HT : Hid (hdT ts = t) := ht
 rw [ht]
 clear ht
 obtain ⟨tk, tp, tx, tn⟩ := t
 simp only
 have KA := World.grownBy_alloc w1 (.cells #[.int .i64 (tk : Int), .int .i64 (tp : Int), str tx, .int .u32 (tn : Int)] 42) none
 have VA := VAt.alloc w1 42 #[.int .i64 (tk : Int), .int .i64 (tp : Int), str tx, .int .u32 (tn : Int)]
 have H3 := H2.keep KA
 have RA2 := RA1.kept KA
 have G3 := d5 G2 KA
 have HV : Hid (w.heap.size ≤ w1.heap.size) := G2.size
 go_upto_region 2 with fail
 generalize w1.alloc (.cells #[.int .i64 (tk : Int), .int .i64 (tp : Int), .string ⟨tx.toArray⟩, .int .u32 (tn : Int)] 42) = w2 at *
 generalize w1.heap.size = V at *
 clear H2 RA1 G2 KA
 have c1 : w2.cell? ⟨c.g, 1, none⟩ = some (.int .i64 (i : Int)) := H3.blk.cell 1
 have f1 := H3.blk.free 1
 have hw : IntKind.i64.wrap ((i : Int) + 1) = ((i + 1 : Nat) : Int) := by rw [IntKind.wrap_i64]; omega
 have HQ : Hid (PS c (w2.setCell ⟨c.g, 1, none⟩ (.int .i64 ((i : Int) + 1))) (i + 1) vt vp ts.tail nest (bud + 1) ns ∧ GB w (w2.setCell ⟨c.g, 1, none⟩ (.int .i64 ((i : Int) + 1))) (d3 c.g vt vp)) :=
  ⟨H3.take HK.out, (GB.non G3).trans (GB.set w2 vt vp c.g 1 _) (fun _ _ h => h)⟩
 have hgV : V ≠ c.g := fun e => by have := HP.out.blk.lt; have := HV.out; omega
 have hgR : R ≠ c.g := fun e => by have := HP.out.blk.lt; have := HR2.out; omega
 have VA3 := VA.grown (D3 w2 c.g 1 (.int .i64 ((i : Int) + 1))) (fun e => hgV (Option.some.inj e).symm)
 have RA3 := RA2.grown (D3 w2 c.g 1 (.int .i64 ((i : Int) + 1))) (fun e => hgR (Option.some.inj e).symm)
 clear VA RA2 H3 G3
 go_upto_region 3 with fail
 generalize w2.setCell ⟨c.g, 1, none⟩ (.int .i64 ((i : Int) + 1)) = w3 at *
 go_wp2_with (first
  | refine wpList_load_row rfl 42 (.tmp 3) rfl V rfl 42 _ (0, 0) _ VA3 Tryz.underlying42 rfl D2 ?_
  | refine wpList_store_row rfl 42 (.tmp 2) (.tmp 13) rfl R (tkC ⟨tk, tp, tx, tn⟩) rfl rfl 42 _ RA3 D2 rfl (a5x _) ?_)
 refine bodyPost_ret (N8 rfl _ _ R _ _ rfl (RA3.setRow _) Tryz.underlying42 rfl D2) rfl ?_
 exact ⟨by rw [HT.out], Ret.fin HP.out HQ.out.2 (fun _ _ h => h) HQ.out.1 (j7 (World.grownBy.refl w3 (some R)) R _ (.inl rfl)) HR2.out (HP.out.not_foot HR2.out)⟩
theorem o8 (k p : Int) (x : Value) (n : Int) (W : World) : (Instr.field 42 (.agg #[.int .i64 k, .int .i64 p, x, .int .u32 n]) 0).run Tryz.prog W = .ok (.int .i64 k) W ∧ (Instr.field 42 (.agg #[.int .i64 k, .int .i64 p, x, .int .u32 n]) 1).run Tryz.prog W = .ok (.int .i64 p) W ∧
  (Instr.field 42 (.agg #[.int .i64 k, .int .i64 p, x, .int .u32 n]) 2).run Tryz.prog W = .ok x W ∧ (Instr.field 42 (.agg #[.int .i64 k, .int .i64 p, x, .int .u32 n]) 3).run Tryz.prog W = .ok (.int .u32 n) W := ⟨by kernel_rfl, by kernel_rfl, by kernel_rfl, by kernel_rfl⟩
theorem a1G (h : PS c w i vt vp ts nest bud ns) (e : Int) :
  Calls Tryz.prog 54 #[.pointer (some ⟨c.g, 0, none⟩), .int .i64 e] w fun x w' => x = .panicked (M5 ((hdT ts).pos, e)) ∧ w.grownBy w' none := by
 have CN := x9 h
 unfold tkC at CN
 have HF := fun k p x n W => (o8 k p x n W).2.1
 unfold M5
 generalize hdT ts = t at *
 obtain ⟨tk, tp, tx, tn⟩ := t
 simp only at *
 clear h
 go_enter Tryz.func54, Tryz.ntmps54
 go_wp2_with fail
 refine CN.mono ?_
 rintro x w1 ⟨rfl, G⟩
 clear CN
 go_wp2
 exact ⟨rfl, rfl, G⟩
def M4 (ts : List Tk) : Er := ((hdT ts).pos, if (hdT ts).kind = 0 then 110 else 111)
theorem a2n {α : Type} (ts : List Tk) : (x6 ts 111 : Except Er α) = .error (M4 ts) := rfl
theorem a0Y (h : PS c w i vt vp ts nest bud ns) :
  Calls Tryz.prog 35 #[.pointer (some ⟨c.g, 0, none⟩)] w fun x w' => x = .panicked (M5 (M4 ts)) ∧ w.grownBy w' none := by
 have CN := x9 h
 unfold M4
 have HG : Hid (∀ W, w.grownBy W none → ∀ e, Calls Tryz.prog 54 #[.pointer (some ⟨c.g, 0, none⟩), .int .i64 e] W fun x w' => x = .panicked (M5 ((hdT ts).pos, e)) ∧ W.grownBy w' none) := fun W G e => a1G (h.keep G) e
 unfold tkC at CN
 have HF := fun k p x n W => (o8 k p x n W).1
 generalize hdT ts = t at *
 obtain ⟨tk, tp, tx, tn⟩ := t
 simp only at *
 clear h
 by_cases hk : tk = 0
 ·have hk' : ((tk : Int) == 0) = true := by rw [hk]; rfl
  rw [if_pos hk]
  clear hk
  go_enter Tryz.func35, Tryz.ntmps35
  go_wp2_with fail
  refine CN.mono ?_
  rintro x w1 ⟨rfl, G⟩
  clear CN
  go_wp2_with fail
  refine (HG.out w1 G _).mono ?_
  rintro x w2 ⟨rfl, G2⟩
  go_wp2
  exact ⟨rfl, rfl, d5 G G2⟩
 ·have hk' : ((tk : Int) == 0) = false := by rw [beq_eq_false_iff_ne]; omega
  rw [if_neg hk]
  clear hk
  go_enter Tryz.func35, Tryz.ntmps35
  go_wp2_with fail
  refine CN.mono ?_
  rintro x w1 ⟨rfl, G⟩
  clear CN
  go_wp2_with fail
  refine (HG.out w1 G _).mono ?_
  rintro x w2 ⟨rfl, G2⟩
  go_wp2
  exact ⟨rfl, rfl, d5 G G2⟩

end

section
variable {c : PC} {w : World} {i bud : Nat} {vt vp : Value} {s : Rt}
theorem RT.go {pl : Int} (h : RT c w i vt vp s bud pl) (he : s.er = none) (hk : (hdT s.ts).kind ≠ 0) : RT c (w.setCell ⟨c.g, 1, none⟩ (.int .i64 ((i + 1 : Nat) : Int))) (i + 1) vt vp s.next (bud + 1) pl := by
 obtain ⟨hi, h1, h2⟩ := h.idx
 rw [x8 he]
 refine { h with mem := ?_, drop := h2, good := h.good.tail hk, bud_le := fun e => ?_ }
 ·exact h.mem.store 1 _ rfl
 ·have := h.bud_le he
  have := List.length_pos_iff.2 h.good.ne
  show s.ns.length + s.ts.tail.length + (bud + 1) ≤ 65537
  rw [List.length_tail]
  omega
theorem q8 (h : RS c w i vt vp s bud) (hk : s.er = none → (hdT s.ts).kind ≠ 0) :
  Calls Tryz.prog 27 #[.pointer (some ⟨c.g, 0, none⟩)] w fun e w' => e = .returned (.tuple #[]) ∧ c8 c w vt vp s.next (bud + 1) w' := by
 have hl := h.len
 have hi := h.idx.1
 have c1 : w.cell? ⟨c.g, 1, none⟩ = some (.int .i64 (i : Int)) := h.mem.blk.cell 1
 have f1 := h.mem.blk.free 1
 have c5 : w.cell? ⟨c.g, 5, none⟩ = some (.int .i64 (erC s)) := h.mem.blk.cell 5
 rcases he : s.er with _ | x
 ·rw [L3 he] at c5
  have HQ : Hid (c8 c w vt vp s.next (bud + 1) (w.setCell ⟨c.g, 1, none⟩ (.int .i64 ((i : Int) + 1)))) :=
   ⟨i + 1, vt, vp, by have := h.go he (hk he); rw [x8 he] at this ⊢; exact this, GB.set w vt vp c.g 1 _, fun _ _ k => k⟩
  have hw : IntKind.i64.wrap ((i : Int) + 1) = ((i : Int) + 1) := by rw [IntKind.wrap_i64]; omega
  have HE : Hid (s.er = none) := he
  clear h hk he
  go_enter Tryz.func27, Tryz.ntmps27
  go_wp2
  exact ⟨rfl, _, results_none rfl _ _ _, rfl, HQ.out⟩
 ·have hn := h.erC_ne he
  have HQ : Hid (c8 c w vt vp s.next (bud + 1) w) := by
   rw [a2H he]
   exact ⟨i, vt, vp, { h with bud_le := fun e => by rw [he] at e; cases e }, GB.refl w _, fun _ _ k => k⟩
  generalize erC s = ec at *
  clear h hk he
  go_enter Tryz.func27, Tryz.ntmps27
  go_wp2
  exact ⟨rfl, _, results_none rfl _ _ _, rfl, HQ.out⟩
theorem E6 {pl : Int} (h : RT c w i vt vp s bud pl) :
  Calls Tryz.prog 13 #[.pointer (some ⟨c.g, 0, none⟩)] w fun e w' => e = .returned (.agg (tkC s.now)) ∧ w.grownBy w' none := by
 have hl := h.len
 have G := World.grownBy_alloc w (.cells #[.int .i64 0, .int .i64 0, .string ⟨#[]⟩, .int .u32 0] 42) none
 have RA := VAt.alloc w 42 #[.int .i64 0, .int .i64 0, .string ⟨#[]⟩, .int .u32 0]
 obtain ⟨b, off, ca, -, hi, c0, c1, k0, k1, k2, k3⟩ := (h.keep G).reads
 have c5 : (w.alloc (.cells #[.int .i64 0, .int .i64 0, .string ⟨#[]⟩, .int .u32 0] 42)).cell? ⟨c.g, 5, none⟩ = some (.int .i64 (erC s)) := (h.keep G).mem.blk.cell 5
 rcases he : s.er with _ | x
 ·rw [L3 he] at c5
  rw [E9 he]
  clear h he
  unfold tkC
  generalize hdT s.ts = t at *
  obtain ⟨tk, tp, tx, tn⟩ := t
  simp only at *
  generalize c.g = g at *
  generalize c.all.length = n at *
  have hlt : (i : Int) < (n : Int) := by omega
  go_enter Tryz.func13, Tryz.ntmps13
  go_upto_region 2 with fail
  have HR : Hid (w.heap.size ≤ w.heap.size) := Nat.le_refl _
  generalize w.alloc (.cells #[.int .i64 0, .int .i64 0, .string ⟨#[]⟩, .int .u32 0] 42) = W at *
  obtain ⟨R, hR⟩ : ∃ R, w.heap.size = R := ⟨_, rfl⟩
  rw [hR] at RA
  have r0 : W.cell? ⟨R, 0, none⟩ = some (.int .i64 0) := RA.cell 0
  have r1 : W.cell? ⟨R, 1, none⟩ = some (.int .i64 0) := RA.cell 1
  have r2 : W.cell? ⟨R, 2, none⟩ = some (.string ⟨#[]⟩) := RA.cell 2
  have r3 : W.cell? ⟨R, 3, none⟩ = some (.int .u32 0) := RA.cell 3
  have f0 := RA.free 0
  have f1 := RA.free 1
  have f2 := RA.free 2
  have f3 := RA.free 3
  rw [hR]
  have HR2 : Hid (w.heap.size ≤ R) := Nat.le_of_eq hR
  have HRA : Hid (VAt W R 42 #[.int .i64 0, .int .i64 0, .string ⟨#[]⟩, .int .u32 0]) := RA
  have HG : Hid (w.grownBy W none) := G
  clear hR HR RA G
  go_region
  go_wp2
  obtain ⟨A, K⟩ := a5z HR2.out HRA.out HG.out (.int .i64 (tk : Int)) (.int .i64 (tp : Int)) (str tx) (.int .u32 (tn : Int))
  refine bodyPost_ret (N8 rfl _ _ R _ _ rfl A Tryz.underlying42 rfl D2) rfl ?_
  exact ⟨rfl, d5 K (f8 _ 1 none)⟩
 ·have hn := h.erC_ne he
  rw [a1p he]
  generalize erC s = ec at *
  clear h he c0 c1 k0 k1 k2 k3
  generalize c.g = g at *
  go_enter Tryz.func13, Tryz.ntmps13
  go_wp2_with fail
  refine bodyPost_ret (N8 rfl _ _ _ _ _ rfl RA Tryz.underlying42 rfl D2) rfl ?_
  exact ⟨rfl, G⟩
end
theorem a7g (a : Option Addr) (ca : Nat) (xs : List (List UInt8)) (x : List UInt8) (w : World) (ha : CV w a (xs.map str)) (hm : xs.length ≤ 1000) :
  Calls Tryz.prog 86 #[.slice a xs.length ca, str x] w fun e w' => ∃ z : Int, e = .returned (.int .i64 z) ∧ (decide ((0 : Int) ≤ z) = decide (x ∈ xs)) ∧ ∃ n, w' = w.drewN n := by
 have HA : Hid (CV w a (xs.map str)) := ha
 clear ha
 go_enter Tryz.func86, Tryz.ntmps86
 go_wp2
 go_loopw [8] (fun i wr => ∃ k : Nat, k ≤ xs.length ∧ i = .int .i64 k ∧ Hid (∀ j, j < k → ∀ y, xs[j]? = some y → y ≠ x) ∧ ∃ n, wr = w.drewN n) (fun i _ => xs.length - (intOf i).toNat)
 case atStart => exact ⟨0, Nat.zero_le _, rfl, fun j hj => by omega, 0, rfl⟩
 case round =>
  obtain ⟨k, hk, rfl, HI, n, rfl⟩ := hrel
  by_cases hlt : k < xs.length
  ·obtain ⟨b, o, rfl, hc⟩ := HA.out.addr (k := k) (by simpa using hlt)
   have hc1 := hc k (by simpa using hlt)
   rw [List.getElem_map] at hc1
   have hl : (k : Int) < (xs.length : Int) := by omega
   clear hc
   by_cases he : x = xs[k]
   ·have HM : Hid (x ∈ xs) := by show x ∈ xs; rw [he]; exact List.getElem_mem hlt
    have hE : (x == xs[k]) = true := by simpa using he
    clear he
    generalize xs[k] = y at *
    go_wp2
    go_ret
    exact ⟨_, rfl, by rw [decide_eq_true HM.out]; simp, _, rfl⟩
   ·have HN : Hid (∀ j, j < k + 1 → ∀ y, xs[j]? = some y → y ≠ x) := fun j hj y hy => by
     by_cases e : j = k
     ·subst e
      rw [List.getElem?_eq_getElem hlt] at hy
      cases hy
      exact fun e => he e.symm
     ·exact HI.out j (by omega) y hy
    have hE : (x == xs[k]) = false := by simpa using he
    clear he HI
    generalize xs[k] = y at *
    go_wp2
    go_roundw
    case rel => exact ⟨k + 1, by omega, by go_num, HN, _, by rfl⟩
    case measure => simp [intOf]; omega
  ·obtain rfl : k = xs.length := by omega
   have HM : Hid (¬ x ∈ xs) := fun e => by
    obtain ⟨j, hj, e⟩ := List.getElem_of_mem e
    exact HI.out j hj _ (List.getElem?_eq_getElem hj) e
   clear HI
   go_wp2
   go_ret
   exact ⟨_, rfl, by rw [decide_eq_false HM.out]; simp, n, rfl⟩
theorem a6C (a : Option Addr) (ca : Nat) (xs : List (List UInt8)) (x : List UInt8) (w : World) (ha : CV w a (xs.map str)) (hm : xs.length ≤ 1000) :
  Calls Tryz.prog 74 #[.slice a xs.length ca, str x] w fun e w' => e = .returned (.bool (decide (x ∈ xs))) ∧ ∃ n, w' = w.drewN n := by
 have C := a7g a ca xs x w ha hm
 generalize decide (x ∈ xs) = B at *
 clear ha
 go_enter Tryz.func74, Tryz.ntmps74
 go_wp2_with fail
 refine C.mono ?_
 rintro e w1 ⟨z, rfl, hz, n, rfl⟩
 clear C
 go_wp2
 go_ret
 exact ⟨rfl, n, rfl⟩

section
variable {c : PC} {w : World} {i nest bud : Nat} {vt vp : Value} {ts : List Tk} {ns : List (Nd × Nat)}
theorem a0b (h : PS c w i vt vp ts nest bud ns) (a : Option Addr) (ca : Nat) (xs : List (List UInt8)) (ha : CV w a (xs.map str)) (hm : xs.length ≤ 1000) :
  Calls Tryz.prog 65 #[.pointer (some ⟨c.g, 0, none⟩), .slice a xs.length ca] w fun e w' => e = .returned (.bool (decide ((hdT ts).text ∈ xs))) ∧ w.grownBy w' none := by
 have CN := x9 h
 have HC : Hid (∀ W, w.grownBy W none → Calls Tryz.prog 74 #[.slice a xs.length ca, str (hdT ts).text] W fun e w' => e = .returned (.bool (decide ((hdT ts).text ∈ xs))) ∧ ∃ n, w' = W.drewN n) := fun W G => a6C a ca xs _ W (ha.keptNone G) hm
 unfold tkC at CN
 have HF := fun k p x n W => (o8 k p x n W).2.2.1
 generalize hdT ts = t at *
 obtain ⟨tk, tp, tx, tn⟩ := t
 simp only at *
 generalize decide (tx ∈ xs) = B at *
 clear h ha
 go_enter Tryz.func65, Tryz.ntmps65
 go_wp2_with fail
 refine CN.mono ?_
 rintro x w1 ⟨rfl, G⟩
 clear CN
 go_wp2_with fail
 refine (HC.out w1 G).mono ?_
 rintro x w2 ⟨rfl, n, rfl⟩
 clear HC
 go_wp2
 go_ret
 exact ⟨rfl, d5 G (f8 _ _ _)⟩
def a3h (c : PC) (w : World) (vt vp : Value) (ts : List Tk) (nest bud : Nat) (ns : List (Nd × Nat)) : Bool → World → Prop
 | true, w' => Ret c w vt vp ts.tail nest (bud + 1) ns w'
 | false, w' => w.grownBy w' none
theorem a0v (h : PS c w i vt vp ts nest bud ns) (x : List UInt8) (hx : F9 x) :
  Calls Tryz.prog 120 #[.pointer (some ⟨c.g, 0, none⟩), str x] w fun e w' => e = .returned (.bool (isB ts x)) ∧ a3h c w vt vp ts nest bud ns (isB ts x) w' := by
 have hb := T6 h.good.hd hx
 have G0 := World.grownBy_alloc w (.cells #[str x] 9) none
 have CS := a0b (h.keep G0) (some ⟨w.heap.size, 0, none⟩) 1 [x] (m8 w _ _) (by simp)
 have hm : decide ((hdT ts).text ∈ [x]) = isB ts x := by rw [hb]; simp
 rw [hm] at CS
 have HT : Hid (∀ W, w.grownBy W none → isB ts x = true → Calls Tryz.prog 66 #[.pointer (some ⟨c.g, 0, none⟩)] W fun e w' => e = .returned (.agg (tkC (hdT ts))) ∧ Ret c w vt vp ts.tail nest (bud + 1) ns w') := fun W G hb' =>
  (I5 (h.keep G) (a0i hb')).mono fun e w' ⟨he, hR⟩ => ⟨he, Ret.of (GB.non G) (fun _ _ k => k) hR⟩
 generalize (⟨x.toArray⟩ : ByteArray) = X at *
 clear h hm hb
 generalize isB ts x = B at *
 simp only [List.length_singleton] at CS
 cases B with
 | true =>
  go_enter Tryz.func120, Tryz.ntmps120
  go_wp2_with fail
  refine CS.mono ?_
  rintro e w1 ⟨rfl, G⟩
  clear CS
  go_wp2_with fail
  refine (HT.out w1 (d5 G0 G) (by first | trivial | rfl)).mono ?_
  rintro e w2 ⟨rfl, R⟩
  clear HT G G0
  go_wp2
  go_ret
  exact ⟨rfl, R⟩
 | false =>
  go_enter Tryz.func120, Tryz.ntmps120
  go_wp2_with fail
  refine CS.mono ?_
  rintro e w1 ⟨rfl, G⟩
  clear CS
  go_wp2
  go_ret
  exact ⟨rfl, d5 G0 G⟩
def a5J (c : PC) (w : World) (vt vp : Value) (nest bud : Nat) (ns : List (Nd × Nat)) (r : Except Er (List Tk)) (e : Ending) (w' : World) : Prop := match r with
 | .ok ts' => e = .returned (.tuple #[]) ∧ Ret c w vt vp ts' nest bud ns w'
 | .error er => e = .panicked (M5 er) ∧ GB w w' (d3 c.g vt vp)
theorem a0k (h : PS c w i vt vp ts nest bud ns) (x : List UInt8) (hx : F9 x) :
  Calls Tryz.prog 116 #[.pointer (some ⟨c.g, 0, none⟩), str x] w (a5J c w vt vp nest (bud + 1) ns (l5 x ts)) := by
 have CS := a0v h x hx
 have HS : Hid (∀ W, w.grownBy W none → Calls Tryz.prog 35 #[.pointer (some ⟨c.g, 0, none⟩)] W fun e w' => e = .panicked (M5 (M4 ts)) ∧ W.grownBy w' none) := fun W G => a0Y (h.keep G)
 unfold l5
 generalize (⟨x.toArray⟩ : ByteArray) = X at *
 cases hb : isB ts x with
 | true =>
  rw [if_pos rfl]
  rw [hb] at CS
  clear h HS hb
  go_enter Tryz.func116, Tryz.ntmps116
  go_wp2_with fail
  refine CS.mono ?_
  rintro e w1 ⟨rfl, R⟩
  clear CS
  go_wp2
  go_end0
  exact ⟨rfl, R⟩
 | false =>
  rw [if_neg (by simp), a2n]
  rw [hb] at CS
  clear h hb
  go_enter Tryz.func116, Tryz.ntmps116
  go_wp2_with fail
  refine CS.mono ?_
  rintro e w1 ⟨rfl, hG⟩
  have G : w.grownBy w1 none := hG
  clear CS hG
  go_wp2_with fail
  refine (HS.out w1 G).mono ?_
  rintro e w2 ⟨rfl, G2⟩
  clear HS
  go_wp2
  exact ⟨rfl, rfl, GB.non (d5 G G2)⟩
theorem a0s (h : PS c w i vt vp ts nest bud ns) :
  Calls Tryz.prog 114 #[.pointer (some ⟨c.g, 0, none⟩)] w (M6 c w vt vp nest (bud + 1) ns (fun n : Nat => .int .u32 (n : Int)) (j8 ts)) := by
 have CN := x9 h
 have HS : Hid (∀ W, w.grownBy W none → Calls Tryz.prog 35 #[.pointer (some ⟨c.g, 0, none⟩)] W fun e w' => e = .panicked (M5 (M4 ts)) ∧ W.grownBy w' none) := fun W G => a0Y (h.keep G)
 have HT : Hid (∀ W, w.grownBy W none → (hdT ts).kind ≠ 0 → Calls Tryz.prog 66 #[.pointer (some ⟨c.g, 0, none⟩)] W fun e w' => e = .returned (.agg (tkC (hdT ts))) ∧ Ret c w vt vp ts.tail nest (bud + 1) ns w') := fun W G hk =>
  (I5 (h.keep G) hk).mono fun e w' ⟨he, hR⟩ => ⟨he, Ret.of (GB.non G) (fun _ _ k => k) hR⟩
 unfold j8
 rw [a2n]
 generalize M4 ts = er at *
 unfold tkC at CN HT
 have HF := fun k p x n W => (o8 k p x n W).1
 have HF3 := fun k p x n W => (o8 k p x n W).2.2.2
 generalize hdT ts = t at *
 obtain ⟨tk, tp, tx, tn⟩ := t
 simp only at *
 clear h
 by_cases hk : tk = 1
 ·rw [if_pos hk]
  have hk' : ((tk : Int) != 1) = false := by rw [hk]; rfl
  have hk0 : tk ≠ 0 := by omega
  clear hk HS
  go_enter Tryz.func114, Tryz.ntmps114
  go_wp2_with fail
  refine CN.mono ?_
  rintro e w1 ⟨rfl, G⟩
  clear CN
  go_wp2_with fail
  refine (HT.out w1 G hk0).mono ?_
  rintro e w2 ⟨rfl, R⟩
  clear HT G
  go_wp2
  go_ret
  exact ⟨rfl, R⟩
 ·rw [if_neg hk]
  have hk' : ((tk : Int) != 1) = true := by rw [bne_iff_ne]; omega
  clear hk HT
  go_enter Tryz.func114, Tryz.ntmps114
  go_wp2_with fail
  refine CN.mono ?_
  rintro e w1 ⟨rfl, G⟩
  clear CN
  go_wp2_with fail
  refine (HS.out w1 G).mono ?_
  rintro e w2 ⟨rfl, G2⟩
  clear HS
  go_wp2
  exact ⟨rfl, rfl, GB.non (d5 G G2)⟩
theorem a6N (h : PS c w i vt vp ts nest bud ns) :
  Calls Tryz.prog 18 #[.pointer (some ⟨c.g, 0, none⟩)] w fun e w' => w.grownBy w' none ∧ (((hdT ts).kind = 0 ∧ e = .returned (.tuple #[])) ∨ ((hdT ts).kind ≠ 0 ∧ e = .panicked (M5 (M4 ts)))) := by
 have CN := x9 h
 have HS : Hid (∀ W, w.grownBy W none → Calls Tryz.prog 35 #[.pointer (some ⟨c.g, 0, none⟩)] W fun e w' => e = .panicked (M5 (M4 ts)) ∧ W.grownBy w' none) := fun W G => a0Y (h.keep G)
 generalize M4 ts = er at *
 unfold tkC at CN
 have HF := fun k p x n W => (o8 k p x n W).1
 generalize hdT ts = t at *
 obtain ⟨tk, tp, tx, tn⟩ := t
 simp only at *
 clear h
 by_cases hk : tk = 0
 ·have hk' : ((tk : Int) != 0) = false := by rw [hk]; rfl
  have HK : Hid (tk = 0) := hk
  clear hk HS
  go_enter Tryz.func18, Tryz.ntmps18
  go_wp2_with fail
  refine CN.mono ?_
  rintro e w1 ⟨rfl, G⟩
  clear CN
  go_wp2
  go_end0
  exact ⟨G, .inl ⟨HK.out, rfl⟩⟩
 ·have hk' : ((tk : Int) != 0) = true := by rw [bne_iff_ne]; omega
  have HK : Hid (tk ≠ 0) := hk
  clear hk
  go_enter Tryz.func18, Tryz.ntmps18
  go_wp2_with fail
  refine CN.mono ?_
  rintro e w1 ⟨rfl, G⟩
  clear CN
  go_wp2_with fail
  refine (HS.out w1 G).mono ?_
  rintro e w2 ⟨rfl, G2⟩
  clear HS
  go_wp2
  exact ⟨rfl, d5 G G2, .inr ⟨HK.out, rfl⟩⟩

end
theorem a7k (a b : Nat) : ((a : Int) == (b : Int)) = (a == b) := by
 rw [Bool.eq_iff_iff]
 simp only [beq_iff_eq]
 omega

section
variable {c : PC} {w : World} {i bud : Nat} {vt vp : Value} {s : Rt}
theorem a0U (h : RS c w i vt vp s bud) (x : List UInt8) :
  Calls Tryz.prog 21 #[.pointer (some ⟨c.g, 0, none⟩), str x] w fun e w' => e = .returned (.bool (s.is x)) ∧ w.grownBy w' none := by
 have CN := E6 h
 unfold Rt.is
 have HF := fun k p x n W => o8 k p x n W
 unfold tkC at CN
 generalize s.now = t at *
 obtain ⟨tk, tp, tx, tn⟩ := t
 simp only at *
 clear h
 generalize c.g = g at *
 go_enter Tryz.func21, Tryz.ntmps21
 go_wp2_with fail
 refine CN.mono ?_
 rintro e w1 ⟨rfl, G⟩
 clear CN
 go_wp2
 all_goals
  go_ret
  refine ⟨?_, d5 G (World.grownBy_alloc _ _ none)⟩
  first
   | (have e5 : tk = 5 := (by omega); subst e5; rfl)
   | (have e2 : tk = 2 := (by omega); subst e2; rfl)
   | (rw [show (tk == 5) = false from by simp only [beq_eq_false_iff_ne]; omega, show (tk == 2) = false from by simp only [beq_eq_false_iff_ne]; omega]; rfl)
theorem a32 (h : RS c w i vt vp s bud) (k : Nat) :
  Calls Tryz.prog 25 #[.pointer (some ⟨c.g, 0, none⟩), .int .i64 (k : Int)] w fun e w' => e = .returned (.bool (s.kind k)) ∧ w.grownBy w' none := by
 have CN := E6 h
 have c5 : w.cell? ⟨c.g, 5, none⟩ = some (.int .i64 (erC s)) := h.mem.blk.cell 5
 have HF := fun k p x n W => (o8 k p x n W).1
 unfold tkC at CN
 rcases he : s.er with _ | x
 ·rw [L3 he] at c5
  rw [a0j he]
  rw [E9 he] at CN
  generalize hdT s.ts = t at *
  obtain ⟨tk, tp, tx, tn⟩ := t
  simp only at *
  clear h he
  generalize c.g = g at *
  go_enter Tryz.func25, Tryz.ntmps25
  go_wp2_with fail
  refine CN.mono ?_
  rintro e w1 ⟨rfl, G⟩
  clear CN
  go_wp2
  go_ret
  refine ⟨?_, G⟩
  rw [a7k]
  rfl
 ·have hn := h.erC_ne he
  rw [a2z he]
  generalize erC s = ec at *
  clear h he CN
  generalize c.g = g at *
  go_enter Tryz.func25, Tryz.ntmps25
  go_wp2
  go_ret
  exact ⟨rfl, World.grownBy.refl w none⟩
end

section
variable {c : PC} {w : World} {i bud : Nat} {vt vp : Value} {s : Rt}
theorem a4d (he : s.er = none) {x : List UInt8} (hb : s.is x = true) : (hdT s.ts).kind ≠ 0 := by
 rw [I2 he] at hb
 exact a0i hb
theorem a3P (he : s.er = none) (e : Int) : s.fail e = { s with er := some ((hdT s.ts).pos, if (hdT s.ts).kind = 0 then 110 else e) } := by unfold Rt.fail; rw [if_pos he, E9 he]
theorem M2 (h : RS c w i vt vp s bud) (e : Int) (h1 : 1 ≤ e) (h2 : e ≤ 1000) :
  Calls Tryz.prog 14 #[.pointer (some ⟨c.g, 0, none⟩), .int .i64 e] w fun x w' => x = .returned (.tuple #[]) ∧ c8 c w vt vp (s.fail e) bud w' := by
 have c5 : w.cell? ⟨c.g, 5, none⟩ = some (.int .i64 (erC s)) := h.mem.blk.cell 5
 rcases he : s.er with _ | x
 ·rw [L3 he] at c5
  have CN : ∀ (W : World) (pl : Int), RT c W i vt vp s bud pl → Calls Tryz.prog 13 #[.pointer (some ⟨c.g, 0, none⟩)] W fun e w' => e = .returned (.agg (tkC s.now)) ∧ W.grownBy w' none := fun W pl H => E6 H
  unfold tkC at CN
  rw [a3P he]
  rw [E9 he] at CN
  generalize hdT s.ts = t at *
  obtain ⟨tk, tp, tx, tn⟩ := t
  simp only at *
  have HF := fun k p x n W => (o8 k p x n W).1
  have HG := fun k p x n W => (o8 k p x n W).2.1
  have HC : Hid (∀ (W : World) (pl : Int), RT c W i vt vp s bud pl → Calls Tryz.prog 13 #[.pointer (some ⟨c.g, 0, none⟩)] W fun e w' => e = .returned (.agg #[.int .i64 (tk : Int), .int .i64 (tp : Int), str tx, .int .u32 (tn : Int)]) ∧ W.grownBy w' none) := CN
  have HP : Hid (RS c w i vt vp s bud) := h
  obtain ⟨e2, he2⟩ : ∃ e2, (if tk = 0 then 110 else e) = e2 := ⟨_, rfl⟩
  rw [he2]
  have HE : Hid (1 ≤ e ∧ e ≤ 1000 ∧ (if tk = 0 then 110 else e) = e2) := ⟨h1, h2, he2⟩
  clear CN h he h1 h2 he2
  go_enter Tryz.func14, Tryz.ntmps14
  go_wp2_with fail
  refine (HC.out w _ HP.out).mono ?_
  rintro x w1 ⟨rfl, G1⟩
  have f6 := (HP.out.keep G1).mem.blk.free 6
  have c6 : w1.cell? ⟨c.g, 6, none⟩ = some (.int .i64 (erP s)) := (HP.out.keep G1).mem.blk.cell 6
  have HL1 : Hid (w.grownBy w1 none) := G1
  clear c5 G1
  go_wp2_with fail
  refine (HC.out _ (tp : Int) ((HP.out.keep HL1.out).putP (tp : Int))).mono ?_
  rintro x w2 ⟨rfl, G2⟩
  have H3 := ((HP.out.keep HL1.out).putP (tp : Int)).keep G2
  have f5 := H3.mem.blk.free 5
  have c5 : w2.cell? ⟨c.g, 5, none⟩ = some (.int .i64 (erC s)) := H3.mem.blk.cell 5
  have HG2 : Hid ((w1.setCell ⟨c.g, 6, none⟩ (.int .i64 (tp : Int))).grownBy w2 none) := G2
  have HR : Hid (∀ e', 1 ≤ e' → e' ≤ 1000 → c8 c w vt vp { s with er := some (tp, e') } bud (w2.setCell ⟨c.g, 5, none⟩ (.int .i64 e'))) := fun e' a b =>
   ⟨i, vt, vp, H3.putC a b, (((GB.non HL1.out).trans (GB.set w1 vt vp c.g 6 _) (fun _ _ k => k)).trans (GB.non HG2.out) (fun _ _ k => k)).trans (GB.set w2 vt vp c.g 5 _) (fun _ _ k => k), fun _ _ k => k⟩
  clear f6 c6 G2 H3
  go_wp2
  ·rename_i hz
   refine ⟨rfl, _, results_none rfl _ _ _, rfl, ?_⟩
   rw [← HE.out.2.2, if_pos (by simpa using hz)]
   exact HR.out 110 (by decide) (by decide)
  ·rename_i hz
   refine ⟨rfl, _, results_none rfl _ _ _, rfl, ?_⟩
   rw [← HE.out.2.2, if_neg (by simpa using hz)]
   exact HR.out e HE.out.1 HE.out.2.1
 ·have hn := h.erC_ne he
  have HQ : Hid (c8 c w vt vp (s.fail e) bud w) := by
   rw [a1D he]
   exact ⟨i, vt, vp, h, GB.refl w _, fun _ _ k => k⟩
  generalize erC s = ec at *
  clear h he h1 h2
  go_enter Tryz.func14, Tryz.ntmps14
  go_wp2
  refine bodyPost_ret (results_none rfl _ _ _) rfl ?_
  exact ⟨rfl, HQ.out⟩
theorem Z8 (h : RS c w i vt vp s bud) (x : List UInt8) :
  Calls Tryz.prog 42 #[.pointer (some ⟨c.g, 0, none⟩), str x] w fun e w' => e = .returned (.tuple #[]) ∧ c8 c w vt vp (s.must x) bud w' := by
 have CI := a0U h x
 have HN : Hid (∀ W, w.grownBy W none → s.is x = true → Calls Tryz.prog 27 #[.pointer (some ⟨c.g, 0, none⟩)] W fun e w' => e = .returned (.tuple #[]) ∧ c8 c w vt vp (s.must x) bud w') := fun W G hb =>
  (q8 (h.keep G) (fun he => a4d he hb)).mono fun e w' ⟨he, R⟩ => ⟨he, by unfold Rt.must; rw [if_pos hb]; exact (c8.of (GB.non G) (fun _ _ k => k) R).less (Nat.le_succ bud)⟩
 have HF : Hid (∀ W, w.grownBy W none → s.is x = false → Calls Tryz.prog 14 #[.pointer (some ⟨c.g, 0, none⟩), .int .i64 111] W fun e w' => e = .returned (.tuple #[]) ∧ c8 c w vt vp (s.must x) bud w') := fun W G hb =>
  (M2 (h.keep G) _ (by decide) (by decide)).mono fun e w' ⟨he, R⟩ => ⟨he, by unfold Rt.must; rw [if_neg (by rw [hb]; simp)]; exact c8.of (GB.non G) (fun _ _ k => k) R⟩
 generalize s.is x = B at *
 clear h
 generalize c.g = g at *
 cases B with
 | true =>
  go_enter Tryz.func42, Tryz.ntmps42
  go_wp2_with fail
  refine CI.mono ?_
  rintro e w1 ⟨rfl, G⟩
  clear CI
  go_wp2_with fail
  refine (HN.out w1 G (by first | trivial | rfl)).mono ?_
  rintro e w2 ⟨rfl, R⟩
  clear HN HF G
  go_wp2
  exact bodyPost_ret (results_none rfl _ _ _) rfl ⟨rfl, R⟩
 | false =>
  go_enter Tryz.func42, Tryz.ntmps42
  go_wp2_with fail
  refine CI.mono ?_
  rintro e w1 ⟨rfl, G⟩
  clear CI
  go_wp2_with fail
  refine (HF.out w1 G (by first | trivial | rfl)).mono ?_
  rintro e w2 ⟨rfl, R⟩
  clear HN HF G
  go_wp2
  exact bodyPost_end (results_none rfl _ _ _) rfl ⟨rfl, R⟩
end

end Go.Proofs.YtlfmddjppejmaaaGreatDoor
