import Derived.Test.YtlfmddjppejmaaaGreatDoorqAb
import Derived.Test.YtlfmddjppejmaaaGreatDoorqLotQ32
import Derived.Test.YtlfmddjppejmaaaGreatDoorqAddrY
import Derived.Test.YtlfmddjppejmaaaGreatDoorqLotQ25
set_option maxHeartbeats 64000000
set_option maxRecDepth 100000
namespace Go.Proofs.YtlfmddjppejmaaaGreatDoor
open Go.RowKit

section
variable {c : PC} {w : World} {i nest bud : Nat} {vt vp : Value} {ts : List Tk} {ns : List (Nd × Nat)}
structure PW (c : PC) (w : World) (vt vp : Value) (W : World) (i' : Nat) (vt' vp' : Value) (ts' : List Tk) (nest bud' : Nat) (ns : List (Nd × Nat)) (R V tR tV : Nat) (y x : Array Value) : Prop where
 ps : PS c W i' vt' vp' ts' nest bud' ns
 gb : GB w W (d3 c.g vt vp)
 sh : ∀ x, x < w.heap.size → d3 c.g vt' vp' x → d3 c.g vt vp x
 fV : ¬ d3 c.g vt' vp' V
 fR : ¬ d3 c.g vt' vp' R
 var : VAt W V tV x
 res : VAt W R tR y
 lV : w.heap.size ≤ V
 lR : w.heap.size ≤ R
 ne : R ≠ V
theorem PW.keep {W W2 : World} {i1 bud1 R V : Nat} {vt1 vp1 : Value} {ts1 : List Tk} {tR tV : Nat} {y x : Array Value} (h : PW c w vt vp W i1 vt1 vp1 ts1 nest bud1 ns R V tR tV y x) (G : W.grownBy W2 none) : PW c w vt vp W2 i1 vt1 vp1 ts1 nest bud1 ns R V tR tV y x :=
 { h with ps := h.ps.keep G, gb := h.gb.trans (GB.non (S := d3 c.g vt vp) G) (fun _ _ h => h), var := h.var.kept G, res := h.res.kept G }
theorem PW.less {W : World} {i1 bud1 b R V : Nat} {vt1 vp1 : Value} {ts1 : List Tk} {tR tV : Nat} {y x : Array Value} (h : PW c w vt vp W i1 vt1 vp1 ts1 nest bud1 ns R V tR tV y x) (hb : b ≤ bud1) : PW c w vt vp W i1 vt1 vp1 ts1 nest b ns R V tR tV y x := { h with ps := h.ps.less hb }
theorem PW.step {W W2 : World} {i1 bud1 bud2 R V : Nat} {vt1 vp1 : Value} {ts1 ts2 : List Tk} {tR tV : Nat} {y x : Array Value} (h : PW c w vt vp W i1 vt1 vp1 ts1 nest bud1 ns R V tR tV y x) (r : Ret c W vt1 vp1 ts2 nest bud2 ns W2) : ∃ i2 vt2 vp2, PW c w vt vp W2 i2 vt2 vp2 ts2 nest bud2 ns R V tR tV y x := by
 obtain ⟨i2, vt2, vp2, p, g, f⟩ := r
 exact ⟨i2, vt2, vp2, p, h.gb.trans g h.sh, fun x hx k => h.sh x hx (f x (Nat.lt_of_lt_of_le hx h.gb.size) k), fun e => h.fV (f V h.var.lt e), fun e => h.fR (f R h.res.lt e), g.vat h.var h.fV, g.vat h.res h.fR, h.lV, h.lR, h.ne⟩
theorem PW.err {W W2 : World} {i1 bud1 R V : Nat} {vt1 vp1 : Value} {ts1 : List Tk} {tR tV : Nat} {y x : Array Value} (h : PW c w vt vp W i1 vt1 vp1 ts1 nest bud1 ns R V tR tV y x) (g : GB W W2 (d3 c.g vt1 vp1)) : GB w W2 (d3 c.g vt vp) := h.gb.trans g h.sh
theorem PW.away {i0 nest0 bud0 : Nat} {ts0 : List Tk} {ns0 : List (Nd × Nat)} {S : Nat → Prop} {W W2 : World} {i1 bud1 R V : Nat} {vt1 vp1 : Value} {ts1 : List Tk} {tR tV : Nat} {y x y2 x2 : Array Value} (hw : PS c w i0 vt vp ts0 nest0 bud0 ns0) (h : PW c w vt vp W i1 vt1 vp1 ts1 nest bud1 ns R V tR tV y x) (K : GB W W2 S) (hS : ∀ z, S z → z = V ∨ z = R) (A : VAt W2 V tV x2) (B : VAt W2 R tR y2) : PW c w vt vp W2 i1 vt1 vp1 ts1 nest bud1 ns R V tR tV y2 x2 :=
 { h with
  ps := h.ps.awayG K (fun z hz => by
   have hz2 : w.heap.size ≤ z ∧ ¬ d3 c.g vt1 vp1 z := by
    rcases hS z hz with rfl | rfl
    ·exact ⟨h.lV, h.fV⟩
    ·exact ⟨h.lR, h.fR⟩
   exact ⟨hz2.2, fun e => by have := (hw.toks.lt z e).2; omega, Nat.le_trans hw.grown.size hz2.1⟩)
  gb := h.gb.trans K (fun z hz hs => by have := h.lV; have := h.lR; rcases hS z hs with rfl | rfl <;> omega)
  var := A, res := B }
theorem PW.set {i0 nest0 bud0 : Nat} {ts0 : List Tk} {ns0 : List (Nd × Nat)} {W : World} {i1 bud1 R V : Nat} {vt1 vp1 : Value} {ts1 : List Tk} {tR tV : Nat} {y x : Array Value} (hw : PS c w i0 vt vp ts0 nest0 bud0 ns0) (h : PW c w vt vp W i1 vt1 vp1 ts1 nest bud1 ns R V tR tV y x) (k : Nat) (v : Value) (x2 : Array Value) (e : x.setIfInBounds k v = x2) : PW c w vt vp (W.setCell ⟨V, k, none⟩ v) i1 vt1 vp1 ts1 nest bud1 ns R V tR tV y x2 :=
 PW.away hw h (GB.of (S := fun z => z = V) (D3 W V k v) (fun z hz => by cases hz; rfl)) (fun z hz => .inl hz) (by have := h.var.set k v; rw [e] at this; exact this) (h.res.setOther v h.ne)
theorem PW.setR {i0 nest0 bud0 : Nat} {ts0 : List Tk} {ns0 : List (Nd × Nat)} {W : World} {i1 bud1 R V : Nat} {vt1 vp1 : Value} {ts1 : List Tk} {tR tV : Nat} {y x : Array Value} (hw : PS c w i0 vt vp ts0 nest0 bud0 ns0) (h : PW c w vt vp W i1 vt1 vp1 ts1 nest bud1 ns R V tR tV y x) (y2 : Array Value) : PW c w vt vp (W.setRow R y2) i1 vt1 vp1 ts1 nest bud1 ns R V tR tV y2 x :=
 PW.away hw h (GB.of (S := fun z => z = R) (j7 (World.grownBy.refl W (some R)) R _ (.inl rfl)) (fun z hz => by cases hz; rfl)) (fun z hz => .inr hz) (h.var.other _ (fun e => h.ne e.symm)) (h.res.setRow _)
theorem PW.ret {W : World} {i1 bud1 R V : Nat} {vt1 vp1 : Value} {ts1 : List Tk} {tR tV : Nat} {y x : Array Value} (h : PW c w vt vp W i1 vt1 vp1 ts1 nest bud1 ns R V tR tV y x) : Ret c w vt vp ts1 nest bud1 ns W := ⟨i1, vt1, vp1, h.ps, h.gb, h.sh⟩
theorem PW.setV {i0 nest0 bud0 : Nat} {ts0 : List Tk} {ns0 : List (Nd × Nat)} {W : World} {i1 bud1 R V : Nat} {vt1 vp1 : Value} {ts1 : List Tk} {tR tV : Nat} {y x : Array Value} (hw : PS c w i0 vt vp ts0 nest0 bud0 ns0) (h : PW c w vt vp W i1 vt1 vp1 ts1 nest bud1 ns R V tR tV y x) (x2 : Array Value) : PW c w vt vp (W.setRow V x2) i1 vt1 vp1 ts1 nest bud1 ns R V tR tV y x2 :=
 PW.away hw h (GB.of (S := fun z => z = V) (j7 (World.grownBy.refl W (some V)) V _ (.inl rfl)) (fun z hz => by cases hz; rfl)) (fun z hz => .inl hz) (h.var.setRow _) (h.res.other _ h.ne)
theorem a39 {P : Program} {ops : Array Oper} {o : Oper} {a : Act} {w : World} {K : Act → World → Prop} {Q : Exit → Act → World → Prop} {E : Prop}
  (hgd : o.guard = none) (ty : TypeId) (x y : Operand) (ho : o.op = .store ty x y) (g : Nat) (cells : Array Value) (hx : a.eval x = .pointer (some ⟨g, 0, none⟩)) (hy : a.eval y = .agg cells) (t : TypeId) (old : Array Value) (A : VAt w g t old)
  (hi : (P.info? ty).map (·.size) = some cells.size) (hold : old.size = cells.size) (h1 : cells.all (·.oneCell') = true) (hK : K (a.put o.dst undef) (w.setRow g cells)) :
  if Region.wanted o (yielded ops a.tmps) = true then Oper.wp P o a w K Q else E := by
 have hw : Region.wanted o (yielded ops a.tmps) = true := by simp [Region.wanted, hgd]
 rw [if_pos hw]
 exact wp_store_row ty x y ho g cells hx hy t old A hi hold h1 hK
theorem ag4 (ys : List UInt8) (h : ys.length = 4) : splice (List.replicate 16 (.int .u8 0 : Value)) 0 (ys.map bv) = (ys ++ List.replicate 12 0).map bv := by
 unfold splice
 rw [List.take_zero, List.nil_append, Nat.zero_add, List.length_map, h, List.drop_replicate, List.map_append, List.map_replicate]
 rfl
def a3c : Array Value := #[.int .u8 0, .int .u8 0, .int .u8 0, .int .u8 0, .int .u8 0, .int .u8 0, .int .u8 0, .int .u8 0, .int .u8 0, .int .u8 0, .int .u8 0, .int .u8 0, .int .u8 0, .int .u8 0, .int .u8 0, .int .u8 0]
def adV (p : Nat × List UInt8) : Value := .tuple #[.int .i64 (p.1 : Int), .agg (p.2.map bv).toArray]
theorem a5c {P : Program} {fn : Func} {p u : Tmp} {ty : TypeId} (h : fn.results = #[.tmp u, .cell p ty]) (tmps : Array Value) (w : World) (g : Nat) (cs : Array Value) (d : TypeDesc) (hp : tmps.getD p undef = .pointer (some ⟨g, 0, none⟩)) (A : VAt w g ty cs)
  (hu : P.underlying ty = some d) (hd : (match d with | .struct _ | .array _ _ => true | _ => false) = true) (hi : (P.info? ty).map (·.size) = some cs.size) : (results fn tmps).run P w = .ok (.tuple #[tmps.getD u undef, .agg cs]) w := by
 have hp' : tmps[p]?.getD undef = .pointer (some ⟨g, 0, none⟩) := by simpa using hp
 have h1 := run_loadVar_row (P := P) w g ty ty cs (0, 0) _ A hu hd hi
 simp [results, h, hp', asAddr, h1]
theorem a3m (h : PS c w i vt vp ts nest bud ns) :
  Calls Tryz.prog 122 #[.pointer (some ⟨c.g, 0, none⟩)] w (M6 c w vt vp nest (bud + 1) ns adV (L0 ts)) := by
 have HP : Hid (PS c w i vt vp ts nest bud ns) := h
 have hG := h.good.hd
 have K1 := World.grownBy_alloc w (.cells a3c 52) none
 have RA := VAt.alloc w 52 a3c
 obtain ⟨ans, hans⟩ : ∃ a, L0 ts = a := ⟨_, rfl⟩
 have HANS : Hid (L0 ts = ans) := hans
 rw [hans]
 clear h hans
 have HF0 := fun k p x n W => (o8 k p x n W).1
 have HF2 := fun k p x n W => (o8 k p x n W).2.2.1
 unfold a3c at *
 go_enter Tryz.func122, Tryz.ntmps122
 go_upto_region 2 with fail
 generalize w.alloc (.cells #[.int .u8 0, .int .u8 0, .int .u8 0, .int .u8 0, .int .u8 0, .int .u8 0, .int .u8 0, .int .u8 0, .int .u8 0, .int .u8 0, .int .u8 0, .int .u8 0, .int .u8 0, .int .u8 0, .int .u8 0, .int .u8 0] 52) = w1 at *
 obtain ⟨R, hR⟩ : ∃ R, w.heap.size = R := ⟨_, rfl⟩
 rw [hR] at RA ⊢
 have HR2 : Hid (w.heap.size ≤ R) := Nat.le_of_eq hR
 have HR1 : Hid (w.heap.size = R) := hR
 clear hR
 have H1 := HP.out.keep K1
 have CN := x9 H1
 unfold tkC at CN
 go_wp2_with fail
 refine CN.mono ?_
 rintro e w2 ⟨rfl, G2⟩
 clear CN
 have H2 := H1.keep G2
 have RA2 := RA.kept G2
 have K2 := d5 K1 G2
 clear H1 RA K1 G2
 obtain ⟨t, ht⟩ : ∃ t, hdT ts = t := ⟨_, rfl⟩
 have HT : Hid (hdT ts = t) := ht
 rw [ht] at hG ⊢
 clear ht
 obtain ⟨tk, tp, tx, tn⟩ := t
 simp only
 have htx : tx.length ≤ 65536 := hG.2.1
 by_cases h3 : tk = 3
 ·have k3 : ((tk : Int) == 3) = true := by rw [h3]; rfl
  have HA2 : Hid ((match x1 tx with | some a => .ok ((2, a ++ List.replicate 12 0), ts.tail) | none => x6 ts 112) = ans ∧ (hdT ts).kind ≠ 0) := by
   refine ⟨?_, by rw [HT.out]; show tk ≠ 0; omega⟩
   rw [← HANS.out, L0, HT.out, if_pos h3]
   rfl
  have VA := VAt.alloc w2 102 #[.int .u8 0, .int .u8 0, .int .u8 0, .int .u8 0]
  have K3 := World.grownBy_alloc w2 (.cells #[.int .u8 0, .int .u8 0, .int .u8 0, .int .u8 0] 102) none
  have HV : Hid (w.heap.size ≤ w2.heap.size ∧ R ≠ w2.heap.size) := ⟨K2.size, fun e => by have := RA2.lt; omega⟩
  have Q3 : PW c w vt vp (w2.alloc (.cells #[.int .u8 0, .int .u8 0, .int .u8 0, .int .u8 0] 102)) i vt vp ts nest bud ns R w2.heap.size 52 102 #[.int .u8 0, .int .u8 0, .int .u8 0, .int .u8 0, .int .u8 0, .int .u8 0, .int .u8 0, .int .u8 0, .int .u8 0, .int .u8 0, .int .u8 0, .int .u8 0, .int .u8 0, .int .u8 0, .int .u8 0, .int .u8 0] #[.int .u8 0, .int .u8 0, .int .u8 0, .int .u8 0] := ⟨H2.keep K3, GB.non (d5 K2 K3), fun _ _ h => h, HP.out.not_foot HV.out.1, HP.out.not_foot HR2.out, VA, RA2.kept K3, HV.out.1, HR2.out, HV.out.2⟩
  clear h3 HANS VA K3 H2 K2 RA2
  go_upto_region 6 with fail
  generalize w2.alloc (.cells #[.int .u8 0, .int .u8 0, .int .u8 0, .int .u8 0] 102) = w3 at *
  generalize w2.heap.size = V at *
  have CN := x9 Q3.ps
  unfold tkC at CN
  rw [HT.out] at CN
  go_wp2_with fail
  refine CN.mono ?_
  rintro e w4 ⟨rfl, G4⟩
  have Q4 := Q3.keep G4
  have C4 := a8r ⟨tx.toArray⟩ w4 (by rw [← j0, J3]; omega) Q4.ps.tabw
  rw [J3] at C4
  clear CN Q3 G4
  unfold X0 X1 at C4
  have hy4 : ((x1 tx).getD (List.replicate 4 0)).length = 4 := a8s tx
  obtain ⟨ys, hys⟩ : ∃ ys, (x1 tx).getD (List.replicate 4 0) = ys := ⟨_, rfl⟩
  rw [hys] at C4 hy4
  have HYS : Hid ((x1 tx).getD (List.replicate 4 0) = ys) := hys
  clear hys
  obtain ⟨er, her⟩ : ∃ er : Int, (if (x1 tx).isSome = true then (0 : Int) else 60) = er := ⟨_, rfl⟩
  have HER : Hid ((if (x1 tx).isSome = true then (0 : Int) else 60) = er) := her
  rw [her] at C4
  clear her
  go_wp2_with fail
  refine C4.mono ?_
  rintro e w5 ⟨rfl, G5⟩
  have Q5 := Q4.keep G5
  have VA5 := Q5.var
  have HSZ : Hid ((Tryz.prog.info? 102).map (·.size) = some (ys.map bv).toArray.size ∧ (#[.int .u8 0, .int .u8 0, .int .u8 0, .int .u8 0] : Array Value).size = (ys.map bv).toArray.size ∧ (ys.map bv).toArray.all (·.oneCell') = true) := by
   refine ⟨?_, ?_, I1 _⟩
   ·rw [A5, hy4]; exact T2
   ·rw [A5, hy4]; rfl
  have HQ6 := PW.setV HP.out Q5 (ys.map bv).toArray
  clear C4 Q4 G5 Q5
  go_upto_region 8 with (refine wpList_store_row rfl 102 (.tmp 5) (.tmp 18) rfl V (ys.map bv).toArray rfl rfl 102 _ VA5 HSZ.out.1 HSZ.out.2.1 HSZ.out.2.2 ?_)
  generalize w5.setRow V (ys.map bv).toArray = w6 at *
  clear VA5 HSZ
  have hsz5 : (Tryz.prog.info? 5).map (·.size) = some 1 := by kernel_rfl
  have HR6 : Hid (w6.heap[R]? = some (.cells (List.replicate 16 (.int .u8 0)).toArray 52 (0, 0))) := HQ6.res
  have HC6 : Hid (∀ j v, (ys.map bv)[j]? = some v → w6.cell? ((⟨V, 0, none⟩ : Addr).add j) = some v) := fun j v hj => by
   rw [Addr.add_mid, Nat.zero_add, HQ6.var.cell j]
   simpa using hj
  have HB6 : Hid (Below R w6 w6.drew) := (Below.refl R w6).grown (f8 w6 1 none) (Nat.le_of_lt HQ6.res.lt) (by simp)
  have hl4 : (ys.map bv).length = 4 := by rw [List.length_map]; exact hy4
  go_region_law (refine step_copy_splice rfl (.tmp 20) (.tmp 21) 105 105 rfl 5 Tryz.underlying105 hsz5 (some ⟨R, 0, none⟩) (some ⟨V, 0, none⟩) 16 16 4 4 (by first | rfl | simp [Act.eval]) (by first | rfl | simp [Act.eval]) R 0 (List.replicate 16 (.int .u8 0)) 52 (by exact HR6.out) (ys.map bv) (by rw [hl4]; rfl) (fun _ => ⟨rfl, _, rfl, by exact HC6.out⟩) (by rw [hl4]; simp) (Y6 ys) R w6 (by exact HB6.out) (Nat.le_refl _) ?_; intro w7 hg7 hb7)
  have H7 : PS c w7 i vt vp ts nest bud ns := HQ6.ps.awayG (S := fun x => R ≤ x) ⟨hb7.os, hb7.tape, hb7.output, hb7.size, fun k _ hk => hb7.block k (by omega)⟩ (fun x hx => ⟨HP.out.not_foot (Nat.le_trans HR2.out hx), fun e => by have := HP.out.toks_lt e; have := HR2.out; omega, Nat.le_trans HP.out.grown.size (Nat.le_trans HR2.out hx)⟩)
  have G7 : GB w w7 (d3 c.g vt vp) := HQ6.gb.trans (S' := fun x => R ≤ x) ⟨hb7.os, hb7.tape, hb7.output, hb7.size, fun k _ hk => hb7.block k (by omega)⟩ (fun x hx hR => by have := HR1.out; omega)
  have RA7 : VAt w7 R 52 ((ys ++ List.replicate 12 0).map bv).toArray := by
   unfold VAt
   rw [hg7.out, ag4 ys hy4]
  clear hg7 hb7 HQ6 HR6 HC6 HB6 hl4 hsz5
  cases hp : x1 tx with
  | none =>
   have he : (er != 0) = true := by rw [← HER.out, hp]; rfl
   have HA3 : Hid (ans = .error ((hdT ts).pos, 112)) := by
    show ans = _
    rw [← HA2.out.1, hp]
    show x6 ts _ = _
    rw [x6, if_neg HA2.out.2]
   have CG := a1G H7 112
   clear hp HER HYS HA2 RA7
   go_wp2_with fail
   refine CG.mono ?_
   rintro e w8 ⟨rfl, G8⟩
   go_wp2
   refine ⟨rfl, ?_⟩
   rw [HA3.out]
   exact ⟨rfl, G7.trans (GB.non (S := d3 c.g vt vp) G8) (fun _ _ h => h)⟩
  | some a =>
   have he : (er != 0) = false := by rw [← HER.out, hp]; rfl
   have hya : ys = a := by rw [← HYS.out, hp]; rfl
   have HA3 : Hid (ans = .ok ((2, ys ++ List.replicate 12 0), ts.tail)) := by
    show ans = _
    rw [← HA2.out.1, hp, hya]
   have CT := I5 H7 HA2.out.2
   obtain ⟨X, hX⟩ : ∃ X, ys ++ List.replicate 12 0 = X := ⟨_, rfl⟩
   have hXl : X.length = 16 := by rw [← hX, List.length_append, hy4]; rfl
   rw [hX] at RA7 HA3
   clear hp HER HYS HA2 hya hX hy4
   go_wp2_with fail
   refine CT.mono ?_
   rintro e w8 ⟨rfl, i8, vt8, vp8, H8, G8, F8⟩
   have RA8 := G8.vat RA7 (HP.out.not_foot HR2.out)
   have HQ : Hid (PS c w8 i8 vt8 vp8 ts.tail nest (bud + 1) ns ∧ GB w w8 (d3 c.g vt vp) ∧ (∀ x, x < w.heap.size → d3 c.g vt8 vp8 x → d3 c.g vt vp x) ∧ ¬ d3 c.g vt8 vp8 R) := ⟨H8, G7.trans G8 (fun _ _ h => h), fun x hx => F8 x (Nat.lt_of_lt_of_le hx G7.size), fun e => HP.out.not_foot HR2.out (F8 R RA7.lt e)⟩
   clear CT H8 G8 F8 H7 G7 RA7
   have HZ : Hid ((Tryz.prog.info? 52).map (·.size) = some (X.map bv).toArray.size) := by show _ = _; rw [A5, hXl]; exact E7
   go_upto_region 15 with fail
   have RD : VAt w8.drew R 52 (X.map bv).toArray := RA8
   refine wp_region_held_drew (S := fun W => VAt W R 52 (X.map bv).toArray) (by kernel_rfl) RD (fun hHeld => ?_)
   refine wpT (i := 0) (v := .int .i64 2) rfl (Or.inl ⟨by rfl, fun W hW => ?_⟩) hHeld ?_
   ·clear hW
    go_simp
   try simp only [Act.put, a0, a1, a3, a4, a5]
   refine wpT (i := 1) (v := .agg (X.map bv).toArray) rfl (E8 (by rfl) _ _ rfl R rfl 52 (X.map bv).toArray _ (fun W hW => hW) Tryz.underlying52 rfl HZ.out) hHeld ?_
   try simp only [Act.put, a0, a1, a2, a3, a4, a5]
   refine wpT (i := 2) (v := .int .i64 2) rfl (Or.inl ⟨by rfl, fun W hW => ?_⟩) hHeld ?_
   ·clear hW
    go_simp
   try simp only [Act.put, a0, a1, a2, a3, a4, a5]
   refine wpR (rs := [3]) (AllReadyH.cons rfl (fun K hK => ?_) AllReadyH.nil)
   refine a39 (by rfl) 52 (.tmp 3) (.tmp 39) (by rfl) R (X.map bv).toArray (by rfl) (by rfl) 52 _ hHeld HZ.out rfl (I1 _) ?_
   refine hK.out _ _ (RD.setRow _) (fun hHeld => ?_)
   refine wpAnyH_done (by kernel_rfl) ?_ _
   clear hK K hHeld
   go_wp2
   refine bodyPost_ret (a5c rfl _ _ R _ _ rfl (RD.setRow _) Tryz.underlying52 rfl HZ.out) rfl ?_
   rw [HA3.out]
   obtain ⟨H8, G8, F8, fR⟩ := HQ.out
   refine ⟨rfl, Ret.finG HP.out G8 F8 H8 (GB.of (S := fun x => x = R) (j7 (f8 w8 1 (some R)) R (X.map bv).toArray (.inl rfl)) (fun x hx => by cases hx; rfl)) ?_⟩
   rintro x rfl
   exact ⟨HR2.out, fR⟩
 ·have k3 : ((tk : Int) == 3) = false := by rw [beq_eq_false_iff_ne]; omega
  by_cases h4 : tk = 4
  ·have k4 : ((tk : Int) == 4) = true := by rw [h4]; rfl
   have HA2 : Hid ((match x3 tx with | some a => .ok ((3, a), ts.tail) | none => x6 ts 112) = ans ∧ (hdT ts).kind ≠ 0) := by
    refine ⟨?_, by rw [HT.out]; show tk ≠ 0; omega⟩
    rw [← HANS.out, L0, HT.out, if_neg h3, if_pos h4]
    rfl
   have CN := x9 H2
   unfold tkC at CN
   rw [HT.out] at CN
   clear h3 h4 HANS
   go_wp2_with fail
   refine CN.mono ?_
   rintro e w4 ⟨rfl, G4⟩
   have H4 := H2.keep G4
   have RA4 := RA2.kept G4
   have K4 := d5 K2 G4
   have C4 := a8u ⟨tx.toArray⟩ w4 (by rw [← j0, J3]; omega) H4.tabw
   rw [J3] at C4
   clear CN H2 G4 RA2 K2
   unfold X0 X1 at C4
   have hXl : ((x3 tx).getD (List.replicate 16 0)).length = 16 := a8v tx
   obtain ⟨X, hys⟩ : ∃ ys, (x3 tx).getD (List.replicate 16 0) = ys := ⟨_, rfl⟩
   rw [hys] at C4 hXl
   have HYS : Hid ((x3 tx).getD (List.replicate 16 0) = X) := hys
   clear hys
   obtain ⟨er, her⟩ : ∃ er : Int, (if (x3 tx).isSome = true then (0 : Int) else 60) = er := ⟨_, rfl⟩
   have HER : Hid ((if (x3 tx).isSome = true then (0 : Int) else 60) = er) := her
   rw [her] at C4
   clear her
   go_wp2_with fail
   refine C4.mono ?_
   rintro e w5 ⟨rfl, G5⟩
   have H5 := H4.keep G5
   have RA5 := RA4.kept G5
   have K5 := d5 K4 G5
   have HSZ : Hid ((Tryz.prog.info? 52).map (·.size) = some (X.map bv).toArray.size ∧ (#[.int .u8 0, .int .u8 0, .int .u8 0, .int .u8 0, .int .u8 0, .int .u8 0, .int .u8 0, .int .u8 0, .int .u8 0, .int .u8 0, .int .u8 0, .int .u8 0, .int .u8 0, .int .u8 0, .int .u8 0, .int .u8 0] : Array Value).size = (X.map bv).toArray.size ∧ (X.map bv).toArray.all (·.oneCell') = true) := by
    refine ⟨?_, ?_, I1 _⟩
    ·rw [A5, hXl]; exact E7
    ·rw [A5, hXl]; rfl
   have K6 := j7 (World.grownBy.refl w5 (some R)) R (X.map bv).toArray (.inl rfl)
   have H7 := H5.away K6 (HP.out.not_foot HR2.out) (fun e => by have := HP.out.toks_lt e; have := HR2.out; omega) (Nat.le_trans HP.out.grown.size HR2.out)
   have G7 : GB w (w5.setRow R (X.map bv).toArray) (d3 c.g vt vp) := (GB.non K5).trans (GB.of (S := fun x => x = R) K6 (fun x hx => by cases hx; rfl)) (fun x hx e => by have := HR2.out; omega)
   have RA7 := RA5.setRow (X.map bv).toArray
   clear C4 H4 G5 H5 RA4 K4 K5 K6
   go_upto_region 12 with (refine wpList_store_row rfl 52 (.tmp 3) (.tmp 30) rfl R (X.map bv).toArray rfl rfl 52 _ RA5 HSZ.out.1 HSZ.out.2.1 HSZ.out.2.2 ?_)
   generalize w5.setRow R (X.map bv).toArray = w7 at *
   clear RA5 HSZ
   cases hp : x3 tx with
   | none =>
    have he : (er != 0) = true := by rw [← HER.out, hp]; rfl
    have HA3 : Hid (ans = .error ((hdT ts).pos, 112)) := by
     show ans = _
     rw [← HA2.out.1, hp]
     show x6 ts _ = _
     rw [x6, if_neg HA2.out.2]
    have CG := a1G H7 112
    clear hp HER HYS HA2 RA7
    go_wp2_with fail
    refine CG.mono ?_
    rintro e w8 ⟨rfl, G8⟩
    go_wp2
    refine ⟨rfl, ?_⟩
    rw [HA3.out]
    exact ⟨rfl, G7.trans (GB.non (S := d3 c.g vt vp) G8) (fun _ _ h => h)⟩
   | some a =>
    have he : (er != 0) = false := by rw [← HER.out, hp]; rfl
    have hya : X = a := by rw [← HYS.out, hp]; rfl
    have HA3 : Hid (ans = .ok ((3, X), ts.tail)) := by
     show ans = _
     rw [← HA2.out.1, hp, hya]
    have CT := I5 H7 HA2.out.2
    clear hp HER HYS HA2 hya
    go_wp2_with fail
    refine CT.mono ?_
    rintro e w8 ⟨rfl, i8, vt8, vp8, H8, G8, F8⟩
    have RA8 := G8.vat RA7 (HP.out.not_foot HR2.out)
    have HQ : Hid (PS c w8 i8 vt8 vp8 ts.tail nest (bud + 1) ns ∧ GB w w8 (d3 c.g vt vp) ∧ (∀ x, x < w.heap.size → d3 c.g vt8 vp8 x → d3 c.g vt vp x) ∧ ¬ d3 c.g vt8 vp8 R) := ⟨H8, G7.trans G8 (fun _ _ h => h), fun x hx => F8 x (Nat.lt_of_lt_of_le hx G7.size), fun e => HP.out.not_foot HR2.out (F8 R RA7.lt e)⟩
    clear CT H8 G8 F8 H7 G7 RA7
    have HZ : Hid ((Tryz.prog.info? 52).map (·.size) = some (X.map bv).toArray.size) := by show _ = _; rw [A5, hXl]; exact E7
    go_upto_region 15 with fail
    have RD : VAt w8.drew R 52 (X.map bv).toArray := RA8
    refine wp_region_held_drew (S := fun W => VAt W R 52 (X.map bv).toArray) (by kernel_rfl) RD (fun hHeld => ?_)
    refine wpT (i := 0) (v := .int .i64 3) rfl (Or.inl ⟨by rfl, fun W hW => ?_⟩) hHeld ?_
    ·clear hW
     go_simp
    try simp only [Act.put, a0, a1, a3, a4, a5]
    refine wpT (i := 1) (v := .agg (X.map bv).toArray) rfl (E8 (by rfl) _ _ rfl R rfl 52 (X.map bv).toArray _ (fun W hW => hW) Tryz.underlying52 rfl HZ.out) hHeld ?_
    try simp only [Act.put, a0, a1, a2, a3, a4, a5]
    refine wpT (i := 2) (v := .int .i64 3) rfl (Or.inl ⟨by rfl, fun W hW => ?_⟩) hHeld ?_
    ·clear hW
     go_simp
    try simp only [Act.put, a0, a1, a2, a3, a4, a5]
    refine wpR (rs := [3]) (AllReadyH.cons rfl (fun K hK => ?_) AllReadyH.nil)
    refine a39 (by rfl) 52 (.tmp 3) (.tmp 39) (by rfl) R (X.map bv).toArray (by rfl) (by rfl) 52 _ hHeld HZ.out rfl (I1 _) ?_
    refine hK.out _ _ (RD.setRow _) (fun hHeld => ?_)
    refine wpAnyH_done (by kernel_rfl) ?_ _
    clear hK K hHeld
    go_wp2
    refine bodyPost_ret (a5c rfl _ _ R _ _ rfl (RD.setRow _) Tryz.underlying52 rfl HZ.out) rfl ?_
    rw [HA3.out]
    obtain ⟨H8, G8, F8, fR⟩ := HQ.out
    refine ⟨rfl, Ret.finG HP.out G8 F8 H8 (GB.of (S := fun x => x = R) (j7 (f8 w8 1 (some R)) R (X.map bv).toArray (.inl rfl)) (fun x hx => by cases hx; rfl)) ?_⟩
    rintro x rfl
    exact ⟨HR2.out, fR⟩
  ·have k4 : ((tk : Int) == 4) = false := by rw [beq_eq_false_iff_ne]; omega
   have HA3 : Hid (ans = .error (M4 ts)) := by
    show ans = _
    rw [← HANS.out, L0, HT.out, if_neg h3, if_neg h4]
    rfl
   have CG := a0Y H2
   clear h3 h4 HANS
   go_wp2_with fail
   refine CG.mono ?_
   rintro e w8 ⟨rfl, G8⟩
   go_wp2
   refine ⟨rfl, ?_⟩
   rw [HA3.out]
   exact ⟨rfl, GB.non (d5 K2 G8)⟩

end
end Go.Proofs.YtlfmddjppejmaaaGreatDoor
