import Derived.Test.YtklipelnjgpnjaaGreatDoorBAb
import Derived.Test.YtklipelnjgpnjaaGreatDoorLotB41
import Derived.Test.YtklipelnjgpnjaaGreatDoorLotB42
set_option maxHeartbeats 64000000
set_option maxRecDepth 100000
namespace Go.Proofs.YtklipelnjgpnjaaGreatDoor
open Go.RowKit

section
variable {c : PC} {w : World} {i nest bud : Nat} {vt vp : Value} {ts : List Tk} {ns : List (Nd × Nat)}
structure PW (c : PC) (w : World) (vt vp : Value) (W : World) (i' : Nat) (vt' vp' : Value) (ts' : List Tk) (nest bud' : Nat) (ns : List (Nd × Nat)) (R V tR tV : Nat) (y x : Array Value) : Prop where
 ps : PS c W i' vt' vp' ts' nest bud' ns
 gb : GB w W (d5 c.g vt vp)
 sh : ∀ x, x < w.heap.size → d5 c.g vt' vp' x → d5 c.g vt vp x
 fV : ¬ d5 c.g vt' vp' V
 fR : ¬ d5 c.g vt' vp' R
 var : VAt W V tV x
 res : VAt W R tR y
 lV : w.heap.size ≤ V
 lR : w.heap.size ≤ R
 ne : R ≠ V
theorem PW.keep {W W2 : World} {i1 bud1 R V : Nat} {vt1 vp1 : Value} {ts1 : List Tk} {tR tV : Nat} {y x : Array Value} (h : PW c w vt vp W i1 vt1 vp1 ts1 nest bud1 ns R V tR tV y x) (G : W.grownBy W2 none) : PW c w vt vp W2 i1 vt1 vp1 ts1 nest bud1 ns R V tR tV y x :=
 { h with ps := h.ps.keep G, gb := h.gb.trans (GB.non (S := d5 c.g vt vp) G) (fun _ _ h => h), var := h.var.kept G, res := h.res.kept G }
theorem PW.less {W : World} {i1 bud1 b R V : Nat} {vt1 vp1 : Value} {ts1 : List Tk} {tR tV : Nat} {y x : Array Value} (h : PW c w vt vp W i1 vt1 vp1 ts1 nest bud1 ns R V tR tV y x) (hb : b ≤ bud1) : PW c w vt vp W i1 vt1 vp1 ts1 nest b ns R V tR tV y x := { h with ps := h.ps.less hb }
theorem PW.step {W W2 : World} {i1 bud1 bud2 R V : Nat} {vt1 vp1 : Value} {ts1 ts2 : List Tk} {tR tV : Nat} {y x : Array Value} (h : PW c w vt vp W i1 vt1 vp1 ts1 nest bud1 ns R V tR tV y x) (r : Ret c W vt1 vp1 ts2 nest bud2 ns W2) : ∃ i2 vt2 vp2, PW c w vt vp W2 i2 vt2 vp2 ts2 nest bud2 ns R V tR tV y x := by
 obtain ⟨i2, vt2, vp2, p, g, f⟩ := r
 exact ⟨i2, vt2, vp2, p, h.gb.trans g h.sh, fun x hx k => h.sh x hx (f x (Nat.lt_of_lt_of_le hx h.gb.size) k), fun e => h.fV (f V h.var.lt e), fun e => h.fR (f R h.res.lt e), g.vat h.var h.fV, g.vat h.res h.fR, h.lV, h.lR, h.ne⟩
theorem PW.err {W W2 : World} {i1 bud1 R V : Nat} {vt1 vp1 : Value} {ts1 : List Tk} {tR tV : Nat} {y x : Array Value} (h : PW c w vt vp W i1 vt1 vp1 ts1 nest bud1 ns R V tR tV y x) (g : GB W W2 (d5 c.g vt1 vp1)) : GB w W2 (d5 c.g vt vp) := h.gb.trans g h.sh
theorem PW.away {i0 nest0 bud0 : Nat} {ts0 : List Tk} {ns0 : List (Nd × Nat)} {S : Nat → Prop} {W W2 : World} {i1 bud1 R V : Nat} {vt1 vp1 : Value} {ts1 : List Tk} {tR tV : Nat} {y x y2 x2 : Array Value} (hw : PS c w i0 vt vp ts0 nest0 bud0 ns0) (h : PW c w vt vp W i1 vt1 vp1 ts1 nest bud1 ns R V tR tV y x) (K : GB W W2 S) (hS : ∀ z, S z → z = V ∨ z = R) (A : VAt W2 V tV x2) (B : VAt W2 R tR y2) : PW c w vt vp W2 i1 vt1 vp1 ts1 nest bud1 ns R V tR tV y2 x2 :=
 { h with
  ps := h.ps.awayG K (fun z hz => by
   have hz2 : w.heap.size ≤ z ∧ ¬ d5 c.g vt1 vp1 z := by
    rcases hS z hz with rfl | rfl
    ·exact ⟨h.lV, h.fV⟩
    ·exact ⟨h.lR, h.fR⟩
   exact ⟨hz2.2, fun e => by have := (hw.toks.lt z e).2; omega, Nat.le_trans hw.grown.size hz2.1⟩)
  gb := h.gb.trans K (fun z hz hs => by have := h.lV; have := h.lR; rcases hS z hs with rfl | rfl <;> omega)
  var := A, res := B }
theorem PW.set {i0 nest0 bud0 : Nat} {ts0 : List Tk} {ns0 : List (Nd × Nat)} {W : World} {i1 bud1 R V : Nat} {vt1 vp1 : Value} {ts1 : List Tk} {tR tV : Nat} {y x : Array Value} (hw : PS c w i0 vt vp ts0 nest0 bud0 ns0) (h : PW c w vt vp W i1 vt1 vp1 ts1 nest bud1 ns R V tR tV y x) (k : Nat) (v : Value) (x2 : Array Value) (e : x.setIfInBounds k v = x2) : PW c w vt vp (W.setCell ⟨V, k, none⟩ v) i1 vt1 vp1 ts1 nest bud1 ns R V tR tV y x2 :=
 PW.away hw h (GB.of (S := fun z => z = V) (U4 W V k v) (fun z hz => by cases hz; rfl)) (fun z hz => .inl hz) (by have := h.var.set k v; rw [e] at this; exact this) (h.res.setOther v h.ne)
theorem PW.setR {i0 nest0 bud0 : Nat} {ts0 : List Tk} {ns0 : List (Nd × Nat)} {W : World} {i1 bud1 R V : Nat} {vt1 vp1 : Value} {ts1 : List Tk} {tR tV : Nat} {y x : Array Value} (hw : PS c w i0 vt vp ts0 nest0 bud0 ns0) (h : PW c w vt vp W i1 vt1 vp1 ts1 nest bud1 ns R V tR tV y x) (y2 : Array Value) : PW c w vt vp (W.setRow R y2) i1 vt1 vp1 ts1 nest bud1 ns R V tR tV y2 x :=
 PW.away hw h (GB.of (S := fun z => z = R) (D7 (World.grownBy.refl W (some R)) R _ (.inl rfl)) (fun z hz => by cases hz; rfl)) (fun z hz => .inr hz) (h.var.other _ (fun e => h.ne e.symm)) (h.res.setRow _)
theorem PW.ret {W : World} {i1 bud1 R V : Nat} {vt1 vp1 : Value} {ts1 : List Tk} {tR tV : Nat} {y x : Array Value} (h : PW c w vt vp W i1 vt1 vp1 ts1 nest bud1 ns R V tR tV y x) : Ret c w vt vp ts1 nest bud1 ns W := ⟨i1, vt1, vp1, h.ps, h.gb, h.sh⟩
theorem PW.setV {i0 nest0 bud0 : Nat} {ts0 : List Tk} {ns0 : List (Nd × Nat)} {W : World} {i1 bud1 R V : Nat} {vt1 vp1 : Value} {ts1 : List Tk} {tR tV : Nat} {y x : Array Value} (hw : PS c w i0 vt vp ts0 nest0 bud0 ns0) (h : PW c w vt vp W i1 vt1 vp1 ts1 nest bud1 ns R V tR tV y x) (x2 : Array Value) : PW c w vt vp (W.setRow V x2) i1 vt1 vp1 ts1 nest bud1 ns R V tR tV y x2 :=
 PW.away hw h (GB.of (S := fun z => z = V) (D7 (World.grownBy.refl W (some V)) V _ (.inl rfl)) (fun z hz => by cases hz; rfl)) (fun z hz => .inl hz) (h.var.setRow _) (h.res.other _ h.ne)
theorem a7h {P : Program} {ops : Array Oper} {o : Oper} {a : Act} {w : World} {K : Act → World → Prop} {Q : Exit → Act → World → Prop} {E : Prop}
  (hgd : o.guard = none) (ty : TypeId) (x y : Operand) (ho : o.op = .store ty x y) (g : Nat) (cells : Array Value) (hx : a.eval x = .pointer (some ⟨g, 0, none⟩)) (hy : a.eval y = .agg cells) (t : TypeId) (old : Array Value) (A : VAt w g t old)
  (hi : (P.info? ty).map (·.size) = some cells.size) (hold : old.size = cells.size) (h1 : cells.all (·.oneCell') = true) (hK : K (a.put o.dst undef) (w.setRow g cells)) :
  if Region.wanted o (yielded ops a.tmps) = true then Oper.wp P o a w K Q else E := by
 have hw : Region.wanted o (yielded ops a.tmps) = true := by simp [Region.wanted, hgd]
 rw [if_pos hw]
 exact wp_store_row ty x y ho g cells hx hy t old A hi hold h1 hK
theorem aX9 (ys : List UInt8) (h : ys.length = 4) : splice (List.replicate 16 (.int .u8 0 : Value)) 0 (ys.map bv) = (ys ++ List.replicate 12 0).map bv := by
 unfold splice
 rw [List.take_zero, List.nil_append, Nat.zero_add, List.length_map, h, List.drop_replicate, List.map_append, List.map_replicate]
 rfl
def a7x : Array Value := #[.int .u8 0, .int .u8 0, .int .u8 0, .int .u8 0, .int .u8 0, .int .u8 0, .int .u8 0, .int .u8 0, .int .u8 0, .int .u8 0, .int .u8 0, .int .u8 0, .int .u8 0, .int .u8 0, .int .u8 0, .int .u8 0]
def adV (p : Nat × List UInt8) : Value := .tuple #[.int .i64 (p.1 : Int), .agg (p.2.map bv).toArray]
theorem aa0 {P : Program} {fn : Func} {p u : Tmp} {ty : TypeId} (h : fn.results = #[.tmp u, .cell p ty]) (tmps : Array Value) (w : World) (g : Nat) (cs : Array Value) (d : TypeDesc) (hp : tmps.getD p undef = .pointer (some ⟨g, 0, none⟩)) (A : VAt w g ty cs)
  (hu : P.underlying ty = some d) (hd : (match d with | .struct _ | .array _ _ => true | _ => false) = true) (hi : (P.info? ty).map (·.size) = some cs.size) : (results fn tmps).run P w = .ok (.tuple #[tmps.getD u undef, .agg cs]) w := by
 have hp' : tmps[p]?.getD undef = .pointer (some ⟨g, 0, none⟩) := by simpa using hp
 have h1 := run_loadVar_row (P := P) w g ty ty cs (0, 0) _ A hu hd hi
 simp [results, h, hp', asAddr, h1]
theorem a7I (h : PS c w i vt vp ts nest bud ns) :
  Calls Tryz.prog 231 #[.pointer (some ⟨c.g, 0, none⟩)] w (a0f c w vt vp nest (bud + 1) ns adV (Z0 ts)) := by
 have HP : Hid (PS c w i vt vp ts nest bud ns) := h
 have hG := h.good.hd
 have K1 := World.grownBy_alloc w (.cells a7x 41) none
 have RA := VAt.alloc w 41 a7x
 obtain ⟨ans, hans⟩ : ∃ a, Z0 ts = a := ⟨_, rfl⟩
 have HANS : Hid (Z0 ts = ans) := hans
 rw [hans]
 clear h hans
 have HF0 := fun k p x n W => (T1 k p x n W).1
 have HF2 := fun k p x n W => (T1 k p x n W).2.2.1
 unfold a7x at *
 go_enter Tryz.func231, Tryz.ntmps231
 go_upto_region 2 with fail
 generalize w.alloc (.cells #[.int .u8 0, .int .u8 0, .int .u8 0, .int .u8 0, .int .u8 0, .int .u8 0, .int .u8 0, .int .u8 0, .int .u8 0, .int .u8 0, .int .u8 0, .int .u8 0, .int .u8 0, .int .u8 0, .int .u8 0, .int .u8 0] 41) = w1 at *
 obtain ⟨R, hR⟩ : ∃ R, w.heap.size = R := ⟨_, rfl⟩
 rw [hR] at RA ⊢
 have HR2 : Hid (w.heap.size ≤ R) := Nat.le_of_eq hR
 have HR1 : Hid (w.heap.size = R) := hR
 clear hR
 have H1 := HP.out.keep K1
 have CN := I6 H1
 unfold tkC at CN
 go_wp2_with fail
 refine CN.mono ?_
 rintro e w2 ⟨rfl, G2⟩
 clear CN
 have H2 := H1.keep G2
 have RA2 := RA.kept G2
 have K2 := d3 K1 G2
 clear H1 RA K1 G2
 obtain ⟨t, ht⟩ : ∃ t, hdT ts = t := ⟨_, rfl⟩
 have HT : Hid (hdT ts = t) := ht
 rw [ht] at hG ⊢
 clear ht
 obtain ⟨tk, tp, tx, tn⟩ := t
 simp only
 have htx : tx.length ≤ 65536 := hG.2.1
 by_cases h3 : tk = 3
 ·have k3 : ((tk : Int) == 3) = true := by rw [h3]; rfl
  have HA2 : Hid ((match M5 tx with | some a => .ok ((2, a ++ List.replicate 12 0), ts.tail) | none => S5 ts 112) = ans ∧ (hdT ts).kind ≠ 0) := by
   refine ⟨?_, by rw [HT.out]; show tk ≠ 0; omega⟩
   rw [← HANS.out, Z0, HT.out, if_pos h3]
   rfl
  have VA := VAt.alloc w2 114 #[.int .u8 0, .int .u8 0, .int .u8 0, .int .u8 0]
  have K3 := World.grownBy_alloc w2 (.cells #[.int .u8 0, .int .u8 0, .int .u8 0, .int .u8 0] 114) none
  have HV : Hid (w.heap.size ≤ w2.heap.size ∧ R ≠ w2.heap.size) := ⟨K2.size, fun e => by have := RA2.lt; omega⟩
  have Q3 : PW c w vt vp (w2.alloc (.cells #[.int .u8 0, .int .u8 0, .int .u8 0, .int .u8 0] 114)) i vt vp ts nest bud ns R w2.heap.size 41 114 #[.int .u8 0, .int .u8 0, .int .u8 0, .int .u8 0, .int .u8 0, .int .u8 0, .int .u8 0, .int .u8 0, .int .u8 0, .int .u8 0, .int .u8 0, .int .u8 0, .int .u8 0, .int .u8 0, .int .u8 0, .int .u8 0] #[.int .u8 0, .int .u8 0, .int .u8 0, .int .u8 0] := ⟨H2.keep K3, GB.non (d3 K2 K3), fun _ _ h => h, HP.out.not_foot HV.out.1, HP.out.not_foot HR2.out, VA, RA2.kept K3, HV.out.1, HR2.out, HV.out.2⟩
  clear h3 HANS VA K3 H2 K2 RA2
  go_upto_region 6 with fail
  generalize w2.alloc (.cells #[.int .u8 0, .int .u8 0, .int .u8 0, .int .u8 0] 114) = w3 at *
  generalize w2.heap.size = V at *
  have CN := I6 Q3.ps
  unfold tkC at CN
  rw [HT.out] at CN
  go_wp2_with fail
  refine CN.mono ?_
  rintro e w4 ⟨rfl, G4⟩
  have Q4 := Q3.keep G4
  have C4 := aL7 ⟨tx.toArray⟩ w4 (by rw [← q7, a2h]; omega) Q4.ps.tabw
  rw [a2h] at C4
  clear CN Q3 G4
  unfold a4y a4G at C4
  have hy4 : ((M5 tx).getD (List.replicate 4 0)).length = 4 := aL8 tx
  obtain ⟨ys, hys⟩ : ∃ ys, (M5 tx).getD (List.replicate 4 0) = ys := ⟨_, rfl⟩
  rw [hys] at C4 hy4
  have HYS : Hid ((M5 tx).getD (List.replicate 4 0) = ys) := hys
  clear hys
  obtain ⟨er, her⟩ : ∃ er : Int, (if (M5 tx).isSome = true then (0 : Int) else 60) = er := ⟨_, rfl⟩
  have HER : Hid ((if (M5 tx).isSome = true then (0 : Int) else 60) = er) := her
  rw [her] at C4
  clear her
  go_wp2_with fail
  refine C4.mono ?_
  rintro e w5 ⟨rfl, G5⟩
  have Q5 := Q4.keep G5
  have VA5 := Q5.var
  have HSZ : Hid ((Tryz.prog.info? 114).map (·.size) = some (ys.map bv).toArray.size ∧ (#[.int .u8 0, .int .u8 0, .int .u8 0, .int .u8 0] : Array Value).size = (ys.map bv).toArray.size ∧ (ys.map bv).toArray.all (·.oneCell') = true) := by
   refine ⟨?_, ?_, a0G _⟩
   ·rw [U2, hy4]; exact a4b
   ·rw [U2, hy4]; rfl
  have HQ6 := PW.setV HP.out Q5 (ys.map bv).toArray
  clear C4 Q4 G5 Q5
  go_upto_region 8 with (refine wpList_store_row rfl 114 (.tmp 5) (.tmp 18) rfl V (ys.map bv).toArray rfl rfl 114 _ VA5 HSZ.out.1 HSZ.out.2.1 HSZ.out.2.2 ?_)
  generalize w5.setRow V (ys.map bv).toArray = w6 at *
  clear VA5 HSZ
  have hsz5 : (Tryz.prog.info? 5).map (·.size) = some 1 := by kernel_rfl
  have HR6 : Hid (w6.heap[R]? = some (.cells (List.replicate 16 (.int .u8 0)).toArray 41 (0, 0))) := HQ6.res
  have HC6 : Hid (∀ j v, (ys.map bv)[j]? = some v → w6.cell? ((⟨V, 0, none⟩ : Addr).add j) = some v) := fun j v hj => by
   rw [Addr.add_mid, Nat.zero_add, HQ6.var.cell j]
   simpa using hj
  have HB6 : Hid (Below R w6 w6.drew) := (Below.refl R w6).grown (f9 w6 1 none) (Nat.le_of_lt HQ6.res.lt) (by simp)
  have hl4 : (ys.map bv).length = 4 := by rw [List.length_map]; exact hy4
  go_region_law (refine step_copy_splice rfl (.tmp 20) (.tmp 21) 115 115 rfl 5 Tryz.underlying115 hsz5 (some ⟨R, 0, none⟩) (some ⟨V, 0, none⟩) 16 16 4 4 (by first | rfl | simp [Act.eval]) (by first | rfl | simp [Act.eval]) R 0 (List.replicate 16 (.int .u8 0)) 41 (by exact HR6.out) (ys.map bv) (by rw [hl4]; rfl) (fun _ => ⟨rfl, _, rfl, by exact HC6.out⟩) (by rw [hl4]; simp) (a0H ys) R w6 (by exact HB6.out) (Nat.le_refl _) ?_; intro w7 hg7 hb7)
  have H7 : PS c w7 i vt vp ts nest bud ns := HQ6.ps.awayG (S := fun x => R ≤ x) ⟨hb7.os, hb7.tape, hb7.output, hb7.size, fun k _ hk => hb7.block k (by omega)⟩ (fun x hx => ⟨HP.out.not_foot (Nat.le_trans HR2.out hx), fun e => by have := HP.out.toks_lt e; have := HR2.out; omega, Nat.le_trans HP.out.grown.size (Nat.le_trans HR2.out hx)⟩)
  have G7 : GB w w7 (d5 c.g vt vp) := HQ6.gb.trans (S' := fun x => R ≤ x) ⟨hb7.os, hb7.tape, hb7.output, hb7.size, fun k _ hk => hb7.block k (by omega)⟩ (fun x hx hR => by have := HR1.out; omega)
  have RA7 : VAt w7 R 41 ((ys ++ List.replicate 12 0).map bv).toArray := by
   unfold VAt
   rw [hg7.out, aX9 ys hy4]
  clear hg7 hb7 HQ6 HR6 HC6 HB6 hl4 hsz5
  cases hp : M5 tx with
  | none =>
   have he : (er != 0) = true := by rw [← HER.out, hp]; rfl
   have HA3 : Hid (ans = .error ((hdT ts).pos, 112)) := by
    show ans = _
    rw [← HA2.out.1, hp]
    show S5 ts _ = _
    rw [S5, if_neg HA2.out.2]
   have CG := a4L H7 112
   clear hp HER HYS HA2 RA7
   go_wp2_with fail
   refine CG.mono ?_
   rintro e w8 ⟨rfl, G8⟩
   go_wp2
   refine ⟨rfl, ?_⟩
   rw [HA3.out]
   exact ⟨rfl, G7.trans (GB.non (S := d5 c.g vt vp) G8) (fun _ _ h => h)⟩
  | some a =>
   have he : (er != 0) = false := by rw [← HER.out, hp]; rfl
   have hya : ys = a := by rw [← HYS.out, hp]; rfl
   have HA3 : Hid (ans = .ok ((2, ys ++ List.replicate 12 0), ts.tail)) := by
    show ans = _
    rw [← HA2.out.1, hp, hya]
   have CT := T6 H7 HA2.out.2
   obtain ⟨X, hX⟩ : ∃ X, ys ++ List.replicate 12 0 = X := ⟨_, rfl⟩
   have hXl : X.length = 16 := by rw [← hX, List.length_append, hy4]; rfl
   rw [hX] at RA7 HA3
   clear hp HER HYS HA2 hya hX hy4
   go_wp2_with fail
   refine CT.mono ?_
   rintro e w8 ⟨rfl, i8, vt8, vp8, H8, G8, F8⟩
   have RA8 := G8.vat RA7 (HP.out.not_foot HR2.out)
   have HQ : Hid (PS c w8 i8 vt8 vp8 ts.tail nest (bud + 1) ns ∧ GB w w8 (d5 c.g vt vp) ∧ (∀ x, x < w.heap.size → d5 c.g vt8 vp8 x → d5 c.g vt vp x) ∧ ¬ d5 c.g vt8 vp8 R) := ⟨H8, G7.trans G8 (fun _ _ h => h), fun x hx => F8 x (Nat.lt_of_lt_of_le hx G7.size), fun e => HP.out.not_foot HR2.out (F8 R RA7.lt e)⟩
   clear CT H8 G8 F8 H7 G7 RA7
   have HZ : Hid ((Tryz.prog.info? 41).map (·.size) = some (X.map bv).toArray.size) := by show _ = _; rw [U2, hXl]; exact U7
   go_upto_region 15 with fail
   have RD : VAt w8.drew R 41 (X.map bv).toArray := RA8
   refine wp_region_held_drew (S := fun W => VAt W R 41 (X.map bv).toArray) (by kernel_rfl) RD (fun hHeld => ?_)
   refine wpT (i := 0) (v := .int .i64 2) rfl (Or.inl ⟨by rfl, fun W hW => ?_⟩) hHeld ?_
   ·clear hW
    go_simp
   try simp only [Act.put, a0, a1, a3, a4, a5]
   refine wpT (i := 1) (v := .agg (X.map bv).toArray) rfl (M8 (by rfl) _ _ rfl R rfl 41 (X.map bv).toArray _ (fun W hW => hW) Tryz.underlying41 rfl HZ.out) hHeld ?_
   try simp only [Act.put, a0, a1, a2, a3, a4, a5]
   refine wpT (i := 2) (v := .int .i64 2) rfl (Or.inl ⟨by rfl, fun W hW => ?_⟩) hHeld ?_
   ·clear hW
    go_simp
   try simp only [Act.put, a0, a1, a2, a3, a4, a5]
   refine wpR (rs := [3]) (AllReadyH.cons rfl (fun K hK => ?_) AllReadyH.nil)
   refine a7h (by rfl) 41 (.tmp 3) (.tmp 39) (by rfl) R (X.map bv).toArray (by rfl) (by rfl) 41 _ hHeld HZ.out rfl (a0G _) ?_
   refine hK.out _ _ (RD.setRow _) (fun hHeld => ?_)
   refine wpAnyH_done (by kernel_rfl) ?_ _
   clear hK K hHeld
   go_wp2
   refine bodyPost_ret (aa0 rfl _ _ R _ _ rfl (RD.setRow _) Tryz.underlying41 rfl HZ.out) rfl ?_
   rw [HA3.out]
   obtain ⟨H8, G8, F8, fR⟩ := HQ.out
   refine ⟨rfl, Ret.finG HP.out G8 F8 H8 (GB.of (S := fun x => x = R) (D7 (f9 w8 1 (some R)) R (X.map bv).toArray (.inl rfl)) (fun x hx => by cases hx; rfl)) ?_⟩
   rintro x rfl
   exact ⟨HR2.out, fR⟩
 ·have k3 : ((tk : Int) == 3) = false := by rw [beq_eq_false_iff_ne]; omega
  by_cases h4 : tk = 4
  ·have k4 : ((tk : Int) == 4) = true := by rw [h4]; rfl
   have HA2 : Hid ((match L1 tx with | some a => .ok ((3, a), ts.tail) | none => S5 ts 112) = ans ∧ (hdT ts).kind ≠ 0) := by
    refine ⟨?_, by rw [HT.out]; show tk ≠ 0; omega⟩
    rw [← HANS.out, Z0, HT.out, if_neg h3, if_pos h4]
    rfl
   have CN := I6 H2
   unfold tkC at CN
   rw [HT.out] at CN
   clear h3 h4 HANS
   go_wp2_with fail
   refine CN.mono ?_
   rintro e w4 ⟨rfl, G4⟩
   have H4 := H2.keep G4
   have RA4 := RA2.kept G4
   have K4 := d3 K2 G4
   have C4 := aM1 ⟨tx.toArray⟩ w4 (by rw [← q7, a2h]; omega) H4.tabw
   rw [a2h] at C4
   clear CN H2 G4 RA2 K2
   unfold a4y a4G at C4
   have hXl : ((L1 tx).getD (List.replicate 16 0)).length = 16 := aM2 tx
   obtain ⟨X, hys⟩ : ∃ ys, (L1 tx).getD (List.replicate 16 0) = ys := ⟨_, rfl⟩
   rw [hys] at C4 hXl
   have HYS : Hid ((L1 tx).getD (List.replicate 16 0) = X) := hys
   clear hys
   obtain ⟨er, her⟩ : ∃ er : Int, (if (L1 tx).isSome = true then (0 : Int) else 60) = er := ⟨_, rfl⟩
   have HER : Hid ((if (L1 tx).isSome = true then (0 : Int) else 60) = er) := her
   rw [her] at C4
   clear her
   go_wp2_with fail
   refine C4.mono ?_
   rintro e w5 ⟨rfl, G5⟩
   have H5 := H4.keep G5
   have RA5 := RA4.kept G5
   have K5 := d3 K4 G5
   have HSZ : Hid ((Tryz.prog.info? 41).map (·.size) = some (X.map bv).toArray.size ∧ (#[.int .u8 0, .int .u8 0, .int .u8 0, .int .u8 0, .int .u8 0, .int .u8 0, .int .u8 0, .int .u8 0, .int .u8 0, .int .u8 0, .int .u8 0, .int .u8 0, .int .u8 0, .int .u8 0, .int .u8 0, .int .u8 0] : Array Value).size = (X.map bv).toArray.size ∧ (X.map bv).toArray.all (·.oneCell') = true) := by
    refine ⟨?_, ?_, a0G _⟩
    ·rw [U2, hXl]; exact U7
    ·rw [U2, hXl]; rfl
   have K6 := D7 (World.grownBy.refl w5 (some R)) R (X.map bv).toArray (.inl rfl)
   have H7 := H5.away K6 (HP.out.not_foot HR2.out) (fun e => by have := HP.out.toks_lt e; have := HR2.out; omega) (Nat.le_trans HP.out.grown.size HR2.out)
   have G7 : GB w (w5.setRow R (X.map bv).toArray) (d5 c.g vt vp) := (GB.non K5).trans (GB.of (S := fun x => x = R) K6 (fun x hx => by cases hx; rfl)) (fun x hx e => by have := HR2.out; omega)
   have RA7 := RA5.setRow (X.map bv).toArray
   clear C4 H4 G5 H5 RA4 K4 K5 K6
   go_upto_region 12 with (refine wpList_store_row rfl 41 (.tmp 3) (.tmp 30) rfl R (X.map bv).toArray rfl rfl 41 _ RA5 HSZ.out.1 HSZ.out.2.1 HSZ.out.2.2 ?_)
   generalize w5.setRow R (X.map bv).toArray = w7 at *
   clear RA5 HSZ
   cases hp : L1 tx with
   | none =>
    have he : (er != 0) = true := by rw [← HER.out, hp]; rfl
    have HA3 : Hid (ans = .error ((hdT ts).pos, 112)) := by
     show ans = _
     rw [← HA2.out.1, hp]
     show S5 ts _ = _
     rw [S5, if_neg HA2.out.2]
    have CG := a4L H7 112
    clear hp HER HYS HA2 RA7
    go_wp2_with fail
    refine CG.mono ?_
    rintro e w8 ⟨rfl, G8⟩
    go_wp2
    refine ⟨rfl, ?_⟩
    rw [HA3.out]
    exact ⟨rfl, G7.trans (GB.non (S := d5 c.g vt vp) G8) (fun _ _ h => h)⟩
   | some a =>
    have he : (er != 0) = false := by rw [← HER.out, hp]; rfl
    have hya : X = a := by rw [← HYS.out, hp]; rfl
    have HA3 : Hid (ans = .ok ((3, X), ts.tail)) := by
     show ans = _
     rw [← HA2.out.1, hp, hya]
    have CT := T6 H7 HA2.out.2
    clear hp HER HYS HA2 hya
    go_wp2_with fail
    refine CT.mono ?_
    rintro e w8 ⟨rfl, i8, vt8, vp8, H8, G8, F8⟩
    have RA8 := G8.vat RA7 (HP.out.not_foot HR2.out)
    have HQ : Hid (PS c w8 i8 vt8 vp8 ts.tail nest (bud + 1) ns ∧ GB w w8 (d5 c.g vt vp) ∧ (∀ x, x < w.heap.size → d5 c.g vt8 vp8 x → d5 c.g vt vp x) ∧ ¬ d5 c.g vt8 vp8 R) := ⟨H8, G7.trans G8 (fun _ _ h => h), fun x hx => F8 x (Nat.lt_of_lt_of_le hx G7.size), fun e => HP.out.not_foot HR2.out (F8 R RA7.lt e)⟩
    clear CT H8 G8 F8 H7 G7 RA7
    have HZ : Hid ((Tryz.prog.info? 41).map (·.size) = some (X.map bv).toArray.size) := by show _ = _; rw [U2, hXl]; exact U7
    go_upto_region 15 with fail
    have RD : VAt w8.drew R 41 (X.map bv).toArray := RA8
    refine wp_region_held_drew (S := fun W => VAt W R 41 (X.map bv).toArray) (by kernel_rfl) RD (fun hHeld => ?_)
    refine wpT (i := 0) (v := .int .i64 3) rfl (Or.inl ⟨by rfl, fun W hW => ?_⟩) hHeld ?_
    ·clear hW
     go_simp
    try simp only [Act.put, a0, a1, a3, a4, a5]
    refine wpT (i := 1) (v := .agg (X.map bv).toArray) rfl (M8 (by rfl) _ _ rfl R rfl 41 (X.map bv).toArray _ (fun W hW => hW) Tryz.underlying41 rfl HZ.out) hHeld ?_
    try simp only [Act.put, a0, a1, a2, a3, a4, a5]
    refine wpT (i := 2) (v := .int .i64 3) rfl (Or.inl ⟨by rfl, fun W hW => ?_⟩) hHeld ?_
    ·clear hW
     go_simp
    try simp only [Act.put, a0, a1, a2, a3, a4, a5]
    refine wpR (rs := [3]) (AllReadyH.cons rfl (fun K hK => ?_) AllReadyH.nil)
    refine a7h (by rfl) 41 (.tmp 3) (.tmp 39) (by rfl) R (X.map bv).toArray (by rfl) (by rfl) 41 _ hHeld HZ.out rfl (a0G _) ?_
    refine hK.out _ _ (RD.setRow _) (fun hHeld => ?_)
    refine wpAnyH_done (by kernel_rfl) ?_ _
    clear hK K hHeld
    go_wp2
    refine bodyPost_ret (aa0 rfl _ _ R _ _ rfl (RD.setRow _) Tryz.underlying41 rfl HZ.out) rfl ?_
    rw [HA3.out]
    obtain ⟨H8, G8, F8, fR⟩ := HQ.out
    refine ⟨rfl, Ret.finG HP.out G8 F8 H8 (GB.of (S := fun x => x = R) (D7 (f9 w8 1 (some R)) R (X.map bv).toArray (.inl rfl)) (fun x hx => by cases hx; rfl)) ?_⟩
    rintro x rfl
    exact ⟨HR2.out, fR⟩
  ·have k4 : ((tk : Int) == 4) = false := by rw [beq_eq_false_iff_ne]; omega
   have HA3 : Hid (ans = .error (a0b ts)) := by
    show ans = _
    rw [← HANS.out, Z0, HT.out, if_neg h3, if_neg h4]
    rfl
   have CG := a3z H2
   clear h3 h4 HANS
   go_wp2_with fail
   refine CG.mono ?_
   rintro e w8 ⟨rfl, G8⟩
   go_wp2
   refine ⟨rfl, ?_⟩
   rw [HA3.out]
   exact ⟨rfl, GB.non (d3 K2 G8)⟩

end
theorem b1c {P : Program} {ops : Array Oper} {rest : List Oper} {o : Oper} {a : Act} {w : World} {Q : Exit → Act → World → Prop} (hg : o.guard = none) (t : TypeId) (parts : Array (Nat × Operand)) (ho : o.op = .build t parts) (qs : Array (Nat × Value)) (hq : parts.map (fun (i, x) => (i, a.eval x)) = qs) (X : Array Value)
  (hr : ∀ W : World, (Instr.build t qs).run P W = .ok (.agg X) W) (h : wpList P ops Q rest (a.put o.dst (.agg X)) w) : wpList P ops Q (o :: rest) a w :=
 wpList_plain hg fun _ hK => by
  have hr' := hr w
  rw [← hq] at hr'
  unfold Oper.wp execOp
  simp only [ho, Sem.run_bind, Sem.run_pure, Result.andThen_ok, hr']
  exact hK _ _ h
theorem a9j {a : List UInt8} (h : a.length = 16) : ∃ a0 a1 a2 a3 a4 a5 a6 a7 a8 a9 b0 b1 b2 b3 b4 b5, a = [a0, a1, a2, a3, a4, a5, a6, a7, a8, a9, b0, b1, b2, b3, b4, b5] := by
 match a, h with
 | [a0, a1, a2, a3, a4, a5, a6, a7, a8, a9, b0, b1, b2, b3, b4, b5], _ => exact ⟨_, _, _, _, _, _, _, _, _, _, _, _, _, _, _, _, rfl⟩
theorem an2 (side of : Nat) (a : List UInt8) (ha : a.length = 16) (W : World) : (Instr.build 43 #[(0, .int .i64 14), (5, .int .i64 (of : Int)), (6, .int .i64 (side : Int)), (7, .agg (a.map bv).toArray)]).run Tryz.prog W = .ok (.agg (a3R side of a).cells.toArray) W := by
 obtain ⟨a0, a1, a2, a3, a4, a5, a6, a7, a8, a9, b0, b1, b2, b3, b4, b5, rfl⟩ := a9j ha
 kernel_rfl
theorem an4 (side of m : Nat) (a : List UInt8) (ha : a.length = 16) (W : World) : (Instr.build 43 #[(0, .int .i64 15), (5, .int .i64 (of : Int)), (6, .int .i64 (side : Int)), (7, .agg (a.map bv).toArray), (8, .int .i64 (m : Int))]).run Tryz.prog W = .ok (.agg (a43 side of a m).cells.toArray) W := by
 obtain ⟨a0, a1, a2, a3, a4, a5, a6, a7, a8, a9, b0, b1, b2, b3, b4, b5, rfl⟩ := a9j ha
 kernel_rfl
theorem a7F {ts r : List Tk} {of : Nat} {a : List UInt8} (h : Z0 ts = .ok ((of, a), r)) : a.length = 16 := by
 unfold Z0 at h
 split at h
 ·split at h
  ·rename_i x hx
   have e := (Prod.mk.inj (Prod.mk.inj (Except.ok.inj h)).1).2
   rw [← e, List.length_append, a9M hx]
   rfl
  ·cases h
 ·split at h
  ·split at h
   ·rename_i x hx
    have e := (Prod.mk.inj (Prod.mk.inj (Except.ok.inj h)).1).2
    rw [← e]
    exact a9O hx
   ·cases h
  ·cases h
theorem a9y {ts r : List Tk} {m : Nat} (hG : a0g ts) (h : m8 ts = .ok (m, r)) : m ≤ 4294967295 := by
 unfold m8 at h
 split at h
 ·have e := (Prod.mk.inj (Except.ok.inj h)).1
  rw [← e]
  exact hG.hd.2.2.2.1
 ·cases h

section
variable {c : PC} {w : World} {i nest bud : Nat} {vt vp : Value} {ts : List Tk} {ns : List (Nd × Nat)}
structure PR (c : PC) (w : World) (vt vp : Value) (W : World) (i' : Nat) (vt' vp' : Value) (ts' : List Tk) (nest bud' : Nat) (ns : List (Nd × Nat)) (R tR : Nat) (y : Array Value) : Prop where
 ps : PS c W i' vt' vp' ts' nest bud' ns
 gb : GB w W (d5 c.g vt vp)
 sh : ∀ x, x < w.heap.size → d5 c.g vt' vp' x → d5 c.g vt vp x
 fR : ¬ d5 c.g vt' vp' R
 res : VAt W R tR y
 lR : w.heap.size ≤ R
theorem PR.keep {W W2 : World} {i1 bud1 R tR : Nat} {vt1 vp1 : Value} {ts1 : List Tk} {y : Array Value} (h : PR c w vt vp W i1 vt1 vp1 ts1 nest bud1 ns R tR y) (G : W.grownBy W2 none) : PR c w vt vp W2 i1 vt1 vp1 ts1 nest bud1 ns R tR y :=
 { h with ps := h.ps.keep G, gb := h.gb.trans (GB.non (S := d5 c.g vt vp) G) (fun _ _ h => h), res := h.res.kept G }
theorem PR.step {W W2 : World} {i1 bud1 bud2 R tR : Nat} {vt1 vp1 : Value} {ts1 ts2 : List Tk} {y : Array Value} {ns2 : List (Nd × Nat)} (h : PR c w vt vp W i1 vt1 vp1 ts1 nest bud1 ns R tR y) (r : Ret c W vt1 vp1 ts2 nest bud2 ns2 W2) : ∃ i2 vt2 vp2, PR c w vt vp W2 i2 vt2 vp2 ts2 nest bud2 ns2 R tR y := by
 obtain ⟨i2, vt2, vp2, p, g, f⟩ := r
 exact ⟨i2, vt2, vp2, p, h.gb.trans g h.sh, fun x hx k => h.sh x hx (f x (Nat.lt_of_lt_of_le hx h.gb.size) k), fun e => h.fR (f R h.res.lt e), g.vat h.res h.fR, h.lR⟩
theorem PR.err {W W2 : World} {i1 bud1 R tR : Nat} {vt1 vp1 : Value} {ts1 : List Tk} {y : Array Value} (h : PR c w vt vp W i1 vt1 vp1 ts1 nest bud1 ns R tR y) (g : GB W W2 (d5 c.g vt1 vp1)) : GB w W2 (d5 c.g vt vp) := h.gb.trans g h.sh
theorem PR.setR {i0 nest0 bud0 : Nat} {ts0 : List Tk} {ns0 : List (Nd × Nat)} {W : World} {i1 bud1 R tR : Nat} {vt1 vp1 : Value} {ts1 : List Tk} {y : Array Value} (hw : PS c w i0 vt vp ts0 nest0 bud0 ns0) (h : PR c w vt vp W i1 vt1 vp1 ts1 nest bud1 ns R tR y) (y2 : Array Value) : PR c w vt vp (W.setRow R y2) i1 vt1 vp1 ts1 nest bud1 ns R tR y2 :=
 { h with
  ps := h.ps.away (D7 (World.grownBy.refl W (some R)) R _ (.inl rfl)) h.fR (fun e => by have := (hw.toks.lt R e).2; have := h.lR; omega) (Nat.le_trans hw.grown.size h.lR)
  gb := h.gb.trans (GB.of (S := fun z => z = R) (D7 (World.grownBy.refl W (some R)) R _ (.inl rfl)) (fun z hz => by cases hz; rfl)) (fun z hz e => by have := h.lR; omega)
  res := h.res.setRow _ }
theorem PR.ret {W : World} {i1 bud1 R tR : Nat} {vt1 vp1 : Value} {ts1 : List Tk} {y : Array Value} (h : PR c w vt vp W i1 vt1 vp1 ts1 nest bud1 ns R tR y) : Ret c w vt vp ts1 nest bud1 ns W := ⟨i1, vt1, vp1, h.ps, h.gb, h.sh⟩
theorem PR.add {W : World} {i1 bud1 R tR : Nat} {vt1 vp1 : Value} {ts1 : List Tk} {y : Array Value} (h : PR c w vt vp W i1 vt1 vp1 ts1 nest bud1 ns R tR y) (tV : Nat) (x : Array Value) : PW c w vt vp (W.alloc (.cells x tV)) i1 vt1 vp1 ts1 nest bud1 ns R W.heap.size tR tV y x :=
 have K := World.grownBy_alloc W (.cells x tV) none
 ⟨h.ps.keep K, h.gb.trans (GB.non (S := d5 c.g vt vp) K) (fun _ _ h => h), h.sh, h.ps.not_foot (Nat.le_refl _), h.fR, VAt.alloc W tV x, h.res.kept K, h.gb.size, h.lR, fun e => by have := h.res.lt; omega⟩
theorem a3t (h : PS c w i vt vp ts nest bud ns) :
  Calls Tryz.prog 227 #[.pointer (some ⟨c.g, 0, none⟩)] w (a0f c w vt vp nest (bud + 1) ns (fun x : Nd => .agg x.cells.toArray) (J2 (s8 ts) (s9 ts))) := by
 have HP : Hid (PS c w i vt vp ts nest bud ns) := h
 obtain ⟨ans, hans⟩ : ∃ a, J2 (s8 ts) (s9 ts) = a := ⟨_, rfl⟩
 have HANS : Hid (J2 (s8 ts) (s9 ts) = ans) := hans
 rw [hans]
 have K1 := World.grownBy_alloc w (.cells nd0.cells.toArray 43) none
 have RA := VAt.alloc w 43 nd0.cells.toArray
 clear h hans
 go_enter Tryz.func227, Tryz.ntmps227
 go_upto_region 1 with fail
 rw [← a6H]
 have Q1 : PR c w vt vp (w.alloc (.cells nd0.cells.toArray 43)) i vt vp ts nest bud ns w.heap.size 43 nd0.cells.toArray := ⟨HP.out.keep K1, GB.non K1, fun _ _ h => h, HP.out.not_foot (Nat.le_refl _), RA, Nat.le_refl _⟩
 generalize w.alloc (.cells nd0.cells.toArray 43) = w1 at *
 have HLR : Hid (w.heap.size ≤ w.heap.size) := Nat.le_refl _
 obtain ⟨R, hR⟩ : ∃ R, w.heap.size = R := ⟨_, rfl⟩
 have HR2 : Hid (w.heap.size ≤ R) := Nat.le_of_eq hR
 rw [hR] at Q1 ⊢
 clear hR HLR K1 RA
 have CS := a79 Q1.ps
 generalize s8 ts = sd at *
 generalize s9 ts = r0 at *
 go_wp2_with fail
 refine CS.mono ?_
 rintro e w2 ⟨rfl, R2⟩
 obtain ⟨i2, vt2, vp2, Q2⟩ := Q1.step R2
 clear CS Q1 R2
 have C1 := a2O Q2.ps U0 (a10 (by decide))
 cases hb : isB r0 U0 with
 | true =>
  rw [hb] at C1
  have HA2 : Hid (d7 (Z0 r0.tail) (fun p => .ok (a3R sd p.1.1 p.1.2, p.2)) = ans) := by
   show _ = ans
   rw [← HANS.out, J2, if_pos hb]
  clear hb HANS
  go_wp2_with fail
  refine C1.mono ?_
  rintro e w3 ⟨rfl, R3⟩
  obtain ⟨i3, vt3, vp3, Q3⟩ := Q2.step R3
  clear C1 Q2 R3
  have C2 := a7I (Q3.ps.less (Nat.le_succ bud))
  have HLEN : Hid (∀ p r, Z0 r0.tail = .ok (p, r) → p.2.length = 16) := fun p r hp => a7F (of := p.1) (a := p.2) hp
  generalize Z0 r0.tail = ar at *
  go_wp2_with fail
  refine C2.mono ?_
  clear C2
  cases ar with
  | error er =>
   have HA3 : Hid (ans = .error er) := HA2.out.symm
   rintro e w4 ⟨rfl, G⟩
   go_wp2
   refine ⟨rfl, ?_⟩
   rw [HA3.out]
   exact ⟨rfl, Q3.err G⟩
  | ok v =>
   obtain ⟨⟨of, a⟩, r4⟩ := v
   have HA3 : Hid (ans = .ok (a3R sd of a, r4)) := HA2.out.symm
   have hal : a.length = 16 := HLEN.out _ _ rfl
   rintro e w4 ⟨rfl, R4⟩
   obtain ⟨i4, vt4, vp4, Q4⟩ := Q3.step R4
   clear Q3 R4 HLEN HA2
   unfold adV
   simp only
   have Q5 := Q4.add 41 (a.map bv).toArray
   have VZ := VAt.alloc w4 41 #[.int .u8 0, .int .u8 0, .int .u8 0, .int .u8 0, .int .u8 0, .int .u8 0, .int .u8 0, .int .u8 0, .int .u8 0, .int .u8 0, .int .u8 0, .int .u8 0, .int .u8 0, .int .u8 0, .int .u8 0, .int .u8 0]
   have HSZ : Hid ((Tryz.prog.info? 41).map (·.size) = some (a.map bv).toArray.size ∧ (#[.int .u8 0, .int .u8 0, .int .u8 0, .int .u8 0, .int .u8 0, .int .u8 0, .int .u8 0, .int .u8 0, .int .u8 0, .int .u8 0, .int .u8 0, .int .u8 0, .int .u8 0, .int .u8 0, .int .u8 0, .int .u8 0] : Array Value).size = (a.map bv).toArray.size ∧ (a.map bv).toArray.all (·.oneCell') = true) := by
    refine ⟨?_, ?_, a0G _⟩
    ·rw [U2, hal]; exact U7
    ·rw [U2, hal]; rfl
   go_upto_region 4 with (refine wpList_store_row rfl 41 (.tmp 5) (.tmp 21) rfl w4.heap.size (a.map bv).toArray rfl rfl 41 _ VZ HSZ.out.1 HSZ.out.2.1 HSZ.out.2.2 ?_)
   rw [World.setRow_alloc_new]
   generalize w4.alloc (.cells (a.map bv).toArray 41) = w5 at *
   generalize w4.heap.size = V at *
   clear VZ Q4
   have VA := Q5.var
   have RA := Q5.res
   have HB := an2 sd of a hal
   obtain ⟨X, hX⟩ : ∃ X, a3R sd of a = X := ⟨_, rfl⟩
   rw [hX] at HB HA3
   clear hX
   have HQ : Hid (PW c w vt vp (w5.setRow R X.cells.toArray) i4 vt4 vp4 r4 nest (bud + 1) ns R V 43 41 X.cells.toArray (a.map bv).toArray) := PW.setR HP.out Q5 X.cells.toArray
   clear Q5
   go_wp2_with (first
    | refine wpList_load_row rfl 41 (.tmp 5) rfl V rfl 41 (a.map bv).toArray (0, 0) _ VA Tryz.underlying41 rfl HSZ.out.1 ?_
    | refine b1c rfl 43 _ rfl #[(0, .int .i64 14), (5, .int .i64 (of : Int)), (6, .int .i64 (sd : Int)), (7, .agg (a.map bv).toArray)] (by kernel_rfl) X.cells.toArray HB ?_
    | refine wpList_store_row rfl 43 (.tmp 2) (.tmp 25) rfl R X.cells.toArray rfl rfl 43 _ RA (a0T _) rfl (a30 _) ?_)
   refine bodyPost_ret (a2d rfl _ _ R _ _ rfl (RA.setRow _) Tryz.underlying43 rfl (a0T _)) rfl ?_
   rw [HA3.out]
   exact ⟨rfl, HQ.out.ret⟩
 | false =>
  rw [hb] at C1
  have HA1 : Hid (¬ isB r0 U0 = true) := by show ¬ _; rw [hb]; simp
  clear hb
  go_wp2_with fail
  refine C1.mono ?_
  rintro e w3 ⟨rfl, hG⟩
  have G3 : w2.grownBy w3 none := hG
  have Q3 := Q2.keep G3
  clear C1 Q2 hG G3
  have C2 := a2O Q3.ps U9 (a10 (by decide))
  cases hb : isB r0 U9 with
  | true =>
   rw [hb] at C2
   have HA2 : Hid (d7 (Z0 r0.tail) (fun p => d7 (p9 [47] p.2) fun r => d7 (m8 r) fun q => .ok (a43 sd p.1.1 p.1.2 q.1, q.2)) = ans) := by
    show _ = ans
    rw [← HANS.out, J2, if_neg HA1.out, if_pos hb]
   clear hb HANS HA1
   go_wp2_with fail
   refine C2.mono ?_
   rintro e w4 ⟨rfl, R4⟩
   obtain ⟨i4, vt4, vp4, Q4⟩ := Q3.step R4
   clear C2 Q3 R4
   have C3 := a7I (Q4.ps.less (Nat.le_succ bud))
   have HLEN : Hid (∀ p r, Z0 r0.tail = .ok (p, r) → p.2.length = 16) := fun p r hp => a7F (of := p.1) (a := p.2) hp
   generalize Z0 r0.tail = ar at *
   go_wp2_with fail
   refine C3.mono ?_
   clear C3
   cases ar with
   | error er =>
    have HA3 : Hid (ans = .error er) := HA2.out.symm
    rintro e w5 ⟨rfl, G⟩
    go_wp2
    refine ⟨rfl, ?_⟩
    rw [HA3.out]
    exact ⟨rfl, Q4.err G⟩
   | ok v =>
    obtain ⟨⟨of, a⟩, r5⟩ := v
    have hal : a.length = 16 := HLEN.out _ _ rfl
    rw [D9] at HA2
    simp only at HA2
    rintro e w5 ⟨rfl, R5⟩
    obtain ⟨i5, vt5, vp5, Q5⟩ := Q4.step R5
    clear Q4 R5 HLEN
    unfold adV
    simp only
    have Q6 := Q5.add 41 (a.map bv).toArray
    have VZ := VAt.alloc w5 41 #[.int .u8 0, .int .u8 0, .int .u8 0, .int .u8 0, .int .u8 0, .int .u8 0, .int .u8 0, .int .u8 0, .int .u8 0, .int .u8 0, .int .u8 0, .int .u8 0, .int .u8 0, .int .u8 0, .int .u8 0, .int .u8 0]
    have HSZ : Hid ((Tryz.prog.info? 41).map (·.size) = some (a.map bv).toArray.size ∧ (#[.int .u8 0, .int .u8 0, .int .u8 0, .int .u8 0, .int .u8 0, .int .u8 0, .int .u8 0, .int .u8 0, .int .u8 0, .int .u8 0, .int .u8 0, .int .u8 0, .int .u8 0, .int .u8 0, .int .u8 0, .int .u8 0] : Array Value).size = (a.map bv).toArray.size ∧ (a.map bv).toArray.all (·.oneCell') = true) := by
     refine ⟨?_, ?_, a0G _⟩
     ·rw [U2, hal]; exact U7
     ·rw [U2, hal]; rfl
    go_upto_region 7 with (refine wpList_store_row rfl 41 (.tmp 7) (.tmp 37) rfl w5.heap.size (a.map bv).toArray rfl rfl 41 _ VZ HSZ.out.1 HSZ.out.2.1 HSZ.out.2.2 ?_)
    rw [World.setRow_alloc_new]
    generalize w5.alloc (.cells (a.map bv).toArray 41) = w6 at *
    generalize w5.heap.size = V at *
    clear VZ Q5
    have C4 := a2z (Q6.ps.less (Nat.le_succ bud)) [47] (F0 (by decide) (by kernel_rfl))
    generalize p9 [47] r5 = mr at *
    go_wp2_with fail
    refine C4.mono ?_
    clear C4
    cases mr with
    | error er =>
     have HA3 : Hid (ans = .error er) := HA2.out.symm
     rintro e w7 ⟨rfl, G⟩
     go_wp2
     refine ⟨rfl, ?_⟩
     rw [HA3.out]
     exact ⟨rfl, Q6.err G⟩
    | ok r7 =>
     rintro e w7 ⟨rfl, R7⟩
     obtain ⟨i7, vt7, vp7, Q7⟩ := Q6.step R7
     rw [D9] at HA2
     have HC5 : Hid (Calls Tryz.prog 223 #[.pointer (some ⟨c.g, 0, none⟩)] w7.drew (a0f c w7.drew vt7 vp7 nest (bud + 1) ns (fun n : Nat => .int .u32 (n : Int)) (m8 r7))) := a2M ((Q7.keep (f9 w7 1 none)).ps.less (Nat.le_succ bud))
     have HQ7 : Hid (PW c w vt vp w7.drew i7 vt7 vp7 r7 nest (bud + 1) ns R V 43 41 nd0.cells.toArray (a.map bv).toArray) := Q7.keep (f9 w7 1 none)
     have HNM : Hid (∀ m r, m8 r7 = .ok (m, r) → m ≤ 4294967295) := fun m r hr => a9y Q7.ps.good hr
     clear Q6 R7 Q7
     generalize m8 r7 = nr at *
     go_upto_region 8 with fail
     refine wp_region_held_drew (S := fun W => VAt W V 41 (a.map bv).toArray) (by kernel_rfl) HQ7.out.var (fun hHeld => ?_)
     refine wpT (i := 0) (v := .int .i64 (of : Int)) rfl (Or.inl ⟨by rfl, fun W hW => ?_⟩) hHeld ?_
     ·clear hW
      go_simp
     try simp only [Act.put, a0, a1, a3, a4, a5]
     refine wpT (i := 1) (v := .int .i64 (sd : Int)) rfl (Or.inl ⟨by rfl, fun W hW => ?_⟩) hHeld ?_
     ·clear hW
      go_simp
     try simp only [Act.put, a0, a1, a2, a3, a4, a5]
     refine wpT (i := 2) (v := .agg (a.map bv).toArray) rfl (M8 (by rfl) _ _ rfl V rfl 41 (a.map bv).toArray _ (fun W hW => hW) Tryz.underlying41 rfl HSZ.out.1) hHeld ?_
     try simp only [Act.put, a0, a1, a2, a3, a4, a5]
     refine wpT (i := 3) (v := .pointer (some ⟨c.g, 0, none⟩)) rfl (Or.inl ⟨by rfl, fun W hW => ?_⟩) hHeld ?_
     ·clear hW
      go_simp
     try simp only [Act.put, a0, a1, a2, a3, a4, a5]
     refine wpT (i := 4) (v := .pointer (some ⟨c.g, 0, none⟩)) rfl (Or.inl ⟨by rfl, fun W hW => ?_⟩) hHeld ?_
     ·clear hW
      go_simp
     try simp only [Act.put, a0, a1, a2, a3, a4, a5]
     refine wpT (i := 5) (v := .pointer (some ⟨c.g, 0, none⟩)) rfl (Or.inl ⟨by rfl, fun W hW => ?_⟩) hHeld ?_
     ·clear hW
      go_simp
     try simp only [Act.put, a0, a1, a2, a3, a4, a5]
     refine wpR (rs := [6]) (AllReadyH.cons rfl (fun K hK => ?_) AllReadyH.nil)
     go_simp
     refine HC5.out.mono ?_
     clear HC5
     cases nr with
     | error er =>
      have HA3 : Hid (ans = .error er) := HA2.out.symm
      rintro e w8 ⟨rfl, G⟩
      go_wp2
      refine ⟨rfl, ?_⟩
      rw [HA3.out]
      exact ⟨rfl, HQ7.out.err G⟩
     | ok v =>
      obtain ⟨m, r8⟩ := v
      have HA3 : Hid (ans = .ok (a43 sd of a m, r8)) := HA2.out.symm
      rintro e w8 ⟨rfl, R8⟩
      have hm : m ≤ 4294967295 := HNM.out _ _ rfl
      obtain ⟨i8, vt8, vp8, Q8⟩ := HQ7.out.step R8
      go_wp2_with fail
      refine hK.out _ _ Q8.var (fun hHeld => ?_)
      clear hK K
      try simp only [Act.put, a0, a1, a2, a3, a4, a5]
      have hw : IntKind.i64.wrap (m : Int) = (m : Int) := by rw [IntKind.wrap_i64]; omega
      refine wpT (i := 7) (v := .int .i64 (m : Int)) rfl (Or.inl ⟨by rfl, fun W hW => ?_⟩) hHeld ?_
      ·clear hW
       go_simp
      try simp only [Act.put, a0, a1, a2, a3, a4, a5]
      have HB := an4 sd of m a hal
      obtain ⟨X, hX⟩ : ∃ X, a43 sd of a m = X := ⟨_, rfl⟩
      rw [hX] at HB HA3
      clear hX
      refine wpT (i := 8) (v := .agg X.cells.toArray) rfl (Or.inl ⟨by rfl, fun W hW => ?_⟩) hHeld ?_
      ·clear hW
       simp [execOp, Act.eval, HB]
      try simp only [Act.put, a0, a1, a2, a3, a4, a5]
      refine wpR (rs := [9]) (AllReadyH.cons rfl (fun K hK => ?_) AllReadyH.nil)
      have RA := Q8.res
      have HQ := PW.setR HP.out Q8 X.cells.toArray
      refine a7h (by rfl) 43 (.tmp 2) (.tmp 50) (by rfl) R X.cells.toArray (by rfl) (by rfl) 43 _ RA (a0T _) rfl (a30 _) ?_
      refine hK.out _ _ HQ.var (fun hHeld => ?_)
      refine wpAnyH_done (by kernel_rfl) ?_ _
      clear hK K hHeld
      go_wp2
      refine bodyPost_ret (a2d rfl _ _ R _ _ rfl (RA.setRow _) Tryz.underlying43 rfl (a0T _)) rfl ?_
      rw [HA3.out]
      exact ⟨rfl, HQ.ret⟩
  | false =>
   rw [hb] at C2
   have HA2 : Hid (W7 0 sd r0 = ans) := by
    show _ = ans
    rw [← HANS.out, J2, if_neg HA1.out, if_neg (by rw [hb]; simp)]
   clear hb HANS HA1
   go_wp2_with fail
   refine C2.mono ?_
   rintro e w4 ⟨rfl, hG⟩
   have G4 : w3.grownBy w4 none := hG
   have Q4 := Q3.keep G4
   clear C2 Q3 hG G4
   have C3 := a6R Q4.ps 0 sd
   generalize W7 0 sd r0 = pr at *
   have ha : pr = ans := HA2.out
   have HA3 : Hid (pr = ans) := ha
   clear HA2 ha
   go_wp2_with fail
   refine C3.mono ?_
   clear C3
   cases pr with
   | error er =>
    rintro e w5 ⟨rfl, G⟩
    go_wp2
    refine ⟨rfl, ?_⟩
    rw [← HA3.out]
    exact ⟨rfl, Q4.err G⟩
   | ok v =>
    obtain ⟨X, r5⟩ := v
    rintro e w5 ⟨rfl, R5⟩
    obtain ⟨i5, vt5, vp5, Q5⟩ := Q4.step R5
    have RA := Q5.res
    have HQ : Hid (PR c w vt vp (w5.setRow R X.cells.toArray) i5 vt5 vp5 r5 nest (bud + 1) ns R 43 X.cells.toArray) := PR.setR HP.out Q5 X.cells.toArray
    clear Q4 R5 Q5
    go_wp2_with (refine wpList_store_row rfl 43 (.tmp 2) (.tmp 53) rfl R X.cells.toArray rfl rfl 43 _ RA (a0T _) rfl (a30 _) ?_)
    refine bodyPost_ret (a2d rfl _ _ R _ _ rfl (RA.setRow _) Tryz.underlying43 rfl (a0T _)) rfl ?_
    rw [← HA3.out]
    exact ⟨rfl, HQ.out.ret⟩

end
theorem a0N (x : List UInt8) (w : World) : Calls Tryz.prog 233 #[str x] w fun e w' => e = .returned (.int .i64 (E4 x : Int)) ∧ w = w' := by
 obtain ⟨n, hn⟩ : ∃ n, E4 x = n := ⟨_, rfl⟩
 have HN : Hid (E4 x = n) := hn
 rw [hn]
 clear hn
 by_cases h0 : x = [112, 112, 112]
 ·have e0 : (x == [112, 112, 112]) = true := by simpa using h0
  have HV : Hid (n = 1) := by show n = _; rw [← HN.out, h0]; rfl
  clear h0 HN
  go_enter Tryz.func233, Tryz.ntmps233
  go_wp2
  go_ret
  exact ⟨by rw [HV.out]; rfl, rfl⟩
 have e0 : (x == [112, 112, 112]) = false := by simpa using h0
 by_cases h1 : x = [105, 112]
 ·have e1 : (x == [105, 112]) = true := by simpa using h1
  have HV : Hid (n = 2) := by show n = _; rw [← HN.out, h1]; rfl
  clear h0 h1 HN
  go_enter Tryz.func233, Tryz.ntmps233
  go_wp2
  go_ret
  exact ⟨by rw [HV.out]; rfl, rfl⟩
 have e1 : (x == [105, 112]) = false := by simpa using h1
 by_cases h2 : x = [105, 112, 54]
 ·have e2 : (x == [105, 112, 54]) = true := by simpa using h2
  have HV : Hid (n = 3) := by show n = _; rw [← HN.out, h2]; rfl
  clear h0 h1 h2 HN
  go_enter Tryz.func233, Tryz.ntmps233
  go_wp2
  go_ret
  exact ⟨by rw [HV.out]; rfl, rfl⟩
 have e2 : (x == [105, 112, 54]) = false := by simpa using h2
 by_cases h3 : x = [116, 99, 112]
 ·have e3 : (x == [116, 99, 112]) = true := by simpa using h3
  have HV : Hid (n = 4) := by show n = _; rw [← HN.out, h3]; rfl
  clear h0 h1 h2 h3 HN
  go_enter Tryz.func233, Tryz.ntmps233
  go_wp2
  go_ret
  exact ⟨by rw [HV.out]; rfl, rfl⟩
 have e3 : (x == [116, 99, 112]) = false := by simpa using h3
 by_cases h4 : x = [117, 100, 112]
 ·have e4 : (x == [117, 100, 112]) = true := by simpa using h4
  have HV : Hid (n = 5) := by show n = _; rw [← HN.out, h4]; rfl
  clear h0 h1 h2 h3 h4 HN
  go_enter Tryz.func233, Tryz.ntmps233
  go_wp2
  go_ret
  exact ⟨by rw [HV.out]; rfl, rfl⟩
 have e4 : (x == [117, 100, 112]) = false := by simpa using h4
 by_cases h5 : x = [105, 99, 109, 112]
 ·have e5 : (x == [105, 99, 109, 112]) = true := by simpa using h5
  have HV : Hid (n = 6) := by show n = _; rw [← HN.out, h5]; rfl
  clear h0 h1 h2 h3 h4 h5 HN
  go_enter Tryz.func233, Tryz.ntmps233
  go_wp2
  go_ret
  exact ⟨by rw [HV.out]; rfl, rfl⟩
 have e5 : (x == [105, 99, 109, 112]) = false := by simpa using h5
 by_cases h6 : x = [105, 99, 109, 112, 54]
 ·have e6 : (x == [105, 99, 109, 112, 54]) = true := by simpa using h6
  have HV : Hid (n = 7) := by show n = _; rw [← HN.out, h6]; rfl
  clear h0 h1 h2 h3 h4 h5 h6 HN
  go_enter Tryz.func233, Tryz.ntmps233
  go_wp2
  go_ret
  exact ⟨by rw [HV.out]; rfl, rfl⟩
 have e6 : (x == [105, 99, 109, 112, 54]) = false := by simpa using h6
 by_cases h7 : x = [108, 99, 112]
 ·have e7 : (x == [108, 99, 112]) = true := by simpa using h7
  have HV : Hid (n = 8) := by show n = _; rw [← HN.out, h7]; rfl
  clear h0 h1 h2 h3 h4 h5 h6 h7 HN
  go_enter Tryz.func233, Tryz.ntmps233
  go_wp2
  go_ret
  exact ⟨by rw [HV.out]; rfl, rfl⟩
 have e7 : (x == [108, 99, 112]) = false := by simpa using h7
 by_cases h8 : x = [112, 97, 112]
 ·have e8 : (x == [112, 97, 112]) = true := by simpa using h8
  have HV : Hid (n = 9) := by show n = _; rw [← HN.out, h8]; rfl
  clear h0 h1 h2 h3 h4 h5 h6 h7 h8 HN
  go_enter Tryz.func233, Tryz.ntmps233
  go_wp2
  go_ret
  exact ⟨by rw [HV.out]; rfl, rfl⟩
 have e8 : (x == [112, 97, 112]) = false := by simpa using h8
 by_cases h9 : x = [99, 104, 97, 112]
 ·have e9 : (x == [99, 104, 97, 112]) = true := by simpa using h9
  have HV : Hid (n = 10) := by show n = _; rw [← HN.out, h9]; rfl
  clear h0 h1 h2 h3 h4 h5 h6 h7 h8 h9 HN
  go_enter Tryz.func233, Tryz.ntmps233
  go_wp2
  go_ret
  exact ⟨by rw [HV.out]; rfl, rfl⟩
 have e9 : (x == [99, 104, 97, 112]) = false := by simpa using h9
 by_cases h10 : x = [105, 112, 99, 112]
 ·have e10 : (x == [105, 112, 99, 112]) = true := by simpa using h10
  have HV : Hid (n = 11) := by show n = _; rw [← HN.out, h10]; rfl
  clear h0 h1 h2 h3 h4 h5 h6 h7 h8 h9 h10 HN
  go_enter Tryz.func233, Tryz.ntmps233
  go_wp2
  go_ret
  exact ⟨by rw [HV.out]; rfl, rfl⟩
 have e10 : (x == [105, 112, 99, 112]) = false := by simpa using h10
 by_cases h11 : x = [105, 112, 54, 99, 112]
 ·have e11 : (x == [105, 112, 54, 99, 112]) = true := by simpa using h11
  have HV : Hid (n = 12) := by show n = _; rw [← HN.out, h11]; rfl
  clear h0 h1 h2 h3 h4 h5 h6 h7 h8 h9 h10 h11 HN
  go_enter Tryz.func233, Tryz.ntmps233
  go_wp2
  go_ret
  exact ⟨by rw [HV.out]; rfl, rfl⟩
 have e11 : (x == [105, 112, 54, 99, 112]) = false := by simpa using h11
 by_cases h12 : x = [109, 112]
 ·have e12 : (x == [109, 112]) = true := by simpa using h12
  have HV : Hid (n = 13) := by show n = _; rw [← HN.out, h12]; rfl
  clear h0 h1 h2 h3 h4 h5 h6 h7 h8 h9 h10 h11 h12 HN
  go_enter Tryz.func233, Tryz.ntmps233
  go_wp2
  go_ret
  exact ⟨by rw [HV.out]; rfl, rfl⟩
 have e12 : (x == [109, 112]) = false := by simpa using h12
 have HV : Hid (n = 0) := by
  show n = 0
  rw [← HN.out]
  unfold E4
  rw [if_neg h0, if_neg h1, if_neg h2, if_neg h3, if_neg h4, if_neg h5, if_neg h6, if_neg h7, if_neg h8, if_neg h9, if_neg h10, if_neg h11, if_neg h12]
 clear h0 h1 h2 h3 h4 h5 h6 h7 h8 h9 h10 h11 h12 HN
 go_enter Tryz.func233, Tryz.ntmps233
 go_wp2
 go_ret
 exact ⟨by rw [HV.out]; rfl, rfl⟩
def a1h (rec : Nat → List Tk → Out) (nest : Nat) (ts : List Tk) : Except Er ((List (Nd × Nat) × Nat) × List Tk) := d7 (rec nest ts) fun p => d7 (a0u p.2) fun q => .ok ((p.1, q.1), q.2)
def a1a (c : PC) (rec : Nat → List Tk → Out) : Prop := ∀ (W : World) (i : Nat) (vt vp : Value) (ts : List Tk) (nest bud : Nat) (ns : List (Nd × Nat)), PS c W i vt vp ts nest bud ns → rec nest ts ≠ .error exP → Calls Tryz.prog 33 #[.pointer (some ⟨c.g, 0, none⟩)] W (o8 c W vt vp nest bud ns (rec nest ts))

section
variable {c : PC} {w : World} {i nest bud : Nat} {vt vp : Value} {ts : List Tk} {ns : List (Nd × Nat)}
structure PX (c : PC) (w : World) (vt vp : Value) (W : World) (i' : Nat) (vt' vp' : Value) (ts' : List Tk) (nest bud' : Nat) (ns : List (Nd × Nat)) (bp bz tz : Nat) (z : Array Value) : Prop where
 ps : PS c W i' vt' vp' ts' nest bud' ns
 gb : GB w W (fun x => d5 c.g vt vp x ∨ x = bz)
 sh : ∀ x, x < w.heap.size → d5 c.g vt' vp' x → d5 c.g vt vp x
 fp : ¬ d5 c.g vt' vp' bp
 fz : ¬ d5 c.g vt' vp' bz
 par : VAt W bp 102 #[.pointer (some ⟨c.g, 0, none⟩)]
 own : VAt W bz tz z
 ne : bp ≠ bz
theorem PX.keep {W W2 : World} {i1 bud1 bp bz tz : Nat} {vt1 vp1 : Value} {ts1 : List Tk} {z : Array Value} (h : PX c w vt vp W i1 vt1 vp1 ts1 nest bud1 ns bp bz tz z) (G : W.grownBy W2 none) : PX c w vt vp W2 i1 vt1 vp1 ts1 nest bud1 ns bp bz tz z :=
 { h with ps := h.ps.keep G, gb := h.gb.trans (GB.non (S := fun x => d5 c.g vt vp x ∨ x = bz) G) (fun _ _ h => h), par := h.par.kept G, own := h.own.kept G }
theorem PX.less {W : World} {i1 bud1 b bp bz tz : Nat} {vt1 vp1 : Value} {ts1 : List Tk} {z : Array Value} (h : PX c w vt vp W i1 vt1 vp1 ts1 nest bud1 ns bp bz tz z) (hb : b ≤ bud1) : PX c w vt vp W i1 vt1 vp1 ts1 nest b ns bp bz tz z := { h with ps := h.ps.less hb }
theorem PX.step {W W2 : World} {i1 bud1 bud2 bp bz tz : Nat} {vt1 vp1 : Value} {ts1 ts2 : List Tk} {z : Array Value} {ns2 : List (Nd × Nat)} (h : PX c w vt vp W i1 vt1 vp1 ts1 nest bud1 ns bp bz tz z) (r : Ret c W vt1 vp1 ts2 nest bud2 ns2 W2) : ∃ i2 vt2 vp2, PX c w vt vp W2 i2 vt2 vp2 ts2 nest bud2 ns2 bp bz tz z := by
 obtain ⟨i2, vt2, vp2, p, g, f⟩ := r
 exact ⟨i2, vt2, vp2, p, h.gb.trans g (fun x hx k => .inl (h.sh x hx k)), fun x hx k => h.sh x hx (f x (Nat.lt_of_lt_of_le hx h.gb.size) k), fun e => h.fp (f bp h.par.lt e), fun e => h.fz (f bz h.own.lt e), g.vat h.par h.fp, g.vat h.own h.fz, h.ne⟩
theorem PX.err {W W2 : World} {i1 bud1 bp bz tz : Nat} {vt1 vp1 : Value} {ts1 : List Tk} {z : Array Value} (h : PX c w vt vp W i1 vt1 vp1 ts1 nest bud1 ns bp bz tz z) (g : GB W W2 (d5 c.g vt1 vp1)) : GB w W2 (fun x => d5 c.g vt vp x ∨ x = bz) := h.gb.trans g (fun x hx k => .inl (h.sh x hx k))
theorem PX.set {W : World} {i1 bud1 bp bz tz : Nat} {vt1 vp1 : Value} {ts1 : List Tk} {z z2 : Array Value} (h : PX c w vt vp W i1 vt1 vp1 ts1 nest bud1 ns bp bz tz z) (v : Value) (e : z.setIfInBounds 0 v = z2) (hT : tz ≠ 99) (h0 : c.w0.heap.size ≤ bz) : PX c w vt vp (W.setCell ⟨bz, 0, none⟩ v) i1 vt1 vp1 ts1 nest bud1 ns bp bz tz z2 :=
 { h with
  ps := h.ps.away (U4 W bz 0 v) h.fz (a1m h.ps.toks h.own (fun e => hT e.symm)) h0
  gb := h.gb.trans (GB.of (S := fun x => x = bz) (U4 W bz 0 v) (fun x hx => by cases hx; rfl)) (fun x hx e => .inr e)
  par := h.par.setOther v h.ne
  own := by have := h.own.set 0 v; rw [e] at this; exact this }
theorem aD3 (rec : Nat → List Tk → Out) (HO : a1a c rec) (bp bz : Nat) (h : PS c w i vt vp ts nest bud ns) (fp : ¬ d5 c.g vt vp bp) (fz : ¬ d5 c.g vt vp bz) (hp : VAt w bp 102 #[.pointer (some ⟨c.g, 0, none⟩)]) (hz : VAt w bz 3 #[.int .i64 1]) (hne : bp ≠ bz) (h0 : c.w0.heap.size ≤ bz) (hex : rec nest ts ≠ .error exP) :
  Calls Tryz.prog 237 #[.pointer (some ⟨bp, 0, none⟩), .pointer (some ⟨bz, 0, none⟩)] w (a1b c w vt vp (fun x => x = bz) nest bud ns (fun _ => .tuple #[]) Prod.fst (fun (v : List (Nd × Nat) × Nat) W => VAt W bp 102 #[.pointer (some ⟨c.g, 0, none⟩)] ∧ VAt W bz 3 #[.int .i64 (v.2 : Int)]) (a1h rec nest ts)) := by
 have Q0 : PX c w vt vp w i vt vp ts nest bud ns bp bz 3 #[.int .i64 1] := ⟨h, GB.refl _ _, fun _ _ h => h, fp, fz, hp, hz, hne⟩
 have C0 := HO w i vt vp ts nest bud ns h hex
 have p0 : w.cell? ⟨bp, 0, none⟩ = some (.pointer (some ⟨c.g, 0, none⟩)) := hp.cell 0
 obtain ⟨ans, hans⟩ : ∃ a, a1h rec nest ts = a := ⟨_, rfl⟩
 have HA : Hid (a1h rec nest ts = ans) := hans
 rw [hans]
 unfold a1h at HA
 have HNE : Hid (bp ≠ bz ∧ c.w0.heap.size ≤ bz) := ⟨hne, h0⟩
 clear h hp hz fp fz hne h0 hex hans HO
 generalize rec nest ts = rr at *
 go_enter Tryz.func237, Tryz.ntmps237
 go_wp2_with fail
 refine C0.mono ?_
 clear C0
 cases rr with
 | error er =>
  have HA3 : Hid (ans = .error er) := HA.out.symm
  rintro e w1 ⟨rfl, G⟩
  go_wp2
  refine ⟨rfl, ?_⟩
  rw [HA3.out]
  exact ⟨rfl, Q0.err G⟩
 | ok v =>
  obtain ⟨ms, r1⟩ := v
  rintro e w1 ⟨rfl, R1⟩
  obtain ⟨i1, vt1, vp1, Q1⟩ := Q0.step R1
  clear Q0 R1 p0
  rw [D9] at HA
  simp only at HA
  have C1 := a2O Q1.ps [58] (F0 (by decide) (by kernel_rfl))
  have p1 : w1.cell? ⟨bp, 0, none⟩ = some (.pointer (some ⟨c.g, 0, none⟩)) := Q1.par.cell 0
  cases hb : isB r1 [58] with
  | true =>
   rw [hb] at C1
   have HA2 : Hid (d7 (m8 r1.tail) (fun p => d7 (p9 [93] p.2) fun r => .ok ((ms, p.1), r)) = ans) := by
    show _ = ans
    rw [← HA.out, a0u, if_pos hb]
    simp only [a1T, D9]
   clear hb HA
   go_wp2_with fail
   refine C1.mono ?_
   rintro e w2 ⟨rfl, R2⟩
   obtain ⟨i2, vt2, vp2, Q2⟩ := Q1.step R2
   clear C1 Q1 R2 p1
   have C2 := a2M (Q2.ps.less (Nat.le_succ bud))
   have p2 : w2.cell? ⟨bp, 0, none⟩ = some (.pointer (some ⟨c.g, 0, none⟩)) := Q2.par.cell 0
   have HNM : Hid (∀ m r, m8 r1.tail = .ok (m, r) → m ≤ 4294967295) := fun m r hr => a9y Q2.ps.good hr
   generalize m8 r1.tail = nr at *
   go_wp2_with fail
   refine C2.mono ?_
   clear C2
   cases nr with
   | error er =>
    have HA3 : Hid (ans = .error er) := HA2.out.symm
    rintro e w3 ⟨rfl, G⟩
    go_wp2
    refine ⟨rfl, ?_⟩
    rw [HA3.out]
    exact ⟨rfl, Q2.err G⟩
   | ok v =>
    obtain ⟨m, r3⟩ := v
    have hm := HNM.out m r3 rfl
    rintro e w3 ⟨rfl, R3⟩
    obtain ⟨i3, vt3, vp3, Q3⟩ := Q2.step R3
    rw [D9] at HA2
    simp only at HA2
    have hw : IntKind.i64.wrap (m : Int) = (m : Int) := by rw [IntKind.wrap_i64]; omega
    have z3 : w3.cell? ⟨bz, 0, none⟩ = some (.int .i64 1) := Q3.own.cell 0
    have z3f := Q3.own.free 0
    have Q4 := PX.set (z2 := #[.int .i64 (m : Int)]) Q3 (.int .i64 (m : Int)) rfl (by decide) HNE.out.2
    clear Q2 R3 p2 HNM Q3
    go_upto_region 3 with fail
    generalize w3.setCell ⟨bz, 0, none⟩ (.int .i64 (m : Int)) = w4 at *
    clear z3 z3f hw
    have C4 := a2z (Q4.ps.less (Nat.le_succ bud)) [93] (F0 (by decide) (by kernel_rfl))
    have p4 : w4.cell? ⟨bp, 0, none⟩ = some (.pointer (some ⟨c.g, 0, none⟩)) := Q4.par.cell 0
    generalize p9 [93] r3 = mr at *
    go_wp2_with fail
    refine C4.mono ?_
    clear C4
    cases mr with
    | error er =>
     have HA3 : Hid (ans = .error er) := HA2.out.symm
     rintro e w5 ⟨rfl, G⟩
     go_wp2
     refine ⟨rfl, ?_⟩
     rw [HA3.out]
     exact ⟨rfl, Q4.err G⟩
    | ok r5 =>
     rintro e w5 ⟨rfl, R5⟩
     obtain ⟨i5, vt5, vp5, Q5⟩ := Q4.step R5
     have HA3 : Hid (ans = .ok ((ms, m), r5)) := HA2.out.symm
     have HQ : Hid (PX c w vt vp w5 i5 vt5 vp5 r5 nest bud (ns ++ ms) bp bz 3 #[.int .i64 (m : Int)]) := Q5.less (Nat.le_succ bud)
     clear Q4 R5 Q5 p4
     go_wp2
     go_end0
     rw [HA3.out]
     exact ⟨rfl, ⟨HQ.out.par, HQ.out.own⟩, i5, vt5, vp5, HQ.out.ps, HQ.out.gb, HQ.out.sh⟩
  | false =>
   rw [hb] at C1
   have HA2 : Hid (d7 (p9 [93] r1) (fun r => .ok ((ms, 1), r)) = ans) := by
    show _ = ans
    rw [← HA.out, a0u, if_neg (by rw [hb]; simp)]
    simp only [a1T, D9]
   clear hb HA
   go_wp2_with fail
   refine C1.mono ?_
   rintro e w2 ⟨rfl, hG⟩
   have G2 : w1.grownBy w2 none := hG
   have Q2 := Q1.keep G2
   clear C1 Q1 hG G2 p1
   have C4 := a2z Q2.ps [93] (F0 (by decide) (by kernel_rfl))
   have p4 : w2.cell? ⟨bp, 0, none⟩ = some (.pointer (some ⟨c.g, 0, none⟩)) := Q2.par.cell 0
   generalize p9 [93] r1 = mr at *
   go_wp2_with fail
   refine C4.mono ?_
   clear C4
   cases mr with
   | error er =>
    have HA3 : Hid (ans = .error er) := HA2.out.symm
    rintro e w5 ⟨rfl, G⟩
    go_wp2
    refine ⟨rfl, ?_⟩
    rw [HA3.out]
    exact ⟨rfl, Q2.err G⟩
   | ok r5 =>
    rintro e w5 ⟨rfl, R5⟩
    obtain ⟨i5, vt5, vp5, Q5⟩ := Q2.step R5
    have HA3 : Hid (ans = .ok ((ms, 1), r5)) := HA2.out.symm
    have HQ : Hid (PX c w vt vp w5 i5 vt5 vp5 r5 nest bud (ns ++ ms) bp bz 3 #[.int .i64 1]) := Q5.less (Nat.le_succ bud)
    clear Q2 R5 Q5 p4
    go_wp2
    go_end0
    rw [HA3.out]
    exact ⟨rfl, ⟨HQ.out.par, HQ.out.own⟩, i5, vt5, vp5, HQ.out.ps, HQ.out.gb, HQ.out.sh⟩
def a3Y (of size : Nat) : Nd := { ndK 3 with of := of, size := size }
theorem aD4 (of size : Nat) : (a3Y of size).cells = [.int .i64 3, .int .i64 0, .int .u32 0, .int .u32 0, .int .i64 (size : Int), .int .i64 (of : Int), .int .i64 0, .int .u8 0, .int .u8 0, .int .u8 0, .int .u8 0, .int .u8 0, .int .u8 0, .int .u8 0, .int .u8 0, .int .u8 0, .int .u8 0, .int .u8 0, .int .u8 0, .int .u8 0, .int .u8 0, .int .u8 0, .int .u8 0, .int .i64 0] := by kernel_rfl

end
end Go.Proofs.YtklipelnjgpnjaaGreatDoor
