import Derived.Test.YtghbbephhoniaaaGreatDoorAb
import Derived.Test.YtghbbephhoniaaaGreatDoorLotP40
import Derived.Test.YtghbbephhoniaaaGreatDoorLotP43
namespace Go.Proofs.YtghbbephhoniaaaGreatDoor
open Go.RowKit
set_option maxRecDepth 100000

section
variable {c : PC} {w : World} {i nest bud : Nat} {vt vp : Value} {ts : List Tk} {ns : List (Nd × Nat)}
structure PW (c : PC) (w : World) (vt vp : Value) (W : World) (i' : Nat) (vt' vp' : Value) (ts' : List Tk) (nest bud' : Nat) (ns : List (Nd × Nat)) (R V tR tV : Nat) (y x : Array Value) : Prop where
 ps : PS c W i' vt' vp' ts' nest bud' ns
 gb : GB w W (foot c.g vt vp)
 sh : ∀ x, x < w.heap.size → foot c.g vt' vp' x → foot c.g vt vp x
 fV : ¬ foot c.g vt' vp' V
 fR : ¬ foot c.g vt' vp' R
 var : VAt W V tV x
 res : VAt W R tR y
 lV : w.heap.size ≤ V
 lR : w.heap.size ≤ R
 ne : R ≠ V
theorem PW.keep {W W2 : World} {i1 bud1 R V : Nat} {vt1 vp1 : Value} {ts1 : List Tk} {tR tV : Nat} {y x : Array Value} (h : PW c w vt vp W i1 vt1 vp1 ts1 nest bud1 ns R V tR tV y x) (G : W.grownBy W2 none) : PW c w vt vp W2 i1 vt1 vp1 ts1 nest bud1 ns R V tR tV y x :=
 { h with ps := h.ps.keep G, gb := h.gb.trans (GB.non (S := foot c.g vt vp) G) (fun _ _ h => h), var := h.var.kept G, res := h.res.kept G }
theorem PW.less {W : World} {i1 bud1 b R V : Nat} {vt1 vp1 : Value} {ts1 : List Tk} {tR tV : Nat} {y x : Array Value} (h : PW c w vt vp W i1 vt1 vp1 ts1 nest bud1 ns R V tR tV y x) (hb : b ≤ bud1) : PW c w vt vp W i1 vt1 vp1 ts1 nest b ns R V tR tV y x := { h with ps := h.ps.less hb }
theorem PW.step {W W2 : World} {i1 bud1 bud2 R V : Nat} {vt1 vp1 : Value} {ts1 ts2 : List Tk} {tR tV : Nat} {y x : Array Value} (h : PW c w vt vp W i1 vt1 vp1 ts1 nest bud1 ns R V tR tV y x) (r : Ret c W vt1 vp1 ts2 nest bud2 ns W2) : ∃ i2 vt2 vp2, PW c w vt vp W2 i2 vt2 vp2 ts2 nest bud2 ns R V tR tV y x := by
 obtain ⟨i2, vt2, vp2, p, g, f⟩ := r
 exact ⟨i2, vt2, vp2, p, h.gb.trans g h.sh, fun x hx k => h.sh x hx (f x (Nat.lt_of_lt_of_le hx h.gb.size) k), fun e => h.fV (f V h.var.lt e), fun e => h.fR (f R h.res.lt e), g.vat h.var h.fV, g.vat h.res h.fR, h.lV, h.lR, h.ne⟩
theorem PW.err {W W2 : World} {i1 bud1 R V : Nat} {vt1 vp1 : Value} {ts1 : List Tk} {tR tV : Nat} {y x : Array Value} (h : PW c w vt vp W i1 vt1 vp1 ts1 nest bud1 ns R V tR tV y x) (g : GB W W2 (foot c.g vt1 vp1)) : GB w W2 (foot c.g vt vp) := h.gb.trans g h.sh
theorem PW.away {i0 nest0 bud0 : Nat} {ts0 : List Tk} {ns0 : List (Nd × Nat)} {S : Nat → Prop} {W W2 : World} {i1 bud1 R V : Nat} {vt1 vp1 : Value} {ts1 : List Tk} {tR tV : Nat} {y x y2 x2 : Array Value} (hw : PS c w i0 vt vp ts0 nest0 bud0 ns0) (h : PW c w vt vp W i1 vt1 vp1 ts1 nest bud1 ns R V tR tV y x) (K : GB W W2 S) (hS : ∀ z, S z → z = V ∨ z = R) (A : VAt W2 V tV x2) (B : VAt W2 R tR y2) : PW c w vt vp W2 i1 vt1 vp1 ts1 nest bud1 ns R V tR tV y2 x2 :=
 { h with
  ps := h.ps.awayG K (fun z hz => by
   have hz2 : w.heap.size ≤ z ∧ ¬ foot c.g vt1 vp1 z := by
    rcases hS z hz with rfl | rfl
    ·exact ⟨h.lV, h.fV⟩
    ·exact ⟨h.lR, h.fR⟩
   exact ⟨hz2.2, fun e => by have := (hw.toks.lt z e).2; omega, Nat.le_trans hw.grown.size hz2.1⟩)
  gb := h.gb.trans K (fun z hz hs => by have := h.lV; have := h.lR; rcases hS z hs with rfl | rfl <;> omega)
  var := A, res := B }
theorem PW.set {i0 nest0 bud0 : Nat} {ts0 : List Tk} {ns0 : List (Nd × Nat)} {W : World} {i1 bud1 R V : Nat} {vt1 vp1 : Value} {ts1 : List Tk} {tR tV : Nat} {y x : Array Value} (hw : PS c w i0 vt vp ts0 nest0 bud0 ns0) (h : PW c w vt vp W i1 vt1 vp1 ts1 nest bud1 ns R V tR tV y x) (k : Nat) (v : Value) (x2 : Array Value) (e : x.setIfInBounds k v = x2) : PW c w vt vp (W.setCell ⟨V, k, none⟩ v) i1 vt1 vp1 ts1 nest bud1 ns R V tR tV y x2 :=
 PW.away hw h (GB.of (S := fun z => z = V) (grown_set W V k v) (fun z hz => by cases hz; rfl)) (fun z hz => .inl hz) (by have := h.var.set k v; rw [e] at this; exact this) (h.res.setOther v h.ne)
theorem PW.setR {i0 nest0 bud0 : Nat} {ts0 : List Tk} {ns0 : List (Nd × Nat)} {W : World} {i1 bud1 R V : Nat} {vt1 vp1 : Value} {ts1 : List Tk} {tR tV : Nat} {y x : Array Value} (hw : PS c w i0 vt vp ts0 nest0 bud0 ns0) (h : PW c w vt vp W i1 vt1 vp1 ts1 nest bud1 ns R V tR tV y x) (y2 : Array Value) : PW c w vt vp (W.setRow R y2) i1 vt1 vp1 ts1 nest bud1 ns R V tR tV y2 x :=
 PW.away hw h (GB.of (S := fun z => z = R) (vgrown_setRow (World.grownBy.refl W (some R)) R _ (.inl rfl)) (fun z hz => by cases hz; rfl)) (fun z hz => .inr hz) (h.var.other _ (fun e => h.ne e.symm)) (h.res.setRow _)
theorem PW.ret {W : World} {i1 bud1 R V : Nat} {vt1 vp1 : Value} {ts1 : List Tk} {tR tV : Nat} {y x : Array Value} (h : PW c w vt vp W i1 vt1 vp1 ts1 nest bud1 ns R V tR tV y x) : Ret c w vt vp ts1 nest bud1 ns W := ⟨i1, vt1, vp1, h.ps, h.gb, h.sh⟩
theorem PW.setV {i0 nest0 bud0 : Nat} {ts0 : List Tk} {ns0 : List (Nd × Nat)} {W : World} {i1 bud1 R V : Nat} {vt1 vp1 : Value} {ts1 : List Tk} {tR tV : Nat} {y x : Array Value} (hw : PS c w i0 vt vp ts0 nest0 bud0 ns0) (h : PW c w vt vp W i1 vt1 vp1 ts1 nest bud1 ns R V tR tV y x) (x2 : Array Value) : PW c w vt vp (W.setRow V x2) i1 vt1 vp1 ts1 nest bud1 ns R V tR tV y x2 :=
 PW.away hw h (GB.of (S := fun z => z = V) (vgrown_setRow (World.grownBy.refl W (some V)) V _ (.inl rfl)) (fun z hz => by cases hz; rfl)) (fun z hz => .inl hz) (h.var.setRow _) (h.res.other _ h.ne)
theorem step_store_row {P : Program} {ops : Array Oper} {o : Oper} {a : Act} {w : World} {K : Act → World → Prop} {Q : Exit → Act → World → Prop} {E : Prop}
  (hgd : o.guard = none) (ty : TypeId) (x y : Operand) (ho : o.op = .store ty x y) (g : Nat) (cells : Array Value) (hx : a.eval x = .pointer (some ⟨g, 0, none⟩)) (hy : a.eval y = .agg cells) (t : TypeId) (old : Array Value) (A : VAt w g t old)
  (hi : (P.info? ty).map (·.size) = some cells.size) (hold : old.size = cells.size) (h1 : cells.all (·.oneCell') = true) (hK : K (a.put o.dst undef) (w.setRow g cells)) :
  if Region.wanted o (yielded ops a.tmps) = true then Oper.wp P o a w K Q else E := by
 have hw : Region.wanted o (yielded ops a.tmps) = true := by simp [Region.wanted, hgd]
 rw [if_pos hw]
 exact wp_store_row ty x y ho g cells hx hy t old A hi hold h1 hK
theorem splice_four (ys : List UInt8) (h : ys.length = 4) : splice (List.replicate 16 (.int .u8 0 : Value)) 0 (ys.map bv) = (ys ++ List.replicate 12 0).map bv := by
 unfold splice
 rw [List.take_zero, List.nil_append, Nat.zero_add, List.length_map, h, List.drop_replicate, List.map_append, List.map_replicate]
 rfl
def zer16 : Array Value := #[.int .u8 0, .int .u8 0, .int .u8 0, .int .u8 0, .int .u8 0, .int .u8 0, .int .u8 0, .int .u8 0, .int .u8 0, .int .u8 0, .int .u8 0, .int .u8 0, .int .u8 0, .int .u8 0, .int .u8 0, .int .u8 0]
def adV (p : Nat × List UInt8) : Value := .tuple #[.int .i64 (p.1 : Int), .agg (p.2.map bv).toArray]
theorem ret_tmp_row {P : Program} {fn : Func} {p u : Tmp} {ty : TypeId} (h : fn.results = #[.tmp u, .cell p ty]) (tmps : Array Value) (w : World) (g : Nat) (cs : Array Value) (d : TypeDesc) (hp : tmps.getD p undef = .pointer (some ⟨g, 0, none⟩)) (A : VAt w g ty cs)
  (hu : P.underlying ty = some d) (hd : (match d with | .struct _ | .array _ _ => true | _ => false) = true) (hi : (P.info? ty).map (·.size) = some cs.size) : (results fn tmps).run P w = .ok (.tuple #[tmps.getD u undef, .agg cs]) w := by
 have hp' : tmps[p]?.getD undef = .pointer (some ⟨g, 0, none⟩) := by simpa using hp
 have h1 := run_loadVar_row (P := P) w g ty ty cs (0, 0) _ A hu hd hi
 simp [results, h, hp', asAddr, h1]
set_option maxHeartbeats 4000000 in
theorem address_any (h : PS c w i vt vp ts nest bud ns) :
  Calls Tryz.prog 120 #[.pointer (some ⟨c.g, 0, none⟩)] w (TellP c w vt vp nest (bud + 1) ns adV (addrV ts)) := by
 have HP : Hid (PS c w i vt vp ts nest bud ns) := h
 have hG := h.good.hd
 have K1 := World.grownBy_alloc w (.cells zer16 26) none
 have RA := VAt.alloc w 26 zer16
 obtain ⟨ans, hans⟩ : ∃ a, addrV ts = a := ⟨_, rfl⟩
 have HANS : Hid (addrV ts = ans) := hans
 rw [hans]
 clear h hans
 have HF0 := fun k p x n W => (fld_tok k p x n W).1
 have HF2 := fun k p x n W => (fld_tok k p x n W).2.2.1
 unfold zer16 at *
 go_enter Tryz.func120, Tryz.ntmps120
 go_upto_region 2 with fail
 generalize w.alloc (.cells #[.int .u8 0, .int .u8 0, .int .u8 0, .int .u8 0, .int .u8 0, .int .u8 0, .int .u8 0, .int .u8 0, .int .u8 0, .int .u8 0, .int .u8 0, .int .u8 0, .int .u8 0, .int .u8 0, .int .u8 0, .int .u8 0] 26) = w1 at *
 obtain ⟨R, hR⟩ : ∃ R, w.heap.size = R := ⟨_, rfl⟩
 rw [hR] at RA ⊢
 have HR2 : Hid (w.heap.size ≤ R) := Nat.le_of_eq hR
 have HR1 : Hid (w.heap.size = R) := hR
 clear hR
 have H1 := HP.out.keep K1
 have CN := rnext_any H1
 unfold tkC at CN
 go_wp2_with fail
 refine CN.mono ?_
 rintro e w2 ⟨rfl, G2⟩
 clear CN
 have H2 := H1.keep G2
 have RA2 := RA.kept G2
 have K2 := grown_trans K1 G2
 clear H1 RA K1 G2
 obtain ⟨t, ht⟩ : ∃ t, hdT ts = t := ⟨_, rfl⟩
 have HT : Hid (hdT ts = t) := ht
 rw [ht] at hG ⊢
 clear ht
 obtain ⟨tk, tp, tx, tn⟩ := t
 simp only
 have htx : tx.length ≤ 65536 := hG.2.1
 by_cases h3 : tk = 3
 ·have k3 : ((tk : Int) == 3) = true := by rw [h3]; rfl
  have HA2 : Hid ((match parse4V tx with | some a => .ok ((2, a ++ List.replicate 12 0), ts.tail) | none => failV ts 112) = ans ∧ (hdT ts).kind ≠ 0) := by
   refine ⟨?_, by rw [HT.out]; show tk ≠ 0; omega⟩
   rw [← HANS.out, addrV, HT.out, if_pos h3]
   rfl
  have VA := VAt.alloc w2 87 #[.int .u8 0, .int .u8 0, .int .u8 0, .int .u8 0]
  have K3 := World.grownBy_alloc w2 (.cells #[.int .u8 0, .int .u8 0, .int .u8 0, .int .u8 0] 87) none
  have HV : Hid (w.heap.size ≤ w2.heap.size ∧ R ≠ w2.heap.size) := ⟨K2.size, fun e => by have := RA2.lt; omega⟩
  have Q3 : PW c w vt vp (w2.alloc (.cells #[.int .u8 0, .int .u8 0, .int .u8 0, .int .u8 0] 87)) i vt vp ts nest bud ns R w2.heap.size 26 87 #[.int .u8 0, .int .u8 0, .int .u8 0, .int .u8 0, .int .u8 0, .int .u8 0, .int .u8 0, .int .u8 0, .int .u8 0, .int .u8 0, .int .u8 0, .int .u8 0, .int .u8 0, .int .u8 0, .int .u8 0, .int .u8 0] #[.int .u8 0, .int .u8 0, .int .u8 0, .int .u8 0] := ⟨H2.keep K3, GB.non (grown_trans K2 K3), fun _ _ h => h, HP.out.not_foot HV.out.1, HP.out.not_foot HR2.out, VA, RA2.kept K3, HV.out.1, HR2.out, HV.out.2⟩
  clear h3 HANS VA K3 H2 K2 RA2
  go_upto_region 6 with fail
  generalize w2.alloc (.cells #[.int .u8 0, .int .u8 0, .int .u8 0, .int .u8 0] 87) = w3 at *
  generalize w2.heap.size = V at *
  have CN := rnext_any Q3.ps
  unfold tkC at CN
  rw [HT.out] at CN
  go_wp2_with fail
  refine CN.mono ?_
  rintro e w4 ⟨rfl, G4⟩
  have Q4 := Q3.keep G4
  have C4 := parse4_any ⟨tx.toArray⟩ w4 (by rw [← sl_len, sl_str]; omega) Q4.ps.tabw
  rw [sl_str] at C4
  clear CN Q3 G4
  unfold arrV errV at C4
  have hy4 : ((parse4V tx).getD (List.replicate 4 0)).length = 4 := parse4_len tx
  obtain ⟨ys, hys⟩ : ∃ ys, (parse4V tx).getD (List.replicate 4 0) = ys := ⟨_, rfl⟩
  rw [hys] at C4 hy4
  have HYS : Hid ((parse4V tx).getD (List.replicate 4 0) = ys) := hys
  clear hys
  obtain ⟨er, her⟩ : ∃ er : Int, (if (parse4V tx).isSome = true then (0 : Int) else 60) = er := ⟨_, rfl⟩
  have HER : Hid ((if (parse4V tx).isSome = true then (0 : Int) else 60) = er) := her
  rw [her] at C4
  clear her
  go_wp2_with fail
  refine C4.mono ?_
  rintro e w5 ⟨rfl, G5⟩
  have Q5 := Q4.keep G5
  have VA5 := Q5.var
  have HSZ : Hid ((Tryz.prog.info? 87).map (·.size) = some (ys.map bv).toArray.size ∧ (#[.int .u8 0, .int .u8 0, .int .u8 0, .int .u8 0] : Array Value).size = (ys.map bv).toArray.size ∧ (ys.map bv).toArray.all (·.oneCell') = true) := by
   refine ⟨?_, ?_, bv_all _⟩
   ·rw [bv_size, hy4]; exact size87
   ·rw [bv_size, hy4]; rfl
  have HQ6 := PW.setV HP.out Q5 (ys.map bv).toArray
  clear C4 Q4 G5 Q5
  go_upto_region 8 with (refine wpList_store_row rfl 87 (.tmp 5) (.tmp 18) rfl V (ys.map bv).toArray rfl rfl 87 _ VA5 HSZ.out.1 HSZ.out.2.1 HSZ.out.2.2 ?_)
  generalize w5.setRow V (ys.map bv).toArray = w6 at *
  clear VA5 HSZ
  have hsz5 : (Tryz.prog.info? 5).map (·.size) = some 1 := by kernel_rfl
  have HR6 : Hid (w6.heap[R]? = some (.cells (List.replicate 16 (.int .u8 0)).toArray 26 (0, 0))) := HQ6.res
  have HC6 : Hid (∀ j v, (ys.map bv)[j]? = some v → w6.cell? ((⟨V, 0, none⟩ : Addr).add j) = some v) := fun j v hj => by
   rw [Addr.add_mid, Nat.zero_add, HQ6.var.cell j]
   simpa using hj
  have HB6 : Hid (Below R w6 w6.drew) := (Below.refl R w6).grown (grown_drewN w6 1 none) (Nat.le_of_lt HQ6.res.lt) (by simp)
  have hl4 : (ys.map bv).length = 4 := by rw [List.length_map]; exact hy4
  go_region_law (refine step_copy_splice rfl (.tmp 20) (.tmp 21) 88 88 rfl 5 Tryz.underlying88 hsz5 (some ⟨R, 0, none⟩) (some ⟨V, 0, none⟩) 16 16 4 4 (by first | rfl | simp [Act.eval]) (by first | rfl | simp [Act.eval]) R 0 (List.replicate 16 (.int .u8 0)) 26 (by exact HR6.out) (ys.map bv) (by rw [hl4]; rfl) (fun _ => ⟨rfl, _, rfl, by exact HC6.out⟩) (by rw [hl4]; simp) (bv_one ys) R w6 (by exact HB6.out) (Nat.le_refl _) ?_; intro w7 hg7 hb7)
  have H7 : PS c w7 i vt vp ts nest bud ns := HQ6.ps.awayG (S := fun x => R ≤ x) ⟨hb7.os, hb7.tape, hb7.output, hb7.size, fun k _ hk => hb7.block k (by omega)⟩ (fun x hx => ⟨HP.out.not_foot (Nat.le_trans HR2.out hx), fun e => by have := HP.out.toks_lt e; have := HR2.out; omega, Nat.le_trans HP.out.grown.size (Nat.le_trans HR2.out hx)⟩)
  have G7 : GB w w7 (foot c.g vt vp) := HQ6.gb.trans (S' := fun x => R ≤ x) ⟨hb7.os, hb7.tape, hb7.output, hb7.size, fun k _ hk => hb7.block k (by omega)⟩ (fun x hx hR => by have := HR1.out; omega)
  have RA7 : VAt w7 R 26 ((ys ++ List.replicate 12 0).map bv).toArray := by
   unfold VAt
   rw [hg7.out, splice_four ys hy4]
  clear hg7 hb7 HQ6 HR6 HC6 HB6 hl4 hsz5
  cases hp : parse4V tx with
  | none =>
   have he : (er != 0) = true := by rw [← HER.out, hp]; rfl
   have HA3 : Hid (ans = .error ((hdT ts).pos, 112)) := by
    show ans = _
    rw [← HA2.out.1, hp]
    show failV ts _ = _
    rw [failV, if_neg HA2.out.2]
   have CG := giveUp_any H7 112
   clear hp HER HYS HA2 RA7
   go_wp2_with fail
   refine CG.mono ?_
   rintro e w8 ⟨rfl, G8⟩
   go_wp2
   refine ⟨rfl, ?_⟩
   rw [HA3.out]
   exact ⟨rfl, G7.trans (GB.non (S := foot c.g vt vp) G8) (fun _ _ h => h)⟩
  | some a =>
   have he : (er != 0) = false := by rw [← HER.out, hp]; rfl
   have hya : ys = a := by rw [← HYS.out, hp]; rfl
   have HA3 : Hid (ans = .ok ((2, ys ++ List.replicate 12 0), ts.tail)) := by
    show ans = _
    rw [← HA2.out.1, hp, hya]
   have CT := take_any H7 HA2.out.2
   obtain ⟨X, hX⟩ : ∃ X, ys ++ List.replicate 12 0 = X := ⟨_, rfl⟩
   have hXl : X.length = 16 := by rw [← hX, List.length_append, hy4]; rfl
   rw [hX] at RA7 HA3
   clear hp HER HYS HA2 hya hX hy4
   go_wp2_with fail
   refine CT.mono ?_
   rintro e w8 ⟨rfl, i8, vt8, vp8, H8, G8, F8⟩
   have RA8 := G8.vat RA7 (HP.out.not_foot HR2.out)
   have HQ : Hid (PS c w8 i8 vt8 vp8 ts.tail nest (bud + 1) ns ∧ GB w w8 (foot c.g vt vp) ∧ (∀ x, x < w.heap.size → foot c.g vt8 vp8 x → foot c.g vt vp x) ∧ ¬ foot c.g vt8 vp8 R) := ⟨H8, G7.trans G8 (fun _ _ h => h), fun x hx => F8 x (Nat.lt_of_lt_of_le hx G7.size), fun e => HP.out.not_foot HR2.out (F8 R RA7.lt e)⟩
   clear CT H8 G8 F8 H7 G7 RA7
   have HZ : Hid ((Tryz.prog.info? 26).map (·.size) = some (X.map bv).toArray.size) := by show _ = _; rw [bv_size, hXl]; exact size26
   go_upto_region 15 with fail
   have RD : VAt w8.drew R 26 (X.map bv).toArray := RA8
   refine wp_region_held_drew (S := fun W => VAt W R 26 (X.map bv).toArray) (by kernel_rfl) RD (fun hHeld => ?_)
   refine wpT (i := 0) (v := .int .i64 2) rfl (Or.inl ⟨by rfl, fun W hW => ?_⟩) hHeld ?_
   ·clear hW
    go_simp
   try simp only [Act.put, a0, a1, a3, a4, a5]
   refine wpT (i := 1) (v := .agg (X.map bv).toArray) rfl (yieldsIf_load_row (by rfl) _ _ rfl R rfl 26 (X.map bv).toArray _ (fun W hW => hW) Tryz.underlying26 rfl HZ.out) hHeld ?_
   try simp only [Act.put, a0, a1, a2, a3, a4, a5]
   refine wpT (i := 2) (v := .int .i64 2) rfl (Or.inl ⟨by rfl, fun W hW => ?_⟩) hHeld ?_
   ·clear hW
    go_simp
   try simp only [Act.put, a0, a1, a2, a3, a4, a5]
   refine wpR (rs := [3]) (AllReadyH.cons rfl (fun K hK => ?_) AllReadyH.nil)
   refine step_store_row (by rfl) 26 (.tmp 3) (.tmp 39) (by rfl) R (X.map bv).toArray (by rfl) (by rfl) 26 _ hHeld HZ.out rfl (bv_all _) ?_
   refine hK.out _ _ (RD.setRow _) (fun hHeld => ?_)
   refine wpAnyH_done (by kernel_rfl) ?_ _
   clear hK K hHeld
   go_wp2
   refine bodyPost_ret (ret_tmp_row rfl _ _ R _ _ rfl (RD.setRow _) Tryz.underlying26 rfl HZ.out) rfl ?_
   rw [HA3.out]
   obtain ⟨H8, G8, F8, fR⟩ := HQ.out
   refine ⟨rfl, Ret.finG HP.out G8 F8 H8 (GB.of (S := fun x => x = R) (vgrown_setRow (grown_drewN w8 1 (some R)) R (X.map bv).toArray (.inl rfl)) (fun x hx => by cases hx; rfl)) ?_⟩
   rintro x rfl
   exact ⟨HR2.out, fR⟩
 ·have k3 : ((tk : Int) == 3) = false := by rw [beq_eq_false_iff_ne]; omega
  by_cases h4 : tk = 4
  ·have k4 : ((tk : Int) == 4) = true := by rw [h4]; rfl
   have HA2 : Hid ((match parse6V tx with | some a => .ok ((3, a), ts.tail) | none => failV ts 112) = ans ∧ (hdT ts).kind ≠ 0) := by
    refine ⟨?_, by rw [HT.out]; show tk ≠ 0; omega⟩
    rw [← HANS.out, addrV, HT.out, if_neg h3, if_pos h4]
    rfl
   have CN := rnext_any H2
   unfold tkC at CN
   rw [HT.out] at CN
   clear h3 h4 HANS
   go_wp2_with fail
   refine CN.mono ?_
   rintro e w4 ⟨rfl, G4⟩
   have H4 := H2.keep G4
   have RA4 := RA2.kept G4
   have K4 := grown_trans K2 G4
   have C4 := parse6_any ⟨tx.toArray⟩ w4 (by rw [← sl_len, sl_str]; omega) H4.tabw
   rw [sl_str] at C4
   clear CN H2 G4 RA2 K2
   unfold arrV errV at C4
   have hXl : ((parse6V tx).getD (List.replicate 16 0)).length = 16 := parse6_len tx
   obtain ⟨X, hys⟩ : ∃ ys, (parse6V tx).getD (List.replicate 16 0) = ys := ⟨_, rfl⟩
   rw [hys] at C4 hXl
   have HYS : Hid ((parse6V tx).getD (List.replicate 16 0) = X) := hys
   clear hys
   obtain ⟨er, her⟩ : ∃ er : Int, (if (parse6V tx).isSome = true then (0 : Int) else 60) = er := ⟨_, rfl⟩
   have HER : Hid ((if (parse6V tx).isSome = true then (0 : Int) else 60) = er) := her
   rw [her] at C4
   clear her
   go_wp2_with fail
   refine C4.mono ?_
   rintro e w5 ⟨rfl, G5⟩
   have H5 := H4.keep G5
   have RA5 := RA4.kept G5
   have K5 := grown_trans K4 G5
   have HSZ : Hid ((Tryz.prog.info? 26).map (·.size) = some (X.map bv).toArray.size ∧ (#[.int .u8 0, .int .u8 0, .int .u8 0, .int .u8 0, .int .u8 0, .int .u8 0, .int .u8 0, .int .u8 0, .int .u8 0, .int .u8 0, .int .u8 0, .int .u8 0, .int .u8 0, .int .u8 0, .int .u8 0, .int .u8 0] : Array Value).size = (X.map bv).toArray.size ∧ (X.map bv).toArray.all (·.oneCell') = true) := by
    refine ⟨?_, ?_, bv_all _⟩
    ·rw [bv_size, hXl]; exact size26
    ·rw [bv_size, hXl]; rfl
   have K6 := vgrown_setRow (World.grownBy.refl w5 (some R)) R (X.map bv).toArray (.inl rfl)
   have H7 := H5.away K6 (HP.out.not_foot HR2.out) (fun e => by have := HP.out.toks_lt e; have := HR2.out; omega) (Nat.le_trans HP.out.grown.size HR2.out)
   have G7 : GB w (w5.setRow R (X.map bv).toArray) (foot c.g vt vp) := (GB.non K5).trans (GB.of (S := fun x => x = R) K6 (fun x hx => by cases hx; rfl)) (fun x hx e => by have := HR2.out; omega)
   have RA7 := RA5.setRow (X.map bv).toArray
   clear C4 H4 G5 H5 RA4 K4 K5 K6
   go_upto_region 12 with (refine wpList_store_row rfl 26 (.tmp 3) (.tmp 30) rfl R (X.map bv).toArray rfl rfl 26 _ RA5 HSZ.out.1 HSZ.out.2.1 HSZ.out.2.2 ?_)
   generalize w5.setRow R (X.map bv).toArray = w7 at *
   clear RA5 HSZ
   cases hp : parse6V tx with
   | none =>
    have he : (er != 0) = true := by rw [← HER.out, hp]; rfl
    have HA3 : Hid (ans = .error ((hdT ts).pos, 112)) := by
     show ans = _
     rw [← HA2.out.1, hp]
     show failV ts _ = _
     rw [failV, if_neg HA2.out.2]
    have CG := giveUp_any H7 112
    clear hp HER HYS HA2 RA7
    go_wp2_with fail
    refine CG.mono ?_
    rintro e w8 ⟨rfl, G8⟩
    go_wp2
    refine ⟨rfl, ?_⟩
    rw [HA3.out]
    exact ⟨rfl, G7.trans (GB.non (S := foot c.g vt vp) G8) (fun _ _ h => h)⟩
   | some a =>
    have he : (er != 0) = false := by rw [← HER.out, hp]; rfl
    have hya : X = a := by rw [← HYS.out, hp]; rfl
    have HA3 : Hid (ans = .ok ((3, X), ts.tail)) := by
     show ans = _
     rw [← HA2.out.1, hp, hya]
    have CT := take_any H7 HA2.out.2
    clear hp HER HYS HA2 hya
    go_wp2_with fail
    refine CT.mono ?_
    rintro e w8 ⟨rfl, i8, vt8, vp8, H8, G8, F8⟩
    have RA8 := G8.vat RA7 (HP.out.not_foot HR2.out)
    have HQ : Hid (PS c w8 i8 vt8 vp8 ts.tail nest (bud + 1) ns ∧ GB w w8 (foot c.g vt vp) ∧ (∀ x, x < w.heap.size → foot c.g vt8 vp8 x → foot c.g vt vp x) ∧ ¬ foot c.g vt8 vp8 R) := ⟨H8, G7.trans G8 (fun _ _ h => h), fun x hx => F8 x (Nat.lt_of_lt_of_le hx G7.size), fun e => HP.out.not_foot HR2.out (F8 R RA7.lt e)⟩
    clear CT H8 G8 F8 H7 G7 RA7
    have HZ : Hid ((Tryz.prog.info? 26).map (·.size) = some (X.map bv).toArray.size) := by show _ = _; rw [bv_size, hXl]; exact size26
    go_upto_region 15 with fail
    have RD : VAt w8.drew R 26 (X.map bv).toArray := RA8
    refine wp_region_held_drew (S := fun W => VAt W R 26 (X.map bv).toArray) (by kernel_rfl) RD (fun hHeld => ?_)
    refine wpT (i := 0) (v := .int .i64 3) rfl (Or.inl ⟨by rfl, fun W hW => ?_⟩) hHeld ?_
    ·clear hW
     go_simp
    try simp only [Act.put, a0, a1, a3, a4, a5]
    refine wpT (i := 1) (v := .agg (X.map bv).toArray) rfl (yieldsIf_load_row (by rfl) _ _ rfl R rfl 26 (X.map bv).toArray _ (fun W hW => hW) Tryz.underlying26 rfl HZ.out) hHeld ?_
    try simp only [Act.put, a0, a1, a2, a3, a4, a5]
    refine wpT (i := 2) (v := .int .i64 3) rfl (Or.inl ⟨by rfl, fun W hW => ?_⟩) hHeld ?_
    ·clear hW
     go_simp
    try simp only [Act.put, a0, a1, a2, a3, a4, a5]
    refine wpR (rs := [3]) (AllReadyH.cons rfl (fun K hK => ?_) AllReadyH.nil)
    refine step_store_row (by rfl) 26 (.tmp 3) (.tmp 39) (by rfl) R (X.map bv).toArray (by rfl) (by rfl) 26 _ hHeld HZ.out rfl (bv_all _) ?_
    refine hK.out _ _ (RD.setRow _) (fun hHeld => ?_)
    refine wpAnyH_done (by kernel_rfl) ?_ _
    clear hK K hHeld
    go_wp2
    refine bodyPost_ret (ret_tmp_row rfl _ _ R _ _ rfl (RD.setRow _) Tryz.underlying26 rfl HZ.out) rfl ?_
    rw [HA3.out]
    obtain ⟨H8, G8, F8, fR⟩ := HQ.out
    refine ⟨rfl, Ret.finG HP.out G8 F8 H8 (GB.of (S := fun x => x = R) (vgrown_setRow (grown_drewN w8 1 (some R)) R (X.map bv).toArray (.inl rfl)) (fun x hx => by cases hx; rfl)) ?_⟩
    rintro x rfl
    exact ⟨HR2.out, fR⟩
  ·have k4 : ((tk : Int) == 4) = false := by rw [beq_eq_false_iff_ne]; omega
   have HA3 : Hid (ans = .error (stuckE ts)) := by
    show ans = _
    rw [← HANS.out, addrV, HT.out, if_neg h3, if_neg h4]
    rfl
   have CG := stuck_any H2
   clear h3 h4 HANS
   go_wp2_with fail
   refine CG.mono ?_
   rintro e w8 ⟨rfl, G8⟩
   go_wp2
   refine ⟨rfl, ?_⟩
   rw [HA3.out]
   exact ⟨rfl, GB.non (grown_trans K2 G8)⟩

end
theorem wpList_buildX {P : Program} {ops : Array Oper} {rest : List Oper} {o : Oper} {a : Act} {w : World} {Q : Exit → Act → World → Prop} (hg : o.guard = none) (t : TypeId) (parts : Array (Nat × Operand)) (ho : o.op = .build t parts) (qs : Array (Nat × Value)) (hq : parts.map (fun (i, x) => (i, a.eval x)) = qs) (X : Array Value)
  (hr : ∀ W : World, (Instr.build t qs).run P W = .ok (.agg X) W) (h : wpList P ops Q rest (a.put o.dst (.agg X)) w) : wpList P ops Q (o :: rest) a w :=
 wpList_plain hg fun _ hK => by
  have hr' := hr w
  rw [← hq] at hr'
  unfold Oper.wp execOp
  simp only [ho, Sem.run_bind, Sem.run_pure, Result.andThen_ok, hr']
  exact hK _ _ h
theorem list16 {a : List UInt8} (h : a.length = 16) : ∃ a0 a1 a2 a3 a4 a5 a6 a7 a8 a9 b0 b1 b2 b3 b4 b5, a = [a0, a1, a2, a3, a4, a5, a6, a7, a8, a9, b0, b1, b2, b3, b4, b5] := by
 match a, h with
 | [a0, a1, a2, a3, a4, a5, a6, a7, a8, a9, b0, b1, b2, b3, b4, b5], _ => exact ⟨_, _, _, _, _, _, _, _, _, _, _, _, _, _, _, _, rfl⟩
theorem build_host (side of : Nat) (a : List UInt8) (ha : a.length = 16) (W : World) : (Instr.build 28 #[(0, .int .i64 14), (5, .int .i64 (of : Int)), (6, .int .i64 (side : Int)), (7, .agg (a.map bv).toArray)]).run Tryz.prog W = .ok (.agg (hostN side of a).cells.toArray) W := by
 obtain ⟨a0, a1, a2, a3, a4, a5, a6, a7, a8, a9, b0, b1, b2, b3, b4, b5, rfl⟩ := list16 ha
 kernel_rfl
theorem build_net (side of m : Nat) (a : List UInt8) (ha : a.length = 16) (W : World) : (Instr.build 28 #[(0, .int .i64 15), (5, .int .i64 (of : Int)), (6, .int .i64 (side : Int)), (7, .agg (a.map bv).toArray), (8, .int .i64 (m : Int))]).run Tryz.prog W = .ok (.agg (netN side of a m).cells.toArray) W := by
 obtain ⟨a0, a1, a2, a3, a4, a5, a6, a7, a8, a9, b0, b1, b2, b3, b4, b5, rfl⟩ := list16 ha
 kernel_rfl
theorem addr_len {ts r : List Tk} {of : Nat} {a : List UInt8} (h : addrV ts = .ok ((of, a), r)) : a.length = 16 := by
 unfold addrV at h
 split at h
 ·split at h
  ·rename_i x hx
   have e := (Prod.mk.inj (Prod.mk.inj (Except.ok.inj h)).1).2
   rw [← e, List.length_append, parse4_some hx]
   rfl
  ·cases h
 ·split at h
  ·split at h
   ·rename_i x hx
    have e := (Prod.mk.inj (Prod.mk.inj (Except.ok.inj h)).1).2
    rw [← e]
    exact parse6_some hx
   ·cases h
  ·cases h
theorem num_le {ts r : List Tk} {m : Nat} (hG : TksG ts) (h : numT ts = .ok (m, r)) : m ≤ 4294967295 := by
 unfold numT at h
 split at h
 ·have e := (Prod.mk.inj (Except.ok.inj h)).1
  rw [← e]
  exact hG.hd.2.2.2.1
 ·cases h

section
variable {c : PC} {w : World} {i nest bud : Nat} {vt vp : Value} {ts : List Tk} {ns : List (Nd × Nat)}
structure PR (c : PC) (w : World) (vt vp : Value) (W : World) (i' : Nat) (vt' vp' : Value) (ts' : List Tk) (nest bud' : Nat) (ns : List (Nd × Nat)) (R tR : Nat) (y : Array Value) : Prop where
 ps : PS c W i' vt' vp' ts' nest bud' ns
 gb : GB w W (foot c.g vt vp)
 sh : ∀ x, x < w.heap.size → foot c.g vt' vp' x → foot c.g vt vp x
 fR : ¬ foot c.g vt' vp' R
 res : VAt W R tR y
 lR : w.heap.size ≤ R
theorem PR.keep {W W2 : World} {i1 bud1 R tR : Nat} {vt1 vp1 : Value} {ts1 : List Tk} {y : Array Value} (h : PR c w vt vp W i1 vt1 vp1 ts1 nest bud1 ns R tR y) (G : W.grownBy W2 none) : PR c w vt vp W2 i1 vt1 vp1 ts1 nest bud1 ns R tR y :=
 { h with ps := h.ps.keep G, gb := h.gb.trans (GB.non (S := foot c.g vt vp) G) (fun _ _ h => h), res := h.res.kept G }
theorem PR.step {W W2 : World} {i1 bud1 bud2 R tR : Nat} {vt1 vp1 : Value} {ts1 ts2 : List Tk} {y : Array Value} {ns2 : List (Nd × Nat)} (h : PR c w vt vp W i1 vt1 vp1 ts1 nest bud1 ns R tR y) (r : Ret c W vt1 vp1 ts2 nest bud2 ns2 W2) : ∃ i2 vt2 vp2, PR c w vt vp W2 i2 vt2 vp2 ts2 nest bud2 ns2 R tR y := by
 obtain ⟨i2, vt2, vp2, p, g, f⟩ := r
 exact ⟨i2, vt2, vp2, p, h.gb.trans g h.sh, fun x hx k => h.sh x hx (f x (Nat.lt_of_lt_of_le hx h.gb.size) k), fun e => h.fR (f R h.res.lt e), g.vat h.res h.fR, h.lR⟩
theorem PR.err {W W2 : World} {i1 bud1 R tR : Nat} {vt1 vp1 : Value} {ts1 : List Tk} {y : Array Value} (h : PR c w vt vp W i1 vt1 vp1 ts1 nest bud1 ns R tR y) (g : GB W W2 (foot c.g vt1 vp1)) : GB w W2 (foot c.g vt vp) := h.gb.trans g h.sh
theorem PR.setR {i0 nest0 bud0 : Nat} {ts0 : List Tk} {ns0 : List (Nd × Nat)} {W : World} {i1 bud1 R tR : Nat} {vt1 vp1 : Value} {ts1 : List Tk} {y : Array Value} (hw : PS c w i0 vt vp ts0 nest0 bud0 ns0) (h : PR c w vt vp W i1 vt1 vp1 ts1 nest bud1 ns R tR y) (y2 : Array Value) : PR c w vt vp (W.setRow R y2) i1 vt1 vp1 ts1 nest bud1 ns R tR y2 :=
 { h with
  ps := h.ps.away (vgrown_setRow (World.grownBy.refl W (some R)) R _ (.inl rfl)) h.fR (fun e => by have := (hw.toks.lt R e).2; have := h.lR; omega) (Nat.le_trans hw.grown.size h.lR)
  gb := h.gb.trans (GB.of (S := fun z => z = R) (vgrown_setRow (World.grownBy.refl W (some R)) R _ (.inl rfl)) (fun z hz => by cases hz; rfl)) (fun z hz e => by have := h.lR; omega)
  res := h.res.setRow _ }
theorem PR.ret {W : World} {i1 bud1 R tR : Nat} {vt1 vp1 : Value} {ts1 : List Tk} {y : Array Value} (h : PR c w vt vp W i1 vt1 vp1 ts1 nest bud1 ns R tR y) : Ret c w vt vp ts1 nest bud1 ns W := ⟨i1, vt1, vp1, h.ps, h.gb, h.sh⟩
theorem PR.add {W : World} {i1 bud1 R tR : Nat} {vt1 vp1 : Value} {ts1 : List Tk} {y : Array Value} (h : PR c w vt vp W i1 vt1 vp1 ts1 nest bud1 ns R tR y) (tV : Nat) (x : Array Value) : PW c w vt vp (W.alloc (.cells x tV)) i1 vt1 vp1 ts1 nest bud1 ns R W.heap.size tR tV y x :=
 have K := World.grownBy_alloc W (.cells x tV) none
 ⟨h.ps.keep K, h.gb.trans (GB.non (S := foot c.g vt vp) K) (fun _ _ h => h), h.sh, h.ps.not_foot (Nat.le_refl _), h.fR, VAt.alloc W tV x, h.res.kept K, h.gb.size, h.lR, fun e => by have := h.res.lt; omega⟩
set_option maxHeartbeats 4000000 in
theorem psided_any (h : PS c w i vt vp ts nest bud ns) :
  Calls Tryz.prog 116 #[.pointer (some ⟨c.g, 0, none⟩)] w (TellP c w vt vp nest (bud + 1) ns (fun x : Nd => .agg x.cells.toArray) (hnpV (sideN ts) (sideR ts))) := by
 have HP : Hid (PS c w i vt vp ts nest bud ns) := h
 obtain ⟨ans, hans⟩ : ∃ a, hnpV (sideN ts) (sideR ts) = a := ⟨_, rfl⟩
 have HANS : Hid (hnpV (sideN ts) (sideR ts) = ans) := hans
 rw [hans]
 have K1 := World.grownBy_alloc w (.cells nd0.cells.toArray 28) none
 have RA := VAt.alloc w 28 nd0.cells.toArray
 clear h hans
 go_enter Tryz.func116, Tryz.ntmps116
 go_upto_region 1 with fail
 rw [← nd0_cells]
 have Q1 : PR c w vt vp (w.alloc (.cells nd0.cells.toArray 28)) i vt vp ts nest bud ns w.heap.size 28 nd0.cells.toArray := ⟨HP.out.keep K1, GB.non K1, fun _ _ h => h, HP.out.not_foot (Nat.le_refl _), RA, Nat.le_refl _⟩
 generalize w.alloc (.cells nd0.cells.toArray 28) = w1 at *
 have HLR : Hid (w.heap.size ≤ w.heap.size) := Nat.le_refl _
 obtain ⟨R, hR⟩ : ∃ R, w.heap.size = R := ⟨_, rfl⟩
 have HR2 : Hid (w.heap.size ≤ R) := Nat.le_of_eq hR
 rw [hR] at Q1 ⊢
 clear hR HLR K1 RA
 have CS := side_any Q1.ps
 generalize sideN ts = sd at *
 generalize sideR ts = r0 at *
 go_wp2_with fail
 refine CS.mono ?_
 rintro e w2 ⟨rfl, R2⟩
 obtain ⟨i2, vt2, vp2, Q2⟩ := Q1.step R2
 clear CS Q1 R2
 have C1 := skip_any Q2.ps wHost (ask_in (by decide))
 cases hb : isB r0 wHost with
 | true =>
  rw [hb] at C1
  have HA2 : Hid (thenE (addrV r0.tail) (fun p => .ok (hostN sd p.1.1 p.1.2, p.2)) = ans) := by
   show _ = ans
   rw [← HANS.out, hnpV, if_pos hb]
  clear hb HANS
  go_wp2_with fail
  refine C1.mono ?_
  rintro e w3 ⟨rfl, R3⟩
  obtain ⟨i3, vt3, vp3, Q3⟩ := Q2.step R3
  clear C1 Q2 R3
  have C2 := address_any (Q3.ps.less (Nat.le_succ bud))
  have HLEN : Hid (∀ p r, addrV r0.tail = .ok (p, r) → p.2.length = 16) := fun p r hp => addr_len (of := p.1) (a := p.2) hp
  generalize addrV r0.tail = ar at *
  go_wp2_with fail
  refine C2.mono ?_
  clear C2
  cases ar with
  | error er =>
   have HA3 : Hid (ans = .error er) := HA2.out.symm
   rintro e w4 ⟨rfl, G⟩
   go_wp2
   refine ⟨rfl, ?_⟩
   rw [HA3.out]
   exact ⟨rfl, Q3.err G⟩
  | ok v =>
   obtain ⟨⟨of, a⟩, r4⟩ := v
   have HA3 : Hid (ans = .ok (hostN sd of a, r4)) := HA2.out.symm
   have hal : a.length = 16 := HLEN.out _ _ rfl
   rintro e w4 ⟨rfl, R4⟩
   obtain ⟨i4, vt4, vp4, Q4⟩ := Q3.step R4
   clear Q3 R4 HLEN HA2
   unfold adV
   simp only
   have Q5 := Q4.add 26 (a.map bv).toArray
   have VZ := VAt.alloc w4 26 #[.int .u8 0, .int .u8 0, .int .u8 0, .int .u8 0, .int .u8 0, .int .u8 0, .int .u8 0, .int .u8 0, .int .u8 0, .int .u8 0, .int .u8 0, .int .u8 0, .int .u8 0, .int .u8 0, .int .u8 0, .int .u8 0]
   have HSZ : Hid ((Tryz.prog.info? 26).map (·.size) = some (a.map bv).toArray.size ∧ (#[.int .u8 0, .int .u8 0, .int .u8 0, .int .u8 0, .int .u8 0, .int .u8 0, .int .u8 0, .int .u8 0, .int .u8 0, .int .u8 0, .int .u8 0, .int .u8 0, .int .u8 0, .int .u8 0, .int .u8 0, .int .u8 0] : Array Value).size = (a.map bv).toArray.size ∧ (a.map bv).toArray.all (·.oneCell') = true) := by
    refine ⟨?_, ?_, bv_all _⟩
    ·rw [bv_size, hal]; exact size26
    ·rw [bv_size, hal]; rfl
   go_upto_region 4 with (refine wpList_store_row rfl 26 (.tmp 5) (.tmp 21) rfl w4.heap.size (a.map bv).toArray rfl rfl 26 _ VZ HSZ.out.1 HSZ.out.2.1 HSZ.out.2.2 ?_)
   rw [World.setRow_alloc_new]
   generalize w4.alloc (.cells (a.map bv).toArray 26) = w5 at *
   generalize w4.heap.size = V at *
   clear VZ Q4
   have VA := Q5.var
   have RA := Q5.res
   have HB := build_host sd of a hal
   obtain ⟨X, hX⟩ : ∃ X, hostN sd of a = X := ⟨_, rfl⟩
   rw [hX] at HB HA3
   clear hX
   have HQ : Hid (PW c w vt vp (w5.setRow R X.cells.toArray) i4 vt4 vp4 r4 nest (bud + 1) ns R V 28 26 X.cells.toArray (a.map bv).toArray) := PW.setR HP.out Q5 X.cells.toArray
   clear Q5
   go_wp2_with (first
    | refine wpList_load_row rfl 26 (.tmp 5) rfl V rfl 26 (a.map bv).toArray (0, 0) _ VA Tryz.underlying26 rfl HSZ.out.1 ?_
    | refine wpList_buildX rfl 28 _ rfl #[(0, .int .i64 14), (5, .int .i64 (of : Int)), (6, .int .i64 (sd : Int)), (7, .agg (a.map bv).toArray)] (by kernel_rfl) X.cells.toArray HB ?_
    | refine wpList_store_row rfl 28 (.tmp 2) (.tmp 25) rfl R X.cells.toArray rfl rfl 28 _ RA (sizeNd _) rfl (all_nd _) ?_)
   refine bodyPost_ret (retRow1 rfl _ _ R _ _ rfl (RA.setRow _) Tryz.underlying28 rfl (sizeNd _)) rfl ?_
   rw [HA3.out]
   exact ⟨rfl, HQ.out.ret⟩
 | false =>
  rw [hb] at C1
  have HA1 : Hid (¬ isB r0 wHost = true) := by show ¬ _; rw [hb]; simp
  clear hb
  go_wp2_with fail
  refine C1.mono ?_
  rintro e w3 ⟨rfl, hG⟩
  have G3 : w2.grownBy w3 none := hG
  have Q3 := Q2.keep G3
  clear C1 Q2 hG G3
  have C2 := skip_any Q3.ps wNet (ask_in (by decide))
  cases hb : isB r0 wNet with
  | true =>
   rw [hb] at C2
   have HA2 : Hid (thenE (addrV r0.tail) (fun p => thenE (mustV [47] p.2) fun r => thenE (numT r) fun q => .ok (netN sd p.1.1 p.1.2 q.1, q.2)) = ans) := by
    show _ = ans
    rw [← HANS.out, hnpV, if_neg HA1.out, if_pos hb]
   clear hb HANS HA1
   go_wp2_with fail
   refine C2.mono ?_
   rintro e w4 ⟨rfl, R4⟩
   obtain ⟨i4, vt4, vp4, Q4⟩ := Q3.step R4
   clear C2 Q3 R4
   have C3 := address_any (Q4.ps.less (Nat.le_succ bud))
   have HLEN : Hid (∀ p r, addrV r0.tail = .ok (p, r) → p.2.length = 16) := fun p r hp => addr_len (of := p.1) (a := p.2) hp
   generalize addrV r0.tail = ar at *
   go_wp2_with fail
   refine C3.mono ?_
   clear C3
   cases ar with
   | error er =>
    have HA3 : Hid (ans = .error er) := HA2.out.symm
    rintro e w5 ⟨rfl, G⟩
    go_wp2
    refine ⟨rfl, ?_⟩
    rw [HA3.out]
    exact ⟨rfl, Q4.err G⟩
   | ok v =>
    obtain ⟨⟨of, a⟩, r5⟩ := v
    have hal : a.length = 16 := HLEN.out _ _ rfl
    rw [thenE_ok] at HA2
    simp only at HA2
    rintro e w5 ⟨rfl, R5⟩
    obtain ⟨i5, vt5, vp5, Q5⟩ := Q4.step R5
    clear Q4 R5 HLEN
    unfold adV
    simp only
    have Q6 := Q5.add 26 (a.map bv).toArray
    have VZ := VAt.alloc w5 26 #[.int .u8 0, .int .u8 0, .int .u8 0, .int .u8 0, .int .u8 0, .int .u8 0, .int .u8 0, .int .u8 0, .int .u8 0, .int .u8 0, .int .u8 0, .int .u8 0, .int .u8 0, .int .u8 0, .int .u8 0, .int .u8 0]
    have HSZ : Hid ((Tryz.prog.info? 26).map (·.size) = some (a.map bv).toArray.size ∧ (#[.int .u8 0, .int .u8 0, .int .u8 0, .int .u8 0, .int .u8 0, .int .u8 0, .int .u8 0, .int .u8 0, .int .u8 0, .int .u8 0, .int .u8 0, .int .u8 0, .int .u8 0, .int .u8 0, .int .u8 0, .int .u8 0] : Array Value).size = (a.map bv).toArray.size ∧ (a.map bv).toArray.all (·.oneCell') = true) := by
     refine ⟨?_, ?_, bv_all _⟩
     ·rw [bv_size, hal]; exact size26
     ·rw [bv_size, hal]; rfl
    go_upto_region 7 with (refine wpList_store_row rfl 26 (.tmp 7) (.tmp 37) rfl w5.heap.size (a.map bv).toArray rfl rfl 26 _ VZ HSZ.out.1 HSZ.out.2.1 HSZ.out.2.2 ?_)
    rw [World.setRow_alloc_new]
    generalize w5.alloc (.cells (a.map bv).toArray 26) = w6 at *
    generalize w5.heap.size = V at *
    clear VZ Q5
    have C4 := must_any (Q6.ps.less (Nat.le_succ bud)) [47] (ask_s (by decide) (by kernel_rfl))
    generalize mustV [47] r5 = mr at *
    go_wp2_with fail
    refine C4.mono ?_
    clear C4
    cases mr with
    | error er =>
     have HA3 : Hid (ans = .error er) := HA2.out.symm
     rintro e w7 ⟨rfl, G⟩
     go_wp2
     refine ⟨rfl, ?_⟩
     rw [HA3.out]
     exact ⟨rfl, Q6.err G⟩
    | ok r7 =>
     rintro e w7 ⟨rfl, R7⟩
     obtain ⟨i7, vt7, vp7, Q7⟩ := Q6.step R7
     rw [thenE_ok] at HA2
     have HC5 : Hid (Calls Tryz.prog 112 #[.pointer (some ⟨c.g, 0, none⟩)] w7.drew (TellP c w7.drew vt7 vp7 nest (bud + 1) ns (fun n : Nat => .int .u32 (n : Int)) (numT r7))) := rnumber_any ((Q7.keep (grown_drewN w7 1 none)).ps.less (Nat.le_succ bud))
     have HQ7 : Hid (PW c w vt vp w7.drew i7 vt7 vp7 r7 nest (bud + 1) ns R V 28 26 nd0.cells.toArray (a.map bv).toArray) := Q7.keep (grown_drewN w7 1 none)
     have HNM : Hid (∀ m r, numT r7 = .ok (m, r) → m ≤ 4294967295) := fun m r hr => num_le Q7.ps.good hr
     clear Q6 R7 Q7
     generalize numT r7 = nr at *
     go_upto_region 8 with fail
     refine wp_region_held_drew (S := fun W => VAt W V 26 (a.map bv).toArray) (by kernel_rfl) HQ7.out.var (fun hHeld => ?_)
     refine wpT (i := 0) (v := .int .i64 (of : Int)) rfl (Or.inl ⟨by rfl, fun W hW => ?_⟩) hHeld ?_
     ·clear hW
      go_simp
     try simp only [Act.put, a0, a1, a3, a4, a5]
     refine wpT (i := 1) (v := .int .i64 (sd : Int)) rfl (Or.inl ⟨by rfl, fun W hW => ?_⟩) hHeld ?_
     ·clear hW
      go_simp
     try simp only [Act.put, a0, a1, a2, a3, a4, a5]
     refine wpT (i := 2) (v := .agg (a.map bv).toArray) rfl (yieldsIf_load_row (by rfl) _ _ rfl V rfl 26 (a.map bv).toArray _ (fun W hW => hW) Tryz.underlying26 rfl HSZ.out.1) hHeld ?_
     try simp only [Act.put, a0, a1, a2, a3, a4, a5]
     refine wpT (i := 3) (v := .pointer (some ⟨c.g, 0, none⟩)) rfl (Or.inl ⟨by rfl, fun W hW => ?_⟩) hHeld ?_
     ·clear hW
      go_simp
     try simp only [Act.put, a0, a1, a2, a3, a4, a5]
     refine wpT (i := 4) (v := .pointer (some ⟨c.g, 0, none⟩)) rfl (Or.inl ⟨by rfl, fun W hW => ?_⟩) hHeld ?_
     ·clear hW
      go_simp
     try simp only [Act.put, a0, a1, a2, a3, a4, a5]
     refine wpT (i := 5) (v := .pointer (some ⟨c.g, 0, none⟩)) rfl (Or.inl ⟨by rfl, fun W hW => ?_⟩) hHeld ?_
     ·clear hW
      go_simp
     try simp only [Act.put, a0, a1, a2, a3, a4, a5]
     refine wpR (rs := [6]) (AllReadyH.cons rfl (fun K hK => ?_) AllReadyH.nil)
     go_simp
     refine HC5.out.mono ?_
     clear HC5
     cases nr with
     | error er =>
      have HA3 : Hid (ans = .error er) := HA2.out.symm
      rintro e w8 ⟨rfl, G⟩
      go_wp2
      refine ⟨rfl, ?_⟩
      rw [HA3.out]
      exact ⟨rfl, HQ7.out.err G⟩
     | ok v =>
      obtain ⟨m, r8⟩ := v
      have HA3 : Hid (ans = .ok (netN sd of a m, r8)) := HA2.out.symm
      rintro e w8 ⟨rfl, R8⟩
      have hm : m ≤ 4294967295 := HNM.out _ _ rfl
      obtain ⟨i8, vt8, vp8, Q8⟩ := HQ7.out.step R8
      go_wp2_with fail
      refine hK.out _ _ Q8.var (fun hHeld => ?_)
      clear hK K
      try simp only [Act.put, a0, a1, a2, a3, a4, a5]
      have hw : IntKind.i64.wrap (m : Int) = (m : Int) := by rw [IntKind.wrap_i64]; omega
      refine wpT (i := 7) (v := .int .i64 (m : Int)) rfl (Or.inl ⟨by rfl, fun W hW => ?_⟩) hHeld ?_
      ·clear hW
       go_simp
      try simp only [Act.put, a0, a1, a2, a3, a4, a5]
      have HB := build_net sd of m a hal
      obtain ⟨X, hX⟩ : ∃ X, netN sd of a m = X := ⟨_, rfl⟩
      rw [hX] at HB HA3
      clear hX
      refine wpT (i := 8) (v := .agg X.cells.toArray) rfl (Or.inl ⟨by rfl, fun W hW => ?_⟩) hHeld ?_
      ·clear hW
       simp [execOp, Act.eval, HB]
      try simp only [Act.put, a0, a1, a2, a3, a4, a5]
      refine wpR (rs := [9]) (AllReadyH.cons rfl (fun K hK => ?_) AllReadyH.nil)
      have RA := Q8.res
      have HQ := PW.setR HP.out Q8 X.cells.toArray
      refine step_store_row (by rfl) 28 (.tmp 2) (.tmp 50) (by rfl) R X.cells.toArray (by rfl) (by rfl) 28 _ RA (sizeNd _) rfl (all_nd _) ?_
      refine hK.out _ _ HQ.var (fun hHeld => ?_)
      refine wpAnyH_done (by kernel_rfl) ?_ _
      clear hK K hHeld
      go_wp2
      refine bodyPost_ret (retRow1 rfl _ _ R _ _ rfl (RA.setRow _) Tryz.underlying28 rfl (sizeNd _)) rfl ?_
      rw [HA3.out]
      exact ⟨rfl, HQ.ret⟩
  | false =>
   rw [hb] at C2
   have HA2 : Hid (portV 0 sd r0 = ans) := by
    show _ = ans
    rw [← HANS.out, hnpV, if_neg HA1.out, if_neg (by rw [hb]; simp)]
   clear hb HANS HA1
   go_wp2_with fail
   refine C2.mono ?_
   rintro e w4 ⟨rfl, hG⟩
   have G4 : w3.grownBy w4 none := hG
   have Q4 := Q3.keep G4
   clear C2 Q3 hG G4
   have C3 := port_any Q4.ps 0 sd
   generalize portV 0 sd r0 = pr at *
   have ha : pr = ans := HA2.out
   have HA3 : Hid (pr = ans) := ha
   clear HA2 ha
   go_wp2_with fail
   refine C3.mono ?_
   clear C3
   cases pr with
   | error er =>
    rintro e w5 ⟨rfl, G⟩
    go_wp2
    refine ⟨rfl, ?_⟩
    rw [← HA3.out]
    exact ⟨rfl, Q4.err G⟩
   | ok v =>
    obtain ⟨X, r5⟩ := v
    rintro e w5 ⟨rfl, R5⟩
    obtain ⟨i5, vt5, vp5, Q5⟩ := Q4.step R5
    have RA := Q5.res
    have HQ : Hid (PR c w vt vp (w5.setRow R X.cells.toArray) i5 vt5 vp5 r5 nest (bud + 1) ns R 28 X.cells.toArray) := PR.setR HP.out Q5 X.cells.toArray
    clear Q4 R5 Q5
    go_wp2_with (refine wpList_store_row rfl 28 (.tmp 2) (.tmp 53) rfl R X.cells.toArray rfl rfl 28 _ RA (sizeNd _) rfl (all_nd _) ?_)
    refine bodyPost_ret (retRow1 rfl _ _ R _ _ rfl (RA.setRow _) Tryz.underlying28 rfl (sizeNd _)) rfl ?_
    rw [← HA3.out]
    exact ⟨rfl, HQ.out.ret⟩

end
end Go.Proofs.YtghbbephhoniaaaGreatDoor
