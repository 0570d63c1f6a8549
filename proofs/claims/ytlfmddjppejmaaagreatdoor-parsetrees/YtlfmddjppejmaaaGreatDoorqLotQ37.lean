import Derived.Test.YtlfmddjppejmaaaGreatDoorqAb
import Derived.Test.YtlfmddjppejmaaaGreatDoorqPsI
import Derived.Test.YtlfmddjppejmaaaGreatDoorqLotQ31
set_option maxHeartbeats 64000000
set_option maxRecDepth 100000
namespace Go.Proofs.YtlfmddjppejmaaaGreatDoor
open Go.RowKit
theorem ai5 {P : Program} {ops : Array Oper} {rest : List Oper} {o : Oper} {a : Act} {w : World} {Q : Exit → Act → World → Prop} (hg : o.guard = none) (t : TypeId) (parts : Array (Nat × Operand)) (ho : o.op = .build t parts) (qs : Array (Nat × Value)) (hq : parts.map (fun (i, x) => (i, a.eval x)) = qs) (X : Array Value)
  (hr : ∀ W : World, (Instr.build t qs).run P W = .ok (.agg X) W) (h : wpList P ops Q rest (a.put o.dst (.agg X)) w) : wpList P ops Q (o :: rest) a w :=
 wpList_plain hg fun _ hK => by
  have hr' := hr w
  rw [← hq] at hr'
  unfold Oper.wp execOp
  simp only [ho, Sem.run_bind, Sem.run_pure, Result.andThen_ok, hr']
  exact hK _ _ h
theorem a4k {a : List UInt8} (h : a.length = 16) : ∃ a0 a1 a2 a3 a4 a5 a6 a7 a8 a9 b0 b1 b2 b3 b4 b5, a = [a0, a1, a2, a3, a4, a5, a6, a7, a8, a9, b0, b1, b2, b3, b4, b5] := by
 match a, h with
 | [a0, a1, a2, a3, a4, a5, a6, a7, a8, a9, b0, b1, b2, b3, b4, b5], _ => exact ⟨_, _, _, _, _, _, _, _, _, _, _, _, _, _, _, _, rfl⟩
theorem a6q (side of : Nat) (a : List UInt8) (ha : a.length = 16) (W : World) : (Instr.build 54 #[(0, .int .i64 14), (5, .int .i64 (of : Int)), (6, .int .i64 (side : Int)), (7, .agg (a.map bv).toArray)]).run Tryz.prog W = .ok (.agg (a1g side of a).cells.toArray) W := by
 obtain ⟨a0, a1, a2, a3, a4, a5, a6, a7, a8, a9, b0, b1, b2, b3, b4, b5, rfl⟩ := a4k ha
 kernel_rfl
theorem a6s (side of m : Nat) (a : List UInt8) (ha : a.length = 16) (W : World) : (Instr.build 54 #[(0, .int .i64 15), (5, .int .i64 (of : Int)), (6, .int .i64 (side : Int)), (7, .agg (a.map bv).toArray), (8, .int .i64 (m : Int))]).run Tryz.prog W = .ok (.agg (a1o side of a m).cells.toArray) W := by
 obtain ⟨a0, a1, a2, a3, a4, a5, a6, a7, a8, a9, b0, b1, b2, b3, b4, b5, rfl⟩ := a4k ha
 kernel_rfl
theorem a3k {ts r : List Tk} {of : Nat} {a : List UInt8} (h : L0 ts = .ok ((of, a), r)) : a.length = 16 := by
 unfold L0 at h
 split at h
 ·split at h
  ·rename_i x hx
   have e := (Prod.mk.inj (Prod.mk.inj (Except.ok.inj h)).1).2
   rw [← e, List.length_append, a2P hx]
   rfl
  ·cases h
 ·split at h
  ·split at h
   ·rename_i x hx
    have e := (Prod.mk.inj (Prod.mk.inj (Except.ok.inj h)).1).2
    rw [← e]
    exact a2R hx
   ·cases h
  ·cases h
theorem a4J {ts r : List Tk} {m : Nat} (hG : I0 ts) (h : j8 ts = .ok (m, r)) : m ≤ 4294967295 := by
 unfold j8 at h
 split at h
 ·have e := (Prod.mk.inj (Except.ok.inj h)).1
  rw [← e]
  exact hG.hd.2.2.2.1
 ·cases h

section
variable {c : PC} {w : World} {i nest bud : Nat} {vt vp : Value} {ts : List Tk} {ns : List (Nd × Nat)}
structure PR (c : PC) (w : World) (vt vp : Value) (W : World) (i' : Nat) (vt' vp' : Value) (ts' : List Tk) (nest bud' : Nat) (ns : List (Nd × Nat)) (R tR : Nat) (y : Array Value) : Prop where
 ps : PS c W i' vt' vp' ts' nest bud' ns
 gb : GB w W (d3 c.g vt vp)
 sh : ∀ x, x < w.heap.size → d3 c.g vt' vp' x → d3 c.g vt vp x
 fR : ¬ d3 c.g vt' vp' R
 res : VAt W R tR y
 lR : w.heap.size ≤ R
theorem PR.keep {W W2 : World} {i1 bud1 R tR : Nat} {vt1 vp1 : Value} {ts1 : List Tk} {y : Array Value} (h : PR c w vt vp W i1 vt1 vp1 ts1 nest bud1 ns R tR y) (G : W.grownBy W2 none) : PR c w vt vp W2 i1 vt1 vp1 ts1 nest bud1 ns R tR y :=
 { h with ps := h.ps.keep G, gb := h.gb.trans (GB.non (S := d3 c.g vt vp) G) (fun _ _ h => h), res := h.res.kept G }
theorem PR.step {W W2 : World} {i1 bud1 bud2 R tR : Nat} {vt1 vp1 : Value} {ts1 ts2 : List Tk} {y : Array Value} {ns2 : List (Nd × Nat)} (h : PR c w vt vp W i1 vt1 vp1 ts1 nest bud1 ns R tR y) (r : Ret c W vt1 vp1 ts2 nest bud2 ns2 W2) : ∃ i2 vt2 vp2, PR c w vt vp W2 i2 vt2 vp2 ts2 nest bud2 ns2 R tR y := by
 obtain ⟨i2, vt2, vp2, p, g, f⟩ := r
 exact ⟨i2, vt2, vp2, p, h.gb.trans g h.sh, fun x hx k => h.sh x hx (f x (Nat.lt_of_lt_of_le hx h.gb.size) k), fun e => h.fR (f R h.res.lt e), g.vat h.res h.fR, h.lR⟩
theorem PR.err {W W2 : World} {i1 bud1 R tR : Nat} {vt1 vp1 : Value} {ts1 : List Tk} {y : Array Value} (h : PR c w vt vp W i1 vt1 vp1 ts1 nest bud1 ns R tR y) (g : GB W W2 (d3 c.g vt1 vp1)) : GB w W2 (d3 c.g vt vp) := h.gb.trans g h.sh
theorem PR.setR {i0 nest0 bud0 : Nat} {ts0 : List Tk} {ns0 : List (Nd × Nat)} {W : World} {i1 bud1 R tR : Nat} {vt1 vp1 : Value} {ts1 : List Tk} {y : Array Value} (hw : PS c w i0 vt vp ts0 nest0 bud0 ns0) (h : PR c w vt vp W i1 vt1 vp1 ts1 nest bud1 ns R tR y) (y2 : Array Value) : PR c w vt vp (W.setRow R y2) i1 vt1 vp1 ts1 nest bud1 ns R tR y2 :=
 { h with
  ps := h.ps.away (j7 (World.grownBy.refl W (some R)) R _ (.inl rfl)) h.fR (fun e => by have := (hw.toks.lt R e).2; have := h.lR; omega) (Nat.le_trans hw.grown.size h.lR)
  gb := h.gb.trans (GB.of (S := fun z => z = R) (j7 (World.grownBy.refl W (some R)) R _ (.inl rfl)) (fun z hz => by cases hz; rfl)) (fun z hz e => by have := h.lR; omega)
  res := h.res.setRow _ }
theorem PR.ret {W : World} {i1 bud1 R tR : Nat} {vt1 vp1 : Value} {ts1 : List Tk} {y : Array Value} (h : PR c w vt vp W i1 vt1 vp1 ts1 nest bud1 ns R tR y) : Ret c w vt vp ts1 nest bud1 ns W := ⟨i1, vt1, vp1, h.ps, h.gb, h.sh⟩
theorem PR.add {W : World} {i1 bud1 R tR : Nat} {vt1 vp1 : Value} {ts1 : List Tk} {y : Array Value} (h : PR c w vt vp W i1 vt1 vp1 ts1 nest bud1 ns R tR y) (tV : Nat) (x : Array Value) : PW c w vt vp (W.alloc (.cells x tV)) i1 vt1 vp1 ts1 nest bud1 ns R W.heap.size tR tV y x :=
 have K := World.grownBy_alloc W (.cells x tV) none
 ⟨h.ps.keep K, h.gb.trans (GB.non (S := d3 c.g vt vp) K) (fun _ _ h => h), h.sh, h.ps.not_foot (Nat.le_refl _), h.fR, VAt.alloc W tV x, h.res.kept K, h.gb.size, h.lR, fun e => by have := h.res.lt; omega⟩
theorem a0S (h : PS c w i vt vp ts nest bud ns) :
  Calls Tryz.prog 118 #[.pointer (some ⟨c.g, 0, none⟩)] w (M6 c w vt vp nest (bud + 1) ns (fun x : Nd => .agg x.cells.toArray) (z7 (p8 ts) (o9 ts))) := by
 have HP : Hid (PS c w i vt vp ts nest bud ns) := h
 obtain ⟨ans, hans⟩ : ∃ a, z7 (p8 ts) (o9 ts) = a := ⟨_, rfl⟩
 have HANS : Hid (z7 (p8 ts) (o9 ts) = ans) := hans
 rw [hans]
 have K1 := World.grownBy_alloc w (.cells nd0.cells.toArray 54) none
 have RA := VAt.alloc w 54 nd0.cells.toArray
 clear h hans
 go_enter Tryz.func118, Tryz.ntmps118
 go_upto_region 1 with fail
 rw [← a2F]
 have Q1 : PR c w vt vp (w.alloc (.cells nd0.cells.toArray 54)) i vt vp ts nest bud ns w.heap.size 54 nd0.cells.toArray := ⟨HP.out.keep K1, GB.non K1, fun _ _ h => h, HP.out.not_foot (Nat.le_refl _), RA, Nat.le_refl _⟩
 generalize w.alloc (.cells nd0.cells.toArray 54) = w1 at *
 have HLR : Hid (w.heap.size ≤ w.heap.size) := Nat.le_refl _
 obtain ⟨R, hR⟩ : ∃ R, w.heap.size = R := ⟨_, rfl⟩
 have HR2 : Hid (w.heap.size ≤ R) := Nat.le_of_eq hR
 rw [hR] at Q1 ⊢
 clear hR HLR K1 RA
 have CS := a36 Q1.ps
 generalize p8 ts = sd at *
 generalize o9 ts = r0 at *
 go_wp2_with fail
 refine CS.mono ?_
 rintro e w2 ⟨rfl, R2⟩
 obtain ⟨i2, vt2, vp2, Q2⟩ := Q1.step R2
 clear CS Q1 R2
 have C1 := a0v Q2.ps p9 (T5 (by decide))
 cases hb : isB r0 p9 with
 | true =>
  rw [hb] at C1
  have HA2 : Hid (d8 (L0 r0.tail) (fun p => .ok (a1g sd p.1.1 p.1.2, p.2)) = ans) := by
   show _ = ans
   rw [← HANS.out, z7, if_pos hb]
  clear hb HANS
  go_wp2_with fail
  refine C1.mono ?_
  rintro e w3 ⟨rfl, R3⟩
  obtain ⟨i3, vt3, vp3, Q3⟩ := Q2.step R3
  clear C1 Q2 R3
  have C2 := a3m (Q3.ps.less (Nat.le_succ bud))
  have HLEN : Hid (∀ p r, L0 r0.tail = .ok (p, r) → p.2.length = 16) := fun p r hp => a3k (of := p.1) (a := p.2) hp
  generalize L0 r0.tail = ar at *
  go_wp2_with fail
  refine C2.mono ?_
  clear C2
  cases ar with
  | error er =>
   have HA3 : Hid (ans = .error er) := HA2.out.symm
   rintro e w4 ⟨rfl, G⟩
   go_wp2
   refine ⟨rfl, ?_⟩
   rw [HA3.out]
   exact ⟨rfl, Q3.err G⟩
  | ok v =>
   obtain ⟨⟨of, a⟩, r4⟩ := v
   have HA3 : Hid (ans = .ok (a1g sd of a, r4)) := HA2.out.symm
   have hal : a.length = 16 := HLEN.out _ _ rfl
   rintro e w4 ⟨rfl, R4⟩
   obtain ⟨i4, vt4, vp4, Q4⟩ := Q3.step R4
   clear Q3 R4 HLEN HA2
   unfold adV
   simp only
   have Q5 := Q4.add 52 (a.map bv).toArray
   have VZ := VAt.alloc w4 52 #[.int .u8 0, .int .u8 0, .int .u8 0, .int .u8 0, .int .u8 0, .int .u8 0, .int .u8 0, .int .u8 0, .int .u8 0, .int .u8 0, .int .u8 0, .int .u8 0, .int .u8 0, .int .u8 0, .int .u8 0, .int .u8 0]
   have HSZ : Hid ((Tryz.prog.info? 52).map (·.size) = some (a.map bv).toArray.size ∧ (#[.int .u8 0, .int .u8 0, .int .u8 0, .int .u8 0, .int .u8 0, .int .u8 0, .int .u8 0, .int .u8 0, .int .u8 0, .int .u8 0, .int .u8 0, .int .u8 0, .int .u8 0, .int .u8 0, .int .u8 0, .int .u8 0] : Array Value).size = (a.map bv).toArray.size ∧ (a.map bv).toArray.all (·.oneCell') = true) := by
    refine ⟨?_, ?_, I1 _⟩
    ·rw [A5, hal]; exact E7
    ·rw [A5, hal]; rfl
   go_upto_region 4 with (refine wpList_store_row rfl 52 (.tmp 5) (.tmp 21) rfl w4.heap.size (a.map bv).toArray rfl rfl 52 _ VZ HSZ.out.1 HSZ.out.2.1 HSZ.out.2.2 ?_)
   rw [World.setRow_alloc_new]
   generalize w4.alloc (.cells (a.map bv).toArray 52) = w5 at *
   generalize w4.heap.size = V at *
   clear VZ Q4
   have VA := Q5.var
   have RA := Q5.res
   have HB := a6q sd of a hal
   obtain ⟨X, hX⟩ : ∃ X, a1g sd of a = X := ⟨_, rfl⟩
   rw [hX] at HB HA3
   clear hX
   have HQ : Hid (PW c w vt vp (w5.setRow R X.cells.toArray) i4 vt4 vp4 r4 nest (bud + 1) ns R V 54 52 X.cells.toArray (a.map bv).toArray) := PW.setR HP.out Q5 X.cells.toArray
   clear Q5
   go_wp2_with (first
    | refine wpList_load_row rfl 52 (.tmp 5) rfl V rfl 52 (a.map bv).toArray (0, 0) _ VA Tryz.underlying52 rfl HSZ.out.1 ?_
    | refine ai5 rfl 54 _ rfl #[(0, .int .i64 14), (5, .int .i64 (of : Int)), (6, .int .i64 (sd : Int)), (7, .agg (a.map bv).toArray)] (by kernel_rfl) X.cells.toArray HB ?_
    | refine wpList_store_row rfl 54 (.tmp 2) (.tmp 25) rfl R X.cells.toArray rfl rfl 54 _ RA (T3 _) rfl (a0z _) ?_)
   refine bodyPost_ret (N8 rfl _ _ R _ _ rfl (RA.setRow _) Tryz.underlying54 rfl (T3 _)) rfl ?_
   rw [HA3.out]
   exact ⟨rfl, HQ.out.ret⟩
 | false =>
  rw [hb] at C1
  have HA1 : Hid (¬ isB r0 p9 = true) := by show ¬ _; rw [hb]; simp
  clear hb
  go_wp2_with fail
  refine C1.mono ?_
  rintro e w3 ⟨rfl, hG⟩
  have G3 : w2.grownBy w3 none := hG
  have Q3 := Q2.keep G3
  clear C1 Q2 hG G3
  have C2 := a0v Q3.ps C9 (T5 (by decide))
  cases hb : isB r0 C9 with
  | true =>
   rw [hb] at C2
   have HA2 : Hid (d8 (L0 r0.tail) (fun p => d8 (l5 [47] p.2) fun r => d8 (j8 r) fun q => .ok (a1o sd p.1.1 p.1.2 q.1, q.2)) = ans) := by
    show _ = ans
    rw [← HANS.out, z7, if_neg HA1.out, if_pos hb]
   clear hb HANS HA1
   go_wp2_with fail
   refine C2.mono ?_
   rintro e w4 ⟨rfl, R4⟩
   obtain ⟨i4, vt4, vp4, Q4⟩ := Q3.step R4
   clear C2 Q3 R4
   have C3 := a3m (Q4.ps.less (Nat.le_succ bud))
   have HLEN : Hid (∀ p r, L0 r0.tail = .ok (p, r) → p.2.length = 16) := fun p r hp => a3k (of := p.1) (a := p.2) hp
   generalize L0 r0.tail = ar at *
   go_wp2_with fail
   refine C3.mono ?_
   clear C3
   cases ar with
   | error er =>
    have HA3 : Hid (ans = .error er) := HA2.out.symm
    rintro e w5 ⟨rfl, G⟩
    go_wp2
    refine ⟨rfl, ?_⟩
    rw [HA3.out]
    exact ⟨rfl, Q4.err G⟩
   | ok v =>
    obtain ⟨⟨of, a⟩, r5⟩ := v
    have hal : a.length = 16 := HLEN.out _ _ rfl
    rw [q9] at HA2
    simp only at HA2
    rintro e w5 ⟨rfl, R5⟩
    obtain ⟨i5, vt5, vp5, Q5⟩ := Q4.step R5
    clear Q4 R5 HLEN
    unfold adV
    simp only
    have Q6 := Q5.add 52 (a.map bv).toArray
    have VZ := VAt.alloc w5 52 #[.int .u8 0, .int .u8 0, .int .u8 0, .int .u8 0, .int .u8 0, .int .u8 0, .int .u8 0, .int .u8 0, .int .u8 0, .int .u8 0, .int .u8 0, .int .u8 0, .int .u8 0, .int .u8 0, .int .u8 0, .int .u8 0]
    have HSZ : Hid ((Tryz.prog.info? 52).map (·.size) = some (a.map bv).toArray.size ∧ (#[.int .u8 0, .int .u8 0, .int .u8 0, .int .u8 0, .int .u8 0, .int .u8 0, .int .u8 0, .int .u8 0, .int .u8 0, .int .u8 0, .int .u8 0, .int .u8 0, .int .u8 0, .int .u8 0, .int .u8 0, .int .u8 0] : Array Value).size = (a.map bv).toArray.size ∧ (a.map bv).toArray.all (·.oneCell') = true) := by
     refine ⟨?_, ?_, I1 _⟩
     ·rw [A5, hal]; exact E7
     ·rw [A5, hal]; rfl
    go_upto_region 7 with (refine wpList_store_row rfl 52 (.tmp 7) (.tmp 37) rfl w5.heap.size (a.map bv).toArray rfl rfl 52 _ VZ HSZ.out.1 HSZ.out.2.1 HSZ.out.2.2 ?_)
    rw [World.setRow_alloc_new]
    generalize w5.alloc (.cells (a.map bv).toArray 52) = w6 at *
    generalize w5.heap.size = V at *
    clear VZ Q5
    have C4 := a0k (Q6.ps.less (Nat.le_succ bud)) [47] (s7 (by decide) (by kernel_rfl))
    generalize l5 [47] r5 = mr at *
    go_wp2_with fail
    refine C4.mono ?_
    clear C4
    cases mr with
    | error er =>
     have HA3 : Hid (ans = .error er) := HA2.out.symm
     rintro e w7 ⟨rfl, G⟩
     go_wp2
     refine ⟨rfl, ?_⟩
     rw [HA3.out]
     exact ⟨rfl, Q6.err G⟩
    | ok r7 =>
     rintro e w7 ⟨rfl, R7⟩
     obtain ⟨i7, vt7, vp7, Q7⟩ := Q6.step R7
     rw [q9] at HA2
     have HC5 : Hid (Calls Tryz.prog 114 #[.pointer (some ⟨c.g, 0, none⟩)] w7.drew (M6 c w7.drew vt7 vp7 nest (bud + 1) ns (fun n : Nat => .int .u32 (n : Int)) (j8 r7))) := a0s ((Q7.keep (f8 w7 1 none)).ps.less (Nat.le_succ bud))
     have HQ7 : Hid (PW c w vt vp w7.drew i7 vt7 vp7 r7 nest (bud + 1) ns R V 54 52 nd0.cells.toArray (a.map bv).toArray) := Q7.keep (f8 w7 1 none)
     have HNM : Hid (∀ m r, j8 r7 = .ok (m, r) → m ≤ 4294967295) := fun m r hr => a4J Q7.ps.good hr
     clear Q6 R7 Q7
     generalize j8 r7 = nr at *
     go_upto_region 8 with fail
     refine wp_region_held_drew (S := fun W => VAt W V 52 (a.map bv).toArray) (by kernel_rfl) HQ7.out.var (fun hHeld => ?_)
     refine wpT (i := 0) (v := .int .i64 (of : Int)) rfl (Or.inl ⟨by rfl, fun W hW => ?_⟩) hHeld ?_
     ·clear hW
      go_simp
     try simp only [Act.put, a0, a1, a3, a4, a5]
     refine wpT (i := 1) (v := .int .i64 (sd : Int)) rfl (Or.inl ⟨by rfl, fun W hW => ?_⟩) hHeld ?_
     ·clear hW
      go_simp
     try simp only [Act.put, a0, a1, a2, a3, a4, a5]
     refine wpT (i := 2) (v := .agg (a.map bv).toArray) rfl (E8 (by rfl) _ _ rfl V rfl 52 (a.map bv).toArray _ (fun W hW => hW) Tryz.underlying52 rfl HSZ.out.1) hHeld ?_
     try simp only [Act.put, a0, a1, a2, a3, a4, a5]
     refine wpT (i := 3) (v := .pointer (some ⟨c.g, 0, none⟩)) rfl (Or.inl ⟨by rfl, fun W hW => ?_⟩) hHeld ?_
     ·clear hW
      go_simp
     try simp only [Act.put, a0, a1, a2, a3, a4, a5]
     refine wpT (i := 4) (v := .pointer (some ⟨c.g, 0, none⟩)) rfl (Or.inl ⟨by rfl, fun W hW => ?_⟩) hHeld ?_
     ·clear hW
      go_simp
     try simp only [Act.put, a0, a1, a2, a3, a4, a5]
     refine wpT (i := 5) (v := .pointer (some ⟨c.g, 0, none⟩)) rfl (Or.inl ⟨by rfl, fun W hW => ?_⟩) hHeld ?_
     ·clear hW
      go_simp
     try simp only [Act.put, a0, a1, a2, a3, a4, a5]
     refine wpR (rs := [6]) (AllReadyH.cons rfl (fun K hK => ?_) AllReadyH.nil)
     go_simp
     refine HC5.out.mono ?_
     clear HC5
     cases nr with
     | error er =>
      have HA3 : Hid (ans = .error er) := HA2.out.symm
      rintro e w8 ⟨rfl, G⟩
      go_wp2
      refine ⟨rfl, ?_⟩
      rw [HA3.out]
      exact ⟨rfl, HQ7.out.err G⟩
     | ok v =>
      obtain ⟨m, r8⟩ := v
      have HA3 : Hid (ans = .ok (a1o sd of a m, r8)) := HA2.out.symm
      rintro e w8 ⟨rfl, R8⟩
      have hm : m ≤ 4294967295 := HNM.out _ _ rfl
      obtain ⟨i8, vt8, vp8, Q8⟩ := HQ7.out.step R8
      go_wp2_with fail
      refine hK.out _ _ Q8.var (fun hHeld => ?_)
      clear hK K
      try simp only [Act.put, a0, a1, a2, a3, a4, a5]
      have hw : IntKind.i64.wrap (m : Int) = (m : Int) := by rw [IntKind.wrap_i64]; omega
      refine wpT (i := 7) (v := .int .i64 (m : Int)) rfl (Or.inl ⟨by rfl, fun W hW => ?_⟩) hHeld ?_
      ·clear hW
       go_simp
      try simp only [Act.put, a0, a1, a2, a3, a4, a5]
      have HB := a6s sd of m a hal
      obtain ⟨X, hX⟩ : ∃ X, a1o sd of a m = X := ⟨_, rfl⟩
      rw [hX] at HB HA3
      clear hX
      refine wpT (i := 8) (v := .agg X.cells.toArray) rfl (Or.inl ⟨by rfl, fun W hW => ?_⟩) hHeld ?_
      ·clear hW
       simp [execOp, Act.eval, HB]
      try simp only [Act.put, a0, a1, a2, a3, a4, a5]
      refine wpR (rs := [9]) (AllReadyH.cons rfl (fun K hK => ?_) AllReadyH.nil)
      have RA := Q8.res
      have HQ := PW.setR HP.out Q8 X.cells.toArray
      refine a39 (by rfl) 54 (.tmp 2) (.tmp 50) (by rfl) R X.cells.toArray (by rfl) (by rfl) 54 _ RA (T3 _) rfl (a0z _) ?_
      refine hK.out _ _ HQ.var (fun hHeld => ?_)
      refine wpAnyH_done (by kernel_rfl) ?_ _
      clear hK K hHeld
      go_wp2
      refine bodyPost_ret (N8 rfl _ _ R _ _ rfl (RA.setRow _) Tryz.underlying54 rfl (T3 _)) rfl ?_
      rw [HA3.out]
      exact ⟨rfl, HQ.ret⟩
  | false =>
   rw [hb] at C2
   have HA2 : Hid (J8 0 sd r0 = ans) := by
    show _ = ans
    rw [← HANS.out, z7, if_neg HA1.out, if_neg (by rw [hb]; simp)]
   clear hb HANS HA1
   go_wp2_with fail
   refine C2.mono ?_
   rintro e w4 ⟨rfl, hG⟩
   have G4 : w3.grownBy w4 none := hG
   have Q4 := Q3.keep G4
   clear C2 Q3 hG G4
   have C3 := a2S Q4.ps 0 sd
   generalize J8 0 sd r0 = pr at *
   have ha : pr = ans := HA2.out
   have HA3 : Hid (pr = ans) := ha
   clear HA2 ha
   go_wp2_with fail
   refine C3.mono ?_
   clear C3
   cases pr with
   | error er =>
    rintro e w5 ⟨rfl, G⟩
    go_wp2
    refine ⟨rfl, ?_⟩
    rw [← HA3.out]
    exact ⟨rfl, Q4.err G⟩
   | ok v =>
    obtain ⟨X, r5⟩ := v
    rintro e w5 ⟨rfl, R5⟩
    obtain ⟨i5, vt5, vp5, Q5⟩ := Q4.step R5
    have RA := Q5.res
    have HQ : Hid (PR c w vt vp (w5.setRow R X.cells.toArray) i5 vt5 vp5 r5 nest (bud + 1) ns R 54 X.cells.toArray) := PR.setR HP.out Q5 X.cells.toArray
    clear Q4 R5 Q5
    go_wp2_with (refine wpList_store_row rfl 54 (.tmp 2) (.tmp 53) rfl R X.cells.toArray rfl rfl 54 _ RA (T3 _) rfl (a0z _) ?_)
    refine bodyPost_ret (N8 rfl _ _ R _ _ rfl (RA.setRow _) Tryz.underlying54 rfl (T3 _)) rfl ?_
    rw [← HA3.out]
    exact ⟨rfl, HQ.out.ret⟩

end
theorem T0 (x : List UInt8) (w : World) : Calls Tryz.prog 124 #[str x] w fun e w' => e = .returned (.int .i64 (l9 x : Int)) ∧ w = w' := by
 obtain ⟨n, hn⟩ : ∃ n, l9 x = n := ⟨_, rfl⟩
 have HN : Hid (l9 x = n) := hn
 rw [hn]
 clear hn
 by_cases h0 : x = [112, 112, 112]
 ·have e0 : (x == [112, 112, 112]) = true := by simpa using h0
  have HV : Hid (n = 1) := by show n = _; rw [← HN.out, h0]; rfl
  clear h0 HN
  go_enter Tryz.func124, Tryz.ntmps124
  go_wp2
  go_ret
  exact ⟨by rw [HV.out]; rfl, rfl⟩
 have e0 : (x == [112, 112, 112]) = false := by simpa using h0
 by_cases h1 : x = [105, 112]
 ·have e1 : (x == [105, 112]) = true := by simpa using h1
  have HV : Hid (n = 2) := by show n = _; rw [← HN.out, h1]; rfl
  clear h0 h1 HN
  go_enter Tryz.func124, Tryz.ntmps124
  go_wp2
  go_ret
  exact ⟨by rw [HV.out]; rfl, rfl⟩
 have e1 : (x == [105, 112]) = false := by simpa using h1
 by_cases h2 : x = [105, 112, 54]
 ·have e2 : (x == [105, 112, 54]) = true := by simpa using h2
  have HV : Hid (n = 3) := by show n = _; rw [← HN.out, h2]; rfl
  clear h0 h1 h2 HN
  go_enter Tryz.func124, Tryz.ntmps124
  go_wp2
  go_ret
  exact ⟨by rw [HV.out]; rfl, rfl⟩
 have e2 : (x == [105, 112, 54]) = false := by simpa using h2
 by_cases h3 : x = [116, 99, 112]
 ·have e3 : (x == [116, 99, 112]) = true := by simpa using h3
  have HV : Hid (n = 4) := by show n = _; rw [← HN.out, h3]; rfl
  clear h0 h1 h2 h3 HN
  go_enter Tryz.func124, Tryz.ntmps124
  go_wp2
  go_ret
  exact ⟨by rw [HV.out]; rfl, rfl⟩
 have e3 : (x == [116, 99, 112]) = false := by simpa using h3
 by_cases h4 : x = [117, 100, 112]
 ·have e4 : (x == [117, 100, 112]) = true := by simpa using h4
  have HV : Hid (n = 5) := by show n = _; rw [← HN.out, h4]; rfl
  clear h0 h1 h2 h3 h4 HN
  go_enter Tryz.func124, Tryz.ntmps124
  go_wp2
  go_ret
  exact ⟨by rw [HV.out]; rfl, rfl⟩
 have e4 : (x == [117, 100, 112]) = false := by simpa using h4
 by_cases h5 : x = [105, 99, 109, 112]
 ·have e5 : (x == [105, 99, 109, 112]) = true := by simpa using h5
  have HV : Hid (n = 6) := by show n = _; rw [← HN.out, h5]; rfl
  clear h0 h1 h2 h3 h4 h5 HN
  go_enter Tryz.func124, Tryz.ntmps124
  go_wp2
  go_ret
  exact ⟨by rw [HV.out]; rfl, rfl⟩
 have e5 : (x == [105, 99, 109, 112]) = false := by simpa using h5
 by_cases h6 : x = [105, 99, 109, 112, 54]
 ·have e6 : (x == [105, 99, 109, 112, 54]) = true := by simpa using h6
  have HV : Hid (n = 7) := by show n = _; rw [← HN.out, h6]; rfl
  clear h0 h1 h2 h3 h4 h5 h6 HN
  go_enter Tryz.func124, Tryz.ntmps124
  go_wp2
  go_ret
  exact ⟨by rw [HV.out]; rfl, rfl⟩
 have e6 : (x == [105, 99, 109, 112, 54]) = false := by simpa using h6
 by_cases h7 : x = [108, 99, 112]
 ·have e7 : (x == [108, 99, 112]) = true := by simpa using h7
  have HV : Hid (n = 8) := by show n = _; rw [← HN.out, h7]; rfl
  clear h0 h1 h2 h3 h4 h5 h6 h7 HN
  go_enter Tryz.func124, Tryz.ntmps124
  go_wp2
  go_ret
  exact ⟨by rw [HV.out]; rfl, rfl⟩
 have e7 : (x == [108, 99, 112]) = false := by simpa using h7
 by_cases h8 : x = [112, 97, 112]
 ·have e8 : (x == [112, 97, 112]) = true := by simpa using h8
  have HV : Hid (n = 9) := by show n = _; rw [← HN.out, h8]; rfl
  clear h0 h1 h2 h3 h4 h5 h6 h7 h8 HN
  go_enter Tryz.func124, Tryz.ntmps124
  go_wp2
  go_ret
  exact ⟨by rw [HV.out]; rfl, rfl⟩
 have e8 : (x == [112, 97, 112]) = false := by simpa using h8
 by_cases h9 : x = [99, 104, 97, 112]
 ·have e9 : (x == [99, 104, 97, 112]) = true := by simpa using h9
  have HV : Hid (n = 10) := by show n = _; rw [← HN.out, h9]; rfl
  clear h0 h1 h2 h3 h4 h5 h6 h7 h8 h9 HN
  go_enter Tryz.func124, Tryz.ntmps124
  go_wp2
  go_ret
  exact ⟨by rw [HV.out]; rfl, rfl⟩
 have e9 : (x == [99, 104, 97, 112]) = false := by simpa using h9
 by_cases h10 : x = [105, 112, 99, 112]
 ·have e10 : (x == [105, 112, 99, 112]) = true := by simpa using h10
  have HV : Hid (n = 11) := by show n = _; rw [← HN.out, h10]; rfl
  clear h0 h1 h2 h3 h4 h5 h6 h7 h8 h9 h10 HN
  go_enter Tryz.func124, Tryz.ntmps124
  go_wp2
  go_ret
  exact ⟨by rw [HV.out]; rfl, rfl⟩
 have e10 : (x == [105, 112, 99, 112]) = false := by simpa using h10
 by_cases h11 : x = [105, 112, 54, 99, 112]
 ·have e11 : (x == [105, 112, 54, 99, 112]) = true := by simpa using h11
  have HV : Hid (n = 12) := by show n = _; rw [← HN.out, h11]; rfl
  clear h0 h1 h2 h3 h4 h5 h6 h7 h8 h9 h10 h11 HN
  go_enter Tryz.func124, Tryz.ntmps124
  go_wp2
  go_ret
  exact ⟨by rw [HV.out]; rfl, rfl⟩
 have e11 : (x == [105, 112, 54, 99, 112]) = false := by simpa using h11
 by_cases h12 : x = [109, 112]
 ·have e12 : (x == [109, 112]) = true := by simpa using h12
  have HV : Hid (n = 13) := by show n = _; rw [← HN.out, h12]; rfl
  clear h0 h1 h2 h3 h4 h5 h6 h7 h8 h9 h10 h11 h12 HN
  go_enter Tryz.func124, Tryz.ntmps124
  go_wp2
  go_ret
  exact ⟨by rw [HV.out]; rfl, rfl⟩
 have e12 : (x == [109, 112]) = false := by simpa using h12
 have HV : Hid (n = 0) := by
  show n = 0
  rw [← HN.out]
  unfold l9
  rw [if_neg h0, if_neg h1, if_neg h2, if_neg h3, if_neg h4, if_neg h5, if_neg h6, if_neg h7, if_neg h8, if_neg h9, if_neg h10, if_neg h11, if_neg h12]
 clear h0 h1 h2 h3 h4 h5 h6 h7 h8 h9 h10 h11 h12 HN
 go_enter Tryz.func124, Tryz.ntmps124
 go_wp2
 go_ret
 exact ⟨by rw [HV.out]; rfl, rfl⟩
def U7 (rec : Nat → List Tk → Out) (nest : Nat) (ts : List Tk) : Except Er ((List (Nd × Nat) × Nat) × List Tk) := d8 (rec nest ts) fun p => d8 (O6 p.2) fun q => .ok ((p.1, q.1), q.2)
def U4 (c : PC) (rec : Nat → List Tk → Out) : Prop := ∀ (W : World) (i : Nat) (vt vp : Value) (ts : List Tk) (nest bud : Nat) (ns : List (Nd × Nat)), PS c W i vt vp ts nest bud ns → rec nest ts ≠ .error exP → Calls Tryz.prog 17 #[.pointer (some ⟨c.g, 0, none⟩)] W (l6 c W vt vp nest bud ns (rec nest ts))

section
variable {c : PC} {w : World} {i nest bud : Nat} {vt vp : Value} {ts : List Tk} {ns : List (Nd × Nat)}
structure PX (c : PC) (w : World) (vt vp : Value) (W : World) (i' : Nat) (vt' vp' : Value) (ts' : List Tk) (nest bud' : Nat) (ns : List (Nd × Nat)) (bp bz tz : Nat) (z : Array Value) : Prop where
 ps : PS c W i' vt' vp' ts' nest bud' ns
 gb : GB w W (fun x => d3 c.g vt vp x ∨ x = bz)
 sh : ∀ x, x < w.heap.size → d3 c.g vt' vp' x → d3 c.g vt vp x
 fp : ¬ d3 c.g vt' vp' bp
 fz : ¬ d3 c.g vt' vp' bz
 par : VAt W bp 65 #[.pointer (some ⟨c.g, 0, none⟩)]
 own : VAt W bz tz z
 ne : bp ≠ bz
theorem PX.keep {W W2 : World} {i1 bud1 bp bz tz : Nat} {vt1 vp1 : Value} {ts1 : List Tk} {z : Array Value} (h : PX c w vt vp W i1 vt1 vp1 ts1 nest bud1 ns bp bz tz z) (G : W.grownBy W2 none) : PX c w vt vp W2 i1 vt1 vp1 ts1 nest bud1 ns bp bz tz z :=
 { h with ps := h.ps.keep G, gb := h.gb.trans (GB.non (S := fun x => d3 c.g vt vp x ∨ x = bz) G) (fun _ _ h => h), par := h.par.kept G, own := h.own.kept G }
theorem PX.less {W : World} {i1 bud1 b bp bz tz : Nat} {vt1 vp1 : Value} {ts1 : List Tk} {z : Array Value} (h : PX c w vt vp W i1 vt1 vp1 ts1 nest bud1 ns bp bz tz z) (hb : b ≤ bud1) : PX c w vt vp W i1 vt1 vp1 ts1 nest b ns bp bz tz z := { h with ps := h.ps.less hb }
theorem PX.step {W W2 : World} {i1 bud1 bud2 bp bz tz : Nat} {vt1 vp1 : Value} {ts1 ts2 : List Tk} {z : Array Value} {ns2 : List (Nd × Nat)} (h : PX c w vt vp W i1 vt1 vp1 ts1 nest bud1 ns bp bz tz z) (r : Ret c W vt1 vp1 ts2 nest bud2 ns2 W2) : ∃ i2 vt2 vp2, PX c w vt vp W2 i2 vt2 vp2 ts2 nest bud2 ns2 bp bz tz z := by
 obtain ⟨i2, vt2, vp2, p, g, f⟩ := r
 exact ⟨i2, vt2, vp2, p, h.gb.trans g (fun x hx k => .inl (h.sh x hx k)), fun x hx k => h.sh x hx (f x (Nat.lt_of_lt_of_le hx h.gb.size) k), fun e => h.fp (f bp h.par.lt e), fun e => h.fz (f bz h.own.lt e), g.vat h.par h.fp, g.vat h.own h.fz, h.ne⟩
theorem PX.err {W W2 : World} {i1 bud1 bp bz tz : Nat} {vt1 vp1 : Value} {ts1 : List Tk} {z : Array Value} (h : PX c w vt vp W i1 vt1 vp1 ts1 nest bud1 ns bp bz tz z) (g : GB W W2 (d3 c.g vt1 vp1)) : GB w W2 (fun x => d3 c.g vt vp x ∨ x = bz) := h.gb.trans g (fun x hx k => .inl (h.sh x hx k))
theorem PX.set {W : World} {i1 bud1 bp bz tz : Nat} {vt1 vp1 : Value} {ts1 : List Tk} {z z2 : Array Value} (h : PX c w vt vp W i1 vt1 vp1 ts1 nest bud1 ns bp bz tz z) (v : Value) (e : z.setIfInBounds 0 v = z2) (hT : tz ≠ 42) (h0 : c.w0.heap.size ≤ bz) : PX c w vt vp (W.setCell ⟨bz, 0, none⟩ v) i1 vt1 vp1 ts1 nest bud1 ns bp bz tz z2 :=
 { h with
  ps := h.ps.away (D3 W bz 0 v) h.fz (J0 h.ps.toks h.own (fun e => hT e.symm)) h0
  gb := h.gb.trans (GB.of (S := fun x => x = bz) (D3 W bz 0 v) (fun x hx => by cases hx; rfl)) (fun x hx e => .inr e)
  par := h.par.setOther v h.ne
  own := by have := h.own.set 0 v; rw [e] at this; exact this }
theorem a7D (rec : Nat → List Tk → Out) (HO : U4 c rec) (bp bz : Nat) (h : PS c w i vt vp ts nest bud ns) (fp : ¬ d3 c.g vt vp bp) (fz : ¬ d3 c.g vt vp bz) (hp : VAt w bp 65 #[.pointer (some ⟨c.g, 0, none⟩)]) (hz : VAt w bz 3 #[.int .i64 1]) (hne : bp ≠ bz) (h0 : c.w0.heap.size ≤ bz) (hex : rec nest ts ≠ .error exP) :
  Calls Tryz.prog 128 #[.pointer (some ⟨bp, 0, none⟩), .pointer (some ⟨bz, 0, none⟩)] w (U5 c w vt vp (fun x => x = bz) nest bud ns (fun _ => .tuple #[]) Prod.fst (fun (v : List (Nd × Nat) × Nat) W => VAt W bp 65 #[.pointer (some ⟨c.g, 0, none⟩)] ∧ VAt W bz 3 #[.int .i64 (v.2 : Int)]) (U7 rec nest ts)) := by
 have Q0 : PX c w vt vp w i vt vp ts nest bud ns bp bz 3 #[.int .i64 1] := ⟨h, GB.refl _ _, fun _ _ h => h, fp, fz, hp, hz, hne⟩
 have C0 := HO w i vt vp ts nest bud ns h hex
 have p0 : w.cell? ⟨bp, 0, none⟩ = some (.pointer (some ⟨c.g, 0, none⟩)) := hp.cell 0
 obtain ⟨ans, hans⟩ : ∃ a, U7 rec nest ts = a := ⟨_, rfl⟩
 have HA : Hid (U7 rec nest ts = ans) := hans
 rw [hans]
 unfold U7 at HA
 have HNE : Hid (bp ≠ bz ∧ c.w0.heap.size ≤ bz) := ⟨hne, h0⟩
 clear h hp hz fp fz hne h0 hex hans HO
 generalize rec nest ts = rr at *
 go_enter Tryz.func128, Tryz.ntmps128
 go_wp2_with fail
 refine C0.mono ?_
 clear C0
 cases rr with
 | error er =>
  have HA3 : Hid (ans = .error er) := HA.out.symm
  rintro e w1 ⟨rfl, G⟩
  go_wp2
  refine ⟨rfl, ?_⟩
  rw [HA3.out]
  exact ⟨rfl, Q0.err G⟩
 | ok v =>
  obtain ⟨ms, r1⟩ := v
  rintro e w1 ⟨rfl, R1⟩
  obtain ⟨i1, vt1, vp1, Q1⟩ := Q0.step R1
  clear Q0 R1 p0
  rw [q9] at HA
  simp only at HA
  have C1 := a0v Q1.ps [58] (s7 (by decide) (by kernel_rfl))
  have p1 : w1.cell? ⟨bp, 0, none⟩ = some (.pointer (some ⟨c.g, 0, none⟩)) := Q1.par.cell 0
  cases hb : isB r1 [58] with
  | true =>
   rw [hb] at C1
   have HA2 : Hid (d8 (j8 r1.tail) (fun p => d8 (l5 [93] p.2) fun r => .ok ((ms, p.1), r)) = ans) := by
    show _ = ans
    rw [← HA.out, O6, if_pos hb]
    simp only [a00, q9]
   clear hb HA
   go_wp2_with fail
   refine C1.mono ?_
   rintro e w2 ⟨rfl, R2⟩
   obtain ⟨i2, vt2, vp2, Q2⟩ := Q1.step R2
   clear C1 Q1 R2 p1
   have C2 := a0s (Q2.ps.less (Nat.le_succ bud))
   have p2 : w2.cell? ⟨bp, 0, none⟩ = some (.pointer (some ⟨c.g, 0, none⟩)) := Q2.par.cell 0
   have HNM : Hid (∀ m r, j8 r1.tail = .ok (m, r) → m ≤ 4294967295) := fun m r hr => a4J Q2.ps.good hr
   generalize j8 r1.tail = nr at *
   go_wp2_with fail
   refine C2.mono ?_
   clear C2
   cases nr with
   | error er =>
    have HA3 : Hid (ans = .error er) := HA2.out.symm
    rintro e w3 ⟨rfl, G⟩
    go_wp2
    refine ⟨rfl, ?_⟩
    rw [HA3.out]
    exact ⟨rfl, Q2.err G⟩
   | ok v =>
    obtain ⟨m, r3⟩ := v
    have hm := HNM.out m r3 rfl
    rintro e w3 ⟨rfl, R3⟩
    obtain ⟨i3, vt3, vp3, Q3⟩ := Q2.step R3
    rw [q9] at HA2
    simp only at HA2
    have hw : IntKind.i64.wrap (m : Int) = (m : Int) := by rw [IntKind.wrap_i64]; omega
    have z3 : w3.cell? ⟨bz, 0, none⟩ = some (.int .i64 1) := Q3.own.cell 0
    have z3f := Q3.own.free 0
    have Q4 := PX.set (z2 := #[.int .i64 (m : Int)]) Q3 (.int .i64 (m : Int)) rfl (by decide) HNE.out.2
    clear Q2 R3 p2 HNM Q3
    go_upto_region 3 with fail
    generalize w3.setCell ⟨bz, 0, none⟩ (.int .i64 (m : Int)) = w4 at *
    clear z3 z3f hw
    have C4 := a0k (Q4.ps.less (Nat.le_succ bud)) [93] (s7 (by decide) (by kernel_rfl))
    have p4 : w4.cell? ⟨bp, 0, none⟩ = some (.pointer (some ⟨c.g, 0, none⟩)) := Q4.par.cell 0
    generalize l5 [93] r3 = mr at *
    go_wp2_with fail
    refine C4.mono ?_
    clear C4
    cases mr with
    | error er =>
     have HA3 : Hid (ans = .error er) := HA2.out.symm
     rintro e w5 ⟨rfl, G⟩
     go_wp2
     refine ⟨rfl, ?_⟩
     rw [HA3.out]
     exact ⟨rfl, Q4.err G⟩
    | ok r5 =>
     rintro e w5 ⟨rfl, R5⟩
     obtain ⟨i5, vt5, vp5, Q5⟩ := Q4.step R5
     have HA3 : Hid (ans = .ok ((ms, m), r5)) := HA2.out.symm
     have HQ : Hid (PX c w vt vp w5 i5 vt5 vp5 r5 nest bud (ns ++ ms) bp bz 3 #[.int .i64 (m : Int)]) := Q5.less (Nat.le_succ bud)
     clear Q4 R5 Q5 p4
     go_wp2
     go_end0
     rw [HA3.out]
     exact ⟨rfl, ⟨HQ.out.par, HQ.out.own⟩, i5, vt5, vp5, HQ.out.ps, HQ.out.gb, HQ.out.sh⟩
  | false =>
   rw [hb] at C1
   have HA2 : Hid (d8 (l5 [93] r1) (fun r => .ok ((ms, 1), r)) = ans) := by
    show _ = ans
    rw [← HA.out, O6, if_neg (by rw [hb]; simp)]
    simp only [a00, q9]
   clear hb HA
   go_wp2_with fail
   refine C1.mono ?_
   rintro e w2 ⟨rfl, hG⟩
   have G2 : w1.grownBy w2 none := hG
   have Q2 := Q1.keep G2
   clear C1 Q1 hG G2 p1
   have C4 := a0k Q2.ps [93] (s7 (by decide) (by kernel_rfl))
   have p4 : w2.cell? ⟨bp, 0, none⟩ = some (.pointer (some ⟨c.g, 0, none⟩)) := Q2.par.cell 0
   generalize l5 [93] r1 = mr at *
   go_wp2_with fail
   refine C4.mono ?_
   clear C4
   cases mr with
   | error er =>
    have HA3 : Hid (ans = .error er) := HA2.out.symm
    rintro e w5 ⟨rfl, G⟩
    go_wp2
    refine ⟨rfl, ?_⟩
    rw [HA3.out]
    exact ⟨rfl, Q2.err G⟩
   | ok r5 =>
    rintro e w5 ⟨rfl, R5⟩
    obtain ⟨i5, vt5, vp5, Q5⟩ := Q2.step R5
    have HA3 : Hid (ans = .ok ((ms, 1), r5)) := HA2.out.symm
    have HQ : Hid (PX c w vt vp w5 i5 vt5 vp5 r5 nest bud (ns ++ ms) bp bz 3 #[.int .i64 1]) := Q5.less (Nat.le_succ bud)
    clear Q2 R5 Q5 p4
    go_wp2
    go_end0
    rw [HA3.out]
    exact ⟨rfl, ⟨HQ.out.par, HQ.out.own⟩, i5, vt5, vp5, HQ.out.ps, HQ.out.gb, HQ.out.sh⟩
def a1k (of size : Nat) : Nd := { ndK 3 with of := of, size := size }
theorem a7E (of size : Nat) : (a1k of size).cells = [.int .i64 3, .int .i64 0, .int .u32 0, .int .u32 0, .int .i64 (size : Int), .int .i64 (of : Int), .int .i64 0, .int .u8 0, .int .u8 0, .int .u8 0, .int .u8 0, .int .u8 0, .int .u8 0, .int .u8 0, .int .u8 0, .int .u8 0, .int .u8 0, .int .u8 0, .int .u8 0, .int .u8 0, .int .u8 0, .int .u8 0, .int .u8 0, .int .i64 0] := by kernel_rfl

end
end Go.Proofs.YtlfmddjppejmaaaGreatDoor
