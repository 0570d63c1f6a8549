import Derived.Test.YtklipelnjgpnjaaGreatDoorNAb
import Derived.Test.YtklipelnjgpnjaaGreatDoorLotN40
import Derived.Test.YtklipelnjgpnjaaGreatDoorLotN38
set_option maxHeartbeats 64000000
set_option maxRecDepth 100000
namespace Go.Proofs.YtklipelnjgpnjaaGreatDoor
open Go.RowKit
theorem b0x {P : Program} {ops : Array Oper} {rest : List Oper} {o : Oper} {a : Act} {w : World} {Q : Exit → Act → World → Prop} (hg : o.guard = none) (t : TypeId) (parts : Array (Nat × Operand)) (ho : o.op = .build t parts) (qs : Array (Nat × Value)) (hq : parts.map (fun (i, x) => (i, a.eval x)) = qs) (X : Array Value)
  (hr : ∀ W : World, (Instr.build t qs).run P W = .ok (.agg X) W) (h : wpList P ops Q rest (a.put o.dst (.agg X)) w) : wpList P ops Q (o :: rest) a w :=
 wpList_plain hg fun _ hK => by
  have hr' := hr w
  rw [← hq] at hr'
  unfold Oper.wp execOp
  simp only [ho, Sem.run_bind, Sem.run_pure, Result.andThen_ok, hr']
  exact hK _ _ h
theorem a8Q {a : List UInt8} (h : a.length = 16) : ∃ a0 a1 a2 a3 a4 a5 a6 a7 a8 a9 b0 b1 b2 b3 b4 b5, a = [a0, a1, a2, a3, a4, a5, a6, a7, a8, a9, b0, b1, b2, b3, b4, b5] := by
 match a, h with
 | [a0, a1, a2, a3, a4, a5, a6, a7, a8, a9, b0, b1, b2, b3, b4, b5], _ => exact ⟨_, _, _, _, _, _, _, _, _, _, _, _, _, _, _, _, rfl⟩
theorem ak6 (side of : Nat) (a : List UInt8) (ha : a.length = 16) (W : World) : (Instr.build 43 #[(0, .int .i64 14), (5, .int .i64 (of : Int)), (6, .int .i64 (side : Int)), (7, .agg (a.map bv).toArray)]).run Tryz.prog W = .ok (.agg (a3y side of a).cells.toArray) W := by
 obtain ⟨a0, a1, a2, a3, a4, a5, a6, a7, a8, a9, b0, b1, b2, b3, b4, b5, rfl⟩ := a8Q ha
 kernel_rfl
theorem ak8 (side of m : Nat) (a : List UInt8) (ha : a.length = 16) (W : World) : (Instr.build 43 #[(0, .int .i64 15), (5, .int .i64 (of : Int)), (6, .int .i64 (side : Int)), (7, .agg (a.map bv).toArray), (8, .int .i64 (m : Int))]).run Tryz.prog W = .ok (.agg (a3H side of a m).cells.toArray) W := by
 obtain ⟨a0, a1, a2, a3, a4, a5, a6, a7, a8, a9, b0, b1, b2, b3, b4, b5, rfl⟩ := a8Q ha
 kernel_rfl
theorem a77 {ts r : List Tk} {of : Nat} {a : List UInt8} (h : U6 ts = .ok ((of, a), r)) : a.length = 16 := by
 unfold U6 at h
 split at h
 ·split at h
  ·rename_i x hx
   have e := (Prod.mk.inj (Prod.mk.inj (Except.ok.inj h)).1).2
   rw [← e, List.length_append, a6k hx]
   rfl
  ·cases h
 ·split at h
  ·split at h
   ·rename_i x hx
    have e := (Prod.mk.inj (Prod.mk.inj (Except.ok.inj h)).1).2
    rw [← e]
    exact a6l hx
   ·cases h
  ·cases h
theorem a99 {ts r : List Tk} {m : Nat} (hG : Z7 ts) (h : j7 ts = .ok (m, r)) : m ≤ 4294967295 := by
 unfold j7 at h
 split at h
 ·have e := (Prod.mk.inj (Except.ok.inj h)).1
  rw [← e]
  exact hG.hd.2.2.2.1
 ·cases h

section
variable {c : PC} {w : World} {i nest bud : Nat} {vt vp : Value} {ts : List Tk} {ns : List (Nd × Nat)}
structure PR (c : PC) (w : World) (vt vp : Value) (W : World) (i' : Nat) (vt' vp' : Value) (ts' : List Tk) (nest bud' : Nat) (ns : List (Nd × Nat)) (R tR : Nat) (y : Array Value) : Prop where
 ps : PS c W i' vt' vp' ts' nest bud' ns
 gb : GB w W (d4 c.g vt vp)
 sh : ∀ x, x < w.heap.size → d4 c.g vt' vp' x → d4 c.g vt vp x
 fR : ¬ d4 c.g vt' vp' R
 res : VAt W R tR y
 lR : w.heap.size ≤ R
theorem PR.keep {W W2 : World} {i1 bud1 R tR : Nat} {vt1 vp1 : Value} {ts1 : List Tk} {y : Array Value} (h : PR c w vt vp W i1 vt1 vp1 ts1 nest bud1 ns R tR y) (G : W.grownBy W2 none) : PR c w vt vp W2 i1 vt1 vp1 ts1 nest bud1 ns R tR y :=
 { h with ps := h.ps.keep G, gb := h.gb.trans (GB.non (S := d4 c.g vt vp) G) (fun _ _ h => h), res := h.res.kept G }
theorem PR.step {W W2 : World} {i1 bud1 bud2 R tR : Nat} {vt1 vp1 : Value} {ts1 ts2 : List Tk} {y : Array Value} {ns2 : List (Nd × Nat)} (h : PR c w vt vp W i1 vt1 vp1 ts1 nest bud1 ns R tR y) (r : Ret c W vt1 vp1 ts2 nest bud2 ns2 W2) : ∃ i2 vt2 vp2, PR c w vt vp W2 i2 vt2 vp2 ts2 nest bud2 ns2 R tR y := by
 obtain ⟨i2, vt2, vp2, p, g, f⟩ := r
 exact ⟨i2, vt2, vp2, p, h.gb.trans g h.sh, fun x hx k => h.sh x hx (f x (Nat.lt_of_lt_of_le hx h.gb.size) k), fun e => h.fR (f R h.res.lt e), g.vat h.res h.fR, h.lR⟩
theorem PR.err {W W2 : World} {i1 bud1 R tR : Nat} {vt1 vp1 : Value} {ts1 : List Tk} {y : Array Value} (h : PR c w vt vp W i1 vt1 vp1 ts1 nest bud1 ns R tR y) (g : GB W W2 (d4 c.g vt1 vp1)) : GB w W2 (d4 c.g vt vp) := h.gb.trans g h.sh
theorem PR.setR {i0 nest0 bud0 : Nat} {ts0 : List Tk} {ns0 : List (Nd × Nat)} {W : World} {i1 bud1 R tR : Nat} {vt1 vp1 : Value} {ts1 : List Tk} {y : Array Value} (hw : PS c w i0 vt vp ts0 nest0 bud0 ns0) (h : PR c w vt vp W i1 vt1 vp1 ts1 nest bud1 ns R tR y) (y2 : Array Value) : PR c w vt vp (W.setRow R y2) i1 vt1 vp1 ts1 nest bud1 ns R tR y2 :=
 { h with
  ps := h.ps.away (x5 (World.grownBy.refl W (some R)) R _ (.inl rfl)) h.fR (fun e => by have := (hw.toks.lt R e).2; have := h.lR; omega) (Nat.le_trans hw.grown.size h.lR)
  gb := h.gb.trans (GB.of (S := fun z => z = R) (x5 (World.grownBy.refl W (some R)) R _ (.inl rfl)) (fun z hz => by cases hz; rfl)) (fun z hz e => by have := h.lR; omega)
  res := h.res.setRow _ }
theorem PR.ret {W : World} {i1 bud1 R tR : Nat} {vt1 vp1 : Value} {ts1 : List Tk} {y : Array Value} (h : PR c w vt vp W i1 vt1 vp1 ts1 nest bud1 ns R tR y) : Ret c w vt vp ts1 nest bud1 ns W := ⟨i1, vt1, vp1, h.ps, h.gb, h.sh⟩
theorem PR.add {W : World} {i1 bud1 R tR : Nat} {vt1 vp1 : Value} {ts1 : List Tk} {y : Array Value} (h : PR c w vt vp W i1 vt1 vp1 ts1 nest bud1 ns R tR y) (tV : Nat) (x : Array Value) : PW c w vt vp (W.alloc (.cells x tV)) i1 vt1 vp1 ts1 nest bud1 ns R W.heap.size tR tV y x :=
 have K := World.grownBy_alloc W (.cells x tV) none
 ⟨h.ps.keep K, h.gb.trans (GB.non (S := d4 c.g vt vp) K) (fun _ _ h => h), h.sh, h.ps.not_foot (Nat.le_refl _), h.fR, VAt.alloc W tV x, h.res.kept K, h.gb.size, h.lR, fun e => by have := h.res.lt; omega⟩
theorem a38 (h : PS c w i vt vp ts nest bud ns) :
  Calls Tryz.prog 227 #[.pointer (some ⟨c.g, 0, none⟩)] w (Z3 c w vt vp nest (bud + 1) ns (fun x : Nd => .agg x.cells.toArray) (E4 (s0 ts) (o9 ts))) := by
 have HP : Hid (PS c w i vt vp ts nest bud ns) := h
 obtain ⟨ans, hans⟩ : ∃ a, E4 (s0 ts) (o9 ts) = a := ⟨_, rfl⟩
 have HANS : Hid (E4 (s0 ts) (o9 ts) = ans) := hans
 rw [hans]
 have K1 := World.grownBy_alloc w (.cells nd0.cells.toArray 43) none
 have RA := VAt.alloc w 43 nd0.cells.toArray
 clear h hans
 go_enter Tryz.func227, Tryz.ntmps227
 go_upto_region 1 with fail
 rw [← a6a]
 have Q1 : PR c w vt vp (w.alloc (.cells nd0.cells.toArray 43)) i vt vp ts nest bud ns w.heap.size 43 nd0.cells.toArray := ⟨HP.out.keep K1, GB.non K1, fun _ _ h => h, HP.out.not_foot (Nat.le_refl _), RA, Nat.le_refl _⟩
 generalize w.alloc (.cells nd0.cells.toArray 43) = w1 at *
 have HLR : Hid (w.heap.size ≤ w.heap.size) := Nat.le_refl _
 obtain ⟨R, hR⟩ : ∃ R, w.heap.size = R := ⟨_, rfl⟩
 have HR2 : Hid (w.heap.size ≤ R) := Nat.le_of_eq hR
 rw [hR] at Q1 ⊢
 clear hR HLR K1 RA
 have CS := a6B Q1.ps
 generalize s0 ts = sd at *
 generalize o9 ts = r0 at *
 go_wp2_with fail
 refine CS.mono ?_
 rintro e w2 ⟨rfl, R2⟩
 obtain ⟨i2, vt2, vp2, Q2⟩ := Q1.step R2
 clear CS Q1 R2
 have C1 := a2B Q2.ps a0Q (a0I (by decide))
 cases hb : isB r0 a0Q with
 | true =>
  rw [hb] at C1
  have HA2 : Hid (d6 (U6 r0.tail) (fun p => .ok (a3y sd p.1.1 p.1.2, p.2)) = ans) := by
   show _ = ans
   rw [← HANS.out, E4, if_pos hb]
  clear hb HANS
  go_wp2_with fail
  refine C1.mono ?_
  rintro e w3 ⟨rfl, R3⟩
  obtain ⟨i3, vt3, vp3, Q3⟩ := Q2.step R3
  clear C1 Q2 R3
  have C2 := a7b (Q3.ps.less (Nat.le_succ bud))
  have HLEN : Hid (∀ p r, U6 r0.tail = .ok (p, r) → p.2.length = 16) := fun p r hp => a77 (of := p.1) (a := p.2) hp
  generalize U6 r0.tail = ar at *
  go_wp2_with fail
  refine C2.mono ?_
  clear C2
  cases ar with
  | error er =>
   have HA3 : Hid (ans = .error er) := HA2.out.symm
   rintro e w4 ⟨rfl, G⟩
   go_wp2
   refine ⟨rfl, ?_⟩
   rw [HA3.out]
   exact ⟨rfl, Q3.err G⟩
  | ok v =>
   obtain ⟨⟨of, a⟩, r4⟩ := v
   have HA3 : Hid (ans = .ok (a3y sd of a, r4)) := HA2.out.symm
   have hal : a.length = 16 := HLEN.out _ _ rfl
   rintro e w4 ⟨rfl, R4⟩
   obtain ⟨i4, vt4, vp4, Q4⟩ := Q3.step R4
   clear Q3 R4 HLEN HA2
   unfold adV
   simp only
   have Q5 := Q4.add 41 (a.map bv).toArray
   have VZ := VAt.alloc w4 41 #[.int .u8 0, .int .u8 0, .int .u8 0, .int .u8 0, .int .u8 0, .int .u8 0, .int .u8 0, .int .u8 0, .int .u8 0, .int .u8 0, .int .u8 0, .int .u8 0, .int .u8 0, .int .u8 0, .int .u8 0, .int .u8 0]
   have HSZ : Hid ((Tryz.prog.info? 41).map (·.size) = some (a.map bv).toArray.size ∧ (#[.int .u8 0, .int .u8 0, .int .u8 0, .int .u8 0, .int .u8 0, .int .u8 0, .int .u8 0, .int .u8 0, .int .u8 0, .int .u8 0, .int .u8 0, .int .u8 0, .int .u8 0, .int .u8 0, .int .u8 0, .int .u8 0] : Array Value).size = (a.map bv).toArray.size ∧ (a.map bv).toArray.all (·.oneCell') = true) := by
    refine ⟨?_, ?_, a0o _⟩
    ·rw [S2, hal]; exact T5
    ·rw [S2, hal]; rfl
   go_upto_region 4 with (refine wpList_store_row rfl 41 (.tmp 5) (.tmp 21) rfl w4.heap.size (a.map bv).toArray rfl rfl 41 _ VZ HSZ.out.1 HSZ.out.2.1 HSZ.out.2.2 ?_)
   rw [World.setRow_alloc_new]
   generalize w4.alloc (.cells (a.map bv).toArray 41) = w5 at *
   generalize w4.heap.size = V at *
   clear VZ Q4
   have VA := Q5.var
   have RA := Q5.res
   have HB := ak6 sd of a hal
   obtain ⟨X, hX⟩ : ∃ X, a3y sd of a = X := ⟨_, rfl⟩
   rw [hX] at HB HA3
   clear hX
   have HQ : Hid (PW c w vt vp (w5.setRow R X.cells.toArray) i4 vt4 vp4 r4 nest (bud + 1) ns R V 43 41 X.cells.toArray (a.map bv).toArray) := PW.setR HP.out Q5 X.cells.toArray
   clear Q5
   go_wp2_with (first
    | refine wpList_load_row rfl 41 (.tmp 5) rfl V rfl 41 (a.map bv).toArray (0, 0) _ VA Tryz.underlying41 rfl HSZ.out.1 ?_
    | refine b0x rfl 43 _ rfl #[(0, .int .i64 14), (5, .int .i64 (of : Int)), (6, .int .i64 (sd : Int)), (7, .agg (a.map bv).toArray)] (by kernel_rfl) X.cells.toArray HB ?_
    | refine wpList_store_row rfl 43 (.tmp 2) (.tmp 25) rfl R X.cells.toArray rfl rfl 43 _ RA (a0A _) rfl (a2L _) ?_)
   refine bodyPost_ret (a1S rfl _ _ R _ _ rfl (RA.setRow _) Tryz.underlying43 rfl (a0A _)) rfl ?_
   rw [HA3.out]
   exact ⟨rfl, HQ.out.ret⟩
 | false =>
  rw [hb] at C1
  have HA1 : Hid (¬ isB r0 a0Q = true) := by show ¬ _; rw [hb]; simp
  clear hb
  go_wp2_with fail
  refine C1.mono ?_
  rintro e w3 ⟨rfl, hG⟩
  have G3 : w2.grownBy w3 none := hG
  have Q3 := Q2.keep G3
  clear C1 Q2 hG G3
  have C2 := a2B Q3.ps a19 (a0I (by decide))
  cases hb : isB r0 a19 with
  | true =>
   rw [hb] at C2
   have HA2 : Hid (d6 (U6 r0.tail) (fun p => d6 (m3 [47] p.2) fun r => d6 (j7 r) fun q => .ok (a3H sd p.1.1 p.1.2 q.1, q.2)) = ans) := by
    show _ = ans
    rw [← HANS.out, E4, if_neg HA1.out, if_pos hb]
   clear hb HANS HA1
   go_wp2_with fail
   refine C2.mono ?_
   rintro e w4 ⟨rfl, R4⟩
   obtain ⟨i4, vt4, vp4, Q4⟩ := Q3.step R4
   clear C2 Q3 R4
   have C3 := a7b (Q4.ps.less (Nat.le_succ bud))
   have HLEN : Hid (∀ p r, U6 r0.tail = .ok (p, r) → p.2.length = 16) := fun p r hp => a77 (of := p.1) (a := p.2) hp
   generalize U6 r0.tail = ar at *
   go_wp2_with fail
   refine C3.mono ?_
   clear C3
   cases ar with
   | error er =>
    have HA3 : Hid (ans = .error er) := HA2.out.symm
    rintro e w5 ⟨rfl, G⟩
    go_wp2
    refine ⟨rfl, ?_⟩
    rw [HA3.out]
    exact ⟨rfl, Q4.err G⟩
   | ok v =>
    obtain ⟨⟨of, a⟩, r5⟩ := v
    have hal : a.length = 16 := HLEN.out _ _ rfl
    rw [M6] at HA2
    simp only at HA2
    rintro e w5 ⟨rfl, R5⟩
    obtain ⟨i5, vt5, vp5, Q5⟩ := Q4.step R5
    clear Q4 R5 HLEN
    unfold adV
    simp only
    have Q6 := Q5.add 41 (a.map bv).toArray
    have VZ := VAt.alloc w5 41 #[.int .u8 0, .int .u8 0, .int .u8 0, .int .u8 0, .int .u8 0, .int .u8 0, .int .u8 0, .int .u8 0, .int .u8 0, .int .u8 0, .int .u8 0, .int .u8 0, .int .u8 0, .int .u8 0, .int .u8 0, .int .u8 0]
    have HSZ : Hid ((Tryz.prog.info? 41).map (·.size) = some (a.map bv).toArray.size ∧ (#[.int .u8 0, .int .u8 0, .int .u8 0, .int .u8 0, .int .u8 0, .int .u8 0, .int .u8 0, .int .u8 0, .int .u8 0, .int .u8 0, .int .u8 0, .int .u8 0, .int .u8 0, .int .u8 0, .int .u8 0, .int .u8 0] : Array Value).size = (a.map bv).toArray.size ∧ (a.map bv).toArray.all (·.oneCell') = true) := by
     refine ⟨?_, ?_, a0o _⟩
     ·rw [S2, hal]; exact T5
     ·rw [S2, hal]; rfl
    go_upto_region 7 with (refine wpList_store_row rfl 41 (.tmp 7) (.tmp 37) rfl w5.heap.size (a.map bv).toArray rfl rfl 41 _ VZ HSZ.out.1 HSZ.out.2.1 HSZ.out.2.2 ?_)
    rw [World.setRow_alloc_new]
    generalize w5.alloc (.cells (a.map bv).toArray 41) = w6 at *
    generalize w5.heap.size = V at *
    clear VZ Q5
    have C4 := a2i (Q6.ps.less (Nat.le_succ bud)) [47] (z8 (by decide) (by kernel_rfl))
    generalize m3 [47] r5 = mr at *
    go_wp2_with fail
    refine C4.mono ?_
    clear C4
    cases mr with
    | error er =>
     have HA3 : Hid (ans = .error er) := HA2.out.symm
     rintro e w7 ⟨rfl, G⟩
     go_wp2
     refine ⟨rfl, ?_⟩
     rw [HA3.out]
     exact ⟨rfl, Q6.err G⟩
    | ok r7 =>
     rintro e w7 ⟨rfl, R7⟩
     obtain ⟨i7, vt7, vp7, Q7⟩ := Q6.step R7
     rw [M6] at HA2
     have HC5 : Hid (Calls Tryz.prog 223 #[.pointer (some ⟨c.g, 0, none⟩)] w7.drew (Z3 c w7.drew vt7 vp7 nest (bud + 1) ns (fun n : Nat => .int .u32 (n : Int)) (j7 r7))) := a2x ((Q7.keep (f9 w7 1 none)).ps.less (Nat.le_succ bud))
     have HQ7 : Hid (PW c w vt vp w7.drew i7 vt7 vp7 r7 nest (bud + 1) ns R V 43 41 nd0.cells.toArray (a.map bv).toArray) := Q7.keep (f9 w7 1 none)
     have HNM : Hid (∀ m r, j7 r7 = .ok (m, r) → m ≤ 4294967295) := fun m r hr => a99 Q7.ps.good hr
     clear Q6 R7 Q7
     generalize j7 r7 = nr at *
     go_upto_region 8 with fail
     refine wp_region_held_drew (S := fun W => VAt W V 41 (a.map bv).toArray) (by kernel_rfl) HQ7.out.var (fun hHeld => ?_)
     refine wpT (i := 0) (v := .int .i64 (of : Int)) rfl (Or.inl ⟨by rfl, fun W hW => ?_⟩) hHeld ?_
     ·clear hW
      go_simp
     try simp only [Act.put, a0, a1, a3, a4, a5]
     refine wpT (i := 1) (v := .int .i64 (sd : Int)) rfl (Or.inl ⟨by rfl, fun W hW => ?_⟩) hHeld ?_
     ·clear hW
      go_simp
     try simp only [Act.put, a0, a1, a2, a3, a4, a5]
     refine wpT (i := 2) (v := .agg (a.map bv).toArray) rfl (J3 (by rfl) _ _ rfl V rfl 41 (a.map bv).toArray _ (fun W hW => hW) Tryz.underlying41 rfl HSZ.out.1) hHeld ?_
     try simp only [Act.put, a0, a1, a2, a3, a4, a5]
     refine wpT (i := 3) (v := .pointer (some ⟨c.g, 0, none⟩)) rfl (Or.inl ⟨by rfl, fun W hW => ?_⟩) hHeld ?_
     ·clear hW
      go_simp
     try simp only [Act.put, a0, a1, a2, a3, a4, a5]
     refine wpT (i := 4) (v := .pointer (some ⟨c.g, 0, none⟩)) rfl (Or.inl ⟨by rfl, fun W hW => ?_⟩) hHeld ?_
     ·clear hW
      go_simp
     try simp only [Act.put, a0, a1, a2, a3, a4, a5]
     refine wpT (i := 5) (v := .pointer (some ⟨c.g, 0, none⟩)) rfl (Or.inl ⟨by rfl, fun W hW => ?_⟩) hHeld ?_
     ·clear hW
      go_simp
     try simp only [Act.put, a0, a1, a2, a3, a4, a5]
     refine wpR (rs := [6]) (AllReadyH.cons rfl (fun K hK => ?_) AllReadyH.nil)
     go_simp
     refine HC5.out.mono ?_
     clear HC5
     cases nr with
     | error er =>
      have HA3 : Hid (ans = .error er) := HA2.out.symm
      rintro e w8 ⟨rfl, G⟩
      go_wp2
      refine ⟨rfl, ?_⟩
      rw [HA3.out]
      exact ⟨rfl, HQ7.out.err G⟩
     | ok v =>
      obtain ⟨m, r8⟩ := v
      have HA3 : Hid (ans = .ok (a3H sd of a m, r8)) := HA2.out.symm
      rintro e w8 ⟨rfl, R8⟩
      have hm : m ≤ 4294967295 := HNM.out _ _ rfl
      obtain ⟨i8, vt8, vp8, Q8⟩ := HQ7.out.step R8
      go_wp2_with fail
      refine hK.out _ _ Q8.var (fun hHeld => ?_)
      clear hK K
      try simp only [Act.put, a0, a1, a2, a3, a4, a5]
      have hw : IntKind.i64.wrap (m : Int) = (m : Int) := by rw [IntKind.wrap_i64]; omega
      refine wpT (i := 7) (v := .int .i64 (m : Int)) rfl (Or.inl ⟨by rfl, fun W hW => ?_⟩) hHeld ?_
      ·clear hW
       go_simp
      try simp only [Act.put, a0, a1, a2, a3, a4, a5]
      have HB := ak8 sd of m a hal
      obtain ⟨X, hX⟩ : ∃ X, a3H sd of a m = X := ⟨_, rfl⟩
      rw [hX] at HB HA3
      clear hX
      refine wpT (i := 8) (v := .agg X.cells.toArray) rfl (Or.inl ⟨by rfl, fun W hW => ?_⟩) hHeld ?_
      ·clear hW
       simp [execOp, Act.eval, HB]
      try simp only [Act.put, a0, a1, a2, a3, a4, a5]
      refine wpR (rs := [9]) (AllReadyH.cons rfl (fun K hK => ?_) AllReadyH.nil)
      have RA := Q8.res
      have HQ := PW.setR HP.out Q8 X.cells.toArray
      refine a6I (by rfl) 43 (.tmp 2) (.tmp 50) (by rfl) R X.cells.toArray (by rfl) (by rfl) 43 _ RA (a0A _) rfl (a2L _) ?_
      refine hK.out _ _ HQ.var (fun hHeld => ?_)
      refine wpAnyH_done (by kernel_rfl) ?_ _
      clear hK K hHeld
      go_wp2
      refine bodyPost_ret (a1S rfl _ _ R _ _ rfl (RA.setRow _) Tryz.underlying43 rfl (a0A _)) rfl ?_
      rw [HA3.out]
      exact ⟨rfl, HQ.ret⟩
  | false =>
   rw [hb] at C2
   have HA2 : Hid (U3 0 sd r0 = ans) := by
    show _ = ans
    rw [← HANS.out, E4, if_neg HA1.out, if_neg (by rw [hb]; simp)]
   clear hb HANS HA1
   go_wp2_with fail
   refine C2.mono ?_
   rintro e w4 ⟨rfl, hG⟩
   have G4 : w3.grownBy w4 none := hG
   have Q4 := Q3.keep G4
   clear C2 Q3 hG G4
   have C3 := a6m Q4.ps 0 sd
   generalize U3 0 sd r0 = pr at *
   have ha : pr = ans := HA2.out
   have HA3 : Hid (pr = ans) := ha
   clear HA2 ha
   go_wp2_with fail
   refine C3.mono ?_
   clear C3
   cases pr with
   | error er =>
    rintro e w5 ⟨rfl, G⟩
    go_wp2
    refine ⟨rfl, ?_⟩
    rw [← HA3.out]
    exact ⟨rfl, Q4.err G⟩
   | ok v =>
    obtain ⟨X, r5⟩ := v
    rintro e w5 ⟨rfl, R5⟩
    obtain ⟨i5, vt5, vp5, Q5⟩ := Q4.step R5
    have RA := Q5.res
    have HQ : Hid (PR c w vt vp (w5.setRow R X.cells.toArray) i5 vt5 vp5 r5 nest (bud + 1) ns R 43 X.cells.toArray) := PR.setR HP.out Q5 X.cells.toArray
    clear Q4 R5 Q5
    go_wp2_with (refine wpList_store_row rfl 43 (.tmp 2) (.tmp 53) rfl R X.cells.toArray rfl rfl 43 _ RA (a0A _) rfl (a2L _) ?_)
    refine bodyPost_ret (a1S rfl _ _ R _ _ rfl (RA.setRow _) Tryz.underlying43 rfl (a0A _)) rfl ?_
    rw [← HA3.out]
    exact ⟨rfl, HQ.out.ret⟩

end
theorem a0v (x : List UInt8) (w : World) : Calls Tryz.prog 233 #[str x] w fun e w' => e = .returned (.int .i64 (D5 x : Int)) ∧ w = w' := by
 obtain ⟨n, hn⟩ : ∃ n, D5 x = n := ⟨_, rfl⟩
 have HN : Hid (D5 x = n) := hn
 rw [hn]
 clear hn
 by_cases h0 : x = [112, 112, 112]
 ·have e0 : (x == [112, 112, 112]) = true := by simpa using h0
  have HV : Hid (n = 1) := by show n = _; rw [← HN.out, h0]; rfl
  clear h0 HN
  go_enter Tryz.func233, Tryz.ntmps233
  go_wp2
  go_ret
  exact ⟨by rw [HV.out]; rfl, rfl⟩
 have e0 : (x == [112, 112, 112]) = false := by simpa using h0
 by_cases h1 : x = [105, 112]
 ·have e1 : (x == [105, 112]) = true := by simpa using h1
  have HV : Hid (n = 2) := by show n = _; rw [← HN.out, h1]; rfl
  clear h0 h1 HN
  go_enter Tryz.func233, Tryz.ntmps233
  go_wp2
  go_ret
  exact ⟨by rw [HV.out]; rfl, rfl⟩
 have e1 : (x == [105, 112]) = false := by simpa using h1
 by_cases h2 : x = [105, 112, 54]
 ·have e2 : (x == [105, 112, 54]) = true := by simpa using h2
  have HV : Hid (n = 3) := by show n = _; rw [← HN.out, h2]; rfl
  clear h0 h1 h2 HN
  go_enter Tryz.func233, Tryz.ntmps233
  go_wp2
  go_ret
  exact ⟨by rw [HV.out]; rfl, rfl⟩
 have e2 : (x == [105, 112, 54]) = false := by simpa using h2
 by_cases h3 : x = [116, 99, 112]
 ·have e3 : (x == [116, 99, 112]) = true := by simpa using h3
  have HV : Hid (n = 4) := by show n = _; rw [← HN.out, h3]; rfl
  clear h0 h1 h2 h3 HN
  go_enter Tryz.func233, Tryz.ntmps233
  go_wp2
  go_ret
  exact ⟨by rw [HV.out]; rfl, rfl⟩
 have e3 : (x == [116, 99, 112]) = false := by simpa using h3
 by_cases h4 : x = [117, 100, 112]
 ·have e4 : (x == [117, 100, 112]) = true := by simpa using h4
  have HV : Hid (n = 5) := by show n = _; rw [← HN.out, h4]; rfl
  clear h0 h1 h2 h3 h4 HN
  go_enter Tryz.func233, Tryz.ntmps233
  go_wp2
  go_ret
  exact ⟨by rw [HV.out]; rfl, rfl⟩
 have e4 : (x == [117, 100, 112]) = false := by simpa using h4
 by_cases h5 : x = [105, 99, 109, 112]
 ·have e5 : (x == [105, 99, 109, 112]) = true := by simpa using h5
  have HV : Hid (n = 6) := by show n = _; rw [← HN.out, h5]; rfl
  clear h0 h1 h2 h3 h4 h5 HN
  go_enter Tryz.func233, Tryz.ntmps233
  go_wp2
  go_ret
  exact ⟨by rw [HV.out]; rfl, rfl⟩
 have e5 : (x == [105, 99, 109, 112]) = false := by simpa using h5
 by_cases h6 : x = [105, 99, 109, 112, 54]
 ·have e6 : (x == [105, 99, 109, 112, 54]) = true := by simpa using h6
  have HV : Hid (n = 7) := by show n = _; rw [← HN.out, h6]; rfl
  clear h0 h1 h2 h3 h4 h5 h6 HN
  go_enter Tryz.func233, Tryz.ntmps233
  go_wp2
  go_ret
  exact ⟨by rw [HV.out]; rfl, rfl⟩
 have e6 : (x == [105, 99, 109, 112, 54]) = false := by simpa using h6
 by_cases h7 : x = [108, 99, 112]
 ·have e7 : (x == [108, 99, 112]) = true := by simpa using h7
  have HV : Hid (n = 8) := by show n = _; rw [← HN.out, h7]; rfl
  clear h0 h1 h2 h3 h4 h5 h6 h7 HN
  go_enter Tryz.func233, Tryz.ntmps233
  go_wp2
  go_ret
  exact ⟨by rw [HV.out]; rfl, rfl⟩
 have e7 : (x == [108, 99, 112]) = false := by simpa using h7
 by_cases h8 : x = [112, 97, 112]
 ·have e8 : (x == [112, 97, 112]) = true := by simpa using h8
  have HV : Hid (n = 9) := by show n = _; rw [← HN.out, h8]; rfl
  clear h0 h1 h2 h3 h4 h5 h6 h7 h8 HN
  go_enter Tryz.func233, Tryz.ntmps233
  go_wp2
  go_ret
  exact ⟨by rw [HV.out]; rfl, rfl⟩
 have e8 : (x == [112, 97, 112]) = false := by simpa using h8
 by_cases h9 : x = [99, 104, 97, 112]
 ·have e9 : (x == [99, 104, 97, 112]) = true := by simpa using h9
  have HV : Hid (n = 10) := by show n = _; rw [← HN.out, h9]; rfl
  clear h0 h1 h2 h3 h4 h5 h6 h7 h8 h9 HN
  go_enter Tryz.func233, Tryz.ntmps233
  go_wp2
  go_ret
  exact ⟨by rw [HV.out]; rfl, rfl⟩
 have e9 : (x == [99, 104, 97, 112]) = false := by simpa using h9
 by_cases h10 : x = [105, 112, 99, 112]
 ·have e10 : (x == [105, 112, 99, 112]) = true := by simpa using h10
  have HV : Hid (n = 11) := by show n = _; rw [← HN.out, h10]; rfl
  clear h0 h1 h2 h3 h4 h5 h6 h7 h8 h9 h10 HN
  go_enter Tryz.func233, Tryz.ntmps233
  go_wp2
  go_ret
  exact ⟨by rw [HV.out]; rfl, rfl⟩
 have e10 : (x == [105, 112, 99, 112]) = false := by simpa using h10
 by_cases h11 : x = [105, 112, 54, 99, 112]
 ·have e11 : (x == [105, 112, 54, 99, 112]) = true := by simpa using h11
  have HV : Hid (n = 12) := by show n = _; rw [← HN.out, h11]; rfl
  clear h0 h1 h2 h3 h4 h5 h6 h7 h8 h9 h10 h11 HN
  go_enter Tryz.func233, Tryz.ntmps233
  go_wp2
  go_ret
  exact ⟨by rw [HV.out]; rfl, rfl⟩
 have e11 : (x == [105, 112, 54, 99, 112]) = false := by simpa using h11
 by_cases h12 : x = [109, 112]
 ·have e12 : (x == [109, 112]) = true := by simpa using h12
  have HV : Hid (n = 13) := by show n = _; rw [← HN.out, h12]; rfl
  clear h0 h1 h2 h3 h4 h5 h6 h7 h8 h9 h10 h11 h12 HN
  go_enter Tryz.func233, Tryz.ntmps233
  go_wp2
  go_ret
  exact ⟨by rw [HV.out]; rfl, rfl⟩
 have e12 : (x == [109, 112]) = false := by simpa using h12
 have HV : Hid (n = 0) := by
  show n = 0
  rw [← HN.out]
  unfold D5
  rw [if_neg h0, if_neg h1, if_neg h2, if_neg h3, if_neg h4, if_neg h5, if_neg h6, if_neg h7, if_neg h8, if_neg h9, if_neg h10, if_neg h11, if_neg h12]
 clear h0 h1 h2 h3 h4 h5 h6 h7 h8 h9 h10 h11 h12 HN
 go_enter Tryz.func233, Tryz.ntmps233
 go_wp2
 go_ret
 exact ⟨by rw [HV.out]; rfl, rfl⟩
def a0X (rec : Nat → List Tk → Out) (nest : Nat) (ts : List Tk) : Except Er ((List (Nd × Nat) × Nat) × List Tk) := d6 (rec nest ts) fun p => d6 (a0z p.2) fun q => .ok ((p.1, q.1), q.2)
def a0T (c : PC) (rec : Nat → List Tk → Out) : Prop := ∀ (W : World) (i : Nat) (vt vp : Value) (ts : List Tk) (nest bud : Nat) (ns : List (Nd × Nat)), PS c W i vt vp ts nest bud ns → rec nest ts ≠ .error exP → Calls Tryz.prog 33 #[.pointer (some ⟨c.g, 0, none⟩)] W (l9 c W vt vp nest bud ns (rec nest ts))

section
variable {c : PC} {w : World} {i nest bud : Nat} {vt vp : Value} {ts : List Tk} {ns : List (Nd × Nat)}
structure PX (c : PC) (w : World) (vt vp : Value) (W : World) (i' : Nat) (vt' vp' : Value) (ts' : List Tk) (nest bud' : Nat) (ns : List (Nd × Nat)) (bp bz tz : Nat) (z : Array Value) : Prop where
 ps : PS c W i' vt' vp' ts' nest bud' ns
 gb : GB w W (fun x => d4 c.g vt vp x ∨ x = bz)
 sh : ∀ x, x < w.heap.size → d4 c.g vt' vp' x → d4 c.g vt vp x
 fp : ¬ d4 c.g vt' vp' bp
 fz : ¬ d4 c.g vt' vp' bz
 par : VAt W bp 102 #[.pointer (some ⟨c.g, 0, none⟩)]
 own : VAt W bz tz z
 ne : bp ≠ bz
theorem PX.keep {W W2 : World} {i1 bud1 bp bz tz : Nat} {vt1 vp1 : Value} {ts1 : List Tk} {z : Array Value} (h : PX c w vt vp W i1 vt1 vp1 ts1 nest bud1 ns bp bz tz z) (G : W.grownBy W2 none) : PX c w vt vp W2 i1 vt1 vp1 ts1 nest bud1 ns bp bz tz z :=
 { h with ps := h.ps.keep G, gb := h.gb.trans (GB.non (S := fun x => d4 c.g vt vp x ∨ x = bz) G) (fun _ _ h => h), par := h.par.kept G, own := h.own.kept G }
theorem PX.less {W : World} {i1 bud1 b bp bz tz : Nat} {vt1 vp1 : Value} {ts1 : List Tk} {z : Array Value} (h : PX c w vt vp W i1 vt1 vp1 ts1 nest bud1 ns bp bz tz z) (hb : b ≤ bud1) : PX c w vt vp W i1 vt1 vp1 ts1 nest b ns bp bz tz z := { h with ps := h.ps.less hb }
theorem PX.step {W W2 : World} {i1 bud1 bud2 bp bz tz : Nat} {vt1 vp1 : Value} {ts1 ts2 : List Tk} {z : Array Value} {ns2 : List (Nd × Nat)} (h : PX c w vt vp W i1 vt1 vp1 ts1 nest bud1 ns bp bz tz z) (r : Ret c W vt1 vp1 ts2 nest bud2 ns2 W2) : ∃ i2 vt2 vp2, PX c w vt vp W2 i2 vt2 vp2 ts2 nest bud2 ns2 bp bz tz z := by
 obtain ⟨i2, vt2, vp2, p, g, f⟩ := r
 exact ⟨i2, vt2, vp2, p, h.gb.trans g (fun x hx k => .inl (h.sh x hx k)), fun x hx k => h.sh x hx (f x (Nat.lt_of_lt_of_le hx h.gb.size) k), fun e => h.fp (f bp h.par.lt e), fun e => h.fz (f bz h.own.lt e), g.vat h.par h.fp, g.vat h.own h.fz, h.ne⟩
theorem PX.err {W W2 : World} {i1 bud1 bp bz tz : Nat} {vt1 vp1 : Value} {ts1 : List Tk} {z : Array Value} (h : PX c w vt vp W i1 vt1 vp1 ts1 nest bud1 ns bp bz tz z) (g : GB W W2 (d4 c.g vt1 vp1)) : GB w W2 (fun x => d4 c.g vt vp x ∨ x = bz) := h.gb.trans g (fun x hx k => .inl (h.sh x hx k))
theorem PX.set {W : World} {i1 bud1 bp bz tz : Nat} {vt1 vp1 : Value} {ts1 : List Tk} {z z2 : Array Value} (h : PX c w vt vp W i1 vt1 vp1 ts1 nest bud1 ns bp bz tz z) (v : Value) (e : z.setIfInBounds 0 v = z2) (hT : tz ≠ 99) (h0 : c.w0.heap.size ≤ bz) : PX c w vt vp (W.setCell ⟨bz, 0, none⟩ v) i1 vt1 vp1 ts1 nest bud1 ns bp bz tz z2 :=
 { h with
  ps := h.ps.away (S8 W bz 0 v) h.fz (a13 h.ps.toks h.own (fun e => hT e.symm)) h0
  gb := h.gb.trans (GB.of (S := fun x => x = bz) (S8 W bz 0 v) (fun x hx => by cases hx; rfl)) (fun x hx e => .inr e)
  par := h.par.setOther v h.ne
  own := by have := h.own.set 0 v; rw [e] at this; exact this }
theorem aA4 (rec : Nat → List Tk → Out) (HO : a0T c rec) (bp bz : Nat) (h : PS c w i vt vp ts nest bud ns) (fp : ¬ d4 c.g vt vp bp) (fz : ¬ d4 c.g vt vp bz) (hp : VAt w bp 102 #[.pointer (some ⟨c.g, 0, none⟩)]) (hz : VAt w bz 3 #[.int .i64 1]) (hne : bp ≠ bz) (h0 : c.w0.heap.size ≤ bz) (hex : rec nest ts ≠ .error exP) :
  Calls Tryz.prog 237 #[.pointer (some ⟨bp, 0, none⟩), .pointer (some ⟨bz, 0, none⟩)] w (a0U c w vt vp (fun x => x = bz) nest bud ns (fun _ => .tuple #[]) Prod.fst (fun (v : List (Nd × Nat) × Nat) W => VAt W bp 102 #[.pointer (some ⟨c.g, 0, none⟩)] ∧ VAt W bz 3 #[.int .i64 (v.2 : Int)]) (a0X rec nest ts)) := by
 have Q0 : PX c w vt vp w i vt vp ts nest bud ns bp bz 3 #[.int .i64 1] := ⟨h, GB.refl _ _, fun _ _ h => h, fp, fz, hp, hz, hne⟩
 have C0 := HO w i vt vp ts nest bud ns h hex
 have p0 : w.cell? ⟨bp, 0, none⟩ = some (.pointer (some ⟨c.g, 0, none⟩)) := hp.cell 0
 obtain ⟨ans, hans⟩ : ∃ a, a0X rec nest ts = a := ⟨_, rfl⟩
 have HA : Hid (a0X rec nest ts = ans) := hans
 rw [hans]
 unfold a0X at HA
 have HNE : Hid (bp ≠ bz ∧ c.w0.heap.size ≤ bz) := ⟨hne, h0⟩
 clear h hp hz fp fz hne h0 hex hans HO
 generalize rec nest ts = rr at *
 go_enter Tryz.func237, Tryz.ntmps237
 go_wp2_with fail
 refine C0.mono ?_
 clear C0
 cases rr with
 | error er =>
  have HA3 : Hid (ans = .error er) := HA.out.symm
  rintro e w1 ⟨rfl, G⟩
  go_wp2
  refine ⟨rfl, ?_⟩
  rw [HA3.out]
  exact ⟨rfl, Q0.err G⟩
 | ok v =>
  obtain ⟨ms, r1⟩ := v
  rintro e w1 ⟨rfl, R1⟩
  obtain ⟨i1, vt1, vp1, Q1⟩ := Q0.step R1
  clear Q0 R1 p0
  rw [M6] at HA
  simp only at HA
  have C1 := a2B Q1.ps [58] (z8 (by decide) (by kernel_rfl))
  have p1 : w1.cell? ⟨bp, 0, none⟩ = some (.pointer (some ⟨c.g, 0, none⟩)) := Q1.par.cell 0
  cases hb : isB r1 [58] with
  | true =>
   rw [hb] at C1
   have HA2 : Hid (d6 (j7 r1.tail) (fun p => d6 (m3 [93] p.2) fun r => .ok ((ms, p.1), r)) = ans) := by
    show _ = ans
    rw [← HA.out, a0z, if_pos hb]
    simp only [a1B, M6]
   clear hb HA
   go_wp2_with fail
   refine C1.mono ?_
   rintro e w2 ⟨rfl, R2⟩
   obtain ⟨i2, vt2, vp2, Q2⟩ := Q1.step R2
   clear C1 Q1 R2 p1
   have C2 := a2x (Q2.ps.less (Nat.le_succ bud))
   have p2 : w2.cell? ⟨bp, 0, none⟩ = some (.pointer (some ⟨c.g, 0, none⟩)) := Q2.par.cell 0
   have HNM : Hid (∀ m r, j7 r1.tail = .ok (m, r) → m ≤ 4294967295) := fun m r hr => a99 Q2.ps.good hr
   generalize j7 r1.tail = nr at *
   go_wp2_with fail
   refine C2.mono ?_
   clear C2
   cases nr with
   | error er =>
    have HA3 : Hid (ans = .error er) := HA2.out.symm
    rintro e w3 ⟨rfl, G⟩
    go_wp2
    refine ⟨rfl, ?_⟩
    rw [HA3.out]
    exact ⟨rfl, Q2.err G⟩
   | ok v =>
    obtain ⟨m, r3⟩ := v
    have hm := HNM.out m r3 rfl
    rintro e w3 ⟨rfl, R3⟩
    obtain ⟨i3, vt3, vp3, Q3⟩ := Q2.step R3
    rw [M6] at HA2
    simp only at HA2
    have hw : IntKind.i64.wrap (m : Int) = (m : Int) := by rw [IntKind.wrap_i64]; omega
    have z3 : w3.cell? ⟨bz, 0, none⟩ = some (.int .i64 1) := Q3.own.cell 0
    have z3f := Q3.own.free 0
    have Q4 := PX.set (z2 := #[.int .i64 (m : Int)]) Q3 (.int .i64 (m : Int)) rfl (by decide) HNE.out.2
    clear Q2 R3 p2 HNM Q3
    go_upto_region 3 with fail
    generalize w3.setCell ⟨bz, 0, none⟩ (.int .i64 (m : Int)) = w4 at *
    clear z3 z3f hw
    have C4 := a2i (Q4.ps.less (Nat.le_succ bud)) [93] (z8 (by decide) (by kernel_rfl))
    have p4 : w4.cell? ⟨bp, 0, none⟩ = some (.pointer (some ⟨c.g, 0, none⟩)) := Q4.par.cell 0
    generalize m3 [93] r3 = mr at *
    go_wp2_with fail
    refine C4.mono ?_
    clear C4
    cases mr with
    | error er =>
     have HA3 : Hid (ans = .error er) := HA2.out.symm
     rintro e w5 ⟨rfl, G⟩
     go_wp2
     refine ⟨rfl, ?_⟩
     rw [HA3.out]
     exact ⟨rfl, Q4.err G⟩
    | ok r5 =>
     rintro e w5 ⟨rfl, R5⟩
     obtain ⟨i5, vt5, vp5, Q5⟩ := Q4.step R5
     have HA3 : Hid (ans = .ok ((ms, m), r5)) := HA2.out.symm
     have HQ : Hid (PX c w vt vp w5 i5 vt5 vp5 r5 nest bud (ns ++ ms) bp bz 3 #[.int .i64 (m : Int)]) := Q5.less (Nat.le_succ bud)
     clear Q4 R5 Q5 p4
     go_wp2
     go_end0
     rw [HA3.out]
     exact ⟨rfl, ⟨HQ.out.par, HQ.out.own⟩, i5, vt5, vp5, HQ.out.ps, HQ.out.gb, HQ.out.sh⟩
  | false =>
   rw [hb] at C1
   have HA2 : Hid (d6 (m3 [93] r1) (fun r => .ok ((ms, 1), r)) = ans) := by
    show _ = ans
    rw [← HA.out, a0z, if_neg (by rw [hb]; simp)]
    simp only [a1B, M6]
   clear hb HA
   go_wp2_with fail
   refine C1.mono ?_
   rintro e w2 ⟨rfl, hG⟩
   have G2 : w1.grownBy w2 none := hG
   have Q2 := Q1.keep G2
   clear C1 Q1 hG G2 p1
   have C4 := a2i Q2.ps [93] (z8 (by decide) (by kernel_rfl))
   have p4 : w2.cell? ⟨bp, 0, none⟩ = some (.pointer (some ⟨c.g, 0, none⟩)) := Q2.par.cell 0
   generalize m3 [93] r1 = mr at *
   go_wp2_with fail
   refine C4.mono ?_
   clear C4
   cases mr with
   | error er =>
    have HA3 : Hid (ans = .error er) := HA2.out.symm
    rintro e w5 ⟨rfl, G⟩
    go_wp2
    refine ⟨rfl, ?_⟩
    rw [HA3.out]
    exact ⟨rfl, Q2.err G⟩
   | ok r5 =>
    rintro e w5 ⟨rfl, R5⟩
    obtain ⟨i5, vt5, vp5, Q5⟩ := Q2.step R5
    have HA3 : Hid (ans = .ok ((ms, 1), r5)) := HA2.out.symm
    have HQ : Hid (PX c w vt vp w5 i5 vt5 vp5 r5 nest bud (ns ++ ms) bp bz 3 #[.int .i64 1]) := Q5.less (Nat.le_succ bud)
    clear Q2 R5 Q5 p4
    go_wp2
    go_end0
    rw [HA3.out]
    exact ⟨rfl, ⟨HQ.out.par, HQ.out.own⟩, i5, vt5, vp5, HQ.out.ps, HQ.out.gb, HQ.out.sh⟩
def a3F (of size : Nat) : Nd := { ndK 3 with of := of, size := size }
theorem aA5 (of size : Nat) : (a3F of size).cells = [.int .i64 3, .int .i64 0, .int .u32 0, .int .u32 0, .int .i64 (size : Int), .int .i64 (of : Int), .int .i64 0, .int .u8 0, .int .u8 0, .int .u8 0, .int .u8 0, .int .u8 0, .int .u8 0, .int .u8 0, .int .u8 0, .int .u8 0, .int .u8 0, .int .u8 0, .int .u8 0, .int .u8 0, .int .u8 0, .int .u8 0, .int .u8 0, .int .i64 0] := by kernel_rfl

end

section
variable {c : PC} {w : World} {i nest bud : Nat} {vt vp : Value} {ts : List Tk} {ns : List (Nd × Nat)}
theorem aA7 (rec : Nat → List Tk → Out) (nest of p : Nat) (ts : List Tk) : D6 nest ts (d6 (rec (nest + 1) ts.tail) fun p1 => d6 (a0z p1.2) fun q => .ok (p1.1 ++ [({ ndK 3 with of := of, size := q.1 }, p)], q.2)) =
  d6 (D6 nest ts (a0X rec (nest + 1) ts.tail)) fun v => .ok (v.1.1 ++ [(a3F of v.1.2, p)], v.2) := by
 rw [← a9f]
 unfold a0X
 simp only [a1B, M6]
 rfl
theorem av3 {rec : Nat → List Tk → Out} {nest : Nat} {ts : List Tk} (h : a0X rec nest ts ≠ .error exP) : rec nest ts ≠ .error exP := fun e => by
 unfold a0X at h
 rw [e] at h
 exact h rfl
theorem aA6 (rec : Nat → List Tk → Out) (HO : a0T c rec) (h : PS c w i vt vp ts nest bud ns) (hk : (hdT ts).kind ≠ 0) (t : Tk) (of : Nat)
  (ans : Out) (hans : D6 nest ts (d6 (rec (nest + 1) ts.tail) fun p1 => d6 (a0z p1.2) fun q => .ok (p1.1 ++ [({ ndK 3 with of := of, size := q.1 }, t.pos)], q.2)) = ans) (hne : ans ≠ .error exP) :
  Calls Tryz.prog 234 #[.pointer (some ⟨c.g, 0, none⟩), .agg (tkC t), .int .i64 (of : Int)] w (l9 c w vt vp nest bud ns ans) := by
 rw [aA7] at hans
 have HP : Hid (PS c w i vt vp ts nest bud ns) := h
 obtain ⟨tk, tp, tx, tn⟩ := t
 unfold tkC
 simp only at *
 have K1 := World.grownBy_alloc w (.cells #[.pointer (some ⟨c.g, 0, none⟩)] 102) none
 have A1 := VAt.alloc w 102 #[.pointer (some ⟨c.g, 0, none⟩)]
 have K2 := World.grownBy_alloc (w.alloc (.cells #[.pointer (some ⟨c.g, 0, none⟩)] 102)) (.cells #[.int .i64 (tk : Int), .int .i64 (tp : Int), str tx, .int .u32 (tn : Int)] 99) none
 have A2 := VAt.alloc (w.alloc (.cells #[.pointer (some ⟨c.g, 0, none⟩)] 102)) 99 #[.int .i64 (tk : Int), .int .i64 (tp : Int), str tx, .int .u32 (tn : Int)]
 rw [show (w.alloc (.cells #[.pointer (some ⟨c.g, 0, none⟩)] 102)).heap.size = w.heap.size + 1 by simp] at A2
 have A1b := A1.kept K2
 have G2 := d3 K1 K2
 have HANS : Hid (d6 (D6 nest ts (a0X rec (nest + 1) ts.tail)) (fun v => .ok (v.1.1 ++ [(a3F of v.1.2, tp)], v.2)) = ans) := hans
 have HNE : Hid (nest ≠ 200 → rec (nest + 1) ts.tail ≠ .error exP) := fun hn => av3 (fun e => by
  rw [D6, if_neg hn, e] at hans
  exact hne hans.symm)
 have HK : Hid ((hdT ts).kind ≠ 0) := hk
 have HOO : Hid (a0T c rec) := HO
 clear h K1 K2 A1 hans hk HO hne
 go_enter Tryz.func234, Tryz.ntmps234
 go_upto_region 1 with fail
 generalize (w.alloc (.cells #[.pointer (some ⟨c.g, 0, none⟩)] 102)).alloc (.cells #[.int .i64 (tk : Int), .int .i64 (tp : Int), str tx, .int .u32 (tn : Int)] 99) = w2 at *
 obtain ⟨bp, hbp⟩ : ∃ b, w.heap.size = b := ⟨_, rfl⟩
 obtain ⟨bn, hbn⟩ : ∃ b, w.heap.size + 1 = b := ⟨_, rfl⟩
 rw [hbn] at A2 ⊢
 rw [hbp] at A1b ⊢
 have HB : Hid (w.heap.size = bp ∧ w.heap.size + 1 = bn) := ⟨hbp, hbn⟩
 clear hbp hbn
 have K3 := World.grownBy_alloc w2 (.cells #[.int .i64 1] 3) none
 have A3 := VAt.alloc w2 3 #[.int .i64 1]
 have B3 := A1b.kept K3
 have N3 := A2.kept K3
 have G3 := d3 G2 K3
 have H3 := HP.out.keep G3
 have HZ : Hid (bn < w2.heap.size ∧ w.heap.size ≤ w2.heap.size) := ⟨A2.lt, G2.size⟩
 clear K3 A2 A1b G2
 go_upto_region 2 with fail
 generalize w2.alloc (.cells #[.int .i64 1] 3) = w3 at *
 generalize w2.heap.size = bz at *
 have p3 : w3.cell? ⟨bp, 0, none⟩ = some (.pointer (some ⟨c.g, 0, none⟩)) := B3.cell 0
 have hl : bp < bz ∧ bn < bz ∧ bz < w3.heap.size ∧ bp ≠ bz ∧ w.heap.size ≤ bp ∧ w.heap.size ≤ bn ∧ w.heap.size ≤ bz := by
  have := HB.out
  have := HZ.out
  have := A3.lt
  omega
 have hgl := HP.out.blk.lt
 have CN := a6b (α := List (Nd × Nat) × Nat) H3 HK.out 237 #[] #[.pointer (some ⟨bp, 0, none⟩), .pointer (some ⟨bz, 0, none⟩)] (fun _ _ => by kernel_rfl) (fun x => x = bz) Prod.fst (fun (v : List (Nd × Nat) × Nat) W => VAt W bp 102 #[.pointer (some ⟨c.g, 0, none⟩)] ∧ VAt W bz 3 #[.int .i64 (v.2 : Int)]) (a0X rec (nest + 1) ts.tail)
  (fun x hx => by rw [hx]; exact hl.2.2.1)
  (fun v W W' hX hG => ⟨hG.vat hX.1 (fun e => by rcases e with e | e <;> omega), hG.vat hX.2 (fun e => by rcases e with e | e <;> omega)⟩)
  (fun W i1 vt1 vp1 hG hF h1 => by
   have hn := h1.nest_le
   refine aA4 rec HOO.out bp bz h1 (fun e => ?_) (fun e => ?_) (hG.vat B3 (HP.out.not_foot hl.2.2.2.2.1)) (hG.vat A3 (HP.out.not_foot hl.2.2.2.2.2.2)) hl.2.2.2.1 (Nat.le_trans HP.out.grown.size hl.2.2.2.2.2.2) (HNE.out (by omega))
   ·exact HP.out.not_foot hl.2.2.2.2.1 (hF bp (by omega) e)
   ·exact HP.out.not_foot hl.2.2.2.2.2.2 (hF bz (by omega) e))
 have HN3 : Hid (VAt w3 bn 99 #[.int .i64 (tk : Int), .int .i64 (tp : Int), str tx, .int .u32 (tn : Int)] ∧ w.grownBy w3 none) := ⟨N3, G3⟩
 have HL : Hid (bp < bz ∧ bn < bz ∧ bz < w3.heap.size ∧ bp ≠ bz ∧ w.heap.size ≤ bp ∧ w.heap.size ≤ bn ∧ w.heap.size ≤ bz) := hl
 clear H3 hl hgl A3 B3 N3 G3 HNE HOO HK
 generalize D6 nest ts (a0X rec (nest + 1) ts.tail) = rr at *
 go_wp2_with fail
 refine CN.mono ?_
 clear CN
 cases rr with
 | error er =>
  have HA3 : Hid (ans = .error er) := HANS.out.symm
  rintro e w4 ⟨rfl, G⟩
  go_wp2
  refine ⟨rfl, ?_⟩
  rw [HA3.out]
  exact ⟨rfl, (GB.non (S := d4 c.g vt vp) HN3.out.2).trans G (fun x hx h => h.elim id (fun e => by have := HL.out; omega))⟩
 | ok v =>
  obtain ⟨⟨ms, sz⟩, r4⟩ := v
  have HA3 : Hid (ans = .ok (ms ++ [(a3F of sz, tp)], r4)) := HANS.out.symm
  rintro e w4 ⟨rfl, ⟨B4, Z4⟩, i4, vt4, vp4, H4, G4, F4⟩
  have p4 : w4.cell? ⟨bp, 0, none⟩ = some (.pointer (some ⟨c.g, 0, none⟩)) := B4.cell 0
  have z4 : w4.cell? ⟨bz, 0, none⟩ = some (.int .i64 (sz : Int)) := Z4.cell 0
  have N4 := G4.vat HN3.out.1 (fun h => h.elim (HP.out.not_foot HL.out.2.2.2.2.2.1) (fun e => by have := HL.out; omega))
  have HQ : Hid (GB w w4 (d4 c.g vt vp) ∧ ∀ x, x < w.heap.size → d4 c.g vt4 vp4 x → d4 c.g vt vp x) := ⟨(GB.non (S := d4 c.g vt vp) HN3.out.2).trans G4 (fun x hx h => h.elim id (fun e => by have := HL.out; omega)), fun x hx => F4 x (Nat.lt_of_lt_of_le hx HN3.out.2.size)⟩
  have CP := L9 H4 ⟨tk, tp, tx, tn⟩ (a3F of sz)
  rw [aA5] at CP
  unfold tkC at CP
  simp only at CP
  clear HANS B4 Z4 H4 G4 F4 p3
  go_wp2_with (refine wpList_load_row rfl 99 (.tmp 4) rfl bn rfl 99 _ (0, 0) _ N4 Tryz.underlying99 rfl J1 ?_)
  refine CP.mono ?_
  rintro e w5 ⟨rfl, R5⟩
  clear CP
  go_wp2
  go_end0
  rw [HA3.out]
  refine ⟨rfl, ?_⟩
  rw [← List.append_assoc]
  exact Ret.of HQ.out.1 HQ.out.2 R5

end
end Go.Proofs.YtklipelnjgpnjaaGreatDoor
