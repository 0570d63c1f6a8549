/-
  The landed parser: hosts, nets and ports behind a side.
-/
import Derived.Test.YtbdmpjnlgdahmaaGreatDoorPsI
namespace Go.Proofs.YtbdmpjnlgdahmaaGreatDoor
open Go.RowKit
set_option maxRecDepth 100000

theorem wpList_buildX {P : Program} {ops : Array Oper} {rest : List Oper} {o : Oper} {a : Act} {w : World} {Q : Exit → Act → World → Prop} (hg : o.guard = none) (t : TypeId) (parts : Array (Nat × Operand)) (ho : o.op = .build t parts) (qs : Array (Nat × Value)) (hq : parts.map (fun (i, x) => (i, a.eval x)) = qs) (X : Array Value)
    (hr : ∀ W : World, (Instr.build t qs).run P W = .ok (.agg X) W) (h : wpList P ops Q rest (a.put o.dst (.agg X)) w) : wpList P ops Q (o :: rest) a w :=
  wpList_plain hg fun _ hK => by
    have hr' := hr w
    rw [← hq] at hr'
    unfold Oper.wp execOp
    simp only [ho, Sem.run_bind, Sem.run_pure, Result.andThen_ok, hr']
    exact hK _ _ h
theorem list16 {a : List UInt8} (h : a.length = 16) : ∃ a0 a1 a2 a3 a4 a5 a6 a7 a8 a9 b0 b1 b2 b3 b4 b5, a = [a0, a1, a2, a3, a4, a5, a6, a7, a8, a9, b0, b1, b2, b3, b4, b5] := by
  match a, h with
  | [a0, a1, a2, a3, a4, a5, a6, a7, a8, a9, b0, b1, b2, b3, b4, b5], _ => exact ⟨_, _, _, _, _, _, _, _, _, _, _, _, _, _, _, _, rfl⟩
theorem build_host (side of : Nat) (a : List UInt8) (ha : a.length = 16) (W : World) : (Instr.build 46 #[(0, .int .i64 14), (5, .int .i64 (of : Int)), (6, .int .i64 (side : Int)), (7, .agg (a.map bv).toArray)]).run Tryz.prog W = .ok (.agg (hostN side of a).cells.toArray) W := by
  obtain ⟨a0, a1, a2, a3, a4, a5, a6, a7, a8, a9, b0, b1, b2, b3, b4, b5, rfl⟩ := list16 ha
  kernel_rfl
theorem build_net (side of m : Nat) (a : List UInt8) (ha : a.length = 16) (W : World) : (Instr.build 46 #[(0, .int .i64 15), (5, .int .i64 (of : Int)), (6, .int .i64 (side : Int)), (7, .agg (a.map bv).toArray), (8, .int .i64 (m : Int))]).run Tryz.prog W = .ok (.agg (netN side of a m).cells.toArray) W := by
  obtain ⟨a0, a1, a2, a3, a4, a5, a6, a7, a8, a9, b0, b1, b2, b3, b4, b5, rfl⟩ := list16 ha
  kernel_rfl
theorem addr_len {ts r : List Tk} {of : Nat} {a : List UInt8} (h : addrV ts = .ok ((of, a), r)) : a.length = 16 := by
  unfold addrV at h
  split at h
  · split at h
    · rename_i x hx
      have e := (Prod.mk.inj (Prod.mk.inj (Except.ok.inj h)).1).2
      rw [← e, List.length_append, parse4_some hx]
      rfl
    · cases h
  · split at h
    · split at h
      · rename_i x hx
        have e := (Prod.mk.inj (Prod.mk.inj (Except.ok.inj h)).1).2
        rw [← e]
        exact parse6_some hx
      · cases h
    · cases h

theorem num_le {ts r : List Tk} {m : Nat} (hG : TksG ts) (h : numT ts = .ok (m, r)) : m ≤ 4294967295 := by
  unfold numT at h
  split at h
  · have e := (Prod.mk.inj (Except.ok.inj h)).1
    rw [← e]
    exact hG.hd.2.2.2.1
  · cases h

section
variable {c : PC} {w : World} {i nest bud : Nat} {vt vp : Value} {ts : List Tk} {ns : List (Nd × Nat)}

/-- A reading under way in a function that has a result's cell. -/
structure PR (c : PC) (w : World) (vt vp : Value) (W : World) (i' : Nat) (vt' vp' : Value) (ts' : List Tk) (nest bud' : Nat) (ns : List (Nd × Nat)) (R tR : Nat) (y : Array Value) : Prop where
  ps : PS c W i' vt' vp' ts' nest bud' ns
  gb : GB w W (foot c.g vt vp)
  sh : ∀ x, x < w.heap.size → foot c.g vt' vp' x → foot c.g vt vp x
  fR : ¬ foot c.g vt' vp' R
  res : VAt W R tR y
  lR : w.heap.size ≤ R
theorem PR.keep {W W2 : World} {i1 bud1 R tR : Nat} {vt1 vp1 : Value} {ts1 : List Tk} {y : Array Value} (h : PR c w vt vp W i1 vt1 vp1 ts1 nest bud1 ns R tR y) (G : W.grownBy W2 none) : PR c w vt vp W2 i1 vt1 vp1 ts1 nest bud1 ns R tR y :=
  { h with ps := h.ps.keep G, gb := h.gb.trans (GB.non (S := foot c.g vt vp) G) (fun _ _ h => h), res := h.res.kept G }
theorem PR.step {W W2 : World} {i1 bud1 bud2 R tR : Nat} {vt1 vp1 : Value} {ts1 ts2 : List Tk} {y : Array Value} {ns2 : List (Nd × Nat)} (h : PR c w vt vp W i1 vt1 vp1 ts1 nest bud1 ns R tR y) (r : Ret c W vt1 vp1 ts2 nest bud2 ns2 W2) : ∃ i2 vt2 vp2, PR c w vt vp W2 i2 vt2 vp2 ts2 nest bud2 ns2 R tR y := by
  obtain ⟨i2, vt2, vp2, p, g, f⟩ := r
  exact ⟨i2, vt2, vp2, p, h.gb.trans g h.sh, fun x hx k => h.sh x hx (f x (Nat.lt_of_lt_of_le hx h.gb.size) k), fun e => h.fR (f R h.res.lt e), g.vat h.res h.fR, h.lR⟩
theorem PR.err {W W2 : World} {i1 bud1 R tR : Nat} {vt1 vp1 : Value} {ts1 : List Tk} {y : Array Value} (h : PR c w vt vp W i1 vt1 vp1 ts1 nest bud1 ns R tR y) (g : GB W W2 (foot c.g vt1 vp1)) : GB w W2 (foot c.g vt vp) := h.gb.trans g h.sh
theorem PR.setR {i0 nest0 bud0 : Nat} {ts0 : List Tk} {ns0 : List (Nd × Nat)} {W : World} {i1 bud1 R tR : Nat} {vt1 vp1 : Value} {ts1 : List Tk} {y : Array Value} (hw : PS c w i0 vt vp ts0 nest0 bud0 ns0) (h : PR c w vt vp W i1 vt1 vp1 ts1 nest bud1 ns R tR y) (y2 : Array Value) : PR c w vt vp (W.setRow R y2) i1 vt1 vp1 ts1 nest bud1 ns R tR y2 :=
  { h with
    ps := h.ps.away (vgrown_setRow (World.grownBy.refl W (some R)) R _ (.inl rfl)) h.fR (fun e => by have := (hw.toks.lt R e).2; have := h.lR; omega) (Nat.le_trans hw.grown.size h.lR)
    gb := h.gb.trans (GB.of (S := fun z => z = R) (vgrown_setRow (World.grownBy.refl W (some R)) R _ (.inl rfl)) (fun z hz => by cases hz; rfl)) (fun z hz e => by have := h.lR; omega)
    res := h.res.setRow _ }
theorem PR.ret {W : World} {i1 bud1 R tR : Nat} {vt1 vp1 : Value} {ts1 : List Tk} {y : Array Value} (h : PR c w vt vp W i1 vt1 vp1 ts1 nest bud1 ns R tR y) : Ret c w vt vp ts1 nest bud1 ns W := ⟨i1, vt1, vp1, h.ps, h.gb, h.sh⟩
theorem PR.add {W : World} {i1 bud1 R tR : Nat} {vt1 vp1 : Value} {ts1 : List Tk} {y : Array Value} (h : PR c w vt vp W i1 vt1 vp1 ts1 nest bud1 ns R tR y) (tV : Nat) (x : Array Value) : PW c w vt vp (W.alloc (.cells x tV)) i1 vt1 vp1 ts1 nest bud1 ns R W.heap.size tR tV y x :=
  have K := World.grownBy_alloc W (.cells x tV) none
  ⟨h.ps.keep K, h.gb.trans (GB.non (S := foot c.g vt vp) K) (fun _ _ h => h), h.sh, h.ps.not_foot (Nat.le_refl _), h.fR, VAt.alloc W tV x, h.res.kept K, h.gb.size, h.lR, fun e => by have := h.res.lt; omega⟩

set_option maxHeartbeats 4000000 in
theorem psided_any (h : PS c w i vt vp ts nest bud ns) :
    Calls Tryz.prog 161 #[.pointer (some ⟨c.g, 0, none⟩)] w (TellP c w vt vp nest (bud + 1) ns (fun x : Nd => .agg x.cells.toArray) (hnpV (sideN ts) (sideR ts))) := by
  have HP : Hid (PS c w i vt vp ts nest bud ns) := h
  obtain ⟨ans, hans⟩ : ∃ a, hnpV (sideN ts) (sideR ts) = a := ⟨_, rfl⟩
  have HANS : Hid (hnpV (sideN ts) (sideR ts) = ans) := hans
  rw [hans]
  have K1 := World.grownBy_alloc w (.cells nd0.cells.toArray 46) none
  have RA := VAt.alloc w 46 nd0.cells.toArray
  clear h hans
  go_enter Tryz.func161, Tryz.ntmps161
  go_upto_region 1 with fail
  rw [← nd0_cells]
  have Q1 : PR c w vt vp (w.alloc (.cells nd0.cells.toArray 46)) i vt vp ts nest bud ns w.heap.size 46 nd0.cells.toArray := ⟨HP.out.keep K1, GB.non K1, fun _ _ h => h, HP.out.not_foot (Nat.le_refl _), RA, Nat.le_refl _⟩
  generalize w.alloc (.cells nd0.cells.toArray 46) = w1 at *
  have HLR : Hid (w.heap.size ≤ w.heap.size) := Nat.le_refl _
  obtain ⟨R, hR⟩ : ∃ R, w.heap.size = R := ⟨_, rfl⟩
  have HR2 : Hid (w.heap.size ≤ R) := Nat.le_of_eq hR
  rw [hR] at Q1 ⊢
  clear hR HLR K1 RA
  have CS := side_any Q1.ps
  generalize sideN ts = sd at *
  generalize sideR ts = r0 at *
  go_wp2_with fail
  refine CS.mono ?_
  rintro e w2 ⟨rfl, R2⟩
  obtain ⟨i2, vt2, vp2, Q2⟩ := Q1.step R2
  clear CS Q1 R2
  have C1 := skip_any Q2.ps wHost (ask_in (by decide))
  cases hb : isB r0 wHost with
  | true =>
    rw [hb] at C1
    have HA2 : Hid (thenE (addrV r0.tail) (fun p => .ok (hostN sd p.1.1 p.1.2, p.2)) = ans) := by
      show _ = ans
      rw [← HANS.out, hnpV, if_pos hb]
    clear hb HANS
    go_wp2_with fail
    refine C1.mono ?_
    rintro e w3 ⟨rfl, R3⟩
    obtain ⟨i3, vt3, vp3, Q3⟩ := Q2.step R3
    clear C1 Q2 R3
    have C2 := address_any (Q3.ps.less (Nat.le_succ bud))
    have HLEN : Hid (∀ p r, addrV r0.tail = .ok (p, r) → p.2.length = 16) := fun p r hp => addr_len (of := p.1) (a := p.2) hp
    generalize addrV r0.tail = ar at *
    go_wp2_with fail
    refine C2.mono ?_
    clear C2
    cases ar with
    | error er =>
      have HA3 : Hid (ans = .error er) := HA2.out.symm
      rintro e w4 ⟨rfl, G⟩
      go_wp2
      refine ⟨rfl, ?_⟩
      rw [HA3.out]
      exact ⟨rfl, Q3.err G⟩
    | ok v =>
      obtain ⟨⟨of, a⟩, r4⟩ := v
      have HA3 : Hid (ans = .ok (hostN sd of a, r4)) := HA2.out.symm
      have hal : a.length = 16 := HLEN.out _ _ rfl
      rintro e w4 ⟨rfl, R4⟩
      obtain ⟨i4, vt4, vp4, Q4⟩ := Q3.step R4
      clear Q3 R4 HLEN HA2
      unfold adV
      simp only
      have Q5 := Q4.add 44 (a.map bv).toArray
      have VZ := VAt.alloc w4 44 #[.int .u8 0, .int .u8 0, .int .u8 0, .int .u8 0, .int .u8 0, .int .u8 0, .int .u8 0, .int .u8 0, .int .u8 0, .int .u8 0, .int .u8 0, .int .u8 0, .int .u8 0, .int .u8 0, .int .u8 0, .int .u8 0]
      have HSZ : Hid ((Tryz.prog.info? 44).map (·.size) = some (a.map bv).toArray.size ∧ (#[.int .u8 0, .int .u8 0, .int .u8 0, .int .u8 0, .int .u8 0, .int .u8 0, .int .u8 0, .int .u8 0, .int .u8 0, .int .u8 0, .int .u8 0, .int .u8 0, .int .u8 0, .int .u8 0, .int .u8 0, .int .u8 0] : Array Value).size = (a.map bv).toArray.size ∧ (a.map bv).toArray.all (·.oneCell') = true) := by
        refine ⟨?_, ?_, bv_all _⟩
        · rw [bv_size, hal]; exact size44
        · rw [bv_size, hal]; rfl
      go_upto_region 4 with (refine wpList_store_row rfl 44 (.tmp 5) (.tmp 21) rfl w4.heap.size (a.map bv).toArray rfl rfl 44 _ VZ HSZ.out.1 HSZ.out.2.1 HSZ.out.2.2 ?_)
      rw [World.setRow_alloc_new]
      generalize w4.alloc (.cells (a.map bv).toArray 44) = w5 at *
      generalize w4.heap.size = V at *
      clear VZ Q4
      have VA := Q5.var
      have RA := Q5.res
      have HB := build_host sd of a hal
      obtain ⟨X, hX⟩ : ∃ X, hostN sd of a = X := ⟨_, rfl⟩
      rw [hX] at HB HA3
      clear hX
      have HQ : Hid (PW c w vt vp (w5.setRow R X.cells.toArray) i4 vt4 vp4 r4 nest (bud + 1) ns R V 46 44 X.cells.toArray (a.map bv).toArray) := PW.setR HP.out Q5 X.cells.toArray
      clear Q5
      go_wp2_with (first
        | refine wpList_load_row rfl 44 (.tmp 5) rfl V rfl 44 (a.map bv).toArray (0, 0) _ VA Tryz.underlying44 rfl HSZ.out.1 ?_
        | refine wpList_buildX rfl 46 _ rfl #[(0, .int .i64 14), (5, .int .i64 (of : Int)), (6, .int .i64 (sd : Int)), (7, .agg (a.map bv).toArray)] (by kernel_rfl) X.cells.toArray HB ?_
        | refine wpList_store_row rfl 46 (.tmp 2) (.tmp 25) rfl R X.cells.toArray rfl rfl 46 _ RA (sizeNd _) rfl (all_nd _) ?_)
      refine bodyPost_ret (retRow1 rfl _ _ R _ _ rfl (RA.setRow _) Tryz.underlying46 rfl (sizeNd _)) rfl ?_
      rw [HA3.out]
      exact ⟨rfl, HQ.out.ret⟩
  | false =>
    rw [hb] at C1
    have HA1 : Hid (¬ isB r0 wHost = true) := by show ¬ _; rw [hb]; simp
    clear hb
    go_wp2_with fail
    refine C1.mono ?_
    rintro e w3 ⟨rfl, hG⟩
    have G3 : w2.grownBy w3 none := hG
    have Q3 := Q2.keep G3
    clear C1 Q2 hG G3
    have C2 := skip_any Q3.ps wNet (ask_in (by decide))
    cases hb : isB r0 wNet with
    | true =>
      rw [hb] at C2
      have HA2 : Hid (thenE (addrV r0.tail) (fun p => thenE (mustV [47] p.2) fun r => thenE (numT r) fun q => .ok (netN sd p.1.1 p.1.2 q.1, q.2)) = ans) := by
        show _ = ans
        rw [← HANS.out, hnpV, if_neg HA1.out, if_pos hb]
      clear hb HANS HA1
      go_wp2_with fail
      refine C2.mono ?_
      rintro e w4 ⟨rfl, R4⟩
      obtain ⟨i4, vt4, vp4, Q4⟩ := Q3.step R4
      clear C2 Q3 R4
      have C3 := address_any (Q4.ps.less (Nat.le_succ bud))
      have HLEN : Hid (∀ p r, addrV r0.tail = .ok (p, r) → p.2.length = 16) := fun p r hp => addr_len (of := p.1) (a := p.2) hp
      generalize addrV r0.tail = ar at *
      go_wp2_with fail
      refine C3.mono ?_
      clear C3
      cases ar with
      | error er =>
        have HA3 : Hid (ans = .error er) := HA2.out.symm
        rintro e w5 ⟨rfl, G⟩
        go_wp2
        refine ⟨rfl, ?_⟩
        rw [HA3.out]
        exact ⟨rfl, Q4.err G⟩
      | ok v =>
        obtain ⟨⟨of, a⟩, r5⟩ := v
        have hal : a.length = 16 := HLEN.out _ _ rfl
        rw [thenE_ok] at HA2
        simp only at HA2
        rintro e w5 ⟨rfl, R5⟩
        obtain ⟨i5, vt5, vp5, Q5⟩ := Q4.step R5
        clear Q4 R5 HLEN
        unfold adV
        simp only
        have Q6 := Q5.add 44 (a.map bv).toArray
        have VZ := VAt.alloc w5 44 #[.int .u8 0, .int .u8 0, .int .u8 0, .int .u8 0, .int .u8 0, .int .u8 0, .int .u8 0, .int .u8 0, .int .u8 0, .int .u8 0, .int .u8 0, .int .u8 0, .int .u8 0, .int .u8 0, .int .u8 0, .int .u8 0]
        have HSZ : Hid ((Tryz.prog.info? 44).map (·.size) = some (a.map bv).toArray.size ∧ (#[.int .u8 0, .int .u8 0, .int .u8 0, .int .u8 0, .int .u8 0, .int .u8 0, .int .u8 0, .int .u8 0, .int .u8 0, .int .u8 0, .int .u8 0, .int .u8 0, .int .u8 0, .int .u8 0, .int .u8 0, .int .u8 0] : Array Value).size = (a.map bv).toArray.size ∧ (a.map bv).toArray.all (·.oneCell') = true) := by
          refine ⟨?_, ?_, bv_all _⟩
          · rw [bv_size, hal]; exact size44
          · rw [bv_size, hal]; rfl
        go_upto_region 7 with (refine wpList_store_row rfl 44 (.tmp 7) (.tmp 37) rfl w5.heap.size (a.map bv).toArray rfl rfl 44 _ VZ HSZ.out.1 HSZ.out.2.1 HSZ.out.2.2 ?_)
        rw [World.setRow_alloc_new]
        generalize w5.alloc (.cells (a.map bv).toArray 44) = w6 at *
        generalize w5.heap.size = V at *
        clear VZ Q5
        have C4 := must_any (Q6.ps.less (Nat.le_succ bud)) [47] (ask_s (by decide) (by kernel_rfl))
        generalize mustV [47] r5 = mr at *
        go_wp2_with fail
        refine C4.mono ?_
        clear C4
        cases mr with
        | error er =>
          have HA3 : Hid (ans = .error er) := HA2.out.symm
          rintro e w7 ⟨rfl, G⟩
          go_wp2
          refine ⟨rfl, ?_⟩
          rw [HA3.out]
          exact ⟨rfl, Q6.err G⟩
        | ok r7 =>
          rintro e w7 ⟨rfl, R7⟩
          obtain ⟨i7, vt7, vp7, Q7⟩ := Q6.step R7
          rw [thenE_ok] at HA2
          have HC5 : Hid (Calls Tryz.prog 157 #[.pointer (some ⟨c.g, 0, none⟩)] w7.drew (TellP c w7.drew vt7 vp7 nest (bud + 1) ns (fun n : Nat => .int .u32 (n : Int)) (numT r7))) := rnumber_any ((Q7.keep (grown_drewN w7 1 none)).ps.less (Nat.le_succ bud))
          have HQ7 : Hid (PW c w vt vp w7.drew i7 vt7 vp7 r7 nest (bud + 1) ns R V 46 44 nd0.cells.toArray (a.map bv).toArray) := Q7.keep (grown_drewN w7 1 none)
          have HNM : Hid (∀ m r, numT r7 = .ok (m, r) → m ≤ 4294967295) := fun m r hr => num_le Q7.ps.good hr
          clear Q6 R7 Q7
          generalize numT r7 = nr at *
          go_upto_region 8 with fail
          refine wp_region_held_drew (S := fun W => VAt W V 44 (a.map bv).toArray) (by kernel_rfl) HQ7.out.var (fun hHeld => ?_)
          refine wpAnyH_take (i := 0) (v := .int .i64 (of : Int)) rfl (by kernel_rfl) (by kernel_rfl) (by kernel_rfl) (fun _ _ _ h => h) (Or.inl ⟨by rfl, fun W hW => ?_⟩) hHeld ?_
          · clear hW
            go_simp
          try simp only [Act.put, List.getElem_toArray, List.getElem_cons_zero, List.setIfInBounds_toArray, List.set_cons_zero, List.set_cons_succ]
          refine wpAnyH_take (i := 1) (v := .int .i64 (sd : Int)) rfl (by kernel_rfl) (by kernel_rfl) (by kernel_rfl) (fun _ _ _ h => h) (Or.inl ⟨by rfl, fun W hW => ?_⟩) hHeld ?_
          · clear hW
            go_simp
          try simp only [Act.put, List.getElem_toArray, List.getElem_cons_zero, List.getElem_cons_succ, List.setIfInBounds_toArray, List.set_cons_zero, List.set_cons_succ]
          refine wpAnyH_take (i := 2) (v := .agg (a.map bv).toArray) rfl (by kernel_rfl) (by kernel_rfl) (by kernel_rfl) (fun _ _ _ h => h) (yieldsIf_load_row (by rfl) _ _ rfl V rfl 44 (a.map bv).toArray _ (fun W hW => hW) Tryz.underlying44 rfl HSZ.out.1) hHeld ?_
          try simp only [Act.put, List.getElem_toArray, List.getElem_cons_zero, List.getElem_cons_succ, List.setIfInBounds_toArray, List.set_cons_zero, List.set_cons_succ]
          refine wpAnyH_take (i := 3) (v := .pointer (some ⟨c.g, 0, none⟩)) rfl (by kernel_rfl) (by kernel_rfl) (by kernel_rfl) (fun _ _ _ h => h) (Or.inl ⟨by rfl, fun W hW => ?_⟩) hHeld ?_
          · clear hW
            go_simp
          try simp only [Act.put, List.getElem_toArray, List.getElem_cons_zero, List.getElem_cons_succ, List.setIfInBounds_toArray, List.set_cons_zero, List.set_cons_succ]
          refine wpAnyH_take (i := 4) (v := .pointer (some ⟨c.g, 0, none⟩)) rfl (by kernel_rfl) (by kernel_rfl) (by kernel_rfl) (fun _ _ _ h => h) (Or.inl ⟨by rfl, fun W hW => ?_⟩) hHeld ?_
          · clear hW
            go_simp
          try simp only [Act.put, List.getElem_toArray, List.getElem_cons_zero, List.getElem_cons_succ, List.setIfInBounds_toArray, List.set_cons_zero, List.set_cons_succ]
          refine wpAnyH_take (i := 5) (v := .pointer (some ⟨c.g, 0, none⟩)) rfl (by kernel_rfl) (by kernel_rfl) (by kernel_rfl) (fun _ _ _ h => h) (Or.inl ⟨by rfl, fun W hW => ?_⟩) hHeld ?_
          · clear hW
            go_simp
          try simp only [Act.put, List.getElem_toArray, List.getElem_cons_zero, List.getElem_cons_succ, List.setIfInBounds_toArray, List.set_cons_zero, List.set_cons_succ]
          refine wpAnyH_ready (rs := [6]) (by kernel_rfl) (by simp) (AllReadyH.cons rfl (fun K hK => ?_) AllReadyH.nil)
          go_simp
          refine HC5.out.mono ?_
          clear HC5
          cases nr with
          | error er =>
            have HA3 : Hid (ans = .error er) := HA2.out.symm
            rintro e w8 ⟨rfl, G⟩
            go_wp2
            refine ⟨rfl, ?_⟩
            rw [HA3.out]
            exact ⟨rfl, HQ7.out.err G⟩
          | ok v =>
            obtain ⟨m, r8⟩ := v
            have HA3 : Hid (ans = .ok (netN sd of a m, r8)) := HA2.out.symm
            rintro e w8 ⟨rfl, R8⟩
            have hm : m ≤ 4294967295 := HNM.out _ _ rfl
            obtain ⟨i8, vt8, vp8, Q8⟩ := HQ7.out.step R8
            go_wp2_with fail
            refine hK.out _ _ Q8.var (fun hHeld => ?_)
            clear hK K
            try simp only [Act.put, List.getElem_toArray, List.getElem_cons_zero, List.getElem_cons_succ, List.setIfInBounds_toArray, List.set_cons_zero, List.set_cons_succ]
            have hw : IntKind.i64.wrap (m : Int) = (m : Int) := by rw [IntKind.wrap_i64]; omega
            refine wpAnyH_take (i := 7) (v := .int .i64 (m : Int)) rfl (by kernel_rfl) (by kernel_rfl) (by kernel_rfl) (fun _ _ _ h => h) (Or.inl ⟨by rfl, fun W hW => ?_⟩) hHeld ?_
            · clear hW
              go_simp
            try simp only [Act.put, List.getElem_toArray, List.getElem_cons_zero, List.getElem_cons_succ, List.setIfInBounds_toArray, List.set_cons_zero, List.set_cons_succ]
            have HB := build_net sd of m a hal
            obtain ⟨X, hX⟩ : ∃ X, netN sd of a m = X := ⟨_, rfl⟩
            rw [hX] at HB HA3
            clear hX
            refine wpAnyH_take (i := 8) (v := .agg X.cells.toArray) rfl (by kernel_rfl) (by kernel_rfl) (by kernel_rfl) (fun _ _ _ h => h) (Or.inl ⟨by rfl, fun W hW => ?_⟩) hHeld ?_
            · clear hW
              simp [execOp, Act.eval, HB]
            try simp only [Act.put, List.getElem_toArray, List.getElem_cons_zero, List.getElem_cons_succ, List.setIfInBounds_toArray, List.set_cons_zero, List.set_cons_succ]
            refine wpAnyH_ready (rs := [9]) (by kernel_rfl) (by simp) (AllReadyH.cons rfl (fun K hK => ?_) AllReadyH.nil)
            have RA := Q8.res
            have HQ := PW.setR HP.out Q8 X.cells.toArray
            refine step_store_row (by rfl) 46 (.tmp 2) (.tmp 50) (by rfl) R X.cells.toArray (by rfl) (by rfl) 46 _ RA (sizeNd _) rfl (all_nd _) ?_
            refine hK.out _ _ HQ.var (fun hHeld => ?_)
            refine wpAnyH_done (by kernel_rfl) ?_ _
            clear hK K hHeld
            go_wp2
            refine bodyPost_ret (retRow1 rfl _ _ R _ _ rfl (RA.setRow _) Tryz.underlying46 rfl (sizeNd _)) rfl ?_
            rw [HA3.out]
            exact ⟨rfl, HQ.ret⟩
    | false =>
      rw [hb] at C2
      have HA2 : Hid (portV 0 sd r0 = ans) := by
        show _ = ans
        rw [← HANS.out, hnpV, if_neg HA1.out, if_neg (by rw [hb]; simp)]
      clear hb HANS HA1
      go_wp2_with fail
      refine C2.mono ?_
      rintro e w4 ⟨rfl, hG⟩
      have G4 : w3.grownBy w4 none := hG
      have Q4 := Q3.keep G4
      clear C2 Q3 hG G4
      have C3 := port_any Q4.ps 0 sd
      generalize portV 0 sd r0 = pr at *
      have ha : pr = ans := HA2.out
      have HA3 : Hid (pr = ans) := ha
      clear HA2 ha
      go_wp2_with fail
      refine C3.mono ?_
      clear C3
      cases pr with
      | error er =>
        rintro e w5 ⟨rfl, G⟩
        go_wp2
        refine ⟨rfl, ?_⟩
        rw [← HA3.out]
        exact ⟨rfl, Q4.err G⟩
      | ok v =>
        obtain ⟨X, r5⟩ := v
        rintro e w5 ⟨rfl, R5⟩
        obtain ⟨i5, vt5, vp5, Q5⟩ := Q4.step R5
        have RA := Q5.res
        have HQ : Hid (PR c w vt vp (w5.setRow R X.cells.toArray) i5 vt5 vp5 r5 nest (bud + 1) ns R 46 X.cells.toArray) := PR.setR HP.out Q5 X.cells.toArray
        clear Q4 R5 Q5
        go_wp2_with (refine wpList_store_row rfl 46 (.tmp 2) (.tmp 53) rfl R X.cells.toArray rfl rfl 46 _ RA (sizeNd _) rfl (all_nd _) ?_)
        refine bodyPost_ret (retRow1 rfl _ _ R _ _ rfl (RA.setRow _) Tryz.underlying46 rfl (sizeNd _)) rfl ?_
        rw [← HA3.out]
        exact ⟨rfl, HQ.out.ret⟩

end
end Go.Proofs.YtbdmpjnlgdahmaaGreatDoor
