/-
  Package graph as landed: a run goes through a block.
-/
import Derived.Test.YtencoknpocipbaaLotP19
import Derived.Test.YtencoknpocipbaaGrJ
namespace Go.Proofs.Ytencoknpocipbaa
open Go.RowKit
set_option maxRecDepth 100000

/-- What lies in memory through a run: its block, the two tables, the packet. -/
structure GRun (w0 w : World) (g d q : Nat) (pb : Option Addr) (cb : Nat) (pk : List UInt8) (R : Rn) : Prop where
  at' : RAt w g R
  new : w0.heap.size ≤ g
  up : w0.grownBy w none
  hd : R.d = .slice (some ⟨d, 0, none⟩) 178 178
  hq : R.q = .slice (some ⟨q, 0, none⟩) 78 78
  hpk : R.pk = .slice pb pk.length cb
  dt : DTab w d
  qt : QTab w q
  dg : d ≠ g
  qg : q ≠ g
  f : R.f = 0
  M : R.M.ok
  cell : Cells w0 pb pk
  len : pk.length ≤ 65536

theorem GRun.step {w0 w w' : World} {g d q : Nat} {pb : Option Addr} {cb : Nat} {pk : List UInt8} {R R' : Rn} (L : GRun w0 w g d q pb cb pk R) (h : RAt w' g R') (K : w.grownBy w' (some g)) (e1 : R'.d = R.d) (e2 : R'.q = R.q) (e3 : R'.pk = R.pk) (hf : R'.f = 0) (hM : R'.M.ok) : GRun w0 w' g d q pb cb pk R' :=
  ⟨h, L.new, grown_trans_new L.up K (fun x e => by cases e; exact L.new), by rw [e1]; exact L.hd, by rw [e2]; exact L.hq, by rw [e3]; exact L.hpk, L.dt.grown K (by simpa using L.dg), L.qt.grown K (by simpa using L.qg), L.dg, L.qg, hf, hM, L.cell, L.len⟩
theorem GRun.kept {w0 w w' : World} {g d q : Nat} {pb : Option Addr} {cb : Nat} {pk : List UInt8} {R : Rn} (L : GRun w0 w g d q pb cb pk R) (K : w.grownBy w' none) : GRun w0 w' g d q pb cb pk R :=
  L.step (L.at'.kept K) (grown_mono K) rfl rfl rfl L.f L.M

theorem GRun.do' {w0 w : World} {g d q : Nat} {pb : Option Addr} {cb : Nat} {pk : List UInt8} {R : Rn} (L : GRun w0 w g d q pb cb pk R) (x : In) (hx : plainI x = true) :
    Calls Try.prog 38 #[.pointer (some ⟨g, 0, none⟩), ginV x] w fun e w' => DoIs w g R pk x.code.toNat x.k.toNat e w' := by
  simp only [plainI, Bool.and_eq_true, Bool.not_eq_true', beq_iff_eq] at hx
  obtain ⟨kn, h16⟩ := fault_safe15 hx.2
  obtain ⟨h5, hj⟩ := leaves_jump hx.1 kn
  obtain ⟨h6, h22⟩ := leaves_ret hx.1 kn
  have b3 := x.k.toNat_lt
  exact mdo_any x.code.toNat pb cb pk g d x.jt.toNat x.jf.toNat x.k.toNat R w L.at' L.hd L.dg L.dt L.hpk (L.cell.keptNone L.up) L.len L.f L.M (by omega) kn h6 h22 h5 hj h16

set_option maxHeartbeats 4000000 in
theorem through_any (b : Bk) (a : Option Addr) (ca g d q : Nat) (pb : Option Addr) (cb : Nat) (pk : List UInt8) (R : Rn) (o : Bool) (v s : Nat) (w0 w : World) (L : GRun w0 w g d q pb cb pk R) (hR : R.rest = gRest o v 0 s) (hs : s ≤ 500000)
    (ha : CV w0 a (flat b.code)) (hlen : b.code.length ≤ 4096) (hb : straightB b.code = true) (r : Mc × Int × Nat) (hr : codeF pk b.code R.M = r) (Pl : World → Int → World → Prop)
    (hL : r.2.1 = 0 → ∀ W, GRun w0 W g d q pb cb pk { R with M := r.1, rest := gRest o v 0 (s + r.2.2) } → w.grownBy W (some g) → Calls Try.prog 41 #[.pointer (some ⟨g, 0, none⟩), bkV b a ca] W fun e w' => ∃ n : Int, e = .returned (.int .i64 n) ∧ Pl W n w') :
    Calls Try.prog 26 #[.pointer (some ⟨g, 0, none⟩), bkV b a ca] w fun e w' =>
      (r.2.1 ≠ 0 ∧ e = .returned (.int .i64 0) ∧ (∃ M f, RAt w' g { R with M := M, f := f, rest := gRest true v r.2.1 (s + r.2.2) }) ∧ w.grownBy w' (some g)) ∨ (r.2.1 = 0 ∧ ∃ (W : World) (n : Int), e = .returned (.int .i64 n) ∧ w.grownBy W (some g) ∧ Pl W n w') := by
  have HB : Hid (∀ x ∈ b.code, plainI x = true) := List.all_eq_true.1 hb
  have HL : Hid (r.2.1 = 0 → ∀ W, GRun w0 W g d q pb cb pk { R with M := r.1, rest := gRest o v 0 (s + r.2.2) } → w.grownBy W (some g) → Calls Try.prog 41 #[.pointer (some ⟨g, 0, none⟩), bkV b a ca] W fun e w' => ∃ n : Int, e = .returned (.int .i64 n) ∧ Pl W n w') := hL
  have HA : Hid (CV w0 a (flat b.code)) := ha
  have HLT : Hid (w.heap.size ≠ g) := Nat.ne_of_gt L.at'.1.lt
  have V0 := GVt.alloc w 48 (bkA b a ca)
  have G0 : w.grownBy (w.alloc (.cells (bkA b a ca) 48)) none := World.grownBy_alloc _ _ _
  have HSZ : Hid ((Try.prog.info? 48).map (·.size) = some (bkA b a ca).size) := (by kernel_rfl : (Try.prog.info? 48).map (·.size) = some 8)
  have L1 := L.kept G0
  have HX : Hid (codeF pk b.code R.M = r) := hr
  clear hL ha hb hr
  go_enter Try.func26, Try.ntmps26
  go_upto_region 1 with fail
  generalize w.alloc (.cells (bkA b a ca) 48) = w1 at *
  generalize w.heap.size = B at *
  have a0 : w1.cell? ⟨B, 0, none⟩ = some (.slice a b.code.length ca) := V0.cell 0
  go_wp2
  go_loopw [10] (fun i wr => ∃ (k : Nat) (M : Mc), k ≤ b.code.length ∧ i = .int .i64 k ∧ Hid (addC k (codeF pk (b.code.drop k) M) = r) ∧ Hid (GRun w0 wr g d q pb cb pk { R with M := M, rest := gRest o v 0 (s + k) }) ∧ Hid (GVt wr B 48 (bkA b a ca)) ∧ w.grownBy wr (some g)) (fun i _ => b.code.length - (intOf i).toNat)
  case atStart =>
    refine ⟨0, R.M, Nat.zero_le _, rfl, ?_, ?_, V0, grown_mono G0⟩
    · show addC 0 (codeF pk (b.code.drop 0) R.M) = r
      rw [List.drop_zero, HX.out]
      simp [addC]
    · show GRun w0 w1 g d q pb cb pk { R with M := R.M, rest := gRest o v 0 (s + 0) }
      rw [Nat.add_zero, ← hR]
      exact L1
  case round =>
    clear V0 G0 L1 HX L a0
    obtain ⟨k, M, hk, rfl, HX, HL1, HV, G⟩ := hrel
    by_cases hlt : k < b.code.length
    · have hl : (k : Int) < (b.code.length : Int) := by omega
      have hx := HB.out b.code[k] (List.getElem_mem hlt)
      have hX := HX.out
      rw [codeF_step hlt] at hX
      obtain ⟨ba, oa, hae, hc⟩ := (HA.out.keptNone HL1.out.up).insns hlt
      obtain ⟨c0, c1, c2, c3⟩ := hc k hlt
      have hM2 : (stepV b.code[k].code.toNat b.code[k].k.toNat pk M).1.ok := stepV_ok HL1.out.M (by have := b.code[k].k.toNat_lt; omega) (by have := HL1.out.len; omega)
      have HD : Hid (∀ (W : World) (R' : Rn), GRun w0 W g d q pb cb pk R' → R'.M = M → Calls Try.prog 38 #[.pointer (some ⟨g, 0, none⟩), .agg #[.int .u16 (b.code[k].code.toNat : Int), .int .u8 (b.code[k].jt.toNat : Int), .int .u8 (b.code[k].jf.toNat : Int), .int .u32 (b.code[k].k.toNat : Int)]] W fun e w' => DoPost W g R' (fun M' => (stepV b.code[k].code.toNat b.code[k].k.toNat pk M).2 = 0 → M' = (stepV b.code[k].code.toNat b.code[k].k.toNat pk M).1) (stepV b.code[k].code.toNat b.code[k].k.toNat pk M).2 e w') := fun W R' h e => by
        have := h.do' b.code[k] hx
        unfold DoIs at this
        rw [e] at this
        exact this
      have HX2 : Hid (addC k (if (stepV b.code[k].code.toNat b.code[k].k.toNat pk M).2 = 0 then addC 1 (codeF pk (b.code.drop (k + 1)) (stepV b.code[k].code.toNat b.code[k].k.toNat pk M).1) else ((stepV b.code[k].code.toNat b.code[k].k.toNat pk M).1, (stepV b.code[k].code.toNat b.code[k].k.toNat pk M).2, 1)) = r) := hX
      clear hX HX hc hx
      generalize stepV b.code[k].code.toNat b.code[k].k.toNat pk M = st at *
      obtain ⟨M2, fl⟩ := st
      simp only at HX2 HD hM2
      generalize b.code[k] = x at *
      have VX := GVt.alloc wr 46 #[.int .u16 (x.code.toNat : Int), .int .u8 (x.jt.toNat : Int), .int .u8 (x.jf.toNat : Int), .int .u32 (x.k.toNat : Int)]
      have GX : wr.grownBy (wr.alloc (.cells #[.int .u16 (x.code.toNat : Int), .int .u8 (x.jt.toNat : Int), .int .u8 (x.jf.toNat : Int), .int .u32 (x.k.toNat : Int)] 46)) none := World.grownBy_alloc _ _ _
      have hXg : wr.heap.size ≠ g := Nat.ne_of_gt HL1.out.at'.1.lt
      subst hae
      obtain ⟨sk, hsk⟩ : ∃ sk, s + k = sk := ⟨_, rfl⟩
      rw [hsk] at HL1
      have hsk2 : sk ≤ 600000 := by omega
      have HSK : Hid (s + k = sk) := hsk
      clear hsk
      go_upto_region 4 with fail
      generalize wr.alloc (.cells #[.int .u16 (x.code.toNat : Int), .int .u8 (x.jt.toNat : Int), .int .u8 (x.jf.toNat : Int), .int .u32 (x.k.toNat : Int)] 46) = w2 at *
      generalize wr.heap.size = X at *
      have L2 := HL1.out.kept GX
      have HV2 : Hid (GVt w2 B 48 (bkA b (some ⟨ba, oa, none⟩) ca)) := HV.out.kept GX
      have G2 := grown_trans G (grown_mono (row := some g) GX)
      have e25 : w2.cell? ⟨g, 25, none⟩ = some (.int .i64 (sk : Int)) := L2.at'.s rfl
      have f25 := L2.at'.free 25
      have r3 := L2.at'.setS' (z := (sk : Int) + 1) rfl (sk + 1) (by omega)
      have K3 : w2.grownBy (w2.setCell ⟨g, 25, none⟩ (.int .i64 ((sk : Int) + 1))) (some g) := grown_set1 w2 ⟨g, 25, none⟩ _
      have L3 := L2.step r3 K3 rfl rfl rfl L2.f L2.M
      have HL3 : Hid (GRun w0 (w2.setCell ⟨g, 25, none⟩ (.int .i64 ((sk : Int) + 1))) g d q pb cb pk { R with M := M, rest := gRest o v 0 (sk + 1) }) := L3
      have HV3 : Hid (GVt (w2.setCell ⟨g, 25, none⟩ (.int .i64 ((sk : Int) + 1))) B 48 (bkA b (some ⟨ba, oa, none⟩) ca)) := HV2.out.grown K3 (by simpa using Ne.symm HLT.out)
      have VX3 := VX.grown K3 (by simpa using Ne.symm hXg)
      have HG3 : Hid (w.grownBy (w2.setCell ⟨g, 25, none⟩ (.int .i64 ((sk : Int) + 1))) (some g)) := grown_trans G2 K3
      clear L2 L3 r3 K3 G2 HV2 G GX HL1 HV VX c0 c1 c2 c3 HA HL
      go_upto_region 5 with fail
      generalize w2.setCell ⟨g, 25, none⟩ (.int .i64 ((sk : Int) + 1)) = w3 at *
      have y0 : w3.cell? ⟨X, 0, none⟩ = some (.int .u16 (x.code.toNat : Int)) := VX3.cell 0
      have y1 : w3.cell? ⟨X, 1, none⟩ = some (.int .u8 (x.jt.toNat : Int)) := VX3.cell 1
      have y2 : w3.cell? ⟨X, 2, none⟩ = some (.int .u8 (x.jf.toNat : Int)) := VX3.cell 2
      have y3 : w3.cell? ⟨X, 3, none⟩ = some (.int .u32 (x.k.toNat : Int)) := VX3.cell 3
      clear e25 f25 VX3
      go_region_with (first
        | (go_at_call 38; refine (HD.out _ { R with M := M, rest := gRest o v 0 (sk + 1) } ?_ rfl).mono ?_; (first | exact HL3.out | exact HL3.out.kept (grown_drewN _ 1 none)); rintro e w5 ⟨rfl, M5, hg5, r5, K5⟩; have R5 : Hid (RAt w5 g { R with M := M5, f := fl, rest := gRest o v 0 (sk + 1) }) := r5; have K35 : Hid (w3.grownBy w5 (some g)) := (by first | exact K5 | exact grown_trans (grown_drewN w3 1 (some g)) K5); have d24 : w5.cell? ⟨g, 24, none⟩ = some (.int .i64 0) := R5.out.vf rfl; have f24 := R5.out.free 24))
      have R6 := R5.out.setVf rfl fl
      have K6 := grown_trans K35.out (grown_set1 w5 ⟨g, 24, none⟩ (.int .i64 fl))
      have HG5 : Hid (fl = 0 → M5 = M2) := hg5
      clear d24 f24 R5 K5 K35 HD y0 y1 y2 y3 r5 hg5
      go_upto_region 6 with fail
      generalize w5.setCell ⟨g, 24, none⟩ (.int .i64 fl) = w6 at *
      have d24 : w6.cell? ⟨g, 24, none⟩ = some (.int .i64 fl) := R6.vf rfl
      have G6 := grown_trans HG3.out K6
      by_cases hfl : fl = 0
      · subst hfl
        have hX := HX2.out
        rw [if_pos rfl] at hX
        have HX3 : Hid (addC (k + 1) (codeF pk (b.code.drop (k + 1)) M2) = r) := by
          show _ = _
          rw [← hX]
          simp only [addC, Nat.add_assoc]
        obtain rfl := HG5.out rfl
        have HL6 : Hid (GRun w0 w6 g d q pb cb pk { R with M := M5, rest := gRest o v 0 (s + (k + 1)) }) := by
          have h := HL3.out.step R6 K6 rfl rfl rfl rfl hM2
          have hf : R.f = 0 := HL3.out.f
          rw [← Nat.add_assoc, HSK.out]
          rw [show (⟨M5, R.pk, R.f, R.d, R.q, R.t, gRest o v 0 (sk + 1)⟩ : Rn) = ⟨M5, R.pk, 0, R.d, R.q, R.t, gRest o v 0 (sk + 1)⟩ by rw [hf]]
          exact h
        have HV6 : Hid (GVt w6 B 48 (bkA b (some ⟨ba, oa, none⟩) ca)) := HV3.out.grown K6 (by simpa using Ne.symm HLT.out)
        clear hX HX2 HG5 HV3 HL3 K6 R6
        go_wp2
        go_roundw
        case rel => exact ⟨k + 1, M5, by omega, by go_num, HX3, HL6, HV6, G6⟩
        case measure => simp [intOf]; omega
      · have hfl' : (fl != 0) = true := by rw [bne_iff_ne]; exact hfl
        have hX := HX2.out
        rw [if_neg hfl] at hX
        have HX3 : Hid (addC k (M2, fl, 1) = r) := hX
        clear hX HX2
        have d22 : w6.cell? ⟨g, 22, none⟩ = some (.bool o) := R6.o rfl
        have f22 := R6.free 22
        have R7 := R6.setO rfl true
        have G7 := grown_trans G6 (grown_set1 w6 ⟨g, 22, none⟩ (.bool true))
        clear R6 G6 HG5 HL3 HV3
        go_wp2
        go_ret
        have e := HX3.out
        subst e
        refine .inl ⟨hfl, rfl, ⟨M5, fl, ?_⟩, G7⟩
        have := HSK.out
        show RAt _ g { R with M := M5, f := fl, rest := gRest true v fl (s + (k + 1)) }
        rw [← Nat.add_assoc, HSK.out]
        exact R7
    · have hl : ¬ (k : Int) < (b.code.length : Int) := by omega
      have hX := HX.out
      rw [codeF_over hlt] at hX
      have h0 : r.2.1 = 0 := by rw [← hX]; rfl
      have HLW := HL.out h0 wr (by
        have := HL1.out
        rw [← hX]
        simp only [addC, Nat.add_zero]
        exact this) G
      have HZ : Hid (r.2.1 = 0) := h0
      clear hX h0 HX HL
      go_wp2_with (first | refine wpList_load_row rfl 48 (.tmp 3) rfl B rfl 48 (bkA b a ca) (0, 0) _ HV.out Try.underlying48 rfl HSZ.out ?_ | fail)
      refine HLW.mono ?_
      rintro e w2 ⟨n, rfl, hp⟩
      go_wp2
      go_ret
      exact .inr ⟨HZ.out, wr, n, rfl, G, hp⟩

end Go.Proofs.Ytencoknpocipbaa
