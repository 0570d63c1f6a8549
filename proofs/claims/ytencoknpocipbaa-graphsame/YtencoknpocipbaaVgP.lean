/-
  The landed vm: Run and Trace.
-/
import Derived.Test.YtencoknpocipbaaVgP0
namespace Go.Proofs.Ytencoknpocipbaa
open Go.RowKit
set_option maxRecDepth 100000

/-- How far a run has to go. -/
def meas (n g : Nat) (w : World) : Nat := match w.cell? ⟨g, 24, none⟩ with
  | some (.bool true) => 0
  | _ => n + 1 - (intOf ((w.cell? ⟨g, 23, none⟩).getD .nilIface)).toNat
theorem meas_going {n g : Nat} {w : World} {R : Vn} (h : VnAt w g R) (ho : R.o = false) : meas n g w = n + 1 - R.j := by
  have h1 : w.cell? ⟨g, 24, none⟩ = some (.bool R.o) := h.tl 6
  have h2 : w.cell? ⟨g, 23, none⟩ = some (.int .i64 (R.j : Int)) := h.tl 5
  rw [ho] at h1
  simp [meas, h1, h2, intOf]
theorem meas_over {n g : Nat} {w : World} {R : Vn} (h : VnAt w g R) (ho : R.o = true) : meas n g w = 0 := by
  have h1 : w.cell? ⟨g, 24, none⟩ = some (.bool R.o) := h.tl 6
  rw [ho] at h1
  simp [meas, h1]

/-- Rows of whole numbers and the run's block do not touch. -/
theorem row_run {w w' : World} {base size n g : Nat} {v : Value} {vs : List Value} {R : Vn} (h : w.ownsRow base 3 size v n vs) (r : VnAt w g R) (K : w.grownBy w' (some g)) : w'.ownsRow base 3 size v n vs :=
  row_blk (m := R.arr.size) h ⟨_, r.1, rfl⟩ (show 3 ≠ 87 by decide) K
theorem run_row {w w' : World} {base size n g : Nat} {v : Value} {vs : List Value} {R : Vn} (r : VnAt w g R) (h : w.ownsRow base 3 size v n vs) (K : w.grownBy w' v.ownBlock) : VnAt w' g R := by
  refine r.grown K ?_
  rcases h.2 with ⟨rfl, -⟩ | ⟨g1, cap, cur, rfl, -, hg, -⟩
  · simp [Value.ownBlock]
  · intro hh
    simp only [Value.ownBlock, Option.some.injEq] at hh
    subst hh
    have hb := r.1
    unfold GVt at hb
    rw [hg] at hb
    simp only [Option.some.injEq, Obj.cells.injEq] at hb
    exact absurd hb.2.1 (show ¬ 3 = 87 by decide)
theorem kind_row {w : World} {base size n d t : Nat} {v : Value} {vs : List Value} (k : Kind w d t) (h : w.ownsRow base 3 size v n vs) (ht : t ≠ 3) : some d ≠ v.ownBlock := by
  rcases h.2 with ⟨rfl, -⟩ | ⟨g1, cap, cur, rfl, -, hg, -⟩
  · simp [Value.ownBlock]
  · intro hh
    simp only [Value.ownBlock, Option.some.injEq] at hh
    subst hh
    obtain ⟨cs, hb⟩ := k
    unfold GVt at hb
    rw [hg] at hb
    simp only [Option.some.injEq, Obj.cells.injEq] at hb
    exact ht hb.2.1.symm
theorem LoopI.other {w wr w' : World} {g d q : Nat} {a b : Option Addr} {ca cb n m : Nat} {R : Vn} {size l : Nat} {v : Value} {vs : List Value} (L : LoopI w wr g d q a b ca cb n m R) (h : wr.ownsRow w.heap.size 3 size v l vs) (K : wr.grownBy w' v.ownBlock) : LoopI w w' g d q a b ca cb n m R :=
  ⟨run_row L.at' h K, L.hd, L.hq, L.hp, L.hk, L.dt.grown K (kind_row L.dt.1 h (by decide)), L.qt.grown K (kind_row L.qt.1 h (by decide)), L.dg, L.qg, grown_trans_new L.up K (fun x hx => (h.lt x hx).1), L.new⟩

theorem blk_ne {w w' : World} {e g m h : Nat} (B : BlkN w e g m) (K : w.grownBy w' (some h)) (hne : g ≠ h) : BlkN w' e g m := B.kept K (by simpa using hne)

set_option maxHeartbeats 1000000 in
theorem vgnext_any (g : Nat) (R : Vn) (w : World) (h : VnAt w g R) :
    Calls Try.prog 22 #[.pointer (some ⟨g, 0, none⟩)] w fun e w' => e = .returned (.tuple #[.int .i64 (R.j : Int), .bool (!R.o)]) ∧ w.grownBy w' none := by
  have c23 : w.cell? ⟨g, 23, none⟩ = some (.int .i64 (R.j : Int)) := h.tl 5
  have c24 : w.cell? ⟨g, 24, none⟩ = some (.bool R.o) := h.tl 6
  clear h
  generalize R.o = o at *
  go_enter Try.func22, Try.ntmps22
  go_upto_region 1 with fail
  go_region
  go_wp2
  go_ret2
  exact ⟨rfl, grown_drewN _ 1 none⟩

set_option maxHeartbeats 2000000 in
theorem vgfinish_any (a b : Option Addr) (ca cb : Nat) (xs : List In) (pk : List UInt8) (w wr : World) (g d q : Nat) (R : Vn) (ts : List Nat) (Res : Nat × Int × List Nat) (hX : CV w a (flat xs)) (hP : Cells w b pk) (hpk : pk.length ≤ 65536)
    (hT : ∀ j (hj : j < xs.length), badV xs.length j xs[j] = 0) (hT2 : lastB xs = true) (hn : xs.length ≤ 4096) (L : LoopI w wr g d q a b ca cb xs.length pk.length R) (G : Going xs pk R ts Res) :
    Calls Try.prog 21 #[.pointer (some ⟨g, 0, none⟩)] wr fun e w' => e = .returned (.agg #[.int .u32 (Res.1 : Int), .int .i64 Res.2.1, .int .i64 (Res.2.2.length : Int)]) ∧ w.grownBy w' none := by
  have H : Hid (CV w a (flat xs)) := hX
  have HP : Hid (Cells w b pk) := hP
  have HT : Hid ((∀ j (hj : j < xs.length), badV xs.length j xs[j] = 0) ∧ lastB xs = true ∧ xs.length ≤ 4096 ∧ pk.length ≤ 65536) := ⟨hT, hT2, hn, hpk⟩
  have G0 : wr.grownBy (wr.alloc (.cells #[.int .u32 0, .int .i64 0, .int .i64 0] 36)) none := World.grownBy_alloc _ _ _
  have HB0 : Hid (BlkN (wr.alloc (.cells #[.int .u32 0, .int .i64 0, .int .i64 0] 36)) 36 wr.heap.size 3) := ⟨_, heap_alloc_new wr _, rfl⟩
  have HL0 : Hid (LoopI w (wr.alloc (.cells #[.int .u32 0, .int .i64 0, .int .i64 0] 36)) g d q a b ca cb xs.length pk.length R) := L.kept G0
  have HVG : Hid (wr.heap.size ≠ g ∧ w.heap.size ≤ wr.heap.size) := ⟨by have := L.at'.lt; omega, L.up.size⟩
  have HG0 : Hid (Going xs pk R ts Res) := G
  clear hX hP hpk hT hT2 hn L G G0
  go_enter Try.func21, Try.ntmps21
  go_upto_region 1 with fail
  generalize wr.alloc (.cells #[.int .u32 0, .int .i64 0, .int .i64 0] 36) = wa at *
  generalize wr.heap.size = V at *
  go_loopw [3] (fun _ wx => ∃ (R : Vn) (ts : List Nat), LoopI w wx g d q a b ca cb xs.length pk.length R ∧ BlkN wx 36 V 3 ∧ (Going xs pk R ts Res ∨ Over R ts Res)) (fun _ wx => meas xs.length g wx)
  case atStart => exact ⟨R, ts, HL0.out, HB0.out, .inl HG0.out⟩
  case round =>
    clear HL0 HB0 HG0
    obtain ⟨R, ts, L, B, hst⟩ := hrel
    have HL : Hid (LoopI w wr g d q a b ca cb xs.length pk.length R) := L
    have HB : Hid (BlkN wr 36 V 3) := B
    have d24 : wr.cell? ⟨g, 24, none⟩ = some (.bool R.o) := L.at'.tl 6
    clear L B
    rcases hst with hst | hst
    · have HG : Hid (Going xs pk R ts Res) := hst
      have HST := step_any a b ca cb xs pk w wr g d q R ts Res H.out HP.out HT.out.2.2.2 HT.out.1 HT.out.2.1 HT.out.2.2.1 HL.out hst
      have HSTT : Hid (Calls Try.prog 23 #[.pointer (some ⟨g, 0, none⟩)] wr fun e w' => e = .returned (.tuple #[]) ∧ ∃ R', LoopI w w' g d q a b ca cb xs.length pk.length R' ∧ ((Going xs pk R' (ts ++ [R.j]) Res ∧ R.j < R'.j) ∨ Over R' (ts ++ [R.j]) Res) ∧ wr.grownBy w' (some g)) := HST
      rw [hst.1] at d24
      clear HST hst
      go_wp2_with fail
      refine HSTT.out.mono ?_
      rintro e w' ⟨rfl, R', L', hst', K⟩
      have HL' : Hid (LoopI w w' g d q a b ca cb xs.length pk.length R') := L'
      have HB' : Hid (BlkN w' 36 V 3) := blk_ne HB.out K HVG.out.1
      have HS' : Hid ((Going xs pk R' (ts ++ [R.j]) Res ∧ R.j < R'.j) ∨ Over R' (ts ++ [R.j]) Res) := hst'
      clear L' K hst' HSTT
      go_wp2
      go_roundw
      case rel => exact ⟨R', ts ++ [R.j], HL'.out, HB'.out, HS'.out.elim (fun h => .inl h.1) .inr⟩
      case measure =>
        have hj := HG.out.2.2.2.2.2.1
        rw [meas_going HL.out.at' HG.out.1]
        rcases HS'.out with h | h
        · rw [meas_going HL'.out.at' h.1.1]
          have := h.2
          have := h.1.2.2.2.2.2.1
          omega
        · rw [meas_over HL'.out.at' h.1]
          omega
    · have HO : Hid (Over R ts Res) := hst
      have d25 : wr.cell? ⟨g, 25, none⟩ = some (.int .u32 (R.v : Int)) := HL.out.at'.tl 7
      have d26 : wr.cell? ⟨g, 26, none⟩ = some (.int .i64 R.vf) := HL.out.at'.tl 8
      have d27 : wr.cell? ⟨g, 27, none⟩ = some (.int .i64 (R.s : Int)) := HL.out.at'.tl 9
      rw [hst.1] at d24
      obtain ⟨u0, hu0⟩ := HB.out.cell (i := 0) (by omega)
      obtain ⟨u1, hu1⟩ := HB.out.cell (i := 1) (by omega)
      obtain ⟨u2, hu2⟩ := HB.out.cell (i := 2) (by omega)
      have hf0 := HB.out.free 0
      have hf1 := HB.out.free 1
      have hf2 := HB.out.free 2
      obtain ⟨z0, z1, z2⟩ := set3 HB.out (.int .u32 (R.v : Int)) (.int .i64 R.vf) (.int .i64 (R.s : Int))
      have G2 := grown_setCell (grown_setCell (grown_setCell HL.out.up ⟨V, 0, none⟩ (.int .u32 (R.v : Int)) (.inr HVG.out.2)) ⟨V, 1, none⟩ (.int .i64 R.vf) (.inr HVG.out.2)) ⟨V, 2, none⟩ (.int .i64 (R.s : Int)) (.inr HVG.out.2)
      clear hst
      go_wp2
      generalize ((wr.setCell ⟨V, 0, none⟩ (.int .u32 (R.v : Int))).setCell ⟨V, 1, none⟩ (.int .i64 R.vf)).setCell ⟨V, 2, none⟩ (.int .i64 (R.s : Int)) = wz at *
      refine bodyPost_ret (v := .agg #[.int .u32 (R.v : Int), .int .i64 R.vf, .int .i64 (R.s : Int)]) ?_ rfl ?_
      · simp [results, Try.results21, go_sem, z0, z1, z2]
      · rw [HO.out.2.2]
        exact ⟨by rw [← HO.out.2.1], G2⟩

theorem vggoing0 {a b : Option Addr} {ca cb : Nat} {xs : List In} {pk : List UInt8} {d q : Nat} {Res : Nat × Int × List Nat} (h0 : 0 < xs.length) (h : runF xs pk xs.length 0 mc0 = Res) : Going xs pk (run0 a b xs.length ca pk.length cb d q) [] Res :=
  ⟨rfl, rfl, rfl, rfl, mc0_ok, h0, rfl, Nat.le_refl _, xs.length, by show xs.length ≤ 0 + xs.length; omega, by rw [show (run0 a b xs.length ca pk.length cb d q).j = 0 from rfl, show (run0 a b xs.length ca pk.length cb d q).M = mc0 from rfl, h]; rfl⟩
/-- What a run that is taken has. -/
theorem vgran_of {xs : List In} {pk : List UInt8} (hz : runE xs pk = 0) : (0 < xs.length ∧ xs.length ≤ 4096 ∧ (∀ j (hj : j < xs.length), badV xs.length j xs[j] = 0) ∧ lastB xs = true) ∧ pk.length ≤ 65536 ∧ runF xs pk xs.length 0 mc0 = runV xs pk := by
  have htk : (checkV xs).2 = 0 := by
    apply Classical.byContradiction
    intro hn
    rw [runE, if_neg hn] at hz
    omega
  refine ⟨taken htk, ?_, ?_⟩
  · apply Classical.byContradiction
    intro hn
    rw [runE, if_pos htk, if_pos (by omega)] at hz
    omega
  · rw [runV, if_pos hz]
theorem vgran_no {xs : List In} {pk : List UInt8} (hz : runE xs pk ≠ 0) : runV xs pk = (0, 0, []) := by
  rw [runV, if_neg hz]

set_option maxHeartbeats 2000000 in
theorem run_any (a b : Option Addr) (ca cb : Nat) (xs : List In) (pk : List UInt8) (w : World) (ha : CV w a (flat xs)) (hb : Cells w b pk) :
    Calls Try.prog 10 #[.slice a xs.length ca, .slice b pk.length cb] w fun e w' => RunEnd w (runV xs pk).1 (runV xs pk).2.1 ((runV xs pk).2.2.length : Int) (runE xs pk) e w' := by
  have G0 : w.grownBy (w.alloc (.cells #[.int .u32 0, .int .i64 0, .int .i64 0] 36)) none := World.grownBy_alloc _ _ _
  have B0 : BlkN (w.alloc (.cells #[.int .u32 0, .int .i64 0, .int .i64 0] 36)) 36 w.heap.size 3 := ⟨_, heap_alloc_new w _, rfl⟩
  have ha' := ha.keptNone G0
  have hb' := hb.keptNone G0
  have HV : Hid (w.heap.size = w.heap.size) := rfl
  obtain ⟨V, hV⟩ : ∃ V, w.heap.size = V := ⟨_, rfl⟩
  have HVV : Hid (w.heap.size ≤ V) := Nat.le_of_eq hV
  rw [hV] at B0
  have HG0 : Hid (w.grownBy (w.alloc (.cells #[.int .u32 0, .int .i64 0, .int .i64 0] 36)) none) := G0
  have HB0 : Hid (BlkN (w.alloc (.cells #[.int .u32 0, .int .i64 0, .int .i64 0] 36)) 36 V 3) := B0
  clear ha hb G0 B0 HV
  have HBG : Hid (Calls _ _ _ _ _) := begin_any a b ca cb xs pk (w.alloc (.cells #[.int .u32 0, .int .i64 0, .int .i64 0] 36)) ha'
  have HFI : Hid (∀ W g d q, runE xs pk = 0 → LoopI (w.alloc (.cells #[.int .u32 0, .int .i64 0, .int .i64 0] 36)) W g d q a b ca cb xs.length pk.length (run0 a b xs.length ca pk.length cb d q) → Calls Try.prog 21 #[.pointer (some ⟨g, 0, none⟩)] W fun e w' => e = .returned (.agg #[.int .u32 ((runV xs pk).1 : Int), .int .i64 (runV xs pk).2.1, .int .i64 ((runV xs pk).2.2.length : Int)]) ∧ (w.alloc (.cells #[.int .u32 0, .int .i64 0, .int .i64 0] 36)).grownBy w' none) := fun W g d q hz L => by
    obtain ⟨⟨t1, t2, t3, t4⟩, hpk, hrun⟩ := vgran_of hz
    exact vgfinish_any a b ca cb xs pk _ W g d q _ [] _ ha' hb' hpk t3 t4 t2 L (vggoing0 t1 hrun)
  have HNO : Hid (runE xs pk ≠ 0 → runV xs pk = (0, 0, [])) := vgran_no
  clear ha' hb'
  generalize runE xs pk = E at *
  generalize runV xs pk = Res at *
  go_enter Try.func10, Try.ntmps10
  go_upto_region 1 with fail
  try rw [hV]
  clear hV
  generalize w.alloc (.cells #[.int .u32 0, .int .i64 0, .int .i64 0] 36) = wa at *
  go_wp2_with fail
  refine HBG.out.mono ?_
  rintro e w1 hbg
  clear HBG
  rcases hbg with ⟨hz, g, d, q, rfl, L⟩ | ⟨hz, rfl, K1⟩
  · subst hz
    have HF : Hid (Calls _ _ _ _ _) := HFI.out w1 g d q rfl L
    clear HFI HNO L
    obtain ⟨v, f, l⟩ := Res
    go_wp2_with fail
    refine HF.out.mono ?_
    rintro e w2 ⟨rfl, K2⟩
    have HB2 : Hid (BlkN w2 36 V 3) := HB0.out.kept K2 (by simp)
    have HG2 : Hid (w.grownBy w2 none) := grown_trans HG0.out K2
    clear HF HB0 HG0 K2
    obtain ⟨u0, hu0⟩ := HB2.out.cell (i := 0) (by omega)
    obtain ⟨u1, hu1⟩ := HB2.out.cell (i := 1) (by omega)
    obtain ⟨u2, hu2⟩ := HB2.out.cell (i := 2) (by omega)
    have hf0 := HB2.out.free 0
    have hf1 := HB2.out.free 1
    have hf2 := HB2.out.free 2
    obtain ⟨z0, z1, z2⟩ := set3 HB2.out (.int .u32 (v : Int)) (.int .i64 f) (.int .i64 (l.length : Int))
    have G2 := grown_setCell (grown_setCell (grown_setCell HG2.out ⟨V, 0, none⟩ (.int .u32 (v : Int)) (.inr HVV.out)) ⟨V, 1, none⟩ (.int .i64 f) (.inr HVV.out)) ⟨V, 2, none⟩ (.int .i64 (l.length : Int)) (.inr HVV.out)
    go_wp2
    generalize ((w2.setCell ⟨V, 0, none⟩ (.int .u32 (v : Int))).setCell ⟨V, 1, none⟩ (.int .i64 f)).setCell ⟨V, 2, none⟩ (.int .i64 (l.length : Int)) = wz at *
    refine bodyPost_ret (v := .tuple #[.agg #[.int .u32 (v : Int), .int .i64 f, .int .i64 (l.length : Int)], .int .i64 0]) ?_ rfl ?_
    · simp [results, Try.results10, go_sem, z0, z1, z2]
    · exact ⟨rfl, G2⟩
  · have hres := HNO.out hz
    have hEb : (E != 0) = true := by rw [bne_iff_ne]; exact hz
    clear HNO HFI hz
    subst hres
    have HB2 : Hid (BlkN w1 36 V 3) := HB0.out.kept K1 (by simp)
    have HG2 : Hid (w.grownBy w1 none) := grown_trans HG0.out K1
    clear HB0 HG0 K1
    obtain ⟨u0, hu0⟩ := HB2.out.cell (i := 0) (by omega)
    obtain ⟨u1, hu1⟩ := HB2.out.cell (i := 1) (by omega)
    obtain ⟨u2, hu2⟩ := HB2.out.cell (i := 2) (by omega)
    have hf0 := HB2.out.free 0
    have hf1 := HB2.out.free 1
    have hf2 := HB2.out.free 2
    obtain ⟨z0, z1, z2⟩ := set3 HB2.out (.int .u32 0) (.int .i64 0) (.int .i64 0)
    have G2 := grown_setCell (grown_setCell (grown_setCell HG2.out ⟨V, 0, none⟩ (.int .u32 0) (.inr HVV.out)) ⟨V, 1, none⟩ (.int .i64 0) (.inr HVV.out)) ⟨V, 2, none⟩ (.int .i64 0) (.inr HVV.out)
    go_wp2
    generalize ((w1.setCell ⟨V, 0, none⟩ (.int .u32 0)).setCell ⟨V, 1, none⟩ (.int .i64 0)).setCell ⟨V, 2, none⟩ (.int .i64 0) = wz at *
    refine bodyPost_ret (v := .tuple #[.agg #[.int .u32 0, .int .i64 0, .int .i64 0], .int .i64 E]) ?_ rfl ?_
    · simp [results, Try.results10, go_sem, z0, z1, z2]
    · exact ⟨rfl, G2⟩

set_option maxHeartbeats 2000000 in
theorem trace_any (a b : Option Addr) (ca cb : Nat) (xs : List In) (pk : List UInt8) (w : World) (ha : CV w a (flat xs)) (hb : Cells w b pk) :
    Calls Try.prog 12 #[.slice a xs.length ca, .slice b pk.length cb] w fun e w' => TraceEnd w (runV xs pk).2.2 (runE xs pk) e w' := by
  obtain ⟨i0, hi, hz0, hz1, hz2⟩ := info_parts infoI3
  have HBG : Hid (Calls _ _ _ _ _) := begin_any a b ca cb xs pk w ha
  have H : Hid (CV w a (flat xs)) := ha
  have HP : Hid (Cells w b pk) := hb
  have HE0 : Hid (runE xs pk = 0 → (0 < xs.length ∧ xs.length ≤ 4096 ∧ (∀ j (hj : j < xs.length), badV xs.length j xs[j] = 0) ∧ lastB xs = true) ∧ pk.length ≤ 65536 ∧ runF xs pk xs.length 0 mc0 = runV xs pk) := vgran_of
  have HNO : Hid (runE xs pk ≠ 0 → runV xs pk = (0, 0, [])) := vgran_no
  clear ha hb
  generalize runE xs pk = E at *
  generalize runV xs pk = Res at *
  go_enter Try.func12, Try.ntmps12
  go_wp2_with fail
  refine HBG.out.mono ?_
  rintro e w1 hbg
  clear HBG
  rcases hbg with ⟨hz, g, d, q, rfl, L⟩ | ⟨hz, rfl, K1⟩
  · obtain ⟨⟨t1, t2, t3, t4⟩, hpk, hrun⟩ := HE0.out hz
    subst hz
    have HT : Hid ((∀ j (hj : j < xs.length), badV xs.length j xs[j] = 0) ∧ lastB xs = true ∧ runF xs pk xs.length 0 mc0 = Res ∧ 0 < xs.length ∧ xs.length ≤ 4096 ∧ pk.length ≤ 65536) := ⟨t3, t4, hrun, t1, t2, hpk⟩
    have HL0 : Hid (LoopI w w1 g d q a b ca cb xs.length pk.length (run0 a b xs.length ca pk.length cb d q)) := L
    have HN0 : Hid (Calls _ _ _ _ _) := vgnext_any g _ w1 L.at'
    have HG0 : Hid (Going xs pk (run0 a b xs.length ca pk.length cb d q) [] Res) := vggoing0 t1 hrun
    have e1 : (run0 a b xs.length ca pk.length cb d q).j = 0 := rfl
    have e2 : (run0 a b xs.length ca pk.length cb d q).o = false := rfl
    clear HE0 HNO L t1 t2 t3 t4 hrun hpk
    generalize run0 a b xs.length ca pk.length cb d q = R0 at *
    go_wp2_with fail
    refine HN0.out.mono ?_
    rintro e w2 ⟨rfl, K2⟩
    have HL1 : Hid (LoopI w w2 g d q a b ca cb xs.length pk.length R0) := HL0.out.kept K2
    clear HN0 HL0 K2 w1
    go_upto_region 6 with fail
    go_loopw [8, 9, 10] (fun s8 s9 s10 wr => ∃ (tr : Value) (R : Vn) (ts : List Nat), tr = s8 ∧ s9 = .int .i64 (R.j : Int) ∧ s10 = .bool (!R.o) ∧ LoopI w wr g d q a b ca cb xs.length pk.length R ∧ wr.ownsRow w.heap.size 3 1 tr ts.length ((zl ts).map iv) ∧ (Going xs pk R ts Res ∨ Over R ts Res)) (fun _ _ _ wr => meas xs.length g wr)
    case atStart => exact ⟨_, R0, [], rfl, (by first | rfl | (rw [e1]; rfl)), (by first | rfl | (rw [e2]; rfl)), HL1.out, World.ownsRow_nil _ _ _ _, .inl HG0.out⟩
    case round =>
      clear HL1 HG0 e1 e2 R0
      obtain ⟨tr, R, ts, rfl, rfl, rfl, L, O, hst⟩ := hrel
      have HL : Hid (LoopI w wr g d q a b ca cb xs.length pk.length R) := L
      have HO : Hid (wr.ownsRow w.heap.size 3 1 tr ts.length ((zl ts).map iv)) := O
      clear L
      rcases hst with hst | hst
      · have HG : Hid (Going xs pk R ts Res) := hst
        have hlen : ts.length ≤ 4096 := by
          have h1 := hst.2.2.2.2.2.2.1
          have h2 := hst.2.2.2.2.2.2.2.1
          have h3 := hst.2.2.2.2.2.1
          have h4 := HT.out.2.2.2.2.1
          omega
        have ho : R.o = false := hst.1
        have hsz := HL.out.up.size
        rw [ho]
        clear hst O
        go_wp2_with (at_builtin; refine wpList_append_cv rfl (.tmp 31) (.tmp 33) 40 rfl 3 i0 (.int .i64 0) 1 8 Try.underlying40 hi hz0 hz1 hz2 rfl (by decide) w.heap.size tr ts.length ((zl ts).map iv) rfl ?q1 (some ⟨wr.heap.size, 0, none⟩) 1 1 [.int .i64 (R.j : Int)] rfl rfl (by simp) ?q2 (by simp [Value.oneCell']) ?q3 ?q4 ?q5 ?q6)
        case q1 => exact owns_keptNone HO.out (World.grownBy_alloc _ _ _)
        case q2 => exact cv_lit wr _ _
        case q3 => unfold maxLen; omega
        case q4 => omega
        case q5 => simp; omega
        case q6 =>
          intro v' w5 O5 K5
          have HK5 : Hid (wr.grownBy w5 tr.ownBlock) := grown_trans (grown_mono (World.grownBy_alloc _ _ none)) K5
          have HO5 : Hid (w5.ownsRow w.heap.size 3 1 v' (ts ++ [R.j]).length ((zl (ts ++ [R.j])).map iv)) := by
            show w5.ownsRow _ _ _ _ _ _
            simpa [zl, iv] using O5
          have HL5 : Hid (LoopI w w5 g d q a b ca cb xs.length pk.length R) := HL.out.other HO.out HK5.out
          clear O5 K5 HK5
          have HSTT : Hid (Calls Try.prog 23 #[.pointer (some ⟨g, 0, none⟩)] w5 fun e w' => e = .returned (.tuple #[]) ∧ ∃ R', LoopI w w' g d q a b ca cb xs.length pk.length R' ∧ ((Going xs pk R' (ts ++ [R.j]) Res ∧ R.j < R'.j) ∨ Over R' (ts ++ [R.j]) Res) ∧ w5.grownBy w' (some g)) := step_any a b ca cb xs pk w w5 g d q R ts Res H.out HP.out HT.out.2.2.2.2.2 HT.out.1 HT.out.2.1 HT.out.2.2.2.2.1 HL5.out HG.out
          go_wp2_with fail
          refine HSTT.out.mono ?_
          rintro e w' ⟨rfl, R', L', hst', K⟩
          have HL' : Hid (LoopI w w' g d q a b ca cb xs.length pk.length R') := L'
          have HO' : Hid (w'.ownsRow w.heap.size 3 1 v' (ts ++ [R.j]).length ((zl (ts ++ [R.j])).map iv)) := row_run HO5.out HL5.out.at' K
          have HS' : Hid ((Going xs pk R' (ts ++ [R.j]) Res ∧ R.j < R'.j) ∨ Over R' (ts ++ [R.j]) Res) := hst'
          have HN' : Hid (Calls _ _ _ _ _) := vgnext_any g _ w' L'.at'
          clear L' K hst' HSTT
          go_wp2_with fail
          refine HN'.out.mono ?_
          rintro e w7 ⟨rfl, K7⟩
          have HL7 : Hid (LoopI w w7 g d q a b ca cb xs.length pk.length R') := HL'.out.kept K7
          have HO7 : Hid (w7.ownsRow w.heap.size 3 1 v' (ts ++ [R.j]).length ((zl (ts ++ [R.j])).map iv)) := owns_keptNone HO'.out K7
          clear HN' K7
          go_wp2
          go_roundw
          case rel => exact ⟨_, R', ts ++ [R.j], rfl, rfl, rfl, HL7.out, HO7.out, HS'.out.elim (fun h => .inl h.1) .inr⟩
          case measure =>
            have hj := HG.out.2.2.2.2.2.1
            rw [meas_going HL.out.at' HG.out.1]
            rcases HS'.out with h | h
            · rw [meas_going HL7.out.at' h.1.1]
              have := h.2
              have := h.1.2.2.2.2.2.1
              omega
            · rw [meas_over HL7.out.at' h.1]
              omega
      · have HOV : Hid (Over R ts Res) := hst
        have ho : R.o = true := hst.1
        rw [ho]
        clear hst O
        go_wp2
        go_ret2
        refine ⟨_, rfl, ?_, HL.out.up⟩
        rw [HOV.out.2.2]
        exact HO.out
  · have hres := HNO.out hz
    have hEb : (E != 0) = true := by rw [bne_iff_ne]; exact hz
    have HK1 : Hid (w.grownBy w1 none) := K1
    clear HE0 HNO hz K1
    subst hres
    go_wp2
    go_ret2
    exact ⟨_, rfl, World.ownsRow_nil _ _ _ _, HK1.out⟩

end Go.Proofs.Ytencoknpocipbaa
