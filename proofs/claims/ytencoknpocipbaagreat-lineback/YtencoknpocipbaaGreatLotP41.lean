/-
  The landed vm: Run and Trace. Package graph as landed: Run.
-/
import Derived.Test.YtencoknpocipbaaGreatLotP40
import Derived.Test.YtencoknpocipbaaGreatLotP27
import Derived.Test.YtencoknpocipbaaGreatLotP36
namespace Go.Proofs.YtencoknpocipbaaGreat
open Go.RowKit
set_option maxRecDepth 100000

/-- How far a run has to go. -/
def meas (n g : Nat) (w : World) : Nat := match w.cell? ⟨g, 24, none⟩ with
  | some (.bool true) => 0
  | _ => n + 1 - (intOf ((w.cell? ⟨g, 23, none⟩).getD .nilIface)).toNat
theorem meas_going {n g : Nat} {w : World} {R : Vn} (h : VnAt w g R) (ho : R.o = false) : meas n g w = n + 1 - R.j := by
  have h1 : w.cell? ⟨g, 24, none⟩ = some (.bool R.o) := h.tl 6
  have h2 : w.cell? ⟨g, 23, none⟩ = some (.int .i64 (R.j : Int)) := h.tl 5
  rw [ho] at h1
  simp [meas, h1, h2, intOf]
theorem meas_over {n g : Nat} {w : World} {R : Vn} (h : VnAt w g R) (ho : R.o = true) : meas n g w = 0 := by
  have h1 : w.cell? ⟨g, 24, none⟩ = some (.bool R.o) := h.tl 6
  rw [ho] at h1
  simp [meas, h1]

/-- Rows of whole numbers and the run's block do not touch. -/
theorem row_run {w w' : World} {base size n g : Nat} {v : Value} {vs : List Value} {R : Vn} (h : w.ownsRow base 3 size v n vs) (r : VnAt w g R) (K : w.grownBy w' (some g)) : w'.ownsRow base 3 size v n vs :=
  row_blk (m := R.arr.size) h ⟨_, r.1, rfl⟩ (show 3 ≠ 103 by decide) K
theorem run_row {w w' : World} {base size n g : Nat} {v : Value} {vs : List Value} {R : Vn} (r : VnAt w g R) (h : w.ownsRow base 3 size v n vs) (K : w.grownBy w' v.ownBlock) : VnAt w' g R := by
  refine r.grown K ?_
  rcases h.2 with ⟨rfl, -⟩ | ⟨g1, cap, cur, rfl, -, hg, -⟩
  · simp [Value.ownBlock]
  · intro hh
    simp only [Value.ownBlock, Option.some.injEq] at hh
    subst hh
    have hb := r.1
    unfold GVt at hb
    rw [hg] at hb
    simp only [Option.some.injEq, Obj.cells.injEq] at hb
    exact absurd hb.2.1 (show ¬ 3 = 103 by decide)
theorem kind_row {w : World} {base size n d t : Nat} {v : Value} {vs : List Value} (k : Kind w d t) (h : w.ownsRow base 3 size v n vs) (ht : t ≠ 3) : some d ≠ v.ownBlock := by
  rcases h.2 with ⟨rfl, -⟩ | ⟨g1, cap, cur, rfl, -, hg, -⟩
  · simp [Value.ownBlock]
  · intro hh
    simp only [Value.ownBlock, Option.some.injEq] at hh
    subst hh
    obtain ⟨cs, hb⟩ := k
    unfold GVt at hb
    rw [hg] at hb
    simp only [Option.some.injEq, Obj.cells.injEq] at hb
    exact ht hb.2.1.symm
theorem LoopI.other {w wr w' : World} {g d q : Nat} {a b : Option Addr} {ca cb n m : Nat} {R : Vn} {size l : Nat} {v : Value} {vs : List Value} (L : LoopI w wr g d q a b ca cb n m R) (h : wr.ownsRow w.heap.size 3 size v l vs) (K : wr.grownBy w' v.ownBlock) : LoopI w w' g d q a b ca cb n m R :=
  ⟨run_row L.at' h K, L.hd, L.hq, L.hp, L.hk, L.dt.grown K (kind_row L.dt.1 h (by decide)), L.qt.grown K (kind_row L.qt.1 h (by decide)), L.dg, L.qg, grown_trans_new L.up K (fun x hx => (h.lt x hx).1), L.new⟩

theorem blk_ne {w w' : World} {e g m h : Nat} (B : BlkN w e g m) (K : w.grownBy w' (some h)) (hne : g ≠ h) : BlkN w' e g m := B.kept K (by simpa using hne)

set_option maxHeartbeats 2000000 in
theorem vgfinish_any (a b : Option Addr) (ca cb : Nat) (xs : List In) (pk : List UInt8) (w wr : World) (g d q : Nat) (R : Vn) (ts : List Nat) (Res : Nat × Int × List Nat) (hX : CV w a (flat xs)) (hP : Cells w b pk) (hpk : pk.length ≤ 65536)
    (hT : ∀ j (hj : j < xs.length), badV xs.length j xs[j] = 0) (hT2 : lastB xs = true) (hn : xs.length ≤ 4096) (L : LoopI w wr g d q a b ca cb xs.length pk.length R) (G : Going xs pk R ts Res) :
    Calls Tryz.prog 23 #[.pointer (some ⟨g, 0, none⟩)] wr fun e w' => e = .returned (.agg #[.int .u32 (Res.1 : Int), .int .i64 Res.2.1, .int .i64 (Res.2.2.length : Int)]) ∧ w.grownBy w' none := by
  have H : Hid (CV w a (flat xs)) := hX
  have HP : Hid (Cells w b pk) := hP
  have HT : Hid ((∀ j (hj : j < xs.length), badV xs.length j xs[j] = 0) ∧ lastB xs = true ∧ xs.length ≤ 4096 ∧ pk.length ≤ 65536) := ⟨hT, hT2, hn, hpk⟩
  have G0 : wr.grownBy (wr.alloc (.cells #[.int .u32 0, .int .i64 0, .int .i64 0] 35)) none := World.grownBy_alloc _ _ _
  have HB0 : Hid (BlkN (wr.alloc (.cells #[.int .u32 0, .int .i64 0, .int .i64 0] 35)) 35 wr.heap.size 3) := ⟨_, heap_alloc_new wr _, rfl⟩
  have HL0 : Hid (LoopI w (wr.alloc (.cells #[.int .u32 0, .int .i64 0, .int .i64 0] 35)) g d q a b ca cb xs.length pk.length R) := L.kept G0
  have HVG : Hid (wr.heap.size ≠ g ∧ w.heap.size ≤ wr.heap.size) := ⟨by have := L.at'.lt; omega, L.up.size⟩
  have HG0 : Hid (Going xs pk R ts Res) := G
  clear hX hP hpk hT hT2 hn L G G0
  go_enter Tryz.func23, Tryz.ntmps23
  go_upto_region 1 with fail
  generalize wr.alloc (.cells #[.int .u32 0, .int .i64 0, .int .i64 0] 35) = wa at *
  generalize wr.heap.size = V at *
  go_loopw [3] (fun _ wx => ∃ (R : Vn) (ts : List Nat), LoopI w wx g d q a b ca cb xs.length pk.length R ∧ BlkN wx 35 V 3 ∧ (Going xs pk R ts Res ∨ Over R ts Res)) (fun _ wx => meas xs.length g wx)
  case atStart => exact ⟨R, ts, HL0.out, HB0.out, .inl HG0.out⟩
  case round =>
    clear HL0 HB0 HG0
    obtain ⟨R, ts, L, B, hst⟩ := hrel
    have HL : Hid (LoopI w wr g d q a b ca cb xs.length pk.length R) := L
    have HB : Hid (BlkN wr 35 V 3) := B
    have d24 : wr.cell? ⟨g, 24, none⟩ = some (.bool R.o) := L.at'.tl 6
    clear L B
    rcases hst with hst | hst
    · have HG : Hid (Going xs pk R ts Res) := hst
      have HST := step_any a b ca cb xs pk w wr g d q R ts Res H.out HP.out HT.out.2.2.2 HT.out.1 HT.out.2.1 HT.out.2.2.1 HL.out hst
      have HSTT : Hid (Calls Tryz.prog 45 #[.pointer (some ⟨g, 0, none⟩)] wr fun e w' => e = .returned (.tuple #[]) ∧ ∃ R', LoopI w w' g d q a b ca cb xs.length pk.length R' ∧ ((Going xs pk R' (ts ++ [R.j]) Res ∧ R.j < R'.j) ∨ Over R' (ts ++ [R.j]) Res) ∧ wr.grownBy w' (some g)) := HST
      rw [hst.1] at d24
      clear HST hst
      go_wp2_with fail
      refine HSTT.out.mono ?_
      rintro e w' ⟨rfl, R', L', hst', K⟩
      have HL' : Hid (LoopI w w' g d q a b ca cb xs.length pk.length R') := L'
      have HB' : Hid (BlkN w' 35 V 3) := blk_ne HB.out K HVG.out.1
      have HS' : Hid ((Going xs pk R' (ts ++ [R.j]) Res ∧ R.j < R'.j) ∨ Over R' (ts ++ [R.j]) Res) := hst'
      clear L' K hst' HSTT
      go_wp2
      go_roundw
      case rel => exact ⟨R', ts ++ [R.j], HL'.out, HB'.out, HS'.out.elim (fun h => .inl h.1) .inr⟩
      case measure =>
        have hj := HG.out.2.2.2.2.2.1
        rw [meas_going HL.out.at' HG.out.1]
        rcases HS'.out with h | h
        · rw [meas_going HL'.out.at' h.1.1]
          have := h.2
          have := h.1.2.2.2.2.2.1
          omega
        · rw [meas_over HL'.out.at' h.1]
          omega
    · have HO : Hid (Over R ts Res) := hst
      have d25 : wr.cell? ⟨g, 25, none⟩ = some (.int .u32 (R.v : Int)) := HL.out.at'.tl 7
      have d26 : wr.cell? ⟨g, 26, none⟩ = some (.int .i64 R.vf) := HL.out.at'.tl 8
      have d27 : wr.cell? ⟨g, 27, none⟩ = some (.int .i64 (R.s : Int)) := HL.out.at'.tl 9
      rw [hst.1] at d24
      obtain ⟨u0, hu0⟩ := HB.out.cell (i := 0) (by omega)
      obtain ⟨u1, hu1⟩ := HB.out.cell (i := 1) (by omega)
      obtain ⟨u2, hu2⟩ := HB.out.cell (i := 2) (by omega)
      have hf0 := HB.out.free 0
      have hf1 := HB.out.free 1
      have hf2 := HB.out.free 2
      obtain ⟨z0, z1, z2⟩ := set3 HB.out (.int .u32 (R.v : Int)) (.int .i64 R.vf) (.int .i64 (R.s : Int))
      have G2 := grown_setCell (grown_setCell (grown_setCell HL.out.up ⟨V, 0, none⟩ (.int .u32 (R.v : Int)) (.inr HVG.out.2)) ⟨V, 1, none⟩ (.int .i64 R.vf) (.inr HVG.out.2)) ⟨V, 2, none⟩ (.int .i64 (R.s : Int)) (.inr HVG.out.2)
      clear hst
      go_wp2
      generalize ((wr.setCell ⟨V, 0, none⟩ (.int .u32 (R.v : Int))).setCell ⟨V, 1, none⟩ (.int .i64 R.vf)).setCell ⟨V, 2, none⟩ (.int .i64 (R.s : Int)) = wz at *
      refine bodyPost_ret (v := .agg #[.int .u32 (R.v : Int), .int .i64 R.vf, .int .i64 (R.s : Int)]) ?_ rfl ?_
      · simp [results, Tryz.results23, go_sem, z0, z1, z2]
      · rw [HO.out.2.2]
        exact ⟨by rw [← HO.out.2.1], G2⟩

theorem vggoing0 {a b : Option Addr} {ca cb : Nat} {xs : List In} {pk : List UInt8} {d q : Nat} {Res : Nat × Int × List Nat} (h0 : 0 < xs.length) (h : runF xs pk xs.length 0 mc0 = Res) : Going xs pk (run0 a b xs.length ca pk.length cb d q) [] Res :=
  ⟨rfl, rfl, rfl, rfl, mc0_ok, h0, rfl, Nat.le_refl _, xs.length, by show xs.length ≤ 0 + xs.length; omega, by rw [show (run0 a b xs.length ca pk.length cb d q).j = 0 from rfl, show (run0 a b xs.length ca pk.length cb d q).M = mc0 from rfl, h]; rfl⟩
/-- What a run that is taken has. -/
theorem vgran_of {xs : List In} {pk : List UInt8} (hz : runE xs pk = 0) : (0 < xs.length ∧ xs.length ≤ 4096 ∧ (∀ j (hj : j < xs.length), badV xs.length j xs[j] = 0) ∧ lastB xs = true) ∧ pk.length ≤ 65536 ∧ runF xs pk xs.length 0 mc0 = runV xs pk := by
  have htk : (checkV xs).2 = 0 := by
    apply Classical.byContradiction
    intro hn
    rw [runE, if_neg hn] at hz
    omega
  refine ⟨taken htk, ?_, ?_⟩
  · apply Classical.byContradiction
    intro hn
    rw [runE, if_pos htk, if_pos (by omega)] at hz
    omega
  · rw [runV, if_pos hz]
theorem vgran_no {xs : List In} {pk : List UInt8} (hz : runE xs pk ≠ 0) : runV xs pk = (0, 0, []) := by
  rw [runV, if_neg hz]

set_option maxHeartbeats 2000000 in
theorem run_any (a b : Option Addr) (ca cb : Nat) (xs : List In) (pk : List UInt8) (w : World) (ha : CV w a (flat xs)) (hb : Cells w b pk) :
    Calls Tryz.prog 11 #[.slice a xs.length ca, .slice b pk.length cb] w fun e w' => RunEnd w (runV xs pk).1 (runV xs pk).2.1 ((runV xs pk).2.2.length : Int) (runE xs pk) e w' := by
  have G0 : w.grownBy (w.alloc (.cells #[.int .u32 0, .int .i64 0, .int .i64 0] 35)) none := World.grownBy_alloc _ _ _
  have B0 : BlkN (w.alloc (.cells #[.int .u32 0, .int .i64 0, .int .i64 0] 35)) 35 w.heap.size 3 := ⟨_, heap_alloc_new w _, rfl⟩
  have ha' := ha.keptNone G0
  have hb' := hb.keptNone G0
  have HV : Hid (w.heap.size = w.heap.size) := rfl
  obtain ⟨V, hV⟩ : ∃ V, w.heap.size = V := ⟨_, rfl⟩
  have HVV : Hid (w.heap.size ≤ V) := Nat.le_of_eq hV
  rw [hV] at B0
  have HG0 : Hid (w.grownBy (w.alloc (.cells #[.int .u32 0, .int .i64 0, .int .i64 0] 35)) none) := G0
  have HB0 : Hid (BlkN (w.alloc (.cells #[.int .u32 0, .int .i64 0, .int .i64 0] 35)) 35 V 3) := B0
  clear ha hb G0 B0 HV
  have HBG : Hid (Calls _ _ _ _ _) := begin_any a b ca cb xs pk (w.alloc (.cells #[.int .u32 0, .int .i64 0, .int .i64 0] 35)) ha'
  have HFI : Hid (∀ W g d q, runE xs pk = 0 → LoopI (w.alloc (.cells #[.int .u32 0, .int .i64 0, .int .i64 0] 35)) W g d q a b ca cb xs.length pk.length (run0 a b xs.length ca pk.length cb d q) → Calls Tryz.prog 23 #[.pointer (some ⟨g, 0, none⟩)] W fun e w' => e = .returned (.agg #[.int .u32 ((runV xs pk).1 : Int), .int .i64 (runV xs pk).2.1, .int .i64 ((runV xs pk).2.2.length : Int)]) ∧ (w.alloc (.cells #[.int .u32 0, .int .i64 0, .int .i64 0] 35)).grownBy w' none) := fun W g d q hz L => by
    obtain ⟨⟨t1, t2, t3, t4⟩, hpk, hrun⟩ := vgran_of hz
    exact vgfinish_any a b ca cb xs pk _ W g d q _ [] _ ha' hb' hpk t3 t4 t2 L (vggoing0 t1 hrun)
  have HNO : Hid (runE xs pk ≠ 0 → runV xs pk = (0, 0, [])) := vgran_no
  clear ha' hb'
  generalize runE xs pk = E at *
  generalize runV xs pk = Res at *
  go_enter Tryz.func11, Tryz.ntmps11
  go_upto_region 1 with fail
  try rw [hV]
  clear hV
  generalize w.alloc (.cells #[.int .u32 0, .int .i64 0, .int .i64 0] 35) = wa at *
  go_wp2_with fail
  refine HBG.out.mono ?_
  rintro e w1 hbg
  clear HBG
  rcases hbg with ⟨hz, g, d, q, rfl, L⟩ | ⟨hz, rfl, K1⟩
  · subst hz
    have HF : Hid (Calls _ _ _ _ _) := HFI.out w1 g d q rfl L
    clear HFI HNO L
    obtain ⟨v, f, l⟩ := Res
    go_wp2_with fail
    refine HF.out.mono ?_
    rintro e w2 ⟨rfl, K2⟩
    have HB2 : Hid (BlkN w2 35 V 3) := HB0.out.kept K2 (by simp)
    have HG2 : Hid (w.grownBy w2 none) := grown_trans HG0.out K2
    clear HF HB0 HG0 K2
    obtain ⟨u0, hu0⟩ := HB2.out.cell (i := 0) (by omega)
    obtain ⟨u1, hu1⟩ := HB2.out.cell (i := 1) (by omega)
    obtain ⟨u2, hu2⟩ := HB2.out.cell (i := 2) (by omega)
    have hf0 := HB2.out.free 0
    have hf1 := HB2.out.free 1
    have hf2 := HB2.out.free 2
    obtain ⟨z0, z1, z2⟩ := set3 HB2.out (.int .u32 (v : Int)) (.int .i64 f) (.int .i64 (l.length : Int))
    have G2 := grown_setCell (grown_setCell (grown_setCell HG2.out ⟨V, 0, none⟩ (.int .u32 (v : Int)) (.inr HVV.out)) ⟨V, 1, none⟩ (.int .i64 f) (.inr HVV.out)) ⟨V, 2, none⟩ (.int .i64 (l.length : Int)) (.inr HVV.out)
    go_wp2
    generalize ((w2.setCell ⟨V, 0, none⟩ (.int .u32 (v : Int))).setCell ⟨V, 1, none⟩ (.int .i64 f)).setCell ⟨V, 2, none⟩ (.int .i64 (l.length : Int)) = wz at *
    refine bodyPost_ret (v := .tuple #[.agg #[.int .u32 (v : Int), .int .i64 f, .int .i64 (l.length : Int)], .int .i64 0]) ?_ rfl ?_
    · simp [results, Tryz.results11, go_sem, z0, z1, z2]
    · exact ⟨rfl, G2⟩
  · have hres := HNO.out hz
    have hEb : (E != 0) = true := by rw [bne_iff_ne]; exact hz
    clear HNO HFI hz
    subst hres
    have HB2 : Hid (BlkN w1 35 V 3) := HB0.out.kept K1 (by simp)
    have HG2 : Hid (w.grownBy w1 none) := grown_trans HG0.out K1
    clear HB0 HG0 K1
    obtain ⟨u0, hu0⟩ := HB2.out.cell (i := 0) (by omega)
    obtain ⟨u1, hu1⟩ := HB2.out.cell (i := 1) (by omega)
    obtain ⟨u2, hu2⟩ := HB2.out.cell (i := 2) (by omega)
    have hf0 := HB2.out.free 0
    have hf1 := HB2.out.free 1
    have hf2 := HB2.out.free 2
    obtain ⟨z0, z1, z2⟩ := set3 HB2.out (.int .u32 0) (.int .i64 0) (.int .i64 0)
    have G2 := grown_setCell (grown_setCell (grown_setCell HG2.out ⟨V, 0, none⟩ (.int .u32 0) (.inr HVV.out)) ⟨V, 1, none⟩ (.int .i64 0) (.inr HVV.out)) ⟨V, 2, none⟩ (.int .i64 0) (.inr HVV.out)
    go_wp2
    generalize ((w1.setCell ⟨V, 0, none⟩ (.int .u32 0)).setCell ⟨V, 1, none⟩ (.int .i64 0)).setCell ⟨V, 2, none⟩ (.int .i64 0) = wz at *
    refine bodyPost_ret (v := .tuple #[.agg #[.int .u32 0, .int .i64 0, .int .i64 0], .int .i64 E]) ?_ rfl ?_
    · simp [results, Tryz.results11, go_sem, z0, z1, z2]
    · exact ⟨rfl, G2⟩

end Go.Proofs.YtencoknpocipbaaGreat

namespace Go.Proofs.YtencoknpocipbaaGreat
open Go.RowKit
set_option maxRecDepth 100000

def grunA (b : Option Addr) (n cb d q : Nat) : Array Value := #[.int .u32 0, .int .u32 0, .int .u32 0, .int .u32 0, .int .u32 0, .int .u32 0, .int .u32 0, .int .u32 0, .int .u32 0, .int .u32 0, .int .u32 0, .int .u32 0, .int .u32 0, .int .u32 0, .int .u32 0, .int .u32 0, .int .u32 0, .int .u32 0, .slice b n cb, .int .i64 0, .slice (some ⟨d, 0, none⟩) 178 178, .slice (some ⟨q, 0, none⟩) 78 78, .bool false, .int .u32 0, .int .i64 0, .int .i64 0]
def grunZ : Array Value := #[.int .u32 0, .int .u32 0, .int .u32 0, .int .u32 0, .int .u32 0, .int .u32 0, .int .u32 0, .int .u32 0, .int .u32 0, .int .u32 0, .int .u32 0, .int .u32 0, .int .u32 0, .int .u32 0, .int .u32 0, .int .u32 0, .int .u32 0, .int .u32 0, .slice none 0 0, .int .i64 0, .slice none 0 0, .slice none 0 0, .bool false, .int .u32 0, .int .i64 0, .int .i64 0]
theorem grunA_all (b : Option Addr) (n cb d q : Nat) : (grunA b n cb d q).all (·.oneCell') = true := by simp [grunA, Value.oneCell']
theorem size71 : (Tryz.prog.info? 71).map (·.size) = some 26 := by kernel_rfl
def grun0 (b : Option Addr) (n cb d q : Nat) : Rn := ⟨mc0, .slice b n cb, 0, .slice (some ⟨d, 0, none⟩) 178 178, .slice (some ⟨q, 0, none⟩) 78 78, 71, gRest false 0 0 0⟩
theorem grun0_arr (b : Option Addr) (n cb d q : Nat) : (grun0 b n cb d q).arr = grunA b n cb d q := rfl

def gmeas (n g : Nat) (i : Value) (w : World) : Nat := match w.cell? ⟨g, 22, none⟩ with
  | some (.bool true) => 0
  | _ => n + 1 - (intOf i).toNat

theorem gmeas_over {n g : Nat} {i : Value} {w : World} (h : w.cell? ⟨g, 22, none⟩ = some (.bool true)) : gmeas n g i w = 0 := by rw [gmeas, h]
theorem gmeas_going {n g : Nat} {i : Value} {w : World} (h : w.cell? ⟨g, 22, none⟩ = some (.bool false)) : gmeas n g i w = n + 1 - (intOf i).toNat := by rw [gmeas, h]

set_option maxHeartbeats 4000000 in
theorem grun_any (a pb : Option Addr) (ca cb : Nat) (xs : List Bv) (pk : List UInt8) (w : World) (ha : GC w a xs) (hlen : ∀ x ∈ xs, x.b.code.length ≤ 4611686018427387904) (hb : Cells w pb pk) (hpl : pk.length ≤ 9223372036854775807) :
    Calls Tryz.prog 9 #[.slice a xs.length ca, .slice pb pk.length cb] w fun e w' => GEnd w (runG (gOf xs) pk) (runGE (gOf xs) pk) e w' := by
  have CT := fun W (G : w.grownBy W none) => taken_any a ca xs W (ha.keptNone G) hlen
  have H : Hid (GC w a xs) := ha
  have HP : Hid (Cells w pb pk) := hb
  have V0 := GVt.alloc w 35 #[.int .u32 0, .int .i64 0, .int .i64 0]
  have G0 : w.grownBy (w.alloc (.cells #[.int .u32 0, .int .i64 0, .int .i64 0] 35)) none := World.grownBy_alloc _ _ _
  have hsz : w.heap.size < (w.alloc (.cells #[.int .u32 0, .int .i64 0, .int .i64 0] 35)).heap.size := by simp
  clear ha hb
  cases ht : takenB (gOf xs) with
  | false =>
    rw [ht] at CT
    have e1 : runGE (gOf xs) pk = 155 := by rw [runGE, if_neg (by rw [← takenB_iff, ht]; simp)]
    have e2 : runG (gOf xs) pk = (0, 0, 0) := by rw [runG, e1]; rfl
    rw [e1, e2]
    clear e1 e2
    go_enter Tryz.func9, Tryz.ntmps9
    go_upto_region 1 with fail
    generalize w.alloc (.cells #[.int .u32 0, .int .i64 0, .int .i64 0] 35) = wa at *
    obtain ⟨V, hV⟩ : ∃ V, w.heap.size = V := ⟨_, rfl⟩
    have HV : Hid (w.heap.size ≤ V) := Nat.le_of_eq hV
    rw [hV] at V0 ⊢
    clear hV
    go_wp2_with fail
    refine (CT _ G0).mono ?_
    rintro e w1 ⟨rfl, K⟩
    have V1 := V0.kept K
    have G1 := grown_trans G0 K
    clear K V0 G0 CT
    go_wp2_with (refine wpList_store_row rfl 35 (.tmp 4) (.tmp 11) rfl V #[.int .u32 0, .int .i64 0, .int .i64 0] rfl rfl 35 _ V1 size35 rfl (by simp [Value.oneCell']) ?_)
    refine bodyPost_ret (vret_row rfl _ _ V #[.int .u32 0, .int .i64 0, .int .i64 0] _ rfl (V1.setRow _) Tryz.underlying35 rfl size35) rfl ?_
    exact ⟨rfl, gvgrown_setRow G1 _ _ (.inr HV.out)⟩
  | true =>
    rw [ht] at CT
    have htk := takenB_iff.1 ht
    by_cases hl : 65536 < pk.length
    · have e1 : runGE (gOf xs) pk = 51 := by rw [runGE, if_pos htk, if_pos hl]
      have e2 : runG (gOf xs) pk = (0, 0, 0) := by rw [runG, e1]; rfl
      rw [e1, e2]
      have hl' : (65536 : Int) < (pk.length : Int) := by omega
      clear e1 e2 htk ht
      go_enter Tryz.func9, Tryz.ntmps9
      go_upto_region 1 with fail
      generalize w.alloc (.cells #[.int .u32 0, .int .i64 0, .int .i64 0] 35) = wa at *
      obtain ⟨V, hV⟩ : ∃ V, w.heap.size = V := ⟨_, rfl⟩
      have HV : Hid (w.heap.size ≤ V) := Nat.le_of_eq hV
      rw [hV] at V0 ⊢
      clear hV
      go_wp2_with fail
      refine (CT _ G0).mono ?_
      rintro e w1 ⟨rfl, K⟩
      have V1 := V0.kept K
      have G1 := grown_trans G0 K
      clear K V0 G0 CT
      go_wp2_with (refine wpList_store_row rfl 35 (.tmp 4) (.tmp 15) rfl V #[.int .u32 0, .int .i64 0, .int .i64 0] rfl rfl 35 _ V1 size35 rfl (by simp [Value.oneCell']) ?_)
      refine bodyPost_ret (vret_row rfl _ _ V #[.int .u32 0, .int .i64 0, .int .i64 0] _ rfl (V1.setRow _) Tryz.underlying35 rfl size35) rfl ?_
      exact ⟨rfl, gvgrown_setRow G1 _ _ (.inr HV.out)⟩
    · have e1 : runGE (gOf xs) pk = 0 := by rw [runGE, if_pos htk, if_neg hl]
      have e2 : runG (gOf xs) pk = goG (gOf xs) pk xs.length 0 mc0 := by rw [runG, if_pos e1, gOf_len]
      have hl' : ¬ (65536 : Int) < (pk.length : Int) := by omega
      have hT := taken_g htk
      have HT : Hid (TakenG (gOf xs)) := hT
      have hn0 : 0 < xs.length := by have := hT.pos; rwa [gOf_len] at this
      have hn1 : xs.length ≤ 4096 := by have := hT.few; rwa [gOf_len] at this
      rw [e1]
      obtain ⟨Res, hRes⟩ : ∃ r, runG (gOf xs) pk = r := ⟨_, rfl⟩
      rw [hRes]
      have HRes : Hid (goG (gOf xs) pk xs.length 0 mc0 = Res) := e2.symm.trans hRes
      clear e1 e2 htk ht hRes hT
      go_enter Tryz.func9, Tryz.ntmps9
      go_upto_region 1 with fail
      generalize w.alloc (.cells #[.int .u32 0, .int .i64 0, .int .i64 0] 35) = wa at *
      obtain ⟨V, hV⟩ : ∃ V, w.heap.size = V := ⟨_, rfl⟩
      have HV : Hid (w.heap.size ≤ V) := Nat.le_of_eq hV
      rw [hV] at V0 hsz ⊢
      clear hV
      go_wp2_with fail
      refine (CT _ G0).mono ?_
      rintro e w1 ⟨rfl, K⟩
      have V1 := V0.kept K
      have G1 := grown_trans G0 K
      have hV1 : V < w1.heap.size := Nat.lt_of_lt_of_le hsz K.size
      clear K V0 G0 CT hsz
      go_wp2_with fail
      refine (gover_any pb pk.length cb _).mono ?_
      rintro e w2 ⟨d, q, rfl, T2, Q2, hd, hq, K2⟩
      have V2 := V1.kept K2
      have G2 := grown_trans G1 K2
      have hV2 : V < w2.heap.size := Nat.lt_of_lt_of_le hV1 K2.size
      have hdl := tab_lt T2
      have hql := qtab_lt Q2
      clear K2 V1 G1 hV1 hd hq
      simp only [machA]
      have VZ := GVt.alloc w2 71 grunZ
      have KZ : w2.grownBy ((w2.alloc (.cells grunZ 71)).setRow w2.heap.size (grunA pb pk.length cb d q)) none := gvgrown_setRow (World.grownBy_alloc _ _ none) _ _ (.inr (Nat.le_refl _))
      have HL0 : Hid (GRun w ((w2.alloc (.cells grunZ 71)).setRow w2.heap.size (grunA pb pk.length cb d q)) w2.heap.size d q pb cb pk (grun0 pb pk.length cb d q)) :=
        ⟨⟨by rw [grun0_arr]; exact VZ.setRow _, rfl⟩, G2.size, grown_trans G2 KZ, rfl, rfl, rfl, T2.grown KZ (by simp), Q2.grown KZ (by simp), by omega, by omega, rfl, mc0_ok, HP.out, by omega⟩
      have HV3 : Hid (GVt ((w2.alloc (.cells grunZ 71)).setRow w2.heap.size (grunA pb pk.length cb d q)) V 35 #[.int .u32 0, .int .i64 0, .int .i64 0] ∧ V ≠ w2.heap.size) := ⟨V2.kept KZ, by omega⟩
      have HSA : Hid ((Tryz.prog.info? 71).map (·.size) = some (grunA pb pk.length cb d q).size) := size71
      clear T2 Q2 hdl hql V2 KZ hV2
      go_upto_region 6 with (refine wpList_store_row rfl 71 (.tmp 6) (.tmp 18) rfl w2.heap.size (grunA pb pk.length cb d q) rfl rfl 71 _ VZ HSA.out rfl (grunA_all _ _ _ _ _) ?_)
      rw [show w2.alloc (.cells #[.int .u32 0, .int .u32 0, .int .u32 0, .int .u32 0, .int .u32 0, .int .u32 0, .int .u32 0, .int .u32 0, .int .u32 0, .int .u32 0, .int .u32 0, .int .u32 0, .int .u32 0, .int .u32 0, .int .u32 0, .int .u32 0, .int .u32 0, .int .u32 0, .slice none 0 0, .int .i64 0, .slice none 0 0, .slice none 0 0, .bool false, .int .u32 0, .int .i64 0, .int .i64 0] 71) = w2.alloc (.cells grunZ 71) from rfl]
      clear VZ
      generalize (w2.alloc (.cells grunZ 71)).setRow w2.heap.size (grunA pb pk.length cb d q) = w3 at *
      generalize w2.heap.size = g at *
      clear G2 HSA
      go_wp2
      go_loopw [7] (fun i wr => Hid (GVt wr V 35 #[.int .u32 0, .int .i64 0, .int .i64 0]) ∧ w.grownBy wr none ∧
        ((∃ (k f s : Nat) (M : Mc), i = .int .i64 (k : Int) ∧ k < xs.length ∧ s ≤ codeLen ((gOf xs).take k) + k ∧ xs.length ≤ f + k ∧ Hid (GRun w wr g d q pb cb pk { grun0 pb pk.length cb d q with M := M, rest := gRest false 0 0 s }) ∧ Hid (addS s (goG (gOf xs) pk f k M) = Res)) ∨
         (i = .int .i64 0 ∧ ∃ (R : Rn) (v s : Nat) (vf : Int), Hid (RAt wr g R ∧ R.rest = gRest true v vf s ∧ Res = (v, vf, s))))) (fun i wr => gmeas xs.length g i wr)
      case atStart =>
        refine ⟨HV3.out.1, HL0.out.up, .inl ⟨0, xs.length, 0, mc0, rfl, hn0, Nat.zero_le _, by omega, HL0.out, ?_⟩⟩
        show addS 0 (goG (gOf xs) pk xs.length 0 mc0) = Res
        rw [HRes.out]
        simp [addS]
      case round =>
        have hVg := HV3.out.2
        clear HL0 HRes HV3
        obtain ⟨HVr, G, hst⟩ := hrel
        rcases hst with ⟨k, f, s, M, rfl, hk, hs, hf, HLr, HGo⟩ | ⟨rfl, R, v, s, vf, HO⟩
        · obtain ⟨f, rfl⟩ : ∃ m, f = m + 1 := ⟨f - 1, by omega⟩
          have hl : (k : Int) < (xs.length : Int) := by omega
          have d22 : wr.cell? ⟨g, 22, none⟩ = some (.bool false) := HLr.out.at'.o rfl
          have hcl : codeLen ((gOf xs).take k) ≤ 4096 := Nat.le_trans (codeLen_take _ _) HT.out.room
          have CO := onward_any xs HT.out k f s hk a w wr H.out g d q pb cb pk _ HLr.out rfl (by omega)
          have HCL : Hid (codeLen ((gOf xs).take (k + 1)) = codeLen ((gOf xs).take k) + ((gOf xs).getD k bk0).code.length) := by
            have hk' : k < (gOf xs).length := by rw [gOf_len]; exact hk
            show _ = _
            rw [codeLen_succ hk', List.getD_eq_getElem?_getD, List.getElem?_eq_getElem hk']
            rfl
          obtain ⟨b1, o1, rfl, h1'⟩ := ((H.out.keptNone G).1).blocks hk
          have h1' := h1' k hk
          generalize xs[k] = x at *
          obtain ⟨⟨code, en, ⟨ic, it, jf, ik⟩, yes, no⟩, xa, xc⟩ := x
          have c0 := h1' 0 _ rfl
          have c1 := h1' 1 _ rfl
          have c2 := h1' 2 _ rfl
          have c3 := h1' 3 _ rfl
          have c4 := h1' 4 _ rfl
          have c5 := h1' 5 _ rfl
          have c6 := h1' 6 _ rfl
          have c7 := h1' 7 _ rfl
          clear h1'
          rw [Nat.add_zero] at c0
          simp only at c0 c1 c2 c3 c4 c5 c6 c7
          simp only [bkV, bkA] at CO
          go_wp2_with fail
          refine CO.mono ?_
          rintro e w4 ⟨n, rfl, hO, K4⟩
          have HV4 : Hid (GVt w4 V 35 #[.int .u32 0, .int .i64 0, .int .i64 0]) := HVr.out.grown K4 (by simpa using Ne.symm hVg)
          have G4 : w.grownBy w4 none := grown_trans_new G K4 (fun x e => by cases e; exact HLr.out.new)
          have HO4 : Hid (Onward w (gOf xs) pk g d q pb cb { grun0 pb pk.length cb d q with M := M, rest := gRest false 0 0 s } k f s M n w4) := hO
          clear c0 c1 c2 c3 c4 c5 c6 c7 CO K4 hO HVr
          go_wp2
          go_roundw
          case rel =>
            refine ⟨HV4, G4, ?_⟩
            rcases HO4.out with ⟨rfl, R', v, s', vf, r1, r2, r3⟩ | ⟨k', M', s', rfl, h1, h2, h3, h4, h5⟩
            · exact .inr ⟨rfl, R', v, s', vf, ⟨r1, r2, HGo.out.symm.trans r3⟩⟩
            · rw [gOf_len] at h2
              have := HCL.out
              have hm := codeLen_mono (gOf xs) (show k + 1 ≤ k' by omega)
              exact .inl ⟨k', f, s', M', rfl, h2, by omega, by omega, h3, h5.trans HGo.out⟩
          case measure =>
            rw [gmeas_going d22]
            rcases HO4.out with ⟨rfl, R', v, s', vf, r1, r2, r3⟩ | ⟨k', M', s', rfl, h1, h2, h3, h4, h5⟩
            · rw [gmeas_over (r1.o r2)]
              simp [intOf]
              omega
            · rw [gmeas_going (h3.at'.o rfl)]
              rw [gOf_len] at h2
              simp [intOf]
              omega
        · have d22 : wr.cell? ⟨g, 22, none⟩ = some (.bool true) := HO.out.1.o HO.out.2.1
          have d23 : wr.cell? ⟨g, 23, none⟩ = some (.int .u32 (v : Int)) := HO.out.1.v HO.out.2.1
          have d24 : wr.cell? ⟨g, 24, none⟩ = some (.int .i64 vf) := HO.out.1.vf HO.out.2.1
          have d25 : wr.cell? ⟨g, 25, none⟩ = some (.int .i64 (s : Int)) := HO.out.1.s HO.out.2.1
          have HR : Hid (Res = (v, vf, s)) := HO.out.2.2
          clear HO
          go_wp2_with (refine wpList_store_row rfl 35 (.tmp 4) (.tmp 28) rfl V #[.int .u32 (v : Int), .int .i64 vf, .int .i64 (s : Int)] rfl rfl 35 _ HVr.out size35 rfl (by simp [Value.oneCell']) ?_)
          refine bodyPost_ret (vret_row rfl _ _ V #[.int .u32 (v : Int), .int .i64 vf, .int .i64 (s : Int)] _ rfl (GVt.setRow HVr.out _) Tryz.underlying35 rfl size35) rfl ?_
          rw [HR.out]
          exact ⟨rfl, gvgrown_setRow G _ _ (.inr HV.out)⟩

end Go.Proofs.YtencoknpocipbaaGreat
