/-
  The landed vm: Run and Trace.
-/
import Derived.Test.YthffbogejcbdiaaVgP0
namespace Go.Proofs.Ythffbogejcbdiaa
open Go.RowKit
set_option maxRecDepth 100000

/-- A run at its beginning. -/
def run0 (a b : Option Addr) (m ca n cb d q : Nat) : Vn := ⟨mc0, .slice b n cb, 0, .slice (some ⟨d, 0, none⟩) 178 178, .slice (some ⟨q, 0, none⟩) 78 78, .slice a m ca, 0, false, 0, 0, 0⟩
theorem run0_arr (a b : Option Addr) (m ca n cb d q : Nat) : (run0 a b m ca n cb d q).arr = runA a b m ca n cb d q := rfl

theorem loop0 {a b : Option Addr} {m ca n cb d q : Nat} (w w1 : World) (U : w.grownBy w1 none) (hd : d < w1.heap.size) (hq : q < w1.heap.size) (T : DTab w1 d) (Q : QTab w1 q) :
    LoopI w ((w1.alloc (.cells runZ 61)).setRow w1.heap.size (runA a b m ca n cb d q)) w1.heap.size d q a b ca cb m n (run0 a b m ca n cb d q) := by
  have K : w1.grownBy ((w1.alloc (.cells runZ 61)).setRow w1.heap.size (runA a b m ca n cb d q)) none := vgrown_setRow (World.grownBy_alloc _ _ _) _ _ (.inr (Nat.le_refl _))
  exact ⟨⟨(VAt.alloc w1 61 runZ).setRow _, rfl⟩, rfl, rfl, rfl, rfl, T.grown K (by simp), Q.grown K (by simp), by omega, by omega, grown_trans U K, U.size⟩

/-- How far a run has to go. -/
def meas (n g : Nat) (w : World) : Nat := match w.cell? ⟨g, 24, none⟩ with
  | some (.bool true) => 0
  | _ => n + 1 - (intOf ((w.cell? ⟨g, 23, none⟩).getD .nilIface)).toNat
theorem meas_going {n g : Nat} {w : World} {R : Vn} (h : VnAt w g R) (ho : R.o = false) : meas n g w = n + 1 - R.j := by
  have h1 : w.cell? ⟨g, 24, none⟩ = some (.bool R.o) := h.tl 6
  have h2 : w.cell? ⟨g, 23, none⟩ = some (.int .i64 (R.j : Int)) := h.tl 5
  rw [ho] at h1
  simp [meas, h1, h2, intOf]
theorem meas_over {n g : Nat} {w : World} {R : Vn} (h : VnAt w g R) (ho : R.o = true) : meas n g w = 0 := by
  have h1 : w.cell? ⟨g, 24, none⟩ = some (.bool R.o) := h.tl 6
  rw [ho] at h1
  simp [meas, h1]

/-- Rows of whole numbers and the run's block do not touch. -/
theorem row_run {w w' : World} {base size n g : Nat} {v : Value} {vs : List Value} {R : Vn} (h : w.ownsRow base 3 size v n vs) (r : VnAt w g R) (K : w.grownBy w' (some g)) : w'.ownsRow base 3 size v n vs :=
  row_blk (m := R.arr.size) h ⟨_, r.1, rfl⟩ (show 3 ≠ 61 by decide) K
theorem run_row {w w' : World} {base size n g : Nat} {v : Value} {vs : List Value} {R : Vn} (r : VnAt w g R) (h : w.ownsRow base 3 size v n vs) (K : w.grownBy w' v.ownBlock) : VnAt w' g R := by
  refine r.grown K ?_
  rcases h.2 with ⟨rfl, -⟩ | ⟨g1, cap, cur, rfl, -, hg, -⟩
  · simp [Value.ownBlock]
  · intro hh
    simp only [Value.ownBlock, Option.some.injEq] at hh
    subst hh
    have hb := r.1
    unfold VAt at hb
    rw [hg] at hb
    simp only [Option.some.injEq, Obj.cells.injEq] at hb
    exact absurd hb.2.1 (show ¬ 3 = 61 by decide)
theorem kind_row {w : World} {base size n d t : Nat} {v : Value} {vs : List Value} (k : Kind w d t) (h : w.ownsRow base 3 size v n vs) (ht : t ≠ 3) : some d ≠ v.ownBlock := by
  rcases h.2 with ⟨rfl, -⟩ | ⟨g1, cap, cur, rfl, -, hg, -⟩
  · simp [Value.ownBlock]
  · intro hh
    simp only [Value.ownBlock, Option.some.injEq] at hh
    subst hh
    obtain ⟨cs, hb⟩ := k
    unfold VAt at hb
    rw [hg] at hb
    simp only [Option.some.injEq, Obj.cells.injEq] at hb
    exact ht hb.2.1.symm
theorem LoopI.other {w wr w' : World} {g d q : Nat} {a b : Option Addr} {ca cb n m : Nat} {R : Vn} {size l : Nat} {v : Value} {vs : List Value} (L : LoopI w wr g d q a b ca cb n m R) (h : wr.ownsRow w.heap.size 3 size v l vs) (K : wr.grownBy w' v.ownBlock) : LoopI w w' g d q a b ca cb n m R :=
  ⟨run_row L.at' h K, L.hd, L.hq, L.hp, L.hk, L.dt.grown K (kind_row L.dt.1 h (by decide)), L.qt.grown K (kind_row L.qt.1 h (by decide)), L.dg, L.qg, grown_trans_new L.up K (fun x hx => (h.lt x hx).1), L.new⟩

theorem blk_ne {w w' : World} {e g m h : Nat} (B : BlkN w e g m) (K : w.grownBy w' (some h)) (hne : g ≠ h) : BlkN w' e g m := B.kept K (by simpa using hne)

set_option maxHeartbeats 2000000 in
theorem run_any (a b : Option Addr) (ca cb : Nat) (xs : List In) (pk : List UInt8) (w : World) (ha : CV w a (flat xs)) (hb : Cells w b pk) :
    Calls Try.prog 10 #[.slice a xs.length ca, .slice b pk.length cb] w fun e w' => RunEnd w (runV xs pk).1 (runV xs pk).2.1 ((runV xs pk).2.2.length : Int) (runE xs pk) e w' := by
  obtain ⟨E, hE⟩ : ∃ E, runE xs pk = E := ⟨_, rfl⟩
  obtain ⟨Res, hR⟩ : ∃ R, runV xs pk = R := ⟨_, rfl⟩
  rw [hE, hR]
  have HBG : Hid (∀ W : World, w.grownBy W none → Calls Try.prog 20 #[.slice a xs.length ca, .slice b pk.length cb] W fun e w' => BeginPost W a b xs.length ca pk.length cb E e w') := fun W h => by
    rw [← hE]
    exact begin_any a b ca cb xs pk W (ha.keptNone h)
  have HS : Hid (∀ d q, (Try.prog.info? 61).map (·.size) = some (runA a b xs.length ca pk.length cb d q).size) := fun _ _ => size61
  have HSZ : Hid ((Try.prog.info? 61).map (·.size) = some runZ.size) := size61
  have H : Hid (CV w a (flat xs)) := ha
  have HP : Hid (Cells w b pk) := hb
  have HE0 : Hid (E = 0 → (0 < xs.length ∧ xs.length ≤ 4096 ∧ (∀ j (hj : j < xs.length), badV xs.length j xs[j] = 0) ∧ lastB xs = true) ∧ pk.length ≤ 65536 ∧ runF xs pk xs.length 0 mc0 = Res) := by
    intro hz
    have htk : (checkV xs).2 = 0 := by
      apply Classical.byContradiction
      intro hn
      rw [runE, if_neg hn] at hE
      omega
    refine ⟨taken htk, ?_, ?_⟩
    · apply Classical.byContradiction
      intro hn
      rw [runE, if_pos htk, if_pos (by omega)] at hE
      omega
    · rw [← hR, runV, if_pos (by rw [hE]; exact hz)]
  have HE1 : Hid (E ≠ 0 → Res = (0, 0, [])) := by
    intro hz
    rw [← hR, runV, if_neg (by rw [hE]; exact hz)]
  clear ha hb hE hR
  have G0 : w.grownBy (w.alloc (.cells #[.int .u32 0, .int .i64 0, .int .i64 0] 36)) none := World.grownBy_alloc _ _ _
  have B0 : BlkN (w.alloc (.cells #[.int .u32 0, .int .i64 0, .int .i64 0] 36)) 36 w.heap.size 3 := ⟨_, heap_alloc_new w _, rfl⟩
  have hlt : w.heap.size < (w.alloc (.cells #[.int .u32 0, .int .i64 0, .int .i64 0] 36)).heap.size := by simp
  have HG0 : Hid (w.grownBy (w.alloc (.cells #[.int .u32 0, .int .i64 0, .int .i64 0] 36)) none) := G0
  have HB0 : Hid (BlkN (w.alloc (.cells #[.int .u32 0, .int .i64 0, .int .i64 0] 36)) 36 w.heap.size 3 ∧ w.heap.size < (w.alloc (.cells #[.int .u32 0, .int .i64 0, .int .i64 0] 36)).heap.size) := ⟨B0, hlt⟩
  clear G0 B0 hlt
  go_enter Try.func10, Try.ntmps10
  go_upto_region 1 with fail
  generalize w.alloc (.cells #[.int .u32 0, .int .i64 0, .int .i64 0] 36) = wa at *
  obtain ⟨V, hV, HVV⟩ : ∃ V, w.heap.size = V ∧ Hid (w.heap.size = V) := ⟨_, rfl, rfl⟩
  rw [hV] at HB0 ⊢
  clear hV
  go_wp2_with fail
  refine (HBG.out _ HG0.out).mono ?_
  rintro e w1 ⟨K1, hbg⟩
  have HU1 : Hid (w.grownBy w1 none) := grown_trans HG0.out K1
  have B1 := HB0.out.1.kept K1 (by simp)
  have hV1 : V < w1.heap.size := Nat.lt_of_lt_of_le HB0.out.2 K1.size
  clear HBG HG0 HB0 K1
  rcases hbg with ⟨hz, d, q, rfl, T, Q, -, -, hdl, hql⟩ | ⟨hz, rfl⟩
  · obtain ⟨⟨t1, t2, t3, t4⟩, hpk, hrun⟩ := HE0.out hz
    clear HE0 HE1
    subst hz
    have HL0 : Hid (LoopI w ((w1.alloc (.cells runZ 61)).setRow w1.heap.size (runA a b xs.length ca pk.length cb d q)) w1.heap.size d q a b ca cb xs.length pk.length (run0 a b xs.length ca pk.length cb d q)) := loop0 w w1 HU1.out hdl hql T Q
    have HT : Hid ((∀ j (hj : j < xs.length), badV xs.length j xs[j] = 0) ∧ lastB xs = true ∧ runF xs pk xs.length 0 mc0 = Res ∧ 0 < xs.length ∧ xs.length ≤ 4096 ∧ pk.length ≤ 65536) := ⟨t3, t4, hrun, t1, t2, hpk⟩
    have V1 := VAt.alloc w1 61 runZ
    have HB2 : Hid (BlkN ((w1.alloc (.cells runZ 61)).setRow w1.heap.size (runA a b xs.length ca pk.length cb d q)) 36 V 3 ∧ V ≠ w1.heap.size) := ⟨B1.kept (vgrown_setRow (World.grownBy_alloc _ _ none) _ _ (.inr (Nat.le_refl _))) (by simp), by omega⟩
    clear T Q hdl hql B1 hV1 t1 t2 t3 t4 hrun hpk
    go_upto_region 2 with (refine wpList_store_row rfl 61 (.tmp 6) (.tmp 12) rfl w1.heap.size (runA a b xs.length ca pk.length cb d q) rfl rfl 61 _ V1 (HS.out _ _) rfl (runA_all _ _ _ _ _ _ _ _) ?_)
    clear V1
    rw [show w1.alloc (.cells #[.int .u32 0, .int .u32 0, .int .u32 0, .int .u32 0, .int .u32 0, .int .u32 0, .int .u32 0, .int .u32 0, .int .u32 0, .int .u32 0, .int .u32 0, .int .u32 0, .int .u32 0, .int .u32 0, .int .u32 0, .int .u32 0, .int .u32 0, .int .u32 0, .slice none 0 0, .int .i64 0, .slice none 0 0, .slice none 0 0, .slice none 0 0, .int .i64 0, .bool false, .int .u32 0, .int .i64 0, .int .i64 0] 61) = w1.alloc (.cells runZ 61) from rfl]
    generalize (w1.alloc (.cells runZ 61)).setRow w1.heap.size (runA a b xs.length ca pk.length cb d q) = w2 at *
    generalize w1.heap.size = g at *
    clear HU1 w1
    go_wp2
    go_loopw [20] (fun _ wr => ∃ (R : Vn) (ts : List Nat), LoopI w wr g d q a b ca cb xs.length pk.length R ∧ BlkN wr 36 V 3 ∧ (Going xs pk R ts Res ∨ Over R ts Res)) (fun _ wr => meas xs.length g wr)
    case atStart => exact ⟨_, [], HL0.out, HB2.out.1, .inl ⟨rfl, rfl, rfl, rfl, mc0_ok, HT.out.2.2.2.1, rfl, Nat.le_refl _, xs.length, by show xs.length ≤ 0 + xs.length; omega, by rw [show (run0 a b xs.length ca pk.length cb d q).j = 0 from rfl, show (run0 a b xs.length ca pk.length cb d q).M = mc0 from rfl, HT.out.2.2.1]; rfl⟩⟩
    case round =>
      obtain ⟨R, ts, L, B, hst⟩ := hrel
      have HL : Hid (LoopI w wr g d q a b ca cb xs.length pk.length R) := L
      have HB : Hid (BlkN wr 36 V 3) := B
      have d24 : wr.cell? ⟨g, 24, none⟩ = some (.bool R.o) := L.at'.tl 6
      clear L B HL0
      rcases hst with hst | hst
      · have HG : Hid (Going xs pk R ts Res) := hst
        have HST := step_any a b ca cb xs pk w wr g d q R ts Res H.out HP.out HT.out.2.2.2.2.2 HT.out.1 HT.out.2.1 HT.out.2.2.2.2.1 HL.out hst
        have HSTT : Hid (Calls Try.prog 21 #[.pointer (some ⟨g, 0, none⟩)] wr fun e w' => e = .returned (.tuple #[]) ∧ ∃ R', LoopI w w' g d q a b ca cb xs.length pk.length R' ∧ ((Going xs pk R' (ts ++ [R.j]) Res ∧ R.j < R'.j) ∨ Over R' (ts ++ [R.j]) Res) ∧ wr.grownBy w' (some g)) := HST
        rw [hst.1] at d24
        clear HST hst
        go_wp2_with fail
        refine HSTT.out.mono ?_
        rintro e w' ⟨rfl, R', L', hst', K⟩
        have HL' : Hid (LoopI w w' g d q a b ca cb xs.length pk.length R') := L'
        have HB' : Hid (BlkN w' 36 V 3) := blk_ne HB.out K HB2.out.2
        have HS' : Hid ((Going xs pk R' (ts ++ [R.j]) Res ∧ R.j < R'.j) ∨ Over R' (ts ++ [R.j]) Res) := hst'
        clear L' K hst' HSTT
        go_wp2
        go_roundw
        case rel => exact ⟨R', ts ++ [R.j], HL'.out, HB'.out, HS'.out.elim (fun h => .inl h.1) .inr⟩
        case measure =>
          have hj := HG.out.2.2.2.2.2.1
          rw [meas_going HL.out.at' HG.out.1]
          rcases HS'.out with h | h
          · rw [meas_going HL'.out.at' h.1.1]
            have := h.2
            have := h.1.2.2.2.2.2.1
            omega
          · rw [meas_over HL'.out.at' h.1]
            omega
      · have HO : Hid (Over R ts Res) := hst
        have d25 : wr.cell? ⟨g, 25, none⟩ = some (.int .u32 (R.v : Int)) := HL.out.at'.tl 7
        have d26 : wr.cell? ⟨g, 26, none⟩ = some (.int .i64 R.vf) := HL.out.at'.tl 8
        have d27 : wr.cell? ⟨g, 27, none⟩ = some (.int .i64 (R.s : Int)) := HL.out.at'.tl 9
        rw [hst.1] at d24
        obtain ⟨u0, hu0⟩ := HB.out.cell (i := 0) (by omega)
        obtain ⟨u1, hu1⟩ := HB.out.cell (i := 1) (by omega)
        obtain ⟨u2, hu2⟩ := HB.out.cell (i := 2) (by omega)
        have hf0 := HB.out.free 0
        have hf1 := HB.out.free 1
        have hf2 := HB.out.free 2
        obtain ⟨z0, z1, z2⟩ := set3 HB.out (.int .u32 (R.v : Int)) (.int .i64 R.vf) (.int .i64 (R.s : Int))
        have G2 := grown_setCell (grown_setCell (grown_setCell HL.out.up ⟨V, 0, none⟩ (.int .u32 (R.v : Int)) (.inr (Nat.le_of_eq HVV.out))) ⟨V, 1, none⟩ (.int .i64 R.vf) (.inr (Nat.le_of_eq HVV.out))) ⟨V, 2, none⟩ (.int .i64 (R.s : Int)) (.inr (Nat.le_of_eq HVV.out))
        clear hst
        go_wp2
        generalize ((wr.setCell ⟨V, 0, none⟩ (.int .u32 (R.v : Int))).setCell ⟨V, 1, none⟩ (.int .i64 R.vf)).setCell ⟨V, 2, none⟩ (.int .i64 (R.s : Int)) = wz at *
        refine bodyPost_ret (v := .tuple #[.agg #[.int .u32 (R.v : Int), .int .i64 R.vf, .int .i64 (R.s : Int)], .int .i64 0]) ?_ rfl ?_
        · simp [results, Try.results10, go_sem, z0, z1, z2]
        · rw [HO.out.2.2]
          exact ⟨by rw [← HO.out.2.1], G2⟩
  · have hres := HE1.out hz
    have hEb : (E != 0) = true := by rw [bne_iff_ne]; exact hz
    clear HE0 HE1 hz
    subst hres
    have V1 := VAt.alloc w1 61 runZ
    have HB2 : Hid (BlkN ((w1.alloc (.cells runZ 61)).setRow w1.heap.size runZ) 36 V 3) := B1.kept (vgrown_setRow (World.grownBy_alloc _ _ none) _ _ (.inr (Nat.le_refl _))) (by simp)
    have HU2 : Hid (w.grownBy ((w1.alloc (.cells runZ 61)).setRow w1.heap.size runZ) none) := grown_trans HU1.out (vgrown_setRow (World.grownBy_alloc _ _ none) _ _ (.inr (Nat.le_refl _)))
    clear B1 hV1
    go_upto_region 2 with (refine wpList_store_row rfl 61 (.tmp 6) (.tmp 12) rfl w1.heap.size runZ rfl rfl 61 _ V1 HSZ.out rfl runZ_all ?_)
    clear V1
    rw [show w1.alloc (.cells #[.int .u32 0, .int .u32 0, .int .u32 0, .int .u32 0, .int .u32 0, .int .u32 0, .int .u32 0, .int .u32 0, .int .u32 0, .int .u32 0, .int .u32 0, .int .u32 0, .int .u32 0, .int .u32 0, .int .u32 0, .int .u32 0, .int .u32 0, .int .u32 0, .slice none 0 0, .int .i64 0, .slice none 0 0, .slice none 0 0, .slice none 0 0, .int .i64 0, .bool false, .int .u32 0, .int .i64 0, .int .i64 0] 61) = w1.alloc (.cells runZ 61) from rfl]
    generalize (w1.alloc (.cells runZ 61)).setRow w1.heap.size runZ = w2 at *
    generalize w1.heap.size = g at *
    clear HU1 w1
    obtain ⟨u0, hu0⟩ := HB2.out.cell (i := 0) (by omega)
    obtain ⟨u1, hu1⟩ := HB2.out.cell (i := 1) (by omega)
    obtain ⟨u2, hu2⟩ := HB2.out.cell (i := 2) (by omega)
    have hf0 := HB2.out.free 0
    have hf1 := HB2.out.free 1
    have hf2 := HB2.out.free 2
    obtain ⟨z0, z1, z2⟩ := set3 HB2.out (.int .u32 0) (.int .i64 0) (.int .i64 0)
    have G2 := grown_setCell (grown_setCell (grown_setCell HU2.out ⟨V, 0, none⟩ (.int .u32 0) (.inr (Nat.le_of_eq HVV.out))) ⟨V, 1, none⟩ (.int .i64 0) (.inr (Nat.le_of_eq HVV.out))) ⟨V, 2, none⟩ (.int .i64 0) (.inr (Nat.le_of_eq HVV.out))
    go_wp2
    generalize ((w2.setCell ⟨V, 0, none⟩ (.int .u32 0)).setCell ⟨V, 1, none⟩ (.int .i64 0)).setCell ⟨V, 2, none⟩ (.int .i64 0) = wz at *
    refine bodyPost_ret (v := .tuple #[.agg #[.int .u32 0, .int .i64 0, .int .i64 0], .int .i64 E]) ?_ rfl ?_
    · simp [results, Try.results10, go_sem, z0, z1, z2]
    · exact ⟨rfl, G2⟩

set_option maxHeartbeats 2000000 in
theorem trace_any (a b : Option Addr) (ca cb : Nat) (xs : List In) (pk : List UInt8) (w : World) (ha : CV w a (flat xs)) (hb : Cells w b pk) :
    Calls Try.prog 12 #[.slice a xs.length ca, .slice b pk.length cb] w fun e w' => TraceEnd w (runV xs pk).2.2 (runE xs pk) e w' := by
  obtain ⟨i0, hi, hz0, hz1, hz2⟩ := info_parts info3
  obtain ⟨E, hE⟩ : ∃ E, runE xs pk = E := ⟨_, rfl⟩
  obtain ⟨Res, hR⟩ : ∃ R, runV xs pk = R := ⟨_, rfl⟩
  rw [hE, hR]
  have HBG : Hid (∀ W : World, w.grownBy W none → Calls Try.prog 20 #[.slice a xs.length ca, .slice b pk.length cb] W fun e w' => BeginPost W a b xs.length ca pk.length cb E e w') := fun W h => by
    rw [← hE]
    exact begin_any a b ca cb xs pk W (ha.keptNone h)
  have HS : Hid (∀ d q, (Try.prog.info? 61).map (·.size) = some (runA a b xs.length ca pk.length cb d q).size) := fun _ _ => size61
  have HSZ : Hid ((Try.prog.info? 61).map (·.size) = some runZ.size) := size61
  have H : Hid (CV w a (flat xs)) := ha
  have HP : Hid (Cells w b pk) := hb
  have HE0 : Hid (E = 0 → (0 < xs.length ∧ xs.length ≤ 4096 ∧ (∀ j (hj : j < xs.length), badV xs.length j xs[j] = 0) ∧ lastB xs = true) ∧ pk.length ≤ 65536 ∧ runF xs pk xs.length 0 mc0 = Res) := by
    intro hz
    have htk : (checkV xs).2 = 0 := by
      apply Classical.byContradiction
      intro hn
      rw [runE, if_neg hn] at hE
      omega
    refine ⟨taken htk, ?_, ?_⟩
    · apply Classical.byContradiction
      intro hn
      rw [runE, if_pos htk, if_pos (by omega)] at hE
      omega
    · rw [← hR, runV, if_pos (by rw [hE]; exact hz)]
  have HE1 : Hid (E ≠ 0 → Res = (0, 0, [])) := by
    intro hz
    rw [← hR, runV, if_neg (by rw [hE]; exact hz)]
  clear ha hb hE hR
  go_enter Try.func12, Try.ntmps12
  go_wp2_with fail
  refine (HBG.out _ (World.grownBy.refl _ _)).mono ?_
  rintro e w1 ⟨K1, hbg⟩
  have HU1 : Hid (w.grownBy w1 none) := K1
  clear HBG K1
  rcases hbg with ⟨hz, d, q, rfl, T, Q, -, -, hdl, hql⟩ | ⟨hz, rfl⟩
  · obtain ⟨⟨t1, t2, t3, t4⟩, hpk, hrun⟩ := HE0.out hz
    clear HE0 HE1
    subst hz
    have HL0 : Hid (LoopI w ((w1.alloc (.cells runZ 61)).setRow w1.heap.size (runA a b xs.length ca pk.length cb d q)) w1.heap.size d q a b ca cb xs.length pk.length (run0 a b xs.length ca pk.length cb d q)) := loop0 w w1 HU1.out hdl hql T Q
    have HT : Hid ((∀ j (hj : j < xs.length), badV xs.length j xs[j] = 0) ∧ lastB xs = true ∧ runF xs pk xs.length 0 mc0 = Res ∧ 0 < xs.length ∧ xs.length ≤ 4096 ∧ pk.length ≤ 65536) := ⟨t3, t4, hrun, t1, t2, hpk⟩
    have V1 := VAt.alloc w1 61 runZ
    clear T Q hdl hql t1 t2 t3 t4 hrun hpk
    go_upto_region 2 with (refine wpList_store_row rfl 61 (.tmp 6) (.tmp 13) rfl w1.heap.size (runA a b xs.length ca pk.length cb d q) rfl rfl 61 _ V1 (HS.out _ _) rfl (runA_all _ _ _ _ _ _ _ _) ?_)
    clear V1
    rw [show w1.alloc (.cells #[.int .u32 0, .int .u32 0, .int .u32 0, .int .u32 0, .int .u32 0, .int .u32 0, .int .u32 0, .int .u32 0, .int .u32 0, .int .u32 0, .int .u32 0, .int .u32 0, .int .u32 0, .int .u32 0, .int .u32 0, .int .u32 0, .int .u32 0, .int .u32 0, .slice none 0 0, .int .i64 0, .slice none 0 0, .slice none 0 0, .slice none 0 0, .int .i64 0, .bool false, .int .u32 0, .int .i64 0, .int .i64 0] 61) = w1.alloc (.cells runZ 61) from rfl]
    generalize (w1.alloc (.cells runZ 61)).setRow w1.heap.size (runA a b xs.length ca pk.length cb d q) = w2 at *
    generalize w1.heap.size = g at *
    clear HU1 w1
    go_wp2
    go_loopw [8] (fun s8 wr => ∃ (tr : Value) (R : Vn) (ts : List Nat), tr = s8 ∧ LoopI w wr g d q a b ca cb xs.length pk.length R ∧ wr.ownsRow w.heap.size 3 1 tr ts.length ((zl ts).map iv) ∧ (Going xs pk R ts Res ∨ Over R ts Res)) (fun _ wr => meas xs.length g wr)
    case atStart => exact ⟨_, _, [], rfl, HL0.out, World.ownsRow_nil _ _ _ _, .inl ⟨rfl, rfl, rfl, rfl, mc0_ok, HT.out.2.2.2.1, rfl, Nat.le_refl _, xs.length, by show xs.length ≤ 0 + xs.length; omega, by rw [show (run0 a b xs.length ca pk.length cb d q).j = 0 from rfl, show (run0 a b xs.length ca pk.length cb d q).M = mc0 from rfl, HT.out.2.2.1]; rfl⟩⟩
    case round =>
      obtain ⟨tr, R, ts, rfl, L, O, hst⟩ := hrel
      have HL : Hid (LoopI w wr g d q a b ca cb xs.length pk.length R) := L
      have HO : Hid (wr.ownsRow w.heap.size 3 1 tr ts.length ((zl ts).map iv)) := O
      have d24 : wr.cell? ⟨g, 24, none⟩ = some (.bool R.o) := L.at'.tl 6
      have d23 : wr.cell? ⟨g, 23, none⟩ = some (.int .i64 (R.j : Int)) := L.at'.tl 5
      clear L HL0
      rcases hst with hst | hst
      · have HG : Hid (Going xs pk R ts Res) := hst
        have hlen : ts.length ≤ 4096 := by
          have h1 := hst.2.2.2.2.2.2.1
          have h2 := hst.2.2.2.2.2.2.2.1
          have h3 := hst.2.2.2.2.2.1
          have h4 := HT.out.2.2.2.2.1
          omega
        rw [hst.1] at d24
        have hsz := HL.out.up.size
        clear hst O
        go_wp2_with (at_builtin; refine wpList_append_cv rfl (.tmp 21) (.tmp 24) 40 rfl 3 i0 (.int .i64 0) 1 8 Try.underlying40 hi hz0 hz1 hz2 rfl (by decide) w.heap.size tr ts.length ((zl ts).map iv) rfl ?q1 (some ⟨wr.heap.size, 0, none⟩) 1 1 [.int .i64 (R.j : Int)] rfl rfl (by simp) ?q2 (by simp [Value.oneCell']) ?q3 ?q4 ?q5 ?q6)
        case q1 => exact owns_keptNone HO.out (World.grownBy_alloc _ _ _)
        case q2 => exact cv_lit wr _ _
        case q3 => unfold maxLen; omega
        case q4 => omega
        case q5 => simp; omega
        case q6 =>
          intro v' w5 O5 K5
          have HK5 : Hid (wr.grownBy w5 tr.ownBlock) := grown_trans (grown_mono (World.grownBy_alloc _ _ none)) K5
          have HO5 : Hid (w5.ownsRow w.heap.size 3 1 v' (ts ++ [R.j]).length ((zl (ts ++ [R.j])).map iv)) := by
            show w5.ownsRow _ _ _ _ _ _
            simpa [zl, iv] using O5
          have HL5 : Hid (LoopI w w5 g d q a b ca cb xs.length pk.length R) := HL.out.other HO.out HK5.out
          clear O5 K5 HK5 d23 d24
          have HST := step_any a b ca cb xs pk w w5 g d q R ts Res H.out HP.out HT.out.2.2.2.2.2 HT.out.1 HT.out.2.1 HT.out.2.2.2.2.1 HL5.out HG.out
          have HSTT : Hid (Calls Try.prog 21 #[.pointer (some ⟨g, 0, none⟩)] w5 fun e w' => e = .returned (.tuple #[]) ∧ ∃ R', LoopI w w' g d q a b ca cb xs.length pk.length R' ∧ ((Going xs pk R' (ts ++ [R.j]) Res ∧ R.j < R'.j) ∨ Over R' (ts ++ [R.j]) Res) ∧ w5.grownBy w' (some g)) := HST
          clear HST
          go_wp2_with fail
          refine HSTT.out.mono ?_
          rintro e w' ⟨rfl, R', L', hst', K⟩
          have HL' : Hid (LoopI w w' g d q a b ca cb xs.length pk.length R') := L'
          have HO' : Hid (w'.ownsRow w.heap.size 3 1 v' (ts ++ [R.j]).length ((zl (ts ++ [R.j])).map iv)) := row_run HO5.out HL5.out.at' K
          have HS' : Hid ((Going xs pk R' (ts ++ [R.j]) Res ∧ R.j < R'.j) ∨ Over R' (ts ++ [R.j]) Res) := hst'
          clear L' K hst' HSTT
          go_wp2
          go_roundw
          case rel => exact ⟨_, R', ts ++ [R.j], rfl, HL'.out, HO'.out, HS'.out.elim (fun h => .inl h.1) .inr⟩
          case measure =>
            have hj := HG.out.2.2.2.2.2.1
            rw [meas_going HL.out.at' HG.out.1]
            rcases HS'.out with h | h
            · rw [meas_going HL'.out.at' h.1.1]
              have := h.2
              have := h.1.2.2.2.2.2.1
              omega
            · rw [meas_over HL'.out.at' h.1]
              omega
      · have HOV : Hid (Over R ts Res) := hst
        rw [hst.1] at d24
        clear hst O
        go_wp2
        go_ret2
        refine ⟨_, rfl, ?_, HL.out.up⟩
        rw [HOV.out.2.2]
        exact HO.out
  · have hres := HE1.out hz
    have hEb : (E != 0) = true := by rw [bne_iff_ne]; exact hz
    clear HE0 HE1 hz
    subst hres
    have V1 := VAt.alloc w1 61 runZ
    have HU2 : Hid (w.grownBy ((w1.alloc (.cells runZ 61)).setRow w1.heap.size runZ) none) := grown_trans HU1.out (vgrown_setRow (World.grownBy_alloc _ _ none) _ _ (.inr (Nat.le_refl _)))
    go_upto_region 2 with (refine wpList_store_row rfl 61 (.tmp 6) (.tmp 13) rfl w1.heap.size runZ rfl rfl 61 _ V1 HSZ.out rfl runZ_all ?_)
    clear V1
    rw [show w1.alloc (.cells #[.int .u32 0, .int .u32 0, .int .u32 0, .int .u32 0, .int .u32 0, .int .u32 0, .int .u32 0, .int .u32 0, .int .u32 0, .int .u32 0, .int .u32 0, .int .u32 0, .int .u32 0, .int .u32 0, .int .u32 0, .int .u32 0, .int .u32 0, .int .u32 0, .slice none 0 0, .int .i64 0, .slice none 0 0, .slice none 0 0, .slice none 0 0, .int .i64 0, .bool false, .int .u32 0, .int .i64 0, .int .i64 0] 61) = w1.alloc (.cells runZ 61) from rfl]
    generalize (w1.alloc (.cells runZ 61)).setRow w1.heap.size runZ = w2 at *
    generalize w1.heap.size = g at *
    clear HU1 w1
    go_wp2
    go_ret2
    exact ⟨_, rfl, World.ownsRow_nil _ _ _ _, HU2.out⟩


end Go.Proofs.Ythffbogejcbdiaa
