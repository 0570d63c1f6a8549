/-
  The document's own Run. riddlelaw18: awake, code, same. The document's own last and begins. The document's own begins, of a program that is taken: as package graph's beginnings, and the first place beside.
-/
import Derived.Test.YtencoknpocipbaaGreatLotP29
import Derived.Test.YtencoknpocipbaaGreatLotP24
import Derived.Test.YtencoknpocipbaaGreatLotP27
namespace Go.Proofs.YtencoknpocipbaaGreat
open Go.RowKit
set_option maxRecDepth 100000

/-- What is kept from round to round. -/
def RunI (w : World) (g : Nat) (tr : Value) (M : Mc) (ts : List Nat) (wr : World) : Prop :=
  wr.ownsRow w.heap.size 3 1 tr ts.length ((zl ts).map iv) ∧ MAt wr 90 w.heap.size g M ∧ BlkN wr 35 w.heap.size 3 ∧ w.grownBy wr none

/-- What a run leaves. -/
def RunPost (w : World) (R : Nat × Int × List Nat) (E : Int) (e : Ending) (w' : World) : Prop :=
  ∃ v, e = .returned (.tuple #[.agg #[.int .u32 (R.1 : Int), .int .i64 R.2.1, .int .i64 (R.2.2.length : Int)], v, .int .i64 E]) ∧ w'.ownsRow w.heap.size 3 1 v R.2.2.length ((zl R.2.2).map iv) ∧ w.grownBy w' none

theorem run_append {w wr wb w5 : World} {g j : Nat} {tr v' : Value} {M : Mc} {ts : List Nat} (o : Obj) (I : RunI w g tr M ts wr) (Kb : wr.grownBy wb none) (K5 : (wb.alloc o).grownBy w5 tr.ownBlock) (O5 : w5.ownsRow w.heap.size 3 1 v' (ts.length + 1) ((zl ts).map iv ++ [.int .i64 (j : Int)])) : RunI w g v' M (ts ++ [j]) w5 := by
  have Ka : wr.grownBy (wb.alloc o) none := grown_trans Kb (World.grownBy_alloc _ _ _)
  have O := owns_keptNone I.1 Ka
  have M1 : MAt (wb.alloc o) 90 w.heap.size g M := owns_keptNone I.2.1 Ka
  refine ⟨?_, row_kinds M1 O (by decide) K5, blk_row (I.2.2.1.kept Ka (by simp)) O (by decide) K5, grown_trans_new (grown_trans I.2.2.2 Ka) K5 (fun x hx => (I.1.lt x hx).1)⟩
  simpa [zl, iv] using O5

theorem run_bx {wb w5 : World} {tr : Value} {B : Nat} {c t f k : Int} (o : Obj) (h : Bx wb B c t f k) (hlt : ∀ g', tr.ownBlock = some g' → g' < B) (K5 : (wb.alloc o).grownBy w5 tr.ownBlock) : Bx w5 B c t f k := by
  have hne : some B ≠ tr.ownBlock := fun e => by have := hlt B e.symm; omega
  have K : wb.grownBy (wb.alloc o) none := World.grownBy_alloc _ _ _
  exact ⟨K5.cell (K.cell h.1 (by simp)) hne, K5.cell (K.cell h.2.1 (by simp)) hne, K5.cell (K.cell h.2.2.1 (by simp)) hne, K5.cell (K.cell h.2.2.2 (by simp)) hne⟩

-- of 16
theorem RunI.kept {w w5 w6 : World} {g : Nat} {v : Value} {M : Mc} {ts : List Nat} (I : RunI w g v M ts w5) (K : w5.grownBy w6 none) : RunI w g v M ts w6 :=
  ⟨owns_keptNone I.1 K, owns_keptNone I.2.1 K, I.2.2.1.kept K (by simp), grown_trans I.2.2.2 K⟩

theorem RunI.stepped {w w5 w6 : World} {g : Nat} {v : Value} {M M2 : Mc} {ts : List Nat} (I : RunI w g v M ts w5) (h : MAt w6 90 w.heap.size g M2) (K : w5.grownBy w6 (some g)) : RunI w g v M2 ts w6 :=
  ⟨row_kinds I.1 I.2.1 (by decide) K, h, blk_row I.2.2.1 I.2.1 (by decide) K, grown_trans_new I.2.2.2 K (by intro x hx; obtain rfl := Option.some.inj hx; exact I.2.1.lt.1)⟩

/-- A verdict written. -/
def Told (w : World) (v : Value) (ts : List Nat) (v0 v1 v2 : Value) (W : World) : Prop :=
  W.cell? ⟨w.heap.size, 0, none⟩ = some v0 ∧ W.cell? ⟨w.heap.size, 1, none⟩ = some v1 ∧ W.cell? ⟨w.heap.size, 2, none⟩ = some v2 ∧ W.ownsRow w.heap.size 3 1 v ts.length ((zl ts).map iv) ∧ w.grownBy W none

-- of 16
theorem run_told {w w5 : World} {g : Nat} {v : Value} {M : Mc} {ts : List Nat} (I : RunI w g v M ts w5) (v0 v1 v2 : Value) :
    Told w v ts v0 v1 v2 (((w5.setCell ⟨w.heap.size, 0, none⟩ v0).setCell ⟨w.heap.size, 1, none⟩ v1).setCell ⟨w.heap.size, 2, none⟩ v2) := by
  obtain ⟨z0, z1, z2⟩ := set3 I.2.2.1 v0 v1 v2
  have K1 : w5.grownBy (w5.setCell ⟨w.heap.size, 0, none⟩ v0) (some w.heap.size) := grown_set1 w5 _ _
  have K2 := grown_trans K1 (grown_set1 (w5.setCell ⟨w.heap.size, 0, none⟩ v0) ⟨w.heap.size, 1, none⟩ v1)
  have K := grown_trans K2 (grown_set1 ((w5.setCell ⟨w.heap.size, 0, none⟩ v0).setCell ⟨w.heap.size, 1, none⟩ v1) ⟨w.heap.size, 2, none⟩ v2)
  exact ⟨z0, z1, z2, row_blk I.1 I.2.2.1 (by decide) K, grown_trans_new I.2.2.2 K (by intro x hx; obtain rfl := Option.some.inj hx; exact Nat.le_refl _)⟩

set_option maxHeartbeats 4000000 in
theorem refrun_any (a b : Option Addr) (ca cb : Nat) (xs : List In) (pk : List UInt8) (w : World) (ha : CV w a (flat xs)) (hb : Cells w b pk) :
    Calls Tryz.prog 16 #[.slice a xs.length ca, .slice b pk.length cb] w fun e w' => RunPost w (runV xs pk) (runE xs pk) e w' := by
  obtain ⟨i0, hi, hz0, hz1, hz2⟩ := info_parts infoI3
  have H : Hid (CV w a (flat xs)) := ha
  have HP : Hid (Cells w b pk) := hb
  clear ha hb
  have G0 : w.grownBy (w.alloc (.cells #[.int .u32 0, .int .i64 0, .int .i64 0] 35)) none := World.grownBy_alloc _ _ _
  have B0 : BlkN (w.alloc (.cells #[.int .u32 0, .int .i64 0, .int .i64 0] 35)) 35 w.heap.size 3 := ⟨_, heap_alloc_new w _, rfl⟩
  obtain ⟨E, hE⟩ : ∃ E, runE xs pk = E := ⟨_, rfl⟩
  obtain ⟨R, hR⟩ : ∃ R, runV xs pk = R := ⟨_, rfl⟩
  rw [hE, hR]
  have HC : Hid (∀ (W : World), CV W a (flat xs) → Calls Tryz.prog 31 #[.slice a xs.length ca, .slice b pk.length cb] W fun e w' => e = .returned (.int .i64 E) ∧ W.grownBy w' none) := fun W h => by
    rw [← hE]
    exact refcode_any a b ca cb xs pk W h
  have HG0 : Hid (w.grownBy (w.alloc (.cells #[.int .u32 0, .int .i64 0, .int .i64 0] 35)) none) := G0
  have HB0 : Hid (BlkN (w.alloc (.cells #[.int .u32 0, .int .i64 0, .int .i64 0] 35)) 35 w.heap.size 3) := B0
  clear G0 B0
  by_cases hz : E = 0
  · have hrun : runF xs pk xs.length 0 mc0 = R := by rw [← hR, runV, if_pos (by rw [hE]; exact hz)]
    have htk : (checkV xs).2 = 0 := by
      apply Classical.byContradiction
      intro hn
      rw [runE, if_neg hn] at hE
      omega
    have hpk : pk.length ≤ 65536 := by
      apply Classical.byContradiction
      intro hn
      rw [runE, if_pos htk, if_pos (by omega)] at hE
      omega
    obtain ⟨t1, t2, t3, t4⟩ := taken htk
    have HT : Hid ((∀ j (hj : j < xs.length), badV xs.length j xs[j] = 0) ∧ lastB xs = true) := ⟨t3, t4⟩
    have HRUN : Hid (runF xs pk xs.length 0 mc0 = R) := hrun
    clear hrun htk hE hR t3 t4
    subst hz
    go_enter Tryz.func16, Tryz.ntmps16
    go_wp2_with fail
    refine (HC.out _ (H.out.keptNone HG0.out)).mono ?_
    rintro e w1 ⟨rfl, K1⟩
    have G1 := grown_trans HG0.out K1
    have B1 := HB0.out.kept K1 (by simp)
    have C1 := H.out.keptNone G1
    have D1 := HP.out.keptNone G1
    clear HG0 HB0 K1 HC
    have HI : Hid (RunI w w1.heap.size (.slice none 0 0) mc0 [] (w1.alloc (.cells #[.int .u32 0, .int .u32 0, .int .u32 0, .int .u32 0, .int .u32 0, .int .u32 0, .int .u32 0, .int .u32 0, .int .u32 0, .int .u32 0, .int .u32 0, .int .u32 0, .int .u32 0, .int .u32 0, .int .u32 0, .int .u32 0, .int .u32 0, .int .u32 0] 90))) :=
      ⟨World.ownsRow_nil _ _ _ _, mat_new w1 _ _ G1.size, B1.kept (World.grownBy_alloc _ _ none) (by simp), grown_trans G1 (World.grownBy_alloc _ _ _)⟩
    clear G1 B1 C1 D1
    go_wp2
    go_loopw [9, 10] (fun sl pl wr => ∃ (tr : Value) (j n : Nat) (M : Mc) (ts : List Nat), tr = sl ∧ j < xs.length ∧ xs.length ≤ j + n ∧ ts.length ≤ j ∧ pl = .int .i64 j ∧ M.ok ∧ RunI w w1.heap.size tr M ts wr ∧ preV ts (runF xs pk n j M) = R) (fun _ pl _ => xs.length - (intOf pl).toNat)
    case atStart => exact ⟨_, 0, xs.length, mc0, [], rfl, t1, by omega, Nat.le_refl _, rfl, mc0_ok, HI.out, by rw [HRUN.out]; rfl⟩
    case round =>
      clear HI HRUN
      obtain ⟨tr, j, n, M, ts, rfl, hj, hn, hts, rfl, hM, I, hpre⟩ := hrel
      obtain ⟨n, rfl⟩ : ∃ m, n = m + 1 := ⟨n - 1, by omega⟩
      have HPRE : Hid (preV ts (runF xs pk (n + 1) j M) = R) := hpre
      have HI : Hid (RunI w w1.heap.size tr M ts wr) := I
      have G := I.2.2.2
      have CW := H.out.keptNone G
      have DW := HP.out.keptNone G
      clear hpre
      obtain ⟨ba, oa, rfl, hc⟩ := CW.insns hj
      obtain ⟨c0, c1, c2, c3⟩ := hc j hj
      have hl : (j : Int) < (xs.length : Int) := by omega
      clear hc CW
      generalize hx : xs[j] = x at *
      have HX : Hid (xs[j] = x) := hx
      have HBX : Hid (Bx (wr.alloc (.cells #[.int .u16 (x.code.toNat : Int), .int .u8 (x.jt.toNat : Int), .int .u8 (x.jf.toNat : Int), .int .u32 (x.k.toNat : Int)] 54)) wr.heap.size x.code.toNat x.jt.toNat x.jf.toNat x.k.toNat) := bx_alloc wr 54 _ _ _ _
      have HK : Hid (wr.grownBy (wr.alloc (.cells #[.int .u16 (x.code.toNat : Int), .int .u8 (x.jt.toNat : Int), .int .u8 (x.jf.toNat : Int), .int .u32 (x.k.toNat : Int)] 54)) none) := World.grownBy_alloc _ _ _
      have hltB : ∀ g', tr.ownBlock = some g' → g' < wr.heap.size := fun g' h => (I.1.lt g' h).2
      clear hx
      go_upto_region 8 with fail
      clear c0 c1 c2 c3 hl
      generalize wr.alloc (.cells #[.int .u16 (x.code.toNat : Int), .int .u8 (x.jt.toNat : Int), .int .u8 (x.jf.toNat : Int), .int .u32 (x.k.toNat : Int)] 54) = wb at *
      have hszB := HK.out.size
      have hwB := G.size
      generalize wr.heap.size = B at *
      go_wp2_with (at_builtin; refine wpList_append_cv rfl (.tmp 24) (.tmp 26) 50 rfl 3 i0 (.int .i64 0) 1 8 Tryz.underlying50 hi hz0 hz1 hz2 rfl (by decide) w.heap.size tr ts.length ((zl ts).map iv) rfl ?q1 (some ⟨wb.heap.size, 0, none⟩) 1 1 [.int .i64 (j : Int)] rfl rfl (by simp) ?q2 (by simp [Value.oneCell']) ?q3 ?q4 ?q5 ?q6)
      case q1 => exact owns_keptNone HI.out.1 (grown_trans HK.out (World.grownBy_alloc _ _ _))
      case q2 => exact cv_lit wb _ _
      case q3 => unfold maxLen; omega
      case q4 => omega
      case q5 => simp; omega
      case q6 =>
        intro v' w5 O5 K5
        have HI5 : Hid (RunI w w1.heap.size v' M (ts ++ [j]) w5) := run_append _ HI.out HK.out K5 O5
        obtain ⟨x0, x1, x2, x3⟩ := run_bx _ HBX.out hltB K5
        clear O5 K5 HI I HK HBX hltB DW G hszB hwB
        obtain ⟨ts', hts'⟩ : ∃ l, ts ++ [j] = l := ⟨_, rfl⟩
        rw [hts'] at HI5
        have HTS : Hid (ts ++ [j] = ts') := hts'
        have hl5 : ts'.length ≤ j + 1 := by rw [← hts']; simp; omega
        clear hts'
        obtain ⟨ao5, cap5, rfl, -, hcap1, hcap2, -⟩ := cv_of_row HI5.out.1
        unfold maxLen at hcap2
        have b0 := x.code.toNat_lt
        have b1 := x.jt.toNat_lt
        have b2 := x.jf.toNat_lt
        have b3 := x.k.toNat_lt
        have z1 := bad_zero (HT.out.1 j hj)
        have z2 := fun hr => last_ret HT.out.2 hj hr
        obtain ⟨p1, p2⟩ := jumpBad_out z1.2
        rw [HX.out] at p1 p2 z2
        clear z1
        have hcl : (j : Int) + 1 ≤ 4096 := by omega
        by_cases h6 : ((x.code.toNat : Int) == 6) = true
        · skip
          have HA : Hid (R = (x.k.toNat, 0, ts')) := by
            show R = _
            rw [← HPRE.out, ← HTS.out]
            rw [runF_retK hj (by rw [HX.out]; exact h6), HX.out]
            rfl
          obtain ⟨u0, hu0⟩ := HI5.out.2.2.1.cell (i := 0) (by omega)
          obtain ⟨u1, hu1⟩ := HI5.out.2.2.1.cell (i := 1) (by omega)
          obtain ⟨u2, hu2⟩ := HI5.out.2.2.1.cell (i := 2) (by omega)
          have hf0 := HI5.out.2.2.1.free 0
          have hf1 := HI5.out.2.2.1.free 1
          have hf2 := HI5.out.2.2.1.free 2
          have HZ := (run_told HI5.out (.int .u32 (x.k.toNat : Int)) (.int .i64 0) (.int .i64 (ts'.length : Int)))
          go_wp2
          generalize ((w5.setCell ⟨w.heap.size, 0, none⟩ (.int .u32 (x.k.toNat : Int))).setCell ⟨w.heap.size, 1, none⟩ (.int .i64 0)).setCell ⟨w.heap.size, 2, none⟩ (.int .i64 (ts'.length : Int)) = wz at *
          obtain ⟨z0, z1, z2, O6, G6⟩ := HZ
          refine bodyPost_ret (v := .tuple #[.agg #[.int .u32 (x.k.toNat : Int), .int .i64 0, .int .i64 (ts'.length : Int)], .slice ao5 ts'.length cap5, .int .i64 0]) ?_ rfl ?_
          · simp [results, Tryz.results16, go_sem, z0, z1, z2]
          · rw [HA.out]
            exact ⟨_, rfl, O6, G6⟩
        have h6 : ((x.code.toNat : Int) == 6) = false := by simpa using h6
        by_cases h22 : ((x.code.toNat : Int) == 22) = true
        · have ca := HI5.out.2.1.a
          have HA : Hid (R = (M.a, 0, ts')) := by
            show R = _
            rw [← HPRE.out, ← HTS.out]
            rw [runF_retA hj (by rw [HX.out]; exact h6) (by rw [HX.out]; exact h22)]
            rfl
          obtain ⟨u0, hu0⟩ := HI5.out.2.2.1.cell (i := 0) (by omega)
          obtain ⟨u1, hu1⟩ := HI5.out.2.2.1.cell (i := 1) (by omega)
          obtain ⟨u2, hu2⟩ := HI5.out.2.2.1.cell (i := 2) (by omega)
          have hf0 := HI5.out.2.2.1.free 0
          have hf1 := HI5.out.2.2.1.free 1
          have hf2 := HI5.out.2.2.1.free 2
          have HZ := (run_told HI5.out (.int .u32 (M.a : Int)) (.int .i64 0) (.int .i64 (ts'.length : Int)))
          go_wp2
          generalize ((w5.setCell ⟨w.heap.size, 0, none⟩ (.int .u32 (M.a : Int))).setCell ⟨w.heap.size, 1, none⟩ (.int .i64 0)).setCell ⟨w.heap.size, 2, none⟩ (.int .i64 (ts'.length : Int)) = wz at *
          obtain ⟨z0, z1, z2, O6, G6⟩ := HZ
          refine bodyPost_ret (v := .tuple #[.agg #[.int .u32 (M.a : Int), .int .i64 0, .int .i64 (ts'.length : Int)], .slice ao5 ts'.length cap5, .int .i64 0]) ?_ rfl ?_
          · simp [results, Tryz.results16, go_sem, z0, z1, z2]
          · rw [HA.out]
            exact ⟨_, rfl, O6, G6⟩
        have h22 : ((x.code.toNat : Int) == 22) = false := by simpa using h22
        have hret : retB x.code.toNat = false := by simp only [retB, h6, h22]; rfl
        have hnx := z2 hret
        clear z2 hret
        by_cases h5 : ((x.code.toNat : Int) == 5) = true
        · have hk := p1 h5
          have HA : Hid (preV ts' (runF xs pk n (j + 1 + x.k.toNat) M) = R) := by
            show _ = R
            rw [← HPRE.out, ← HTS.out, runF_ja hj (by rw [HX.out]; exact h6) (by rw [HX.out]; exact h22) (by rw [HX.out]; exact h5), preV_hd, HX.out]
          go_wp2
          go_roundw
          case rel => exact ⟨_, j + 1 + x.k.toNat, n, M, ts', rfl, by omega, by omega, by omega, by go_num, hM, HI5.out, HA.out⟩
          case measure => simp [intOf]; omega
        have h5 : ((x.code.toNat : Int) == 5) = false := by simpa using h5
        cases hjb : jumpB x.code.toNat with
        | true =>
          have HJ : Hid (∀ W : World, Calls Tryz.prog 32 #[.int .u16 (x.code.toNat : Int)] W fun e w' => e = .returned (.bool true) ∧ W = w') := fun W => by
            have := jump_any x.code.toNat W
            rw [hjb] at this
            exact this
          obtain ⟨hpt, hpf⟩ := p2 hjb
          have HA : Hid (preV ts' (runF xs pk n (j + 1 + goalV x M) M) = R) := by
            show _ = R
            rw [← HPRE.out, ← HTS.out, runF_jump hj (by rw [HX.out]; exact h6) (by rw [HX.out]; exact h22) (by rw [HX.out]; exact h5) (by rw [HX.out]; exact hjb), preV_hd, HX.out]
          have ca := HI5.out.2.1.a
          have cx := HI5.out.2.1.x
          cases hask : asksV x M with
          | true =>
            have HH : Hid (∀ W : World, Calls Tryz.prog 33 #[.agg #[.int .u16 (x.code.toNat : Int), .int .u8 (x.jt.toNat : Int), .int .u8 (x.jf.toNat : Int), .int .u32 (x.k.toNat : Int)], .int .u32 (M.a : Int), .int .u32 (M.x : Int)] W fun e w' => e = .returned (.bool true) ∧ W.grownBy w' none) := fun W => by
              have := holds_q x.code.toNat x.jt.toNat x.jf.toNat x.k.toNat M.a M.x W (by omega) hM.1 hM.2.1
              rw [show holdsV (bits .andNot .u16 x.code.toNat 8) M.a (sideV x.code.toNat x.k.toNat M.x) = true from hask] at this
              exact this
            have HGO : Hid (goalV x M = x.jt.toNat) := by show _ = _; rw [goalV, if_pos hask]
            clear hjb hask p1 p2
            go_wp2_with fail
            refine (HJ.out _).mono ?_
            rintro e w' ⟨rfl, rfl⟩
            go_wp2_with fail
            refine (HH.out _).mono ?_
            rintro e w6 ⟨rfl, K6⟩
            have HI6 := HI5.out.kept K6
            have y1 := K6.cell x1 (by simp)
            clear x0 x1 x2 x3 ca cx K6 HI5
            go_wp2
            go_roundw
            case rel => exact ⟨_, j + 1 + x.jt.toNat, n, M, ts', rfl, by omega, by omega, by omega, by go_num, hM, HI6, by rw [← HGO.out]; exact HA.out⟩
            case measure => simp [intOf]; omega
          | false =>
            have HH : Hid (∀ W : World, Calls Tryz.prog 33 #[.agg #[.int .u16 (x.code.toNat : Int), .int .u8 (x.jt.toNat : Int), .int .u8 (x.jf.toNat : Int), .int .u32 (x.k.toNat : Int)], .int .u32 (M.a : Int), .int .u32 (M.x : Int)] W fun e w' => e = .returned (.bool false) ∧ W.grownBy w' none) := fun W => by
              have := holds_q x.code.toNat x.jt.toNat x.jf.toNat x.k.toNat M.a M.x W (by omega) hM.1 hM.2.1
              rw [show holdsV (bits .andNot .u16 x.code.toNat 8) M.a (sideV x.code.toNat x.k.toNat M.x) = false from hask] at this
              exact this
            have HGO : Hid (goalV x M = x.jf.toNat) := by show _ = _; rw [goalV, if_neg (by rw [hask]; simp)]
            clear hjb hask p1 p2
            go_wp2_with fail
            refine (HJ.out _).mono ?_
            rintro e w' ⟨rfl, rfl⟩
            go_wp2_with fail
            refine (HH.out _).mono ?_
            rintro e w6 ⟨rfl, K6⟩
            have HI6 := HI5.out.kept K6
            have y0 := K6.cell x0 (by simp)
            have y2 := K6.cell x2 (by simp)
            clear x0 x1 x2 x3 ca cx K6 HI5
            go_wp2_with fail
            refine (HJ.out _).mono ?_
            rintro e w' ⟨rfl, rfl⟩
            go_wp2
            go_roundw
            case rel => exact ⟨_, j + 1 + x.jf.toNat, n, M, ts', rfl, by omega, by omega, by omega, by go_num, hM, HI6, by rw [← HGO.out]; exact HA.out⟩
            case measure => simp [intOf]; omega
        | false =>
          have HJ : Hid (∀ W : World, Calls Tryz.prog 32 #[.int .u16 (x.code.toNat : Int)] W fun e w' => e = .returned (.bool false) ∧ W = w') := fun W => by
            have := jump_any x.code.toNat W
            rw [hjb] at this
            exact this
          have HA0 : Hid (R = preV ts (if (stepV x.code.toNat x.k.toNat pk M).2 = 0 then hdV j (runF xs pk n (j + 1) (stepV x.code.toNat x.k.toNat pk M).1) else (0, (stepV x.code.toNat x.k.toNat pk M).2, [j]))) := by
            show R = _
            rw [← HPRE.out, runF_step hj (by rw [HX.out]; exact h6) (by rw [HX.out]; exact h22) (by rw [HX.out]; exact h5) (by rw [HX.out]; exact hjb), HX.out]
          have hM2 : (stepV x.code.toNat x.k.toNat pk M).1.ok := stepV_ok hM (by omega) (by omega)
          have HS := refstep_any b cb pk w1.heap.size w.heap.size M x.code.toNat x.jt.toNat x.jf.toNat x.k.toNat w5 HI5.out.2.1 (by omega) (HP.out.keptNone HI5.out.2.2.2) hpk hM
          clear hjb p1 p2
          generalize stepV x.code.toNat x.k.toNat pk M = sv at *
          obtain ⟨M2, fl⟩ := sv
          simp only at HS hM2
          have HSS : Hid (Calls Tryz.prog 34 #[.pointer (some ⟨w1.heap.size, 0, none⟩), .agg #[.int .u16 (x.code.toNat : Int), .int .u8 (x.jt.toNat : Int), .int .u8 (x.jf.toNat : Int), .int .u32 (x.k.toNat : Int)], .slice b pk.length cb] w5 fun e w' => StepPost w5 90 w.heap.size w1.heap.size M2 fl e w') := HS
          clear HS
          go_wp2_with fail
          refine (HJ.out _).mono ?_
          rintro e w' ⟨rfl, rfl⟩
          go_wp2_with fail
          refine (HJ.out _).mono ?_
          rintro e w' ⟨rfl, rfl⟩
          go_wp2_with fail
          refine HSS.out.mono ?_
          rintro e w6 ⟨rfl, MA6, K6⟩
          have HI6 := HI5.out.stepped MA6 K6
          clear x0 x1 x2 x3 K6 MA6 HI5
          by_cases hfl : fl = 0
          · subst hfl
            have HA : Hid (preV ts' (runF xs pk n (j + 1) M2) = R) := by
              show _ = R
              rw [HA0.out, if_pos rfl, preV_hd, ← HTS.out]
            go_wp2
            go_roundw
            case rel => exact ⟨_, j + 1, n, M2, ts', rfl, by omega, by omega, by omega, by go_num, hM2, HI6, HA.out⟩
            case measure => simp [intOf]; omega
          · have hflb : (fl != 0) = true := by rw [bne_iff_ne]; exact hfl
            have HA : Hid (R = (0, fl, ts')) := by
              show R = _
              rw [HA0.out, if_neg hfl, ← HTS.out]
              rfl
            obtain ⟨u0, hu0⟩ := HI6.2.2.1.cell (i := 0) (by omega)
            obtain ⟨u1, hu1⟩ := HI6.2.2.1.cell (i := 1) (by omega)
            obtain ⟨u2, hu2⟩ := HI6.2.2.1.cell (i := 2) (by omega)
            have hf0 := HI6.2.2.1.free 0
            have hf1 := HI6.2.2.1.free 1
            have hf2 := HI6.2.2.1.free 2
            have HZ := (run_told HI6 (.int .u32 0) (.int .i64 fl) (.int .i64 (ts'.length : Int)))
            go_wp2
            generalize ((w6.setCell ⟨w.heap.size, 0, none⟩ (.int .u32 0)).setCell ⟨w.heap.size, 1, none⟩ (.int .i64 fl)).setCell ⟨w.heap.size, 2, none⟩ (.int .i64 (ts'.length : Int)) = wz at *
            obtain ⟨z0, z1, z2, O6, G6⟩ := HZ
            refine bodyPost_ret (v := .tuple #[.agg #[.int .u32 0, .int .i64 fl, .int .i64 (ts'.length : Int)], .slice ao5 ts'.length cap5, .int .i64 0]) ?_ rfl ?_
            · simp [results, Tryz.results16, go_sem, z0, z1, z2]
            · rw [HA.out]
              exact ⟨_, rfl, O6, G6⟩
  · have hv : R = (0, 0, []) := by rw [← hR, runV, if_neg (by rw [hE]; exact hz)]
    have hEb : (E != 0) = true := by rw [bne_iff_ne]; exact hz
    subst hv
    clear hR hE hz
    go_enter Tryz.func16, Tryz.ntmps16
    go_wp2_with fail
    refine (HC.out _ (H.out.keptNone HG0.out)).mono ?_
    rintro e w1 ⟨rfl, K1⟩
    have G1 := grown_trans HG0.out K1
    have B1 := HB0.out.kept K1 (by simp)
    clear HG0 HB0 K1 HC
    obtain ⟨u0, hu0⟩ := B1.cell (i := 0) (by omega)
    obtain ⟨u1, hu1⟩ := B1.cell (i := 1) (by omega)
    obtain ⟨u2, hu2⟩ := B1.cell (i := 2) (by omega)
    have hf0 := B1.free 0
    have hf1 := B1.free 1
    have hf2 := B1.free 2
    obtain ⟨z0, z1, z2⟩ := set3 B1 (.int .u32 0) (.int .i64 0) (.int .i64 0)
    have G2 := grown_setCell (grown_setCell (grown_setCell G1 ⟨w.heap.size, 0, none⟩ (.int .u32 0) (.inr (Nat.le_refl _))) ⟨w.heap.size, 1, none⟩ (.int .i64 0) (.inr (Nat.le_refl _))) ⟨w.heap.size, 2, none⟩ (.int .i64 0) (.inr (Nat.le_refl _))
    clear B1 G1
    go_wp2
    generalize ((w1.setCell ⟨w.heap.size, 0, none⟩ (.int .u32 0)).setCell ⟨w.heap.size, 1, none⟩ (.int .i64 0)).setCell ⟨w.heap.size, 2, none⟩ (.int .i64 0) = wz at *
    refine bodyPost_ret (v := .tuple #[.agg #[.int .u32 0, .int .i64 0, .int .i64 0], .slice none 0 0, .int .i64 E]) ?_ rfl ?_
    · simp [results, Tryz.results16, go_sem, z0, z1, z2]
    · exact ⟨_, rfl, World.ownsRow_nil _ _ _ _, G2⟩

end Go.Proofs.YtencoknpocipbaaGreat

namespace Go.Proofs.YtencoknpocipbaaGreat
open Go.RowKit
set_option maxRecDepth 100000

def b18 : Bk := ⟨[], 1, ⟨6, 0, 0, 7⟩, 0, 0⟩
def v18 : Bv := ⟨b18, none, 0⟩
theorem b18_e : linE (gOf [v18]) = 0 := by kernel_rfl
theorem b18_p : linG (gOf [v18]) = [⟨6, 0, 0, 7⟩] := by kernel_rfl
theorem n18_e : linE (gOf []) = 180 := by kernel_rfl
theorem n18_p : linG (gOf []) = [] := by kernel_rfl
theorem r18_e : runE [⟨6, 0, 0, 7⟩] [] = 0 := by kernel_rfl
theorem r18_v : runV [⟨6, 0, 0, 7⟩] [] = (7, 0, [0]) := by kernel_rfl
theorem gc_nil (w : World) : GC w none [] := ⟨⟨fun _ => rfl, fun ad had => (by cases had)⟩, fun x hx => (by cases hx)⟩

theorem lit_b18 (W : World) : (Instr.buildSlice 22 1 #[(0, .agg v18.cells.toArray)]).run Tryz.prog W = .ok (.slice (some ⟨W.heap.size, 0, none⟩) 1 1) (W.alloc (.cells v18.cells.toArray 56)) := by kernel_rfl

set_option maxHeartbeats 4000000 in
theorem awake18_any (w : World) : Calls Tryz.prog 6 #[] w fun e w' => e = .returned (.bool true) ∧ w.grownBy w' none := by
  have HGC : Hid (∀ (W : World) (ad : Addr), CV W (some ad) v18.cells → GC W (some ad) [v18]) := fun W ad h => by
    refine ⟨by rw [flatB_cons, flatB_nil, List.append_nil]; exact h, fun x hx => ?_⟩
    simp only [List.mem_singleton] at hx
    subst hx
    exact ⟨⟨fun _ => rfl, fun ad had => (by cases had)⟩, Nat.le_refl _, fun _ => rfl⟩
  have HLN : Hid (∀ (W : World) (ad : Addr), CV W (some ad) v18.cells → Calls Tryz.prog 4 #[.slice (some ad) 1 1] W fun e w' => ∃ v, e = .returned (.tuple #[v, .int .i64 0]) ∧ IOwns w' W.heap.size v [⟨6, 0, 0, 7⟩] ∧ W.grownBy w' none) := fun W ad h => by
    have := linear_any (some ad) 1 [v18] W (HGC.out W ad h) (fun x hx => by simp only [List.mem_singleton] at hx; subst hx; decide)
    rw [b18_e, b18_p] at this
    exact this
  have HLZ : Hid (∀ W : World, Calls Tryz.prog 4 #[.slice none 0 0] W fun e w' => ∃ v, e = .returned (.tuple #[v, .int .i64 180]) ∧ W.grownBy w' none) := fun W => by
    have := linear_any none 0 [] W (gc_nil W) (fun x hx => by cases hx)
    rw [n18_e] at this
    refine this.mono ?_
    rintro e w' ⟨v, rfl, -, K⟩
    exact ⟨v, rfl, K⟩
  clear HGC
  go_enter Tryz.func6, Tryz.ntmps6
  go_wp2_with (first | (refine wpList_lit (by rfl) 22 1 _ rfl _ (by kernel_rfl) v18.cells 56 lit_b18 ?_; intro V1 w1 C1 K1) | fail)
  refine (HLN.out w1 _ C1).mono ?_
  rintro e w2 ⟨v, rfl, O2, K2⟩
  obtain ⟨a2, c2, rfl⟩ := own_slice O2
  have HO : Hid (CV w2 a2 (flat [⟨6, 0, 0, 7⟩])) := by
    obtain ⟨x1, x2, x3, x4, -⟩ := cv_of_row O2
    injection x3 with e
    subst e
    exact x4
  have G2 := grown_trans K1 K2
  clear C1 K1 O2 K2 HLN
  go_wp2_with fail
  refine (HLZ.out _).mono ?_
  rintro e w3 ⟨v3, rfl, K3⟩
  have HR := refrun_any a2 none c2 0 [⟨6, 0, 0, 7⟩] [] w3 (HO.out.keptNone K3) ⟨fun _ => rfl, fun ad had => (by cases had)⟩
  rw [r18_e, r18_v] at HR
  have G3 := grown_trans G2 K3
  clear G2 K3 HLZ HO
  go_wp2_with fail
  refine HR.mono ?_
  rintro e w4 ⟨u, rfl, -, K4⟩
  have V4 := GVt.alloc w4 35 #[.int .u32 7, .int .i64 0, .int .i64 1]
  have G4 : w4.grownBy (w4.alloc (.cells #[.int .u32 7, .int .i64 0, .int .i64 1] 35)) none := World.grownBy_alloc _ _ _
  go_upto_region 4 with fail
  generalize w4.alloc (.cells #[.int .u32 7, .int .i64 0, .int .i64 1] 35) = w5 at *
  generalize w4.heap.size = V at *
  have d0 : w5.cell? ⟨V, 0, none⟩ = some (.int .u32 7) := V4.cell 0
  have K5 := grown_trans G3 (grown_trans K4 G4)
  clear V4 G3 K4 G4
  go_wp2
  go_ret
  exact ⟨rfl, K5⟩

end Go.Proofs.YtencoknpocipbaaGreat

namespace Go.Proofs.YtencoknpocipbaaGreat
open Go.RowKit
set_option maxRecDepth 100000

theorem size1554 : (Tryz.prog.info? 54).map (·.size) = some 4 := by kernel_rfl

theorem setT (b : List Bool) (i j : Nat) : (b.set i true).set j true = (b.set j true).set i true := by
  by_cases h : i = j
  · subst h; rfl
  · rw [List.set_comm _ _ h]

end Go.Proofs.YtencoknpocipbaaGreat

namespace Go.Proofs.YtencoknpocipbaaGreat
open Go.RowKit
set_option maxRecDepth 100000

theorem ja_class {c : Int} (h : (c == 5) = true) : (classV c == 5) = true := by
  have e : c = 5 := by simpa using h
  rw [e]
  decide
theorem jump_class {c : Int} (h : jumpB c = true) : (classV c == 5) = true := by
  have hk : knownB c = true := by simp [knownB, h]
  have := known_all (fun c => !jumpB c || (classV c == 5)) (by decide +kernel) hk
  rw [h] at this
  simpa using this
theorem ret_class {c : Int} (h : retB c = true) : (classV c == 5) = false := by
  have h6 : (classV c == 6) = true := by rw [class6_ret]; exact h
  have e : classV c = 6 := by simpa using h6
  rw [e]
  rfl

/-- What the document's own marks are behind an instruction. -/
theorem beg_ja {x : In} {j : Nat} {bs : List Bool} (h : ((x.code.toNat : Int) == 5) = true) : (begStep x j bs).set 0 true = (((bs.set 0 true).set (j + 1 + x.k.toNat) true).set (j + 1) true) := by
  have h5 := ja_class h
  have hl : leavesB x = true := by rw [leavesB, h5]; rfl
  rw [begStep, if_neg (by rw [hl]; simp), if_pos h5, yesG, noG, if_pos h, if_pos h, List.set_set, setT _ _ 0, setT _ _ 0, setT _ (j + 1)]
theorem beg_jump {x : In} {j : Nat} {bs : List Bool} (h : jumpB x.code.toNat = true) (h5 : ((x.code.toNat : Int) == 5) = false) : (begStep x j bs).set 0 true = ((((bs.set 0 true).set (j + 1 + x.jt.toNat) true).set (j + 1 + x.jf.toNat) true).set (j + 1) true) := by
  have hc := jump_class h
  have hl : leavesB x = true := by rw [leavesB, hc]; rfl
  rw [begStep, if_neg (by rw [hl]; simp), if_pos hc, yesG, noG, if_neg (by rw [h5]; simp), if_neg (by rw [h5]; simp), setT _ _ 0, setT _ _ 0, setT _ _ 0, setT _ (j + 1), setT _ (j + 1)]
theorem beg_ret {x : In} {j : Nat} {bs : List Bool} (h : retB x.code.toNat = true) : (begStep x j bs).set 0 true = ((bs.set 0 true).set (j + 1) true) := by
  have hc := ret_class h
  have hl : leavesB x = true := by rw [leavesB, class6_ret, h]; simp
  rw [begStep, if_neg (by rw [hl]; simp), if_neg (by rw [hc]; simp), setT _ _ 0]
theorem beg_no {x : In} {j : Nat} {bs : List Bool} (h5 : (classV x.code.toNat == 5) = false) (h : retB x.code.toNat = false) : (begStep x j bs).set 0 true = bs.set 0 true := by
  have hl : leavesB x = false := by rw [leavesB, class6_ret, h, h5]; rfl
  rw [begStep, if_pos hl]

end Go.Proofs.YtencoknpocipbaaGreat
