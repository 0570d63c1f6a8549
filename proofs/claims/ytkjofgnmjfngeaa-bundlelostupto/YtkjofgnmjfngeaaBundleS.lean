/-
  Package bundle as landed: Split.
-/
import Derived.Test.YtkjofgnmjfngeaaLotBundleLost15
import Derived.Test.YtkjofgnmjfngeaaLotBundleLost16
namespace Go.Proofs.Ytkjofgnmjfngeaa
open Go.RowKit
set_option maxRecDepth 100000

theorem new_er {l : Lk} {next : Nat} {er : Int} (h : newX l next = .error er) : (er != 0) = true ∧ ordA l next = #[.int .u32 0, .int .u32 0] ∧ ∀ b most, splitX l b most next = .error er := by
  have ho : ordA l next = #[.int .u32 0, .int .u32 0] := by unfold ordA; rw [h]
  refine ⟨?_, ho, fun b most => ?_⟩
  · unfold newX at h
    split at h
    · cases h; rfl
    · split at h
      · cases h; rfl
      · cases h
  · unfold newX at h
    unfold splitX
    split at h
    · rename_i hm
      rw [if_pos hm]
      cases h
      rfl
    · rename_i hm
      rw [if_neg hm]
      split at h
      · rename_i hs
        rw [if_pos (.inr (.inr hs))]
        cases h
        rfl
      · cases h
theorem new_is {l : Lk} {next : Nat} {u : Bs} (h : newX l next = .ok u) : u = ⟨next, false, []⟩ ∧ mayB l = true ∧ next < spV l ∧ ordA l next = #[.int .u32 (next : Int), .int .u32 ((spV l - 1 : Nat) : Int)] := by
  have h' := h
  unfold newX at h
  split at h
  · cases h
  · rename_i hm
    split at h
    · cases h
    · rename_i hs
      cases h
      refine ⟨rfl, by simpa using hm, by omega, ?_⟩
      unfold ordA
      rw [h']

theorem pre4 : bytesV 4 4278386749 = [255, 3, 0, 61] := by decide

set_option maxRecDepth 100000 in
set_option maxHeartbeats 4000000 in
theorem bsplit_ok (l : Lk) (a : Option Addr) (ca : Nat) (b : List UInt8) (most first : Nat) (w : World) (ha : Cells w a b) (hc0 : a = none → ca = 0) (hca : b.length ≤ ca) (hn : b.length ≤ 140737488355328) (h1 : 1 ≤ most) (hm : most ≤ 65527) (hf : first < spV l) (hb : b.length ≤ 65535) (hmany : b.length ≤ 4096 * most) (hmay : mayB l = true) :
    Calls Try.prog 6 #[.agg (lkA l), .slice a b.length ca, .int .i64 (most : Int), .int .u32 (first : Int)] w fun e w' => ∃ v, e = .returned (.tuple #[v, .int .i64 0]) ∧ LL w' w.heap.size v (splitL l b most first) ∧ w.grownBy w' none := by
  have HU : Hid (Under a b w.heap.size) := ha.under
  have L0 := VAt.alloc w 26 (lkA l)
  have G0 : w.grownBy (w.alloc (.cells (lkA l) 26)) none := World.grownBy_alloc _ _ _
  have HL : Hid ((Try.prog.info? 26).map (·.size) = some (lkA l).size) := size26
  have H : Hid (Cells (w.alloc (.cells (lkA l) 26)) a b) := ha.keptNone G0
  have hnx : newX l first = .ok ⟨first, false, []⟩ := by rw [newX, if_neg (by rw [hmay]; simp), if_neg (by omega)]
  have CM := order_any l first (w.alloc (.cells (lkA l) 26))
  rw [(new_is hnx).2.2.2, hnx] at CM
  simp only [exE] at CM
  obtain ⟨hmp, -⟩ := may_mp hmay
  obtain ⟨y, hy, -⟩ := lay_of hmp
  have HHD : Hid (∀ (beg fin : Bool) (seq : Nat) (W : World), seq < spV l → Calls Try.prog 15 #[.agg y.arr, .bool beg, .bool fin, .int .u32 (seq : Int)] W fun e w' => ∃ v, e = .returned v ∧ Owns w' W.heap.size v (hdB l beg fin seq) ∧ W.grownBy w' none) := fun beg fin seq W hs => by
    have k := lhead_any l beg fin seq W hmp hs
    rw [hy] at k
    exact k
  have HLY : Hid (∀ W : World, Calls Try.prog 14 #[.int .i64 l.mp] W fun e w' => e = .returned (.agg y.arr) ∧ W.grownBy w' none) := by
    intro W
    have k := layout_any l.mp W
    rw [hy] at k
    exact k
  have HYS : Hid ((Try.prog.info? 50).map (·.size) = some y.arr.size) := size50
  have hm1 : decide ((most : Int) < 1) = false := by rw [decide_eq_false_iff_not]; omega
  have hm2 : decide ((65527 : Int) < (most : Int)) = false := by rw [decide_eq_false_iff_not]; omega
  have hb1 : decide ((65535 : Int) < (b.length : Int)) = false := by rw [decide_eq_false_iff_not]; omega
  have hb2 : decide (4096 * (most : Int) < (b.length : Int)) = false := by rw [decide_eq_false_iff_not]; omega
  have hw : IntKind.i64.wrap (4096 * (most : Int)) = 4096 * (most : Int) := by rw [IntKind.wrap_i64]; omega
  have hsp : spV l ≤ 16777216 := by unfold spV; split <;> omega
  have HSPP : Hid (0 < spV l ∧ spV l ≤ 16777216 ∧ first < spV l) := ⟨sp_pos l, hsp, hf⟩
  have HWN : Hid (cntV b.length most ≤ 4096) := by
    show cntV b.length most ≤ 4096
    apply Classical.byContradiction
    intro hgt
    have := (cnt_iff (n := b.length) (i := 4096) h1 (by omega)).1 (by omega)
    omega
  clear ha hmay hf hsp hnx hy hmp
  generalize hww : w.alloc (.cells (lkA l) 26) = wa at *
  go_enter Try.func6, Try.ntmps6
  go_upto_region 1 with fail
  obtain ⟨L, hL⟩ : ∃ L, w.heap.size = L := ⟨_, rfl⟩
  have HLE : Hid (w.heap.size = L) := hL
  rw [hL] at L0 ⊢
  clear hL hww
  go_wp2_with (refine wpList_load_row rfl 26 (.tmp 4) rfl L rfl 26 (lkA l) (0, 0) _ L0 Try.underlying26 rfl HL.out ?_)
  refine CM.mono ?_
  rintro e w1 ⟨rfl, K1⟩
  have L1 := L0.kept K1
  have G1 := grown_trans G0 K1
  have H1 : Hid (Cells w1 a b) := H.out.keptNone K1
  clear CM L0 G0 K1 H
  go_upto_region 10 with fail
  have O2 := VAt.alloc w1 44 #[.int .u32 (first : Int), .int .u32 ((spV l - 1 : Nat) : Int)]
  have KO := World.grownBy_alloc w1 (.cells #[.int .u32 (first : Int), .int .u32 ((spV l - 1 : Nat) : Int)] 44) none
  have L2 := L1.kept KO
  have G2 := grown_trans G1 KO
  have H2 : Hid (Cells (w1.alloc (.cells #[.int .u32 (first : Int), .int .u32 ((spV l - 1 : Nat) : Int)] 44)) a b) := H1.out.keptNone KO
  have HOW : Hid (w.heap.size ≤ w1.heap.size) := G1.size
  generalize w1.alloc (.cells #[.int .u32 (first : Int), .int .u32 ((spV l - 1 : Nat) : Int)] 44) = w2 at *
  generalize w1.heap.size = O at *
  clear L1 G1 KO H1
  have hmk : ∀ W : World, (Instr.makeSlice 28 (.int .i64 4) (.int .i64 4)).run Try.prog W = .ok (.slice (some ⟨W.heap.size, 0, none⟩) 4 4) (W.alloc (.cells ((List.replicate 4 (0 : UInt8)).map bv).toArray 5)) := fun W => make4 W
  go_wp2_with fail
  clear hmk
  refine (put_new 4 4278386749 (by omega) (by omega) _ _ ?pc).mono ?_
  case pc => exact cells_lit w2 (List.replicate 4 0)
  rintro e w3 ⟨pre, rfl, OP, KP⟩
  rw [pre4] at OP
  have KP2 := grown_trans (World.grownBy_alloc w2 _ none) KP
  have O3 := O2.kept KP2
  have L3 := L2.kept KP2
  have G3 := grown_trans G2 KP2
  have H3 : Hid (Cells w3 a b) := H2.out.keptNone KP2
  obtain ⟨pa, pk, rfl, CP, zp, ub, -⟩ := OP.rd
  have HUP : Hid (∀ ad, pa = some ad → ad.block ≠ O) := fun ad e => by
    have h1 := (ub ad e).1
    have h2 := O2.lt
    simp at h1
    omega
  have HCP : Hid (Cells w3 pa [255, 3, 0, 61] ∧ (pa = none → pk = 0)) := ⟨CP, zp⟩
  clear O2 L2 G2 H2 KP KP2 OP CP zp ub
  have x2 : w3.cell? ⟨L, 2, none⟩ = some (.int .i64 l.mp) := L3.cell 2
  obtain ⟨sz, B', E', Z', S'⟩ := y
  simp only [Lay.arr] at *
  go_wp2_with fail
  refine (HLY.out _).mono ?_
  rintro e w4 ⟨rfl, K4⟩
  clear x2 HLY
  go_upto_region 12 with fail
  have Y5 := VAt.alloc w4 50 #[.int .i64 (sz : Int), .int .u32 (B' : Int), .int .u32 (E' : Int), .int .u32 (Z' : Int), .int .u32 (S' : Int)]
  have KY := grown_trans K4 (World.grownBy_alloc w4 (.cells #[.int .i64 (sz : Int), .int .u32 (B' : Int), .int .u32 (E' : Int), .int .u32 (Z' : Int), .int .u32 (S' : Int)] 50) none)
  have O5 := O3.kept KY
  have G5 := grown_trans G3 KY
  have H5 : Hid (Cells (w4.alloc (.cells #[.int .i64 (sz : Int), .int .u32 (B' : Int), .int .u32 (E' : Int), .int .u32 (Z' : Int), .int .u32 (S' : Int)] 50)) a b) := H3.out.keptNone KY
  have HP5 : Hid (Cells (w4.alloc (.cells #[.int .i64 (sz : Int), .int .u32 (B' : Int), .int .u32 (E' : Int), .int .u32 (Z' : Int), .int .u32 (S' : Int)] 50)) pa [255, 3, 0, 61] ∧ (pa = none → pk = 0)) := ⟨HCP.out.1.keptNone KY, HCP.out.2⟩
  have HUA : Hid (∀ ad, a = some ad → b ≠ [] → ad.block ≠ O) := fun ad e hb => by
    have := HU.out ad e hb
    have := HOW.out
    omega
  have HOL : Hid (O < (w4.alloc (.cells #[.int .i64 (sz : Int), .int .u32 (B' : Int), .int .u32 (E' : Int), .int .u32 (Z' : Int), .int .u32 (S' : Int)] 50)).heap.size) := O5.lt
  have HYO : Hid (w4.heap.size ≠ O) := by show w4.heap.size ≠ O; have := (O3.kept K4).lt; omega
  generalize w4.alloc (.cells #[.int .i64 (sz : Int), .int .u32 (B' : Int), .int .u32 (E' : Int), .int .u32 (Z' : Int), .int .u32 (S' : Int)] 50) = w5 at *
  generalize w4.heap.size = Y at *
  clear O3 L3 G3 H3 HCP K4 KY
  go_upto_region 14 with fail
  go_loopw [15, 16] (fun u t wr => ∃ (i : Nat) (vs : List Value), i ≤ cntV b.length most ∧ t = .int .i64 ((i * most : Nat) : Int) ∧ LLv wr w5.heap.size u vs ((List.range i).map (pcV l b most first)) ∧ VAt wr O 44 #[.int .u32 (((first + i) % spV l : Nat) : Int), .int .u32 ((spV l - 1 : Nat) : Int)] ∧ w5.grownBy wr (some O)) (fun _ t _ => b.length + most - (intOf t).toNat)
  case atStart =>
    exact ⟨0, [], Nat.zero_le _, by rw [Nat.zero_mul]; rfl, LLv.nil _ _, by rw [Nat.add_zero, Nat.mod_eq_of_lt HSPP.out.2.2]; exact O5, World.grownBy.refl _ _⟩
  case round =>
    clear O5
    obtain ⟨i, vs, hi1, rfl, LV, OR, K⟩ := hrel
    obtain ⟨k, hk⟩ : ∃ k, i * most = k := ⟨_, rfl⟩
    rw [hk]
    by_cases hlt : i < cntV b.length most
    · have hkb : k ≤ b.length := by rw [← hk]; exact at_le h1 hlt
      obtain ⟨c, hc⟩ : ∃ c, (chunkV b most i).length = c := ⟨_, rfl⟩
      have hcs := chunk_size b most i h1 hlt
      rw [hc, hk] at hcs
      have hlast := last_iff h1 hlt (at_le h1 hlt)
      rw [hk] at hlast
      obtain ⟨fin, hfin⟩ : ∃ fin, decide (i + 1 = cntV b.length most) = fin := ⟨_, rfl⟩
      obtain ⟨beg, hbeg⟩ : ∃ beg, decide (i = 0) = beg := ⟨_, rfl⟩
      have hbk : ((k : Int) == 0) = beg := by
        rw [← hbeg]
        by_cases h0 : i = 0
        · subst h0
          rw [Nat.zero_mul] at hk
          rw [← hk]
          rfl
        · have : 0 < k := by rw [← hk]; exact Nat.mul_pos (by omega) (by omega)
          rw [decide_eq_false h0, beq_eq_false_iff_ne]
          omega
      have hbt : beg = false → (k : Int) < (b.length : Int) := fun e => by
        rw [← hbeg] at e
        have h0 : i ≠ 0 := of_decide_eq_false e
        have := (cnt_iff (n := b.length) (i := i) h1 (by omega)).1 hlt
        omega
      have hckb : k + c ≤ b.length := by
        by_cases he : i + 1 = cntV b.length most
        · rw [if_pos he] at hcs; omega
        · rw [if_neg he] at hcs
          have := cnt_lt (n := b.length) (i := i) h1 (by omega)
          rw [Nat.succ_mul, hk] at this
          omega
      have HCH : Hid ((chunkV b most i).length = c) := hc
      obtain ⟨kc, hkcc⟩ : ∃ kc, k + c = kc := ⟨_, rfl⟩
      have HKCC : Hid (k + c = kc) := hkcc
      have HK : Hid (i * most = k) := hk
      have HLT : Hid (i < cntV b.length most) := hlt
      have HFN : Hid (decide (i + 1 = cntV b.length most) = fin ∧ decide (i = 0) = beg) := ⟨hfin, hbeg⟩
      go_upto_region 14 with fail
      go_cut [61] from 54 to 61 (fun t wx => t = .bool true ∧ wx = wr)
      case first =>
        cases hb0 : beg with
        | true =>
          rw [hb0] at hbk
          go_wp2
          go_meet
          exact ⟨rfl, rfl⟩
        | false =>
          rw [hb0] at hbk
          have hkl := hbt hb0
          go_wp2
          go_meet
          exact ⟨rfl, rfl⟩
      case rest =>
        obtain ⟨rfl, rfl⟩ := hcut
        have hadd : IntKind.i64.wrap ((k : Int) + (most : Int)) = ((k + most : Nat) : Int) := by rw [IntKind.wrap_i64]; omega
        have hkf : ((kc : Int) == (b.length : Int)) = fin := by
          rw [← hfin, Bool.eq_iff_iff, beq_iff_eq, decide_eq_true_eq]
          by_cases he : i + 1 = cntV b.length most
          · rw [if_pos he] at hcs
            exact ⟨fun _ => he, fun _ => by omega⟩
          · rw [if_neg he] at hcs
            have := mt hlast.2 he
            exact ⟨fun _ => by omega, fun e => absurd e he⟩
        go_upto_region 16 with fail
        go_cut [17] from 65 to 70 (fun t wx => t = .int .i64 (kc : Int) ∧ wx = wc)
        case first =>
          have HKC : Hid (∀ x : Int, (x = (b.length : Int) ∧ (b.length : Int) ≤ (k : Int) + (most : Int)) ∨ (x = (k : Int) + (most : Int) ∧ (k : Int) + (most : Int) ≤ (b.length : Int)) → x = (kc : Int)) := fun x hx => by
            by_cases he : i + 1 = cntV b.length most
            · rw [if_pos he] at hcs
              have := hlast.1 he
              omega
            · rw [if_neg he] at hcs
              have := mt hlast.2 he
              omega
          go_wp2
          all_goals
            go_meet
            exact ⟨congrArg (Value.int .i64) (HKC.out _ (by omega)), rfl⟩
        case rest =>
          obtain ⟨rfl, rfl⟩ := hcut
          generalize hwr : wc = wr at *
          clear hwr
          have LV0 := LV
          have Y6 := Y5.grown K (by simpa using HYO.out.symm)
          have H6 : Hid (Cells wr a b) := H5.out.kept K (fun ad e hb => by simpa using HUA.out ad e hb)
          have HP6 : Hid (Cells wr pa [255, 3, 0, 61] ∧ (pa = none → pk = 0)) := ⟨HP5.out.1.kept K (fun ad e hb => by simpa using HUP.out ad e), HP5.out.2⟩
          have x0 : wr.cell? ⟨O, 0, none⟩ = some (.int .u32 (((first + i) % spV l : Nat) : Int)) := OR.cell 0
          obtain ⟨sq, hsq⟩ : ∃ sq, (first + i) % spV l = sq := ⟨_, rfl⟩
          have HSQ : Hid ((first + i) % spV l = sq ∧ sq < spV l) := ⟨hsq, by rw [← hsq]; exact Nat.mod_lt _ HSPP.out.1⟩
          rw [hsq] at x0 OR
          clear hsq hadd hbt hlast hcs hc
          go_wp2_with (refine wpList_load_row rfl 50 (.tmp 14) rfl Y rfl 50 _ (0, 0) _ Y6 Try.underlying50 rfl HYS.out ?_)
          refine (HHD.out beg fin sq wr HSQ.out.2).mono ?_
          rintro e w6 ⟨hd, rfl, O6, K6⟩
          obtain ⟨ah, kh, rfl, CH, zh, -⟩ := O6.rd
          have HHC : Hid (Cells w6 ah (hdB l beg fin sq) ∧ (ah = none → kh = 0)) := ⟨CH, zh⟩
          have LV6 := LV.keptNone K6
          have OR6 := OR.kept K6
          have KR6 := grown_trans K (grown_mono K6)
          have HS56 : Hid (w5.heap.size ≤ w6.heap.size) := KR6.size
          have HC6 : Hid (Cells w6 a b) := H6.out.keptNone K6
          have HP7 : Hid (Cells w6 pa [255, 3, 0, 61] ∧ (pa = none → pk = 0)) := ⟨HP6.out.1.keptNone K6, HP6.out.2⟩
          have HSZ : Hid (wr.heap.size ≤ w6.heap.size) := K6.size
          clear x0 Y6 H6 HP6 OR CH zh O6 K6 LV K
          have z1 : (0 : Int) ≤ (k : Int) := by omega
          have z2 : (k : Int) ≤ (kc : Int) := by omega
          have z3 : (kc : Int) ≤ (ca : Int) := by omega
          have HCC : Hid (Cells w6 (if ca = k then a else Option.map (fun x => x.add k) a) (chunkV b most i)) := chunk_any HC6.out HK.out hkb hca
          have l1 : kc - k = (chunkV b most i).length := by have := HCH.out; have := HKCC.out; omega
          have HCL : Hid ((chunkV b most i).length ≤ 65535) := by show (chunkV b most i).length ≤ 65535; have := HCH.out; omega
          have HHL : Hid ((hdB l beg fin sq).length ≤ 4) := by show (hdB l beg fin sq).length ≤ 4; rw [hd_len]; unfold szV; split <;> omega
          have HX : Hid (pcV l b most first i = [255, 3, 0, 61] ++ (hdB l beg fin sq ++ chunkV b most i)) := by
            show pcV l b most first i = _
            unfold pcV
            rw [HFN.out.1, HFN.out.2, HSQ.out.1]
          generalize hch : chunkV b most i = ch at *
          obtain ⟨zz, hzz⟩ : ∃ zz, (if ca = k then a else Option.map (fun x => x.add k) a) = zz := ⟨_, rfl⟩
          rw [hzz] at HCC
          have HZN : Hid (zz = none → ca - k = 0) := by
            show zz = none → ca - k = 0
            rw [← hzz]
            intro e
            split at e
            · omega
            · have := hc0 (by simpa using e)
              omega
          have JN := lit_three (W := w6) 28 HP7.out.1 HP7.out.2 HHC.out.1 HHC.out.2 (k3 := ca - k) HCC.out HZN.out (by have := HCL.out; have := HHL.out; simp; omega)
          rw [← HX.out] at JN
          clear z1 HHC HP7 HC6 HCC
          go_wp2_with fail
          refine JN.mono ?_
          rintro e w7 ⟨p7, rfl, O7, K7⟩
          have K67 := grown_trans (World.grownBy_alloc w6 _ none) K7
          have LV7 := LV6.keptNone K67
          have OR7 := OR6.kept K67
          have KR7 := grown_trans KR6 (grown_mono K67)
          have HO7 : Hid (Owns w7 w6.heap.size p7 (pcV l b most first i)) := O7
          have hAP : ∀ j, j < ((List.range i).map (pcV l b most first)).length → ∀ y, (vs.getD j undef).ownBlock = some y → p7.ownBlock ≠ some y := fun j hj y hy hp => by
            have h1 := (below_all LV0).2 j hj y hy
            have h2 := (World.ownsRow.lt O7 y hp).1
            have := HSZ.out
            omega
          have HAP : Hid (∀ j, j < ((List.range i).map (pcV l b most first)).length → ∀ y, (vs.getD j undef).ownBlock = some y → p7.ownBlock ≠ some y) := hAP
          obtain ⟨ao5, cap5, rfl, -, -⟩ := O7.shape
          clear JN K7 K67 LV6 OR6 KR6 O7 hAP hzz HZN l1
          have KB := World.grownBy_alloc w7 (.cells #[.slice ao5 (pcV l b most first i).length cap5] 28) none
          have CB := cv_lit w7 28 [.slice ao5 (pcV l b most first i).length cap5]
          have HCB : Hid (CV (w7.alloc (.cells #[.slice ao5 (pcV l b most first i).length cap5] 28)) (some ⟨w7.heap.size, 0, none⟩) [.slice ao5 (pcV l b most first i).length cap5]) := CB
          have LVB : Hid (LLv (w7.alloc (.cells #[.slice ao5 (pcV l b most first i).length cap5] 28)) w5.heap.size u15 vs ((List.range i).map (pcV l b most first))) := LV7.keptNone KB
          have HOB : Hid (Owns (w7.alloc (.cells #[.slice ao5 (pcV l b most first i).length cap5] 28)) w6.heap.size (.slice ao5 (pcV l b most first i).length cap5) (pcV l b most first i)) := owns_keptNone HO7.out KB
          have HRB : Hid (w5.grownBy (w7.alloc (.cells #[.slice ao5 (pcV l b most first i).length cap5] 28)) (some O) ∧ w5.heap.size ≤ w6.heap.size) := ⟨grown_trans KR7 (grown_mono KB), HS56.out⟩
          have HORB : Hid (VAt (w7.alloc (.cells #[.slice ao5 (pcV l b most first i).length cap5] 28)) O 44 #[.int .u32 (sq : Int), .int .u32 ((spV l - 1 : Nat) : Int)]) := OR7.kept KB
          obtain ⟨i1, ji, jz0, jz1, jz2⟩ := info_parts infoS28
          have hvl : vs.length = i := by have := LV0.2.1; simpa using this
          have HVL : Hid (vs.length = i) := hvl
          clear CB KB KR7 HO7 LV7 OR7 hvl
          go_wp2_with (at_builtin; refine wpList_append_cv rfl (.tmp 81) (.tmp 90) 22 rfl 28 i1 (.slice none 0 0) 1 24 Try.underlying22 ji jz0 jz1 jz2 rfl (by decide) w5.heap.size u15 vs.length vs rfl ?r1 (some ⟨w7.heap.size, 0, none⟩) 1 1 [.slice ao5 (pcV l b most first i).length cap5] rfl rfl (by simp) ?r2 (by simp [Value.oneCell']) ?r3 ?r4 ?r5 ?r6)
          case r1 => exact LVB.out.1
          case r2 => exact HCB.out
          case r3 => have := HVL.out; have := HWN.out; unfold maxLen; omega
          case r4 => have := HVL.out; have := HWN.out; omega
          case r5 => exact HRB.out.1.size
          case r6 =>
            intro v8 w8 O8 K8
            have LV8 := LVB.out.push (owns_mono HOB.out HRB.out.2) HAP.out O8 K8 (by decide)
            rw [show (List.range i).map (pcV l b most first) ++ [pcV l b most first i] = (List.range (i + 1)).map (pcV l b most first) by rw [List.range_succ, List.map_append]; rfl] at LV8
            have KR8 : w5.grownBy w8 (some O) := grown_trans_new HRB.out.1 K8 (fun x hx => (LVB.out.1.lt x hx).1)
            have OR8 := HORB.out.grown K8 (fun e => by have := (LVB.out.1.lt _ e).1; have := HOL.out; omega)
            have PS := pass_any l O sq sq w8 (by have := HSQ.out.2; have := HSPP.out.2.1; omega) (OR8.cell 0) (OR8.cell 1) (OR8.free 0)
            have y0 : w8.cell? ⟨O, 0, none⟩ = some (.int .u32 (sq : Int)) := OR8.cell 0
            have HOR8 : Hid (VAt w8 O 44 #[.int .u32 (sq : Int), .int .u32 ((spV l - 1 : Nat) : Int)]) := OR8
            clear LVB HOB HCB HAP O8 K8 HRB HORB OR8
            go_wp2_with fail
            refine PS.mono ?_
            rintro e w9 ⟨rfl, rfl⟩
            have K9 : w8.grownBy (w8.setCell ⟨O, 0, none⟩ (.int .u32 (((sq + 1) % spV l : Nat) : Int))) (some O) := grown_setCell (World.grownBy.refl _ _) _ _ (.inl rfl)
            have OR9 : VAt (w8.setCell ⟨O, 0, none⟩ (.int .u32 (((sq + 1) % spV l : Nat) : Int))) O 44 #[.int .u32 (((sq + 1) % spV l : Nat) : Int), .int .u32 ((spV l - 1 : Nat) : Int)] := HOR8.out.set 0 _
            have LV9 := LV8.kept K9 (by
              cases hv : v8.ownBlock with
              | none => exact .inl rfl
              | some x =>
                have := (LV8.1.lt x hv).1
                have := HOL.out
                exact .inr (by simp; omega)) (fun j hj => by
              cases hv : ((vs ++ [Value.slice ao5 (pcV l b most first i).length cap5]).getD j undef).ownBlock with
              | none => exact .inl rfl
              | some x =>
                have := (World.ownsRow.lt (LV8.2.2.1 j hj) x hv).1
                have := HOL.out
                exact .inr (by simp; omega))
            have KR9 := grown_trans KR8 K9
            rw [show (sq + 1) % spV l = (first + (i + 1)) % spV l by rw [← HSQ.out.1]; exact mod_next first i _] at OR9 LV9 KR9 ⊢
            generalize w8.setCell ⟨O, 0, none⟩ (.int .u32 (((first + (i + 1)) % spV l : Nat) : Int)) = w10 at *
            have hkm : IntKind.i64.wrap ((k : Int) + (most : Int)) = ((k + most : Nat) : Int) := by rw [IntKind.wrap_i64]; omega
            clear PS LV8 KR8 K9 y0 HOR8 LV0
            go_wp2
            go_roundw
            case rel =>
              refine ⟨i + 1, _, HLT.out, ?_, LV9, OR9, KR9⟩
              rw [Nat.succ_mul, HK.out]
              simp
            case measure => simp [intOf]; omega
    · obtain rfl : i = cntV b.length most := by omega
      have hi0 := cnt_pos b.length most h1
      have hge := cnt_ge (n := b.length) h1
      rw [hk] at hge
      have hk0 : ((k : Int) == 0) = false := by
        have : 0 < k := by rw [← hk]; exact Nat.mul_pos (by omega) (by omega)
        rw [beq_eq_false_iff_ne]
        omega
      have hkb : ¬ (k : Int) < (b.length : Int) := by omega
      have HF : Hid (LL wr w.heap.size u15 (splitL l b most first) ∧ w.grownBy wr none) := ⟨⟨vs, LV.mono G5.size⟩, grown_trans_new G5 K (fun x hx => by simp at hx; have := HOW.out; omega)⟩
      clear hge hk
      go_wp2
      go_ret2
      exact ⟨_, rfl, HF.out.1, HF.out.2⟩

set_option maxRecDepth 100000 in
set_option maxHeartbeats 4000000 in
theorem split_any (l : Lk) (a : Option Addr) (ca : Nat) (b : List UInt8) (most : Int) (first : Nat) (w : World) (ha : Cells w a b) (hc0 : a = none → ca = 0) (hca : b.length ≤ ca) (hn : b.length ≤ 140737488355328) :
    Calls Try.prog 6 #[.agg (lkA l), .slice a b.length ca, .int .i64 most, .int .u32 (first : Int)] w fun e w' => ∃ v, e = .returned (.tuple #[v, .int .i64 (exE (splitX l b most first))]) ∧ LL w' w.heap.size v (exV [] (splitX l b most first)) ∧ w.grownBy w' none := by
  have L0 := VAt.alloc w 26 (lkA l)
  have G0 : w.grownBy (w.alloc (.cells (lkA l) 26)) none := World.grownBy_alloc _ _ _
  have HL : Hid ((Try.prog.info? 26).map (·.size) = some (lkA l).size) := size26
  have CM := order_any l first (w.alloc (.cells (lkA l) 26))
  rcases except_cases (newX l first) with ⟨er, he⟩ | ⟨u, he⟩
  · obtain ⟨hz, ho, hs⟩ := new_er he
    rw [hs b most]
    rw [he, ho] at CM
    simp only [exE] at CM
    clear ha he ho hs
    go_enter Try.func6, Try.ntmps6
    go_wp2_with (refine wpList_load_row rfl 26 (.tmp 4) rfl w.heap.size rfl 26 (lkA l) (0, 0) _ L0 Try.underlying26 rfl HL.out ?_)
    refine CM.mono ?_
    rintro e w1 ⟨rfl, K1⟩
    have G1 := grown_trans G0 K1
    clear CM L0 G0 K1
    go_wp2
    go_ret2
    exact ⟨_, rfl, ⟨[], LLv.nil _ _⟩, grown_trans G1 (World.grownBy_alloc _ _ _)⟩
  · obtain ⟨-, hmay, hf, ho⟩ := new_is he
    rw [he, ho] at CM
    simp only [exE] at CM
    have e0 : splitX l b most first = if most < 1 ∨ 65527 < most ∨ spV l ≤ first then .error 91 else if 65535 < b.length then .error 92 else if 4096 * most < (b.length : Int) then .error 93 else .ok (splitL l b most.toNat first) := by rw [splitX, if_neg (by rw [hmay]; simp)]
    by_cases h1 : most < 1
    · rw [e0, if_pos (.inl h1)]
      clear ha e0 hmay hf ho he
      go_enter Try.func6, Try.ntmps6
      go_wp2_with (refine wpList_load_row rfl 26 (.tmp 4) rfl w.heap.size rfl 26 (lkA l) (0, 0) _ L0 Try.underlying26 rfl HL.out ?_)
      refine CM.mono ?_
      rintro e w1 ⟨rfl, K1⟩
      have G1 := grown_trans G0 K1
      clear CM L0 G0 K1
      go_wp2
      go_ret2
      exact ⟨_, rfl, ⟨[], LLv.nil _ _⟩, grown_trans G1 (World.grownBy_alloc _ _ _)⟩
    · by_cases h2 : 65527 < most
      · rw [e0, if_pos (.inr (.inl h2))]
        clear ha e0 hmay hf ho he
        go_enter Try.func6, Try.ntmps6
        go_wp2_with (refine wpList_load_row rfl 26 (.tmp 4) rfl w.heap.size rfl 26 (lkA l) (0, 0) _ L0 Try.underlying26 rfl HL.out ?_)
        refine CM.mono ?_
        rintro e w1 ⟨rfl, K1⟩
        have G1 := grown_trans G0 K1
        clear CM L0 G0 K1
        go_wp2
        go_ret2
        exact ⟨_, rfl, ⟨[], LLv.nil _ _⟩, grown_trans G1 (World.grownBy_alloc _ _ _)⟩
      · have hne : ¬ (most < 1 ∨ 65527 < most ∨ spV l ≤ first) := fun e => e.elim h1 fun e => e.elim h2 (by omega)
        by_cases h4 : 65535 < b.length
        · rw [e0, if_neg hne, if_pos h4]
          have h4' : (65535 : Int) < (b.length : Int) := by omega
          clear ha e0 hmay hf ho he hne
          go_enter Try.func6, Try.ntmps6
          go_wp2_with (refine wpList_load_row rfl 26 (.tmp 4) rfl w.heap.size rfl 26 (lkA l) (0, 0) _ L0 Try.underlying26 rfl HL.out ?_)
          refine CM.mono ?_
          rintro e w1 ⟨rfl, K1⟩
          have G1 := grown_trans G0 K1
          clear CM L0 G0 K1
          go_wp2
          go_ret2
          exact ⟨_, rfl, ⟨[], LLv.nil _ _⟩, grown_trans G1 (World.grownBy_alloc _ _ _)⟩
        · have h4' : ¬ (65535 : Int) < (b.length : Int) := by omega
          by_cases h5 : 4096 * most < (b.length : Int)
          · rw [e0, if_neg hne, if_neg h4, if_pos h5]
            have hw : IntKind.i64.wrap (4096 * most) = 4096 * most := by rw [IntKind.wrap_i64]; omega
            clear ha e0 hmay hf ho he hne
            go_enter Try.func6, Try.ntmps6
            go_wp2_with (refine wpList_load_row rfl 26 (.tmp 4) rfl w.heap.size rfl 26 (lkA l) (0, 0) _ L0 Try.underlying26 rfl HL.out ?_)
            refine CM.mono ?_
            rintro e w1 ⟨rfl, K1⟩
            have G1 := grown_trans G0 K1
            clear CM L0 G0 K1
            go_wp2
            go_ret2
            exact ⟨_, rfl, ⟨[], LLv.nil _ _⟩, grown_trans G1 (World.grownBy_alloc _ _ _)⟩
          · rw [e0, if_neg hne, if_neg h4, if_neg h5]
            obtain ⟨m, rfl⟩ : ∃ m : Nat, most = (m : Int) := ⟨most.toNat, by omega⟩
            exact bsplit_ok l a ca b m first w ha hc0 hca hn (by omega) (by omega) hf (by omega) (by omega) hmay

end Go.Proofs.Ytkjofgnmjfngeaa
