import Derived.Test.YtcodofamdhcfiaaGreatLotP31
import Derived.Test.YtcodofamdhcfiaaGreatLotP29
import Derived.Test.YtcodofamdhcfiaaGreatLotP19
namespace Go.Proofs.YtcodofamdhcfiaaGreat
open Go.RowKit
set_option maxRecDepth 100000
theorem rp_cellsL {w : World} {B : Nat} {x : Rp} (h : VAt w B 46 (rpA x)) : w.cell? ⟨B, 0, none⟩ = some (.int .u32 (x.v : Int)) ∧ w.cell? ⟨B, 1, none⟩ = some (.bool x.ab) ∧ w.cell? ⟨B, 2, none⟩ = some (.bool x.fl) ∧ w.cell? ⟨B, 3, none⟩ = some (.int .i64 x.sd) := ⟨h.cell 0, h.cell 1, h.cell 2, h.cell 3⟩
def loadR (s : Sg) (n : Ng) (x : Rp) : Rp :=
 if (baseR s.v n.of).2 = false then ⟨0, true, x.fl, 0⟩ else if (x.ab || x.fl || decide (s.b.length < x.v)) = true then ⟨0, x.ab, true, 0⟩ else
  match numM s.b ((baseR s.v n.of).1 + x.v) n.size with
  | none => ⟨0, false, true, 0⟩
  | some k => ⟨k, false, false, 0⟩
set_option maxHeartbeats 16000000 in
theorem refload_any (s : Sg) (a : Option Addr) (ca : Nat) (n : Ng) (x : Rp) (w : World) (hb : Cells w a s.b) (hl : s.b.length ≤ 65535) (hp : (baseR s.v n.of).1 ≤ 65535) (hx : x.v ≤ 4294967295) : Calls Tryz.prog 48 #[.agg (sgA s a ca), .agg n.cells.toArray, .agg (rpA x)] w fun e w' => e = .returned (.agg (rpA (loadR s n x))) ∧ w.grownBy w' none := by
 have HB1 := box_sg14 s a ca
 have HB2 := box_ng n
 have HB3 := box_rp x
 have HV : Hid _ := blk4 w (sgA s a ca) n.cells.toArray (rpA x) #[.int .u32 0, .bool false, .bool false, .int .i64 0] 48 52 46 46
 have HBS : Hid (∀ W, Calls Tryz.prog 71 #[.agg (sgA s a ca), .int .i64 n.of] W fun e w' => e = .returned (.tuple #[.int .i64 ((baseR s.v n.of).1 : Int), .bool (baseR s.v n.of).2]) ∧ W.grownBy w' none) := fun W => refbase_any s a ca n.of W
 have HSS := sg_size s a ca
 have HG : Hid (∀ (W : World) (q : Nat), w.grownBy W none → Calls Tryz.prog 68 #[.slice a s.b.length ca, .int .i64 (q : Int), .int .i64 n.size] W fun e w' => e = .returned (.tuple #[.int .u32 (getV s.b (q : Int) n.size), .bool (okB s.b.length (q : Int) n.size)]) ∧ W = w') := fun W q K => refget_any a ca s.b q n.size W (hb.keptNone K) (by omega)
 obtain ⟨SA, hSA⟩ : ∃ A, sgA s a ca = A := ⟨_, rfl⟩
 obtain ⟨NA, hNA⟩ : ∃ A, n.cells.toArray = A := ⟨_, rfl⟩
 obtain ⟨XA, hXA⟩ : ∃ A, rpA x = A := ⟨_, rfl⟩
 have HNX : Hid (sgA s a ca = SA ∧ n.cells.toArray = NA ∧ rpA x = XA) := ⟨hSA, hNA, hXA⟩
 rw [hSA, hNA, hXA] at HV
 rw [hSA] at HB1 HBS HSS
 rw [hNA] at HB2
 rw [hXA] at HB3
 rw [hSA, hNA, hXA]
 clear hSA hNA hXA hb
 obtain ⟨R, hR⟩ : ∃ R, loadR s n x = R := ⟨_, rfl⟩
 rw [hR]
 have HR : Hid (R = loadR s n x) := hR.symm
 clear hR
 have HSZ : Hid (∀ q, (Tryz.prog.info? 46).map (·.size) = some (rpA q).size ∧ 4 = (rpA q).size ∧ (rpA q).all (·.oneCell') = true) := fun q => ⟨rp_size q, rfl, rp_all q⟩
 obtain ⟨⟨bp, bt⟩, hbb⟩ : ∃ p, baseR s.v n.of = p := ⟨_, rfl⟩
 rw [hbb] at HBS hp
 simp only at HBS hp
 have HBB : Hid (baseR s.v n.of = (bp, bt)) := hbb
 clear hbb
 go_enter Tryz.func48, Tryz.ntmps48
 go_upto_region 1 with fail
 generalize (((w.alloc (.cells SA 48)).alloc (.cells NA 52)).alloc (.cells XA 46)).alloc (.cells #[.int .u32 0, .bool false, .bool false, .int .i64 0] 46) = w1 at *
 obtain ⟨B, hB, HB⟩ : ∃ B, w.heap.size = B ∧ Hid (w.heap.size ≤ B + 3) := ⟨_, rfl, Nat.le_add_right _ _⟩
 rw [hB] at HV ⊢
 clear HB1 HB2 HB3 hB
 obtain ⟨v1, v2, v3, v4, K1⟩ := HV.out
 have HS1 : Hid (VAt w1 B 48 SA) := v1
 rw [← HNX.out.1] at v1
 rw [← HNX.out.2.1] at v2
 rw [← HNX.out.2.2] at v3
 have n5 : w1.cell? ⟨B + 1, 5, none⟩ = some (.int .i64 n.of) := v2.cell 5
 have HC : Hid (∀ W, w1.grownBy W none → (W.cell? ⟨B, 10, none⟩ = some (.slice a s.b.length ca)) ∧ (W.cell? ⟨B + 1, 4, none⟩ = some (.int .i64 n.size)) ∧ (W.cell? ⟨B + 2, 0, none⟩ = some (.int .u32 (x.v : Int))) ∧ (W.cell? ⟨B + 2, 1, none⟩ = some (.bool x.ab)) ∧ (W.cell? ⟨B + 2, 2, none⟩ = some (.bool x.fl)) ∧ VAt W (B + 3) 46 #[.int .u32 0, .bool false, .bool false, .int .i64 0] ∧ w.grownBy W none) := fun W K => ⟨(v1.kept K).cell 10, (v2.kept K).cell 4, (rp_cellsL (v3.kept K)).1, (rp_cellsL (v3.kept K)).2.1, (rp_cellsL (v3.kept K)).2.2.1, v4.kept K, grown_trans K1 K⟩
 clear HV v1 v2 v3 v4 K1 HNX
 go_wp2_with (refine wpList_load_row rfl 48 (.tmp 3) rfl B rfl 48 SA (0, 0) _ HS1.out Tryz.underlying48 rfl HSS ?_)
 refine (HBS.out w1).mono ?_
 rintro e w2 ⟨rfl, K2⟩
 obtain ⟨s10, n4, x0, x1, x2, v4, K1⟩ := HC.out w2 K2
 have HV4 : Hid (VAt w2 (B + 3) 46 #[.int .u32 0, .bool false, .bool false, .int .i64 0] ∧ w.grownBy w2 none) := ⟨v4, K1⟩
 clear HC K2 n5 HBS HS1 v4 K1
 obtain ⟨xv, xa, xf, xs⟩ := x
 simp only at x0 x1 x2 hx
 have fin : ∀ q : Rp, R = q → (Ending.returned (.agg (rpA q)) = Ending.returned (.agg (rpA R))) ∧ w.grownBy (w2.setRow (B + 3) (rpA q)) none := fun q h => ⟨by rw [h], vgrown_setRow HV4.out.2 _ _ (.inr HB.out)⟩
 have HFN : Hid _ := fin
 clear fin
 cases bt with
 | false =>
  have HF : Hid (R = ⟨0, true, xf, 0⟩) := by
   show R = _
   rw [HR.out]
   unfold loadR
   rw [HBB.out, if_pos rfl]
  clear HR HBB
  go_wp2_with (first
   | (refine wpList_bld rfl 46 _ rfl #[(1, .bool true), (2, .bool xf)] (by kernel_rfl) (.agg (rpA ⟨0, true, xf, 0⟩)) (bld_rpaf _ _) ?_)
   | (refine wpList_store_row rfl 46 (.tmp 6) (.tmp 22) rfl (B + 3) (rpA ⟨0, true, xf, 0⟩) rfl rfl 46 _ HV4.out.1 (HSZ.out _).1 (HSZ.out _).2.1 (HSZ.out _).2.2 ?_))
  refine bodyPost_ret (results_cell_row rfl _ _ (B + 3) _ (rpA ⟨0, true, xf, 0⟩) (0, 0) _ rfl (HV4.out.1.setRow _) Tryz.underlying46 rfl (HSZ.out _).1) rfl ?_
  exact HFN.out _ HF.out
 | true =>
  have hlv : (s.b.length : Int) % 18446744073709551616 = (s.b.length : Int) := by omega
  cases xa with
  | true =>
   have HF : Hid (R = ⟨0, true, true, 0⟩) := by
    show R = _
    rw [HR.out]
    unfold loadR
    rw [HBB.out, if_neg (by simp), if_pos (by simp)]
   clear HR HBB HG
   go_upto_region 5 with fail
   go_wp2_with (first
    | (refine wpList_bld rfl 46 _ rfl #[(1, .bool true), (2, .bool true)] (by kernel_rfl) (.agg (rpA ⟨0, true, true, 0⟩)) (bld_rpaf _ _) ?_)
    | (refine wpList_store_row rfl 46 (.tmp 6) (.tmp 41) rfl (B + 3) (rpA ⟨0, true, true, 0⟩) rfl rfl 46 _ HV4.out.1 (HSZ.out _).1 (HSZ.out _).2.1 (HSZ.out _).2.2 ?_))
   refine bodyPost_ret (results_cell_row rfl _ _ (B + 3) _ (rpA ⟨0, true, true, 0⟩) (0, 0) _ rfl (HV4.out.1.setRow _) Tryz.underlying46 rfl (HSZ.out _).1) rfl ?_
   exact HFN.out _ HF.out
  | false =>
   cases xf with
   | true =>
    have HF : Hid (R = ⟨0, false, true, 0⟩) := by
     show R = _
     rw [HR.out]
     unfold loadR
     rw [HBB.out, if_neg (by simp), if_pos (by simp)]
    clear HR HBB HG
    go_upto_region 5 with fail
    go_wp2_with (first
     | (refine wpList_bld rfl 46 _ rfl #[(1, .bool false), (2, .bool true)] (by kernel_rfl) (.agg (rpA ⟨0, false, true, 0⟩)) (bld_rpaf _ _) ?_)
     | (refine wpList_store_row rfl 46 (.tmp 6) (.tmp 41) rfl (B + 3) (rpA ⟨0, false, true, 0⟩) rfl rfl 46 _ HV4.out.1 (HSZ.out _).1 (HSZ.out _).2.1 (HSZ.out _).2.2 ?_))
    refine bodyPost_ret (results_cell_row rfl _ _ (B + 3) _ (rpA ⟨0, false, true, 0⟩) (0, 0) _ rfl (HV4.out.1.setRow _) Tryz.underlying46 rfl (HSZ.out _).1) rfl ?_
    exact HFN.out _ HF.out
   | false =>
    by_cases hg : s.b.length < xv
    ·have hgi : (s.b.length : Int) < (xv : Int) := by omega
     have hgd : decide (s.b.length < xv) = true := decide_eq_true hg
     have HF : Hid (R = ⟨0, false, true, 0⟩) := by
      show R = _
      rw [HR.out]
      unfold loadR
      rw [HBB.out, if_neg (by simp), if_pos (by rw [hgd]; rfl)]
     clear HR HBB HG
     go_upto_region 5 with fail
     go_wp2_with (first
      | (refine wpList_bld rfl 46 _ rfl #[(1, .bool false), (2, .bool true)] (by kernel_rfl) (.agg (rpA ⟨0, false, true, 0⟩)) (bld_rpaf _ _) ?_)
      | (refine wpList_store_row rfl 46 (.tmp 6) (.tmp 41) rfl (B + 3) (rpA ⟨0, false, true, 0⟩) rfl rfl 46 _ HV4.out.1 (HSZ.out _).1 (HSZ.out _).2.1 (HSZ.out _).2.2 ?_))
     refine bodyPost_ret (results_cell_row rfl _ _ (B + 3) _ (rpA ⟨0, false, true, 0⟩) (0, 0) _ rfl (HV4.out.1.setRow _) Tryz.underlying46 rfl (HSZ.out _).1) rfl ?_
     exact HFN.out _ HF.out
    have hgi : ¬ (s.b.length : Int) < (xv : Int) := by omega
    have hgd : decide (s.b.length < xv) = false := decide_eq_false hg
    have CG := HG.out w2 (bp + xv) HV4.out.2
    have hsum : ((bp + xv : Nat) : Int) = (bp : Int) + (xv : Int) := by omega
    rcases num_got (b := s.b) (bp + xv) n.size with ⟨g1, g2, g3⟩ | ⟨k, g1, g2, g3⟩
    ·rw [g2, g3, hsum] at CG
     have HF : Hid (R = ⟨0, false, true, 0⟩) := by
      show R = _
      rw [HR.out]
      unfold loadR
      rw [HBB.out, if_neg (by simp), if_neg (by rw [hgd]; simp)]
      simp only [g1]
     clear HR HBB HG g1 g2 g3 hgd hsum
     go_wp2_with fail
     refine CG.mono ?_
     rintro e w3 ⟨rfl, hw3⟩
     subst hw3
     clear CG s10 n4 x0 x1 x2
     go_wp2_with (first
      | (refine wpList_bld rfl 46 _ rfl #[(0, .int .u32 ((0 : Nat) : Int)), (2, .bool true)] (by kernel_rfl) (.agg (rpA ⟨0, false, true, 0⟩)) (bld_rpvf _ _) ?_)
      | (refine wpList_store_row rfl 46 (.tmp 6) (.tmp 58) rfl (B + 3) (rpA ⟨0, false, true, 0⟩) rfl rfl 46 _ HV4.out.1 (HSZ.out _).1 (HSZ.out _).2.1 (HSZ.out _).2.2 ?_))
     refine bodyPost_ret (results_cell_row rfl _ _ (B + 3) _ (rpA ⟨0, false, true, 0⟩) (0, 0) _ rfl (HV4.out.1.setRow _) Tryz.underlying46 rfl (HSZ.out _).1) rfl ?_
     exact HFN.out _ HF.out
    ·rw [g2, g3, hsum] at CG
     have HF : Hid (R = ⟨k, false, false, 0⟩) := by
      show R = _
      rw [HR.out]
      unfold loadR
      rw [HBB.out, if_neg (by simp), if_neg (by rw [hgd]; simp)]
      simp only [g1]
     clear HR HBB HG g1 g2 g3 hgd hsum
     go_wp2_with fail
     refine CG.mono ?_
     rintro e w3 ⟨rfl, hw3⟩
     subst hw3
     clear CG s10 n4 x0 x1 x2
     go_wp2_with (first
      | (refine wpList_bld rfl 46 _ rfl #[(0, .int .u32 (k : Int)), (2, .bool false)] (by kernel_rfl) (.agg (rpA ⟨k, false, false, 0⟩)) (bld_rpvf _ _) ?_)
      | (refine wpList_store_row rfl 46 (.tmp 6) (.tmp 58) rfl (B + 3) (rpA ⟨k, false, false, 0⟩) rfl rfl 46 _ HV4.out.1 (HSZ.out _).1 (HSZ.out _).2.1 (HSZ.out _).2.2 ?_))
     refine bodyPost_ret (results_cell_row rfl _ _ (B + 3) _ (rpA ⟨k, false, false, 0⟩) (0, 0) _ rfl (HV4.out.1.setRow _) Tryz.underlying46 rfl (HSZ.out _).1) rfl ?_
     exact HFN.out _ HF.out
set_option maxHeartbeats 8000000 in
theorem weigh12_any (x : Ng) (w : World) : Calls Tryz.prog 67 #[.agg x.cells.toArray] w fun e w' => e = .returned (.int .i64 (weighG x : Int)) ∧ w.grownBy w' none := by
 have HBX := box_ng x
 have h3 := World.grownBy_alloc w (.cells x.cells.toArray 52) none
 have V := NB.alloc w x
 obtain ⟨E, hE⟩ : ∃ E : Int, (weighG x : Int) = E := ⟨_, rfl⟩
 rw [hE]
 have HE : Hid ((weighG x : Int) = E) := hE
 obtain ⟨X, hX⟩ : ∃ X, x.cells.toArray = X := ⟨_, rfl⟩
 rw [hX] at HBX ⊢
 clear hE
 go_enter Tryz.func67, Tryz.ntmps67
 go_upto_region 1 with fail
 rw [← hX] at *
 generalize w.alloc (.cells x.cells.toArray 52) = w1 at *
 generalize w.heap.size = B at *
 have c0 := V.kind
 have c5 := V.of
 obtain ⟨kk, hkk⟩ : ∃ kk, x.kind = kk := ⟨_, rfl⟩
 have HK : Hid (x.kind = kk) := hkk
 obtain ⟨oo, hoo⟩ : ∃ oo, x.of = oo := ⟨_, rfl⟩
 have HO : Hid (x.of = oo) := hoo
 rw [hkk] at c0
 rw [hoo] at c5
 clear HBX hX X V hkk hoo
 have hc : kk = 1 ∨ kk = 2 ∨ kk = 3 ∨ kk = 4 ∨ kk = 5 ∨ kk = 6 ∨ kk = 7 ∨ kk = 8 ∨ kk = 9 ∨ kk = 10 ∨ kk = 11 ∨ kk = 12 ∨ kk = 13 ∨ kk = 14 ∨ kk = 15 ∨ kk = 16 ∨ ¬ (1 ≤ kk ∧ kk ≤ 16) := by omega
 rcases hc with rfl | rfl | rfl | rfl | rfl | rfl | rfl | rfl | rfl | rfl | rfl | rfl | rfl | rfl | rfl | rfl | hn
 ·obtain rfl : E = 1 := by rw [← HE.out]; unfold weighG; rw [HK.out]; rfl
  go_wp2
  go_ret
  exact ⟨rfl, h3⟩
 ·obtain rfl : E = 2 := by rw [← HE.out]; unfold weighG; rw [HK.out]; rfl
  go_wp2
  go_ret
  exact ⟨rfl, h3⟩
 ·obtain rfl : E = 24 := by rw [← HE.out]; unfold weighG; rw [HK.out]; rfl
  go_wp2
  go_ret
  exact ⟨rfl, h3⟩
 ·obtain rfl : E = 6 := by rw [← HE.out]; unfold weighG; rw [HK.out]; rfl
  go_wp2
  go_ret
  exact ⟨rfl, h3⟩
 ·obtain rfl : E = 2 := by rw [← HE.out]; unfold weighG; rw [HK.out]; rfl
  go_wp2
  go_ret
  exact ⟨rfl, h3⟩
 ·obtain rfl : E = 8 := by rw [← HE.out]; unfold weighG; rw [HK.out]; rfl
  go_wp2
  go_ret
  exact ⟨rfl, h3⟩
 ·obtain rfl : E = 1 := by rw [← HE.out]; unfold weighG; rw [HK.out]; rfl
  go_wp2
  go_ret
  exact ⟨rfl, h3⟩
 ·obtain rfl : E = 1 := by rw [← HE.out]; unfold weighG; rw [HK.out]; rfl
  go_wp2
  go_ret
  exact ⟨rfl, h3⟩
 ·obtain rfl : E = 1 := by rw [← HE.out]; unfold weighG; rw [HK.out]; rfl
  go_wp2
  go_ret
  exact ⟨rfl, h3⟩
 ·obtain rfl : E = 6 := by rw [← HE.out]; unfold weighG; rw [HK.out]; rfl
  go_wp2
  go_ret
  exact ⟨rfl, h3⟩
 ·obtain rfl : E = 12 := by rw [← HE.out]; unfold weighG; rw [HK.out]; rfl
  go_wp2
  go_ret
  exact ⟨rfl, h3⟩
 ·obtain rfl : E = 8 := by rw [← HE.out]; unfold weighG; rw [HK.out]; rfl
  go_wp2
  go_ret
  exact ⟨rfl, h3⟩
 ·obtain rfl : E = 16 := by rw [← HE.out]; unfold weighG; rw [HK.out]; rfl
  go_wp2
  go_ret
  exact ⟨rfl, h3⟩
 ·by_cases h : oo = 3
  ·have t3 : (oo == 3) = true := by simpa using h
   obtain rfl : E = 72 := by rw [← HE.out]; unfold weighG; rw [HK.out, HO.out, h]; rfl
   clear h
   go_wp2
   go_ret
   exact ⟨rfl, h3⟩
  ·have t3 : (oo == 3) = false := by simpa using h
   obtain rfl : E = 24 := by rw [← HE.out]; unfold weighG; rw [HK.out, HO.out]; simp only [if_neg h]; rfl
   clear h
   go_wp2
   go_ret
   exact ⟨rfl, h3⟩
 ·by_cases h : oo = 3
  ·have t3 : (oo == 3) = true := by simpa using h
   obtain rfl : E = 80 := by rw [← HE.out]; unfold weighG; rw [HK.out, HO.out, h]; rfl
   clear h
   go_wp2
   go_ret
   exact ⟨rfl, h3⟩
  ·have t3 : (oo == 3) = false := by simpa using h
   obtain rfl : E = 32 := by rw [← HE.out]; unfold weighG; rw [HK.out, HO.out]; simp only [if_neg h]; rfl
   clear h
   go_wp2
   go_ret
   exact ⟨rfl, h3⟩
 ·obtain rfl : E = 40 := by rw [← HE.out]; unfold weighG; rw [HK.out]; rfl
  go_wp2
  go_ret
  exact ⟨rfl, h3⟩
 ·obtain rfl : E = 0 := by
   rw [← HE.out]
   unfold weighG
   rw [HK.out]
   repeat rw [if_neg (by omega)]
   rfl
  have t1 : (kk == 1) = false := by rw [beq_eq_false_iff_ne]; omega
  have t2 : (kk == 2) = false := by rw [beq_eq_false_iff_ne]; omega
  have t3 : (kk == 3) = false := by rw [beq_eq_false_iff_ne]; omega
  have t4 : (kk == 4) = false := by rw [beq_eq_false_iff_ne]; omega
  have t5 : (kk == 5) = false := by rw [beq_eq_false_iff_ne]; omega
  have t6 : (kk == 6) = false := by rw [beq_eq_false_iff_ne]; omega
  have t7 : (kk == 7) = false := by rw [beq_eq_false_iff_ne]; omega
  have t8 : (kk == 8) = false := by rw [beq_eq_false_iff_ne]; omega
  have t9 : (kk == 9) = false := by rw [beq_eq_false_iff_ne]; omega
  have t10 : (kk == 10) = false := by rw [beq_eq_false_iff_ne]; omega
  have t11 : (kk == 11) = false := by rw [beq_eq_false_iff_ne]; omega
  have t12 : (kk == 12) = false := by rw [beq_eq_false_iff_ne]; omega
  have t13 : (kk == 13) = false := by rw [beq_eq_false_iff_ne]; omega
  have t14 : (kk == 14) = false := by rw [beq_eq_false_iff_ne]; omega
  have t15 : (kk == 15) = false := by rw [beq_eq_false_iff_ne]; omega
  have t16 : (kk == 16) = false := by rw [beq_eq_false_iff_ne]; omega
  clear hn
  go_wp2
  go_ret
  exact ⟨rfl, h3⟩
theorem long12_any (k : Int) (w : World) : Calls Tryz.prog 46 #[.int .i64 k] w fun e w' => e = .returned (.int .i64 (if k = 3 then 16 else 4)) ∧ w' = w := by
 by_cases h : k = 3
 ·rw [if_pos h]
  subst h
  go_enter Tryz.func46, Tryz.ntmps46
  go_wp2
  go_ret
  exact ⟨rfl, rfl⟩
 ·rw [if_neg h]
  have t3 : (k == 3) = false := by simpa using h
  clear h
  go_enter Tryz.func46, Tryz.ntmps46
  go_wp2
  go_ret
  exact ⟨rfl, rfl⟩

end Go.Proofs.YtcodofamdhcfiaaGreat
