import Derived.Test.YtklipelnjgpnjaaGreatDoorNAb
import Derived.Test.YtklipelnjgpnjaaGreatDoorLotN20
import Derived.Test.YtklipelnjgpnjaaGreatDoorLotN15
import Derived.Test.YtklipelnjgpnjaaGreatDoorLotN5
set_option maxHeartbeats 64000000
set_option maxRecDepth 100000
namespace Go.Proofs.YtklipelnjgpnjaaGreatDoor
open Go.RowKit
theorem b0d {w : World} {M B7 p2 p3 p5 p6 p7 p8 nb no m cap bf : Nat} (P : a05 M B7 p2 p3 p5 p6 p7 p8) (hM : M ≤ B7) {W : World} {v : Value} {ts : List (List UInt8)} {ne dp : Int} {l : Nat} (E : j5 w M B7 p2 p3 p5 p6 p7 p8 (.slice (some ⟨nb, no, none⟩) m cap) bf W v ts ne dp (l + 1)) (x : Ng) (hx : W.rangeAt nb (no + l * 24) x.cells) (hlt : l < m) (hm : m ≤ 1000000) (least : Int) (hr : ¬ d5 x < least) (hk : x.kind = 3) (hz : 1 ≤ x.size ∧ x.size ≤ 4) (hT : ∀ W, Below M w W → j2 W) (r : List UInt8) (d n k : Nat) (hne : ne ≤ 900000) (hts : ts.length + k ≤ 900000) (H : ∀ W1 v1, j5 w M B7 p2 p3 p5 p6 p7 p8 (.slice (some ⟨nb, no, none⟩) m cap) bf W1 v1 (ts ++ [U5 x.size ++ [93]]) (ne + 1) (max dp (ne + 1)) l → Calls Tryz.prog 97 #[.int .i64 1, .pointer (some ⟨p2, 0, none⟩), .pointer (some ⟨p6, 0, none⟩), .pointer (some ⟨p8, 0, none⟩), .pointer (some ⟨p3, 0, none⟩), .pointer (some ⟨p7, 0, none⟩), .pointer (some ⟨p5, 0, none⟩)] W1 (WP w M B7 p2 p3 p5 p6 p7 p8 (.slice (some ⟨nb, no, none⟩) m cap) bf W1 v1 (ts ++ [U5 x.size ++ [93]]) (ne + 1) (max dp (ne + 1)) l r d n k)) :
  Calls Tryz.prog 97 #[.int .i64 least, .pointer (some ⟨p2, 0, none⟩), .pointer (some ⟨p6, 0, none⟩), .pointer (some ⟨p8, 0, none⟩), .pointer (some ⟨p3, 0, none⟩), .pointer (some ⟨p7, 0, none⟩), .pointer (some ⟨p5, 0, none⟩)] W
   (WP w M B7 p2 p3 p5 p6 p7 p8 (.slice (some ⟨nb, no, none⟩) m cap) bf W v ts ne dp (l + 1) ((t7 x.of ++ [91]) ++ r ++ (U5 x.size ++ [93])) (d + 1) (n + 1) (k + 2)) := by
 have hW := E.sz
 have X0 := VAt.alloc W 43 ngZ.cells.toArray
 have GA := World.grownBy_alloc W (.cells x.cells.toArray 43) none
 have EA := E.kept P hM GA
 have NA := NB.alloc W x
 have c2 := E.c2
 have c6 : W.cell? ⟨p6, 0, none⟩ = some (.int .i64 ((l : Int) + 1)) := VAt.cell E.lf 0
 have hw1 : IntKind.i64.wrap ((l : Int) + 1 - 1) = (l : Int) := by rw [IntKind.wrap_i64]; omega
 have hl0 : (0 : Int) ≤ (l : Int) := by omega
 have hl1 : (l : Int) < (m : Int) := by omega
 have HE : Hid (j5 w M B7 p2 p3 p5 p6 p7 p8 (.slice (some ⟨nb, no, none⟩) m cap) bf W v ts ne dp (l + 1)) := E
 have HEA : Hid (j5 w M B7 p2 p3 p5 p6 p7 p8 (.slice (some ⟨nb, no, none⟩) m cap) bf (W.alloc (.cells x.cells.toArray 43)) v ts ne dp (l + 1)) := EA
 have HX : Hid (W.rangeAt nb (no + l * 24) x.cells) := hx
 clear E EA hx
 go_enter Tryz.func97, Tryz.ntmps97
 go_upto_region 1 with (first | refine a2H (by rfl) 43 (.tmp 13) rfl nb (no + l * 24) rfl x.cells _ HX.out Tryz.underlying43 rfl (a1M x) ?_ | refine wpList_store_row rfl 43 (.tmp 8) (.tmp 14) rfl W.heap.size x.cells.toArray rfl rfl 43 _ X0 (E8 x) rfl (V6 x) ?_)
 rw [World.setRow_alloc_new]
 clear X0
 generalize W.alloc (.cells x.cells.toArray 43) = W0 at *
 generalize hBe : W.heap.size = B at *
 have HBE : Hid (W.heap.size = B) := hBe
 clear hBe
 have CR := a3c x W0
 obtain ⟨X, hX⟩ : ∃ X, x.cells.toArray = X := ⟨_, rfl⟩
 have HV : VAt W0 B 43 X := hX ▸ NA
 have HZ : Hid ((Tryz.prog.info? 43).map (·.size) = some X.size) := hX ▸ E8 x
 rw [hX] at CR ⊢
 have HXX : Hid (x.cells.toArray = X) := hX
 clear hX c2 c6 hw1
 obtain ⟨rr, hrr⟩ : ∃ rr, d5 x = rr := ⟨_, rfl⟩
 have HRR : Hid (d5 x = rr) := hrr
 rw [hrr] at *
 clear hrr
 go_upto_region 2 with (refine wpList_load_row rfl 43 (.tmp 8) rfl B rfl 43 X (0, 0) _ HV Tryz.underlying43 rfl HZ.out ?_)
 refine CR.mono ?_
 rintro e w1 ⟨rfl, G1⟩
 have HE1 : Hid (j5 w M B7 p2 p3 p5 p6 p7 p8 (.slice (some ⟨nb, no, none⟩) m cap) bf w1 v ts ne dp (l + 1)) := HEA.out.kept P hM G1
 have N1 : NB w1 B x := NB.kept NA G1
 have HG1 : Hid (W.grownBy w1 none) := d3 GA G1
 have c8 := HE1.out.c8
 clear CR G1 NA GA HEA HV HZ
 have f6 := VAt.free HE1.out.lf 0
 have c6 : w1.cell? ⟨p6, 0, none⟩ = some (.int .i64 ((l : Int) + 1)) := VAt.cell HE1.out.lf 0
 have hw1 : IntKind.i64.wrap ((l : Int) + 1 - 1) = (l : Int) := by rw [IntKind.wrap_i64]; omega
 have hBs := HE.out.sz
 have hB1 : B < w1.heap.size := VAt.lt N1
 clear c8
 go_upto_region 5 with fail
 obtain ⟨E2, K2⟩ := HE1.out.took P l
 have N2 : NB (w1.setCell ⟨p6, 0, none⟩ (.int .i64 (l : Int))) B x := VAt.setOther N1 _ (by have := P.l6; omega)
 have KW : Kp M (WS p5 p6 v) W (w1.setCell ⟨p6, 0, none⟩ (.int .i64 (l : Int))) := (Kp.none HG1.out (by omega)).trans K2
 generalize w1.setCell ⟨p6, 0, none⟩ (.int .i64 (l : Int)) = w2 at *
 have HE2 : Hid (j5 w M B7 p2 p3 p5 p6 p7 p8 (.slice (some ⟨nb, no, none⟩) m cap) bf w2 v ts ne dp l) := E2
 have HN2 : Hid (NB w2 B x) := N2
 have c8 := E2.c8
 have c3 := E2.c3
 have k0 := N2.kind
 rw [hk] at k0
 clear E2 K2 f6 c6 hw1 N1 N2
 have hvB : v.ownBlock ≠ some B := fun e => by have := (HE.out.out.2.lt B e).2; have := HBE.out; omega
 have HTT : Hid (∀ W, Below M w W → j2 W) := hT
 clear hT
 have k5 := HN2.out.of
 have k4 := HN2.out.size
 have HSZ := fun W0 hW0 => aU2 x.size ⟨by omega, by omega⟩ W0 hW0
 have hnl := a2V x.of
 have q1 : (t7 x.of).length ≤ 9223372036854775806 := by omega
 have q2 : (U5 x.size).length ≤ 9223372036854775806 := by
  rcases (by omega : x.size = 1 ∨ x.size = 2 ∨ x.size = 3 ∨ x.size = 4) with e | e | e | e <;> rw [e] <;> decide
 go_upto_region 8 with fail
 have KD : Kp M (WS p5 p6 v) w2 w2.drew := a8E w2
 refine wp_region_held_drew (S := fun W => W.cell? ⟨p8, 0, none⟩ = some (.func (.func 94) #[] #[.pointer (some ⟨p5, 0, none⟩), .pointer (some ⟨p7, 0, none⟩)]) ∧ W.cell? ⟨B, 5, none⟩ = some (.int .i64 x.of) ∧ W.cell? ⟨B, 4, none⟩ = some (.int .i64 x.size)) (by kernel_rfl) ⟨c8, k5, k4⟩ (fun hHeld => ?_)
 refine wpT (i := 0) (v := .func (.func 94) #[] #[.pointer (some ⟨p5, 0, none⟩), .pointer (some ⟨p7, 0, none⟩)]) rfl (Or.inl ⟨by rfl, fun W hW => ?_⟩) hHeld ?_
 ·obtain ⟨y1, y2, y3⟩ := hW
  go_simp
 try simp only [Act.put, a0, a1, a3, a4, a5]
 refine wpT (i := 1) (v := .pointer (some ⟨B, 5, none⟩)) rfl (Or.inl ⟨by rfl, fun W hW => ?_⟩) hHeld ?_
 ·clear hW
  go_simp
 try simp only [Act.put, a0, a1, a2, a3, a4, a5]
 refine wpT (i := 2) (v := .int .i64 x.of) rfl (Or.inl ⟨by rfl, fun W hW => ?_⟩) hHeld ?_
 ·obtain ⟨y1, y2, y3⟩ := hW
  go_simp
 try simp only [Act.put, a0, a1, a2, a3, a4, a5]
 refine wpT (i := 5) (v := .pointer (some ⟨B, 4, none⟩)) rfl (Or.inl ⟨by rfl, fun W hW => ?_⟩) hHeld ?_
 ·clear hW
  go_simp
 try simp only [Act.put, a0, a1, a2, a3, a4, a5]
 refine wpT (i := 6) (v := .int .i64 x.size) rfl (Or.inl ⟨by rfl, fun W hW => ?_⟩) hHeld ?_
 ·obtain ⟨y1, y2, y3⟩ := hW
  go_simp
 try simp only [Act.put, a0, a1, a2, a3, a4, a5]
 refine wpR (rs := [3]) (AllReadyH.cons rfl (fun K hK => ?_) AllReadyH.nil)
 go_simp
 refine (a3J x.of w2.drew).mono ?_
 rintro e w4 ⟨rfl, rfl⟩
 go_wp2_with fail
 refine hK.out _ _ hHeld (fun hHeld => ?_)
 clear hK K
 try simp only [Act.put, a0, a1, a2, a3, a4, a5]
 refine wpT (i := 4) (v := .string (⟨(t7 x.of).toArray⟩ ++ ⟨#[91]⟩)) rfl (Or.inl ⟨by rfl, fun W hW => ?_⟩) hHeld ?_
 ·clear hW
  go_simp
 try simp only [Act.put, a0, a1, a2, a3, a4, a5]
 refine wpR (rs := [7]) (AllReadyH.cons rfl (fun K hK => ?_) AllReadyH.nil)
 go_simp
 refine (HSZ w2.drew (HTT.out w2.drew (HE2.out.up.drew))).mono ?_
 rintro e w5 ⟨rfl, G5⟩
 go_wp2_with fail
 refine hK.out _ _ ⟨G5.cell hHeld.1 (by simp), G5.cell hHeld.2.1 (by simp), G5.cell hHeld.2.2 (by simp)⟩ (fun hHeld => ?_)
 clear hK K
 try simp only [Act.put, a0, a1, a2, a3, a4, a5]
 refine wpT (i := 8) (v := .string (⟨(U5 x.size).toArray⟩ ++ ⟨#[93]⟩)) rfl (Or.inl ⟨by rfl, fun W hW => ?_⟩) hHeld ?_
 ·clear hW
  go_simp
 try simp only [Act.put, a0, a1, a2, a3, a4, a5]
 refine wpR (rs := [9]) (AllReadyH.cons rfl (fun K hK => ?_) AllReadyH.nil)
 go_simp
 have G25 : w2.grownBy w5 none := ⟨G5.os, G5.tape, G5.output, G5.size, G5.block⟩
 have E5 := HE2.out.kept P hM G25
 have KW5 := KW.trans (Kp.none (n := M) (S := WS p5 p6 v) G25 (by have := HE2.out.sz; omega))
 rw [show (⟨(t7 x.of).toArray⟩ ++ ⟨#[91]⟩ : ByteArray) = ⟨(t7 x.of ++ [91]).toArray⟩ from cat _ [91], show (⟨(U5 x.size).toArray⟩ ++ ⟨#[93]⟩ : ByteArray) = ⟨(U5 x.size ++ [93]).toArray⟩ from cat _ [93]]
 refine (a4w P E5 (t7 x.of ++ [91]) (U5 x.size ++ [93]) 1 r d n k hne hts H).mono ?_
 rintro e w9 hw9
 obtain ⟨rfl, v9, R9, E9, g9, K9, h9⟩ := id hw9
 have HW9 : Hid (WP w M B7 p2 p3 p5 p6 p7 p8 (.slice (some ⟨nb, no, none⟩) m cap) bf _ _ _ _ _ _ _ _ _ _ _ _) := hw9
 have y8 := E9.c8
 have hB5 : B ≠ p5 ∧ B ≠ p6 := by have := P.l5; have := P.l6; omega
 have yB : w9.cell? ⟨B, 5, none⟩ = some (.int .i64 x.of) ∧ w9.cell? ⟨B, 4, none⟩ = some (.int .i64 x.size) := ⟨K9.cell (.inr ⟨hB5.1, hB5.2, hvB⟩) hHeld.2.1, K9.cell (.inr ⟨hB5.1, hB5.2, hvB⟩) hHeld.2.2⟩
 clear hw9 E9 g9 K9 h9
 go_wp2_with fail
 refine hK.out _ _ ⟨y8, yB⟩ (fun hHeld => ?_)
 clear hK K
 try simp only [Act.put, a0, a1, a2, a3, a4, a5]
 refine wpAnyH_done (by kernel_rfl) ?_ _
 go_wp2
 go_end0
 exact WP.took KW5 HW9.out
theorem b0c {w : World} {M B7 p2 p3 p5 p6 p7 p8 nb no m cap bf : Nat} (P : a05 M B7 p2 p3 p5 p6 p7 p8) (hM : M ≤ B7) {W : World} {v : Value} {ts : List (List UInt8)} {ne dp : Int} {l : Nat} (E : j5 w M B7 p2 p3 p5 p6 p7 p8 (.slice (some ⟨nb, no, none⟩) m cap) bf W v ts ne dp (l + 1)) (x : Ng) (hx : W.rangeAt nb (no + l * 24) x.cells) (hlt : l < m) (hm : m ≤ 1000000) (least : Int) (hr : ¬ d5 x < least) (kk : Int) (hk : x.kind = kk) (hkn : kk ≠ 3 ∧ kk ≠ 4 ∧ kk ≠ 5 ∧ kk ≠ 6 ∧ kk ≠ 7 ∧ kk ≠ 8 ∧ kk ≠ 9) (ha : arG x.kind = some 0) (hf : U9 x = true) (hrg : m4 x = 0) (hn : x.n ≤ 4294967295) (hm4 : x.m ≤ 4294967295) (hT : ∀ W, Below M w W → j2 W) (hts : ts.length ≤ 900000) :
  Calls Tryz.prog 97 #[.int .i64 least, .pointer (some ⟨p2, 0, none⟩), .pointer (some ⟨p6, 0, none⟩), .pointer (some ⟨p8, 0, none⟩), .pointer (some ⟨p3, 0, none⟩), .pointer (some ⟨p7, 0, none⟩), .pointer (some ⟨p5, 0, none⟩)] W
   (WP w M B7 p2 p3 p5 p6 p7 p8 (.slice (some ⟨nb, no, none⟩) m cap) bf W v ts ne dp (l + 1) (x6 x) 0 1 1) := by
 have hW := E.sz
 have X0 := VAt.alloc W 43 ngZ.cells.toArray
 have GA := World.grownBy_alloc W (.cells x.cells.toArray 43) none
 have EA := E.kept P hM GA
 have NA := NB.alloc W x
 have c2 := E.c2
 have c6 : W.cell? ⟨p6, 0, none⟩ = some (.int .i64 ((l : Int) + 1)) := VAt.cell E.lf 0
 have hw1 : IntKind.i64.wrap ((l : Int) + 1 - 1) = (l : Int) := by rw [IntKind.wrap_i64]; omega
 have hl0 : (0 : Int) ≤ (l : Int) := by omega
 have hl1 : (l : Int) < (m : Int) := by omega
 have HE : Hid (j5 w M B7 p2 p3 p5 p6 p7 p8 (.slice (some ⟨nb, no, none⟩) m cap) bf W v ts ne dp (l + 1)) := E
 have HEA : Hid (j5 w M B7 p2 p3 p5 p6 p7 p8 (.slice (some ⟨nb, no, none⟩) m cap) bf (W.alloc (.cells x.cells.toArray 43)) v ts ne dp (l + 1)) := EA
 have HX : Hid (W.rangeAt nb (no + l * 24) x.cells) := hx
 clear E EA hx
 go_enter Tryz.func97, Tryz.ntmps97
 go_upto_region 1 with (first | refine a2H (by rfl) 43 (.tmp 13) rfl nb (no + l * 24) rfl x.cells _ HX.out Tryz.underlying43 rfl (a1M x) ?_ | refine wpList_store_row rfl 43 (.tmp 8) (.tmp 14) rfl W.heap.size x.cells.toArray rfl rfl 43 _ X0 (E8 x) rfl (V6 x) ?_)
 rw [World.setRow_alloc_new]
 clear X0
 generalize W.alloc (.cells x.cells.toArray 43) = W0 at *
 generalize hBe : W.heap.size = B at *
 have HBE : Hid (W.heap.size = B) := hBe
 clear hBe
 have CR := a3c x W0
 obtain ⟨X, hX⟩ : ∃ X, x.cells.toArray = X := ⟨_, rfl⟩
 have HV : VAt W0 B 43 X := hX ▸ NA
 have HZ : Hid ((Tryz.prog.info? 43).map (·.size) = some X.size) := hX ▸ E8 x
 rw [hX] at CR ⊢
 have HXX : Hid (x.cells.toArray = X) := hX
 clear hX c2 c6 hw1
 obtain ⟨rr, hrr⟩ : ∃ rr, d5 x = rr := ⟨_, rfl⟩
 have HRR : Hid (d5 x = rr) := hrr
 rw [hrr] at *
 clear hrr
 go_upto_region 2 with (refine wpList_load_row rfl 43 (.tmp 8) rfl B rfl 43 X (0, 0) _ HV Tryz.underlying43 rfl HZ.out ?_)
 refine CR.mono ?_
 rintro e w1 ⟨rfl, G1⟩
 have HE1 : Hid (j5 w M B7 p2 p3 p5 p6 p7 p8 (.slice (some ⟨nb, no, none⟩) m cap) bf w1 v ts ne dp (l + 1)) := HEA.out.kept P hM G1
 have N1 : NB w1 B x := NB.kept NA G1
 have HG1 : Hid (W.grownBy w1 none) := d3 GA G1
 have c8 := HE1.out.c8
 clear CR G1 NA GA HEA HV HZ
 have f6 := VAt.free HE1.out.lf 0
 have c6 : w1.cell? ⟨p6, 0, none⟩ = some (.int .i64 ((l : Int) + 1)) := VAt.cell HE1.out.lf 0
 have hw1 : IntKind.i64.wrap ((l : Int) + 1 - 1) = (l : Int) := by rw [IntKind.wrap_i64]; omega
 have hBs := HE.out.sz
 have hB1 : B < w1.heap.size := VAt.lt N1
 clear c8
 go_upto_region 5 with fail
 obtain ⟨E2, K2⟩ := HE1.out.took P l
 have N2 : NB (w1.setCell ⟨p6, 0, none⟩ (.int .i64 (l : Int))) B x := VAt.setOther N1 _ (by have := P.l6; omega)
 have KW : Kp M (WS p5 p6 v) W (w1.setCell ⟨p6, 0, none⟩ (.int .i64 (l : Int))) := (Kp.none HG1.out (by omega)).trans K2
 generalize w1.setCell ⟨p6, 0, none⟩ (.int .i64 (l : Int)) = w2 at *
 have HE2 : Hid (j5 w M B7 p2 p3 p5 p6 p7 p8 (.slice (some ⟨nb, no, none⟩) m cap) bf w2 v ts ne dp l) := E2
 have HN2 : Hid (NB w2 B x) := N2
 have c8 := E2.c8
 have c3 := E2.c3
 have k0 := N2.kind
 rw [hk] at k0
 clear E2 K2 f6 c6 hw1 N1 N2
 have hvB : v.ownBlock ≠ some B := fun e => by have := (HE.out.out.2.lt B e).2; have := HBE.out; omega
 have HTT : Hid (∀ W, Below M w W → j2 W) := hT
 clear hT
 have u3 : (kk == 3) = false := by rw [beq_eq_false_iff_ne]; omega
 have u4 : (kk == 4) = false := by rw [beq_eq_false_iff_ne]; omega
 have u5 : (kk == 5) = false := by rw [beq_eq_false_iff_ne]; omega
 have u6 : (kk == 6) = false := by rw [beq_eq_false_iff_ne]; omega
 have u7 : (kk == 7) = false := by rw [beq_eq_false_iff_ne]; omega
 have u8 : (kk == 8) = false := by rw [beq_eq_false_iff_ne]; omega
 have u9 : (kk == 9) = false := by rw [beq_eq_false_iff_ne]; omega
 have CL := fun W0 h0 => aS1 x W0 h0 ha hf hrg hn hm4
 rw [HXX.out] at CL
 clear ha hf hrg hn hm4 c8 c3
 have HVN : VAt w2 B 43 X := HXX.out ▸ HN2.out
 have HZN : Hid ((Tryz.prog.info? 43).map (·.size) = some X.size) := HXX.out ▸ E8 x
 go_upto_region 6 with fail
 go_wp2_with (refine wpList_load_row rfl 43 (.tmp 8) rfl B rfl 43 X (0, 0) _ HVN Tryz.underlying43 rfl HZN.out ?_)
 refine (CL _ (HTT.out _ HE2.out.up)).mono ?_
 rintro e w5 ⟨rfl, G5⟩
 have HE5 : Hid (j5 w M B7 p2 p3 p5 p6 p7 p8 (.slice (some ⟨nb, no, none⟩) m cap) bf w5 v ts ne dp l) := HE2.out.kept P hM G5
 have hP := a4F M B7 p5 w5.heap.size 1 [x6 x] ts v ne dp (w5.alloc (.cells #[str (x6 x)] 9)) P.m5 P.l5.1 (by have := HE5.out.sz; simp; omega) HE5.out.sz (by simp) (HE5.out.out.kept (World.grownBy_alloc _ _ _)) (fun e => by have := (HE5.out.out.2.lt _ e).2; omega) (a5q w5 _ _) (by simp) (by omega)
 clear HVN HZN CL
 go_wp2_with (refine hP.mono ?_; rintro e w6 ⟨rfl, ⟨v6, hO6, g6⟩, K6⟩)
 go_end0
 have GA6 := World.grownBy_alloc w5 (.cells #[str (x6 x)] 9) none
 have E6 := (HE5.out.kept P hM GA6).wrote P K6 hO6 HE5.out.nd
 have hs5 := HE5.out.sz
 have KX := (KW.trans (Kp.none (n := M) (S := WS p5 p6 v) G5 (by have := HE2.out.sz; omega))).trans ((Kp.none (n := M) (S := WS p5 p6 v) GA6 (by omega)).trans (a4k K6))
 exact ⟨rfl, v6, [x6 x], by rw [show max dp (ne + ((0 : Nat) : Int)) = dp by have := HE5.out.nd; omega]; exact E6, g6.mono (by have := KW.1.size; have := G5.size; have := GA6.size; omega), KX, by simp, by simp⟩
theorem ah6 (l : Int) (w : World) : Calls Tryz.prog 25 #[.int .i64 l] w fun e w' => e = .returned (.int .i64 (l)) ∧ w' = w := by
 go_enter Tryz.func25, Tryz.ntmps25
 go_wp2
 go_ret
 exact ⟨rfl, rfl⟩
theorem ah5 (l : Int) (w : World) : Calls Tryz.prog 27 #[.int .i64 l] w fun e w' => e = .returned (.int .i64 (12)) ∧ w' = w := by
 go_enter Tryz.func27, Tryz.ntmps27
 go_wp2
 go_ret
 exact ⟨rfl, rfl⟩
theorem al9 (xs : Array Value) (w : World) : (callFunc 25 xs).run Tryz.prog w = .ok (.enter 25 xs) w := by rfl
theorem al8 (xs : Array Value) (w : World) : (callFunc 27 xs).run Tryz.prog w = .ok (.enter 27 xs) w := by rfl
def gfB (full : Bool) (l : Int) : Int := if full = true then 12 else l
theorem a4e {full : Bool} {l : Int} (h : l ≤ 12) : gfB full l ≤ 12 := by
 unfold gfB
 split <;> omega
theorem b0f {bf : Nat} {gf : Int → Int} (HB : ∀ (l : Int) (w : World), Calls Tryz.prog bf #[.int .i64 l] w fun e w' => e = .returned (.int .i64 (gf l)) ∧ w' = w) (HF : ∀ (xs : Array Value) (w : World), (callFunc bf xs).run Tryz.prog w = .ok (.enter bf xs) w) {w : World} {M B7 p2 p3 p5 p6 p7 p8 nb no m cap : Nat} (P : a05 M B7 p2 p3 p5 p6 p7 p8) (hM : M ≤ B7) {W : World} {v : Value} {ts : List (List UInt8)} {ne dp : Int} {l : Nat} (E : j5 w M B7 p2 p3 p5 p6 p7 p8 (.slice (some ⟨nb, no, none⟩) m cap) bf W v ts ne dp (l + 1)) (x : Ng) (hx : W.rangeAt nb (no + l * 24) x.cells) (hlt : l < m) (hm : m ≤ 1000000) (least : Int) (hr : ¬ d5 x < least) (hk : x.kind = 9) (r : List UInt8) (d n k : Nat) (hne : ne ≤ 900000) (hts : ts.length + k ≤ 900000) (H : ∀ W1 v1, j5 w M B7 p2 p3 p5 p6 p7 p8 (.slice (some ⟨nb, no, none⟩) m cap) bf W1 v1 (ts ++ [[]]) (ne + 1) (max dp (ne + 1)) l → Calls Tryz.prog 97 #[.int .i64 (gf 3), .pointer (some ⟨p2, 0, none⟩), .pointer (some ⟨p6, 0, none⟩), .pointer (some ⟨p8, 0, none⟩), .pointer (some ⟨p3, 0, none⟩), .pointer (some ⟨p7, 0, none⟩), .pointer (some ⟨p5, 0, none⟩)] W1 (WP w M B7 p2 p3 p5 p6 p7 p8 (.slice (some ⟨nb, no, none⟩) m cap) bf W1 v1 (ts ++ [[]]) (ne + 1) (max dp (ne + 1)) l r d n k)) :
  Calls Tryz.prog 97 #[.int .i64 least, .pointer (some ⟨p2, 0, none⟩), .pointer (some ⟨p6, 0, none⟩), .pointer (some ⟨p8, 0, none⟩), .pointer (some ⟨p3, 0, none⟩), .pointer (some ⟨p7, 0, none⟩), .pointer (some ⟨p5, 0, none⟩)] W
   (WP w M B7 p2 p3 p5 p6 p7 p8 (.slice (some ⟨nb, no, none⟩) m cap) bf W v ts ne dp (l + 1) ([110, 111, 116, 32] ++ r ++ []) (d + 1) (n + 1) (k + 2)) := by
 have HFA : Hid (∀ (xs : Array Value) (w : World), (callFunc bf xs).run Tryz.prog w = .ok (.enter bf xs) w) := HF
 clear HF
 have HBA : Hid (∀ (l : Int) (w : World), Calls Tryz.prog bf #[.int .i64 l] w fun e w' => e = .returned (.int .i64 (gf l)) ∧ w' = w) := HB
 clear HB
 have hW := E.sz
 have X0 := VAt.alloc W 43 ngZ.cells.toArray
 have GA := World.grownBy_alloc W (.cells x.cells.toArray 43) none
 have EA := E.kept P hM GA
 have NA := NB.alloc W x
 have c2 := E.c2
 have c6 : W.cell? ⟨p6, 0, none⟩ = some (.int .i64 ((l : Int) + 1)) := VAt.cell E.lf 0
 have hw1 : IntKind.i64.wrap ((l : Int) + 1 - 1) = (l : Int) := by rw [IntKind.wrap_i64]; omega
 have hl0 : (0 : Int) ≤ (l : Int) := by omega
 have hl1 : (l : Int) < (m : Int) := by omega
 have HE : Hid (j5 w M B7 p2 p3 p5 p6 p7 p8 (.slice (some ⟨nb, no, none⟩) m cap) bf W v ts ne dp (l + 1)) := E
 have HEA : Hid (j5 w M B7 p2 p3 p5 p6 p7 p8 (.slice (some ⟨nb, no, none⟩) m cap) bf (W.alloc (.cells x.cells.toArray 43)) v ts ne dp (l + 1)) := EA
 have HX : Hid (W.rangeAt nb (no + l * 24) x.cells) := hx
 clear E EA hx
 go_enter Tryz.func97, Tryz.ntmps97
 go_upto_region 1 with (first | refine a2H (by rfl) 43 (.tmp 13) rfl nb (no + l * 24) rfl x.cells _ HX.out Tryz.underlying43 rfl (a1M x) ?_ | refine wpList_store_row rfl 43 (.tmp 8) (.tmp 14) rfl W.heap.size x.cells.toArray rfl rfl 43 _ X0 (E8 x) rfl (V6 x) ?_)
 rw [World.setRow_alloc_new]
 clear X0
 generalize W.alloc (.cells x.cells.toArray 43) = W0 at *
 generalize hBe : W.heap.size = B at *
 have HBE : Hid (W.heap.size = B) := hBe
 clear hBe
 have CR := a3c x W0
 obtain ⟨X, hX⟩ : ∃ X, x.cells.toArray = X := ⟨_, rfl⟩
 have HV : VAt W0 B 43 X := hX ▸ NA
 have HZ : Hid ((Tryz.prog.info? 43).map (·.size) = some X.size) := hX ▸ E8 x
 rw [hX] at CR ⊢
 have HXX : Hid (x.cells.toArray = X) := hX
 clear hX c2 c6 hw1
 obtain ⟨rr, hrr⟩ : ∃ rr, d5 x = rr := ⟨_, rfl⟩
 have HRR : Hid (d5 x = rr) := hrr
 rw [hrr] at *
 clear hrr
 go_upto_region 2 with (refine wpList_load_row rfl 43 (.tmp 8) rfl B rfl 43 X (0, 0) _ HV Tryz.underlying43 rfl HZ.out ?_)
 refine CR.mono ?_
 rintro e w1 ⟨rfl, G1⟩
 have HE1 : Hid (j5 w M B7 p2 p3 p5 p6 p7 p8 (.slice (some ⟨nb, no, none⟩) m cap) bf w1 v ts ne dp (l + 1)) := HEA.out.kept P hM G1
 have N1 : NB w1 B x := NB.kept NA G1
 have HG1 : Hid (W.grownBy w1 none) := d3 GA G1
 have c8 := HE1.out.c8
 clear CR G1 NA GA HEA HV HZ
 have f6 := VAt.free HE1.out.lf 0
 have c6 : w1.cell? ⟨p6, 0, none⟩ = some (.int .i64 ((l : Int) + 1)) := VAt.cell HE1.out.lf 0
 have hw1 : IntKind.i64.wrap ((l : Int) + 1 - 1) = (l : Int) := by rw [IntKind.wrap_i64]; omega
 have hBs := HE.out.sz
 have hB1 : B < w1.heap.size := VAt.lt N1
 clear c8
 go_upto_region 5 with fail
 obtain ⟨E2, K2⟩ := HE1.out.took P l
 have N2 : NB (w1.setCell ⟨p6, 0, none⟩ (.int .i64 (l : Int))) B x := VAt.setOther N1 _ (by have := P.l6; omega)
 have KW : Kp M (WS p5 p6 v) W (w1.setCell ⟨p6, 0, none⟩ (.int .i64 (l : Int))) := (Kp.none HG1.out (by omega)).trans K2
 generalize w1.setCell ⟨p6, 0, none⟩ (.int .i64 (l : Int)) = w2 at *
 have HE2 : Hid (j5 w M B7 p2 p3 p5 p6 p7 p8 (.slice (some ⟨nb, no, none⟩) m cap) bf w2 v ts ne dp l) := E2
 have HN2 : Hid (NB w2 B x) := N2
 have c8 := E2.c8
 have c3 := E2.c3
 have k0 := N2.kind
 rw [hk] at k0
 clear E2 K2 f6 c6 hw1 N1 N2
 have hvB : v.ownBlock ≠ some B := fun e => by have := (HE.out.out.2.lt B e).2; have := HBE.out; omega
 go_upto_region 12 with fail
 refine wp_region_held_drew (S := fun W => W.cell? ⟨p8, 0, none⟩ = some (.func (.func 94) #[] #[.pointer (some ⟨p5, 0, none⟩), .pointer (some ⟨p7, 0, none⟩)]) ∧ W.cell? ⟨p3, 0, none⟩ = some (.func (.func bf) #[] #[])) (by kernel_rfl) ⟨c8, c3⟩ (fun hHeld => ?_)
 refine wpT (i := 0) (v := .func (.func 94) #[] #[.pointer (some ⟨p5, 0, none⟩), .pointer (some ⟨p7, 0, none⟩)]) rfl (Or.inl ⟨by rfl, fun W hW => ?_⟩) hHeld ?_
 ·obtain ⟨y1, y2⟩ := hW
  go_simp
 try simp only [Act.put, a0, a1, a3, a4, a5]
 refine wpT (i := 1) (v := .func (.func bf) #[] #[]) rfl (Or.inl ⟨by rfl, fun W hW => ?_⟩) hHeld ?_
 ·obtain ⟨y1, y2⟩ := hW
  go_simp
 try simp only [Act.put, a0, a1, a2, a3, a4, a5]
 refine wpR (rs := [2]) (AllReadyH.cons rfl (fun K hK => ?_) AllReadyH.nil)
 go_simp
 (try rw [HFA.out, Oper.upon_enter]); refine (HBA.out _ w2.drew).mono ?_
 rintro e w4 ⟨rfl, rfl⟩
 go_wp2_with fail
 refine hK.out _ _ hHeld (fun hHeld => ?_)
 clear hK K
 try simp only [Act.put, a0, a1, a2, a3, a4, a5]
 refine wpR (rs := [3]) (AllReadyH.cons rfl (fun K hK => ?_) AllReadyH.nil)
 go_simp
 have G25 : w2.grownBy w2.drew none := ⟨rfl, rfl, rfl, Nat.le_refl _, fun _ _ _ => rfl⟩
 have E5 := HE2.out.kept P hM G25
 have KW5 := KW.trans (Kp.none (n := M) (S := WS p5 p6 v) G25 (by have := HE2.out.sz; omega))
 refine (a4w P E5 [110, 111, 116, 32] [] (gf 3) r d n k hne hts H).mono ?_
 rintro e w9 hw9
 obtain ⟨rfl, v9, R9, E9, g9, K9, h9⟩ := id hw9
 have HW9 : Hid (WP w M B7 p2 p3 p5 p6 p7 p8 (.slice (some ⟨nb, no, none⟩) m cap) bf _ _ _ _ _ _ _ _ _ _ _ _) := hw9
 have y8 := E9.c8
 have y3 := E9.c3
 clear hw9 E9 g9 K9 h9
 go_wp2_with fail
 refine hK.out _ _ ⟨y8, y3⟩ (fun hHeld => ?_)
 clear hK K
 try simp only [Act.put, a0, a1, a2, a3, a4, a5]
 refine wpAnyH_done (by kernel_rfl) ?_ _
 go_wp2
 go_end0
 exact WP.took KW5 HW9.out
theorem b0e {bf : Nat} {gf : Int → Int} (HB : ∀ (l : Int) (w : World), Calls Tryz.prog bf #[.int .i64 l] w fun e w' => e = .returned (.int .i64 (gf l)) ∧ w' = w) (HF : ∀ (xs : Array Value) (w : World), (callFunc bf xs).run Tryz.prog w = .ok (.enter bf xs) w) {w : World} {M B7 p2 p3 p5 p6 p7 p8 nb no m cap : Nat} (P : a05 M B7 p2 p3 p5 p6 p7 p8) (hM : M ≤ B7) {W : World} {v : Value} {ts : List (List UInt8)} {ne dp : Int} {l : Nat} (E : j5 w M B7 p2 p3 p5 p6 p7 p8 (.slice (some ⟨nb, no, none⟩) m cap) bf W v ts ne dp (l + 1)) (x : Ng) (hx : W.rangeAt nb (no + l * 24) x.cells) (hlt : l < m) (hm : m ≤ 1000000) (least : Int) (hr : ¬ d5 x < least) (hk : x.kind = 5) (r : List UInt8) (d n k : Nat) (hne : ne ≤ 900000) (hts : ts.length + k ≤ 900000) (H : ∀ W1 v1, j5 w M B7 p2 p3 p5 p6 p7 p8 (.slice (some ⟨nb, no, none⟩) m cap) bf W1 v1 (ts ++ [[]]) (ne + 1) (max dp (ne + 1)) l → Calls Tryz.prog 97 #[.int .i64 (gf 11), .pointer (some ⟨p2, 0, none⟩), .pointer (some ⟨p6, 0, none⟩), .pointer (some ⟨p8, 0, none⟩), .pointer (some ⟨p3, 0, none⟩), .pointer (some ⟨p7, 0, none⟩), .pointer (some ⟨p5, 0, none⟩)] W1 (WP w M B7 p2 p3 p5 p6 p7 p8 (.slice (some ⟨nb, no, none⟩) m cap) bf W1 v1 (ts ++ [[]]) (ne + 1) (max dp (ne + 1)) l r d n k)) :
  Calls Tryz.prog 97 #[.int .i64 least, .pointer (some ⟨p2, 0, none⟩), .pointer (some ⟨p6, 0, none⟩), .pointer (some ⟨p8, 0, none⟩), .pointer (some ⟨p3, 0, none⟩), .pointer (some ⟨p7, 0, none⟩), .pointer (some ⟨p5, 0, none⟩)] W
   (WP w M B7 p2 p3 p5 p6 p7 p8 (.slice (some ⟨nb, no, none⟩) m cap) bf W v ts ne dp (l + 1) ([45] ++ r ++ []) (d + 1) (n + 1) (k + 2)) := by
 have HFA : Hid (∀ (xs : Array Value) (w : World), (callFunc bf xs).run Tryz.prog w = .ok (.enter bf xs) w) := HF
 clear HF
 have HBA : Hid (∀ (l : Int) (w : World), Calls Tryz.prog bf #[.int .i64 l] w fun e w' => e = .returned (.int .i64 (gf l)) ∧ w' = w) := HB
 clear HB
 have hW := E.sz
 have X0 := VAt.alloc W 43 ngZ.cells.toArray
 have GA := World.grownBy_alloc W (.cells x.cells.toArray 43) none
 have EA := E.kept P hM GA
 have NA := NB.alloc W x
 have c2 := E.c2
 have c6 : W.cell? ⟨p6, 0, none⟩ = some (.int .i64 ((l : Int) + 1)) := VAt.cell E.lf 0
 have hw1 : IntKind.i64.wrap ((l : Int) + 1 - 1) = (l : Int) := by rw [IntKind.wrap_i64]; omega
 have hl0 : (0 : Int) ≤ (l : Int) := by omega
 have hl1 : (l : Int) < (m : Int) := by omega
 have HE : Hid (j5 w M B7 p2 p3 p5 p6 p7 p8 (.slice (some ⟨nb, no, none⟩) m cap) bf W v ts ne dp (l + 1)) := E
 have HEA : Hid (j5 w M B7 p2 p3 p5 p6 p7 p8 (.slice (some ⟨nb, no, none⟩) m cap) bf (W.alloc (.cells x.cells.toArray 43)) v ts ne dp (l + 1)) := EA
 have HX : Hid (W.rangeAt nb (no + l * 24) x.cells) := hx
 clear E EA hx
 go_enter Tryz.func97, Tryz.ntmps97
 go_upto_region 1 with (first | refine a2H (by rfl) 43 (.tmp 13) rfl nb (no + l * 24) rfl x.cells _ HX.out Tryz.underlying43 rfl (a1M x) ?_ | refine wpList_store_row rfl 43 (.tmp 8) (.tmp 14) rfl W.heap.size x.cells.toArray rfl rfl 43 _ X0 (E8 x) rfl (V6 x) ?_)
 rw [World.setRow_alloc_new]
 clear X0
 generalize W.alloc (.cells x.cells.toArray 43) = W0 at *
 generalize hBe : W.heap.size = B at *
 have HBE : Hid (W.heap.size = B) := hBe
 clear hBe
 have CR := a3c x W0
 obtain ⟨X, hX⟩ : ∃ X, x.cells.toArray = X := ⟨_, rfl⟩
 have HV : VAt W0 B 43 X := hX ▸ NA
 have HZ : Hid ((Tryz.prog.info? 43).map (·.size) = some X.size) := hX ▸ E8 x
 rw [hX] at CR ⊢
 have HXX : Hid (x.cells.toArray = X) := hX
 clear hX c2 c6 hw1
 obtain ⟨rr, hrr⟩ : ∃ rr, d5 x = rr := ⟨_, rfl⟩
 have HRR : Hid (d5 x = rr) := hrr
 rw [hrr] at *
 clear hrr
 go_upto_region 2 with (refine wpList_load_row rfl 43 (.tmp 8) rfl B rfl 43 X (0, 0) _ HV Tryz.underlying43 rfl HZ.out ?_)
 refine CR.mono ?_
 rintro e w1 ⟨rfl, G1⟩
 have HE1 : Hid (j5 w M B7 p2 p3 p5 p6 p7 p8 (.slice (some ⟨nb, no, none⟩) m cap) bf w1 v ts ne dp (l + 1)) := HEA.out.kept P hM G1
 have N1 : NB w1 B x := NB.kept NA G1
 have HG1 : Hid (W.grownBy w1 none) := d3 GA G1
 have c8 := HE1.out.c8
 clear CR G1 NA GA HEA HV HZ
 have f6 := VAt.free HE1.out.lf 0
 have c6 : w1.cell? ⟨p6, 0, none⟩ = some (.int .i64 ((l : Int) + 1)) := VAt.cell HE1.out.lf 0
 have hw1 : IntKind.i64.wrap ((l : Int) + 1 - 1) = (l : Int) := by rw [IntKind.wrap_i64]; omega
 have hBs := HE.out.sz
 have hB1 : B < w1.heap.size := VAt.lt N1
 clear c8
 go_upto_region 5 with fail
 obtain ⟨E2, K2⟩ := HE1.out.took P l
 have N2 : NB (w1.setCell ⟨p6, 0, none⟩ (.int .i64 (l : Int))) B x := VAt.setOther N1 _ (by have := P.l6; omega)
 have KW : Kp M (WS p5 p6 v) W (w1.setCell ⟨p6, 0, none⟩ (.int .i64 (l : Int))) := (Kp.none HG1.out (by omega)).trans K2
 generalize w1.setCell ⟨p6, 0, none⟩ (.int .i64 (l : Int)) = w2 at *
 have HE2 : Hid (j5 w M B7 p2 p3 p5 p6 p7 p8 (.slice (some ⟨nb, no, none⟩) m cap) bf w2 v ts ne dp l) := E2
 have HN2 : Hid (NB w2 B x) := N2
 have c8 := E2.c8
 have c3 := E2.c3
 have k0 := N2.kind
 rw [hk] at k0
 clear E2 K2 f6 c6 hw1 N1 N2
 have hvB : v.ownBlock ≠ some B := fun e => by have := (HE.out.out.2.lt B e).2; have := HBE.out; omega
 go_upto_region 10 with fail
 refine wp_region_held_drew (S := fun W => W.cell? ⟨p8, 0, none⟩ = some (.func (.func 94) #[] #[.pointer (some ⟨p5, 0, none⟩), .pointer (some ⟨p7, 0, none⟩)]) ∧ W.cell? ⟨p3, 0, none⟩ = some (.func (.func bf) #[] #[])) (by kernel_rfl) ⟨c8, c3⟩ (fun hHeld => ?_)
 refine wpT (i := 0) (v := .func (.func 94) #[] #[.pointer (some ⟨p5, 0, none⟩), .pointer (some ⟨p7, 0, none⟩)]) rfl (Or.inl ⟨by rfl, fun W hW => ?_⟩) hHeld ?_
 ·obtain ⟨y1, y2⟩ := hW
  go_simp
 try simp only [Act.put, a0, a1, a3, a4, a5]
 refine wpT (i := 1) (v := .func (.func bf) #[] #[]) rfl (Or.inl ⟨by rfl, fun W hW => ?_⟩) hHeld ?_
 ·obtain ⟨y1, y2⟩ := hW
  go_simp
 try simp only [Act.put, a0, a1, a2, a3, a4, a5]
 refine wpR (rs := [2]) (AllReadyH.cons rfl (fun K hK => ?_) AllReadyH.nil)
 go_simp
 (try rw [HFA.out, Oper.upon_enter]); refine (HBA.out _ w2.drew).mono ?_
 rintro e w4 ⟨rfl, rfl⟩
 go_wp2_with fail
 refine hK.out _ _ hHeld (fun hHeld => ?_)
 clear hK K
 try simp only [Act.put, a0, a1, a2, a3, a4, a5]
 refine wpR (rs := [3]) (AllReadyH.cons rfl (fun K hK => ?_) AllReadyH.nil)
 go_simp
 have G25 : w2.grownBy w2.drew none := ⟨rfl, rfl, rfl, Nat.le_refl _, fun _ _ _ => rfl⟩
 have E5 := HE2.out.kept P hM G25
 have KW5 := KW.trans (Kp.none (n := M) (S := WS p5 p6 v) G25 (by have := HE2.out.sz; omega))
 refine (a4w P E5 [45] [] (gf 11) r d n k hne hts H).mono ?_
 rintro e w9 hw9
 obtain ⟨rfl, v9, R9, E9, g9, K9, h9⟩ := id hw9
 have HW9 : Hid (WP w M B7 p2 p3 p5 p6 p7 p8 (.slice (some ⟨nb, no, none⟩) m cap) bf _ _ _ _ _ _ _ _ _ _ _ _) := hw9
 have y8 := E9.c8
 have y3 := E9.c3
 clear hw9 E9 g9 K9 h9
 go_wp2_with fail
 refine hK.out _ _ ⟨y8, y3⟩ (fun hHeld => ?_)
 clear hK K
 try simp only [Act.put, a0, a1, a2, a3, a4, a5]
 refine wpAnyH_done (by kernel_rfl) ?_ _
 go_wp2
 go_end0
 exact WP.took KW5 HW9.out
theorem an6 (w : World) (a b c : List UInt8) (t : Nat) : CV (w.alloc (.cells #[str a, str b, str c] t)) (some ⟨w.heap.size, 0, none⟩) ([a, b, c].map str) := ⟨fun h => (by cases h), fun ad had j hj => by
 obtain rfl := Option.some.inj had
 have e : ((⟨w.heap.size, 0, none⟩ : Addr).add j) = ⟨w.heap.size, j, none⟩ := by unfold Addr.add; split <;> simp_all
 rw [e, VAt.cell (VAt.alloc w t #[str a, str b, str c]) j]
 simp at hj
 rcases (by omega : j = 0 ∨ j = 1 ∨ j = 2) with rfl | rfl | rfl <;> rfl⟩
theorem a4X {bf : Nat} {gf : Int → Int} (HB : ∀ (l : Int) (w : World), Calls Tryz.prog bf #[.int .i64 l] w fun e w' => e = .returned (.int .i64 (gf l)) ∧ w' = w) (HF : ∀ (xs : Array Value) (w : World), (callFunc bf xs).run Tryz.prog w = .ok (.enter bf xs) w) {w : World} {M B7 p2 p3 p5 p6 p7 p8 nb no m cap : Nat} (P : a05 M B7 p2 p3 p5 p6 p7 p8) (hM : M ≤ B7) {W : World} {v : Value} {ts : List (List UInt8)} {ne dp : Int} {l : Nat} (E : j5 w M B7 p2 p3 p5 p6 p7 p8 (.slice (some ⟨nb, no, none⟩) m cap) bf W v ts ne dp (l + 1)) (x : Ng) (hx : W.rangeAt nb (no + l * 24) x.cells) (hlt : l < m) (hm : m ≤ 1000000) (least : Int) (hr : ¬ d5 x < least) (hk : x.kind = 4 ∨ x.kind = 6 ∨ x.kind = 7 ∨ x.kind = 8) (hrow : 0 ≤ d5 x ∧ d5 x ≤ 12) (hsg : x.kind = 7 ∨ x.kind = 8 ∨ (x.kind = 6 ∧ 1 ≤ x.op ∧ x.op ≤ 6) ∨ (x.kind = 4 ∧ 1 ≤ x.op ∧ x.op ≤ 10)) (rp rq : List UInt8) (dp0 dq np nq kp kq : Nat) (hts : ts.length + kp + kq ≤ 900000) (H1 : ∀ W1, j5 w M B7 p2 p3 p5 p6 p7 p8 (.slice (some ⟨nb, no, none⟩) m cap) bf W1 v ts ne dp l → Calls Tryz.prog 97 #[.int .i64 (gf (d5 x + 1)), .pointer (some ⟨p2, 0, none⟩), .pointer (some ⟨p6, 0, none⟩), .pointer (some ⟨p8, 0, none⟩), .pointer (some ⟨p3, 0, none⟩), .pointer (some ⟨p7, 0, none⟩), .pointer (some ⟨p5, 0, none⟩)] W1 (WP w M B7 p2 p3 p5 p6 p7 p8 (.slice (some ⟨nb, no, none⟩) m cap) bf W1 v ts ne dp l rq dq nq kq)) (H2 : ∀ W1 v1 R1 dp1, j5 w M B7 p2 p3 p5 p6 p7 p8 (.slice (some ⟨nb, no, none⟩) m cap) bf W1 v1 (ts ++ R1) ne dp1 (l - nq) → R1.length ≤ kq + 3 → Calls Tryz.prog 97 #[.int .i64 (gf (d5 x)), .pointer (some ⟨p2, 0, none⟩), .pointer (some ⟨p6, 0, none⟩), .pointer (some ⟨p8, 0, none⟩), .pointer (some ⟨p3, 0, none⟩), .pointer (some ⟨p7, 0, none⟩), .pointer (some ⟨p5, 0, none⟩)] W1 (WP w M B7 p2 p3 p5 p6 p7 p8 (.slice (some ⟨nb, no, none⟩) m cap) bf W1 v1 (ts ++ R1) ne dp1 (l - nq) rp dp0 np kp)) :
  Calls Tryz.prog 97 #[.int .i64 least, .pointer (some ⟨p2, 0, none⟩), .pointer (some ⟨p6, 0, none⟩), .pointer (some ⟨p8, 0, none⟩), .pointer (some ⟨p3, 0, none⟩), .pointer (some ⟨p7, 0, none⟩), .pointer (some ⟨p5, 0, none⟩)] W
   (WP w M B7 p2 p3 p5 p6 p7 p8 (.slice (some ⟨nb, no, none⟩) m cap) bf W v ts ne dp (l + 1) (rp ++ [32] ++ U4 x ++ [32] ++ rq) (max dp0 dq) (np + nq + 1) (kq + 3 + kp)) := by
 have HFA : Hid (∀ (xs : Array Value) (w : World), (callFunc bf xs).run Tryz.prog w = .ok (.enter bf xs) w) := HF
 clear HF
 have HBA : Hid (∀ (l : Int) (w : World), Calls Tryz.prog bf #[.int .i64 l] w fun e w' => e = .returned (.int .i64 (gf l)) ∧ w' = w) := HB
 clear HB
 rcases hk with hk | hk | hk | hk
 all_goals
  have hW := E.sz
  have X0 := VAt.alloc W 43 ngZ.cells.toArray
  have GA := World.grownBy_alloc W (.cells x.cells.toArray 43) none
  have EA := E.kept P hM GA
  have NA := NB.alloc W x
  have c2 := E.c2
  have c6 : W.cell? ⟨p6, 0, none⟩ = some (.int .i64 ((l : Int) + 1)) := VAt.cell E.lf 0
  have hw1 : IntKind.i64.wrap ((l : Int) + 1 - 1) = (l : Int) := by rw [IntKind.wrap_i64]; omega
  have hl0 : (0 : Int) ≤ (l : Int) := by omega
  have hl1 : (l : Int) < (m : Int) := by omega
  have HE : Hid (j5 w M B7 p2 p3 p5 p6 p7 p8 (.slice (some ⟨nb, no, none⟩) m cap) bf W v ts ne dp (l + 1)) := E
  have HEA : Hid (j5 w M B7 p2 p3 p5 p6 p7 p8 (.slice (some ⟨nb, no, none⟩) m cap) bf (W.alloc (.cells x.cells.toArray 43)) v ts ne dp (l + 1)) := EA
  have HX : Hid (W.rangeAt nb (no + l * 24) x.cells) := hx
  clear E EA hx
  go_enter Tryz.func97, Tryz.ntmps97
  go_upto_region 1 with (first | refine a2H (by rfl) 43 (.tmp 13) rfl nb (no + l * 24) rfl x.cells _ HX.out Tryz.underlying43 rfl (a1M x) ?_ | refine wpList_store_row rfl 43 (.tmp 8) (.tmp 14) rfl W.heap.size x.cells.toArray rfl rfl 43 _ X0 (E8 x) rfl (V6 x) ?_)
  rw [World.setRow_alloc_new]
  clear X0
  generalize W.alloc (.cells x.cells.toArray 43) = W0 at *
  generalize hBe : W.heap.size = B at *
  have HBE : Hid (W.heap.size = B) := hBe
  clear hBe
  have CR := a3c x W0
  obtain ⟨X, hX⟩ : ∃ X, x.cells.toArray = X := ⟨_, rfl⟩
  have HV : VAt W0 B 43 X := hX ▸ NA
  have HZ : Hid ((Tryz.prog.info? 43).map (·.size) = some X.size) := hX ▸ E8 x
  rw [hX] at CR ⊢
  have HXX : Hid (x.cells.toArray = X) := hX
  clear hX c2 c6 hw1
  obtain ⟨rr, hrr⟩ : ∃ rr, d5 x = rr := ⟨_, rfl⟩
  have HRR : Hid (d5 x = rr) := hrr
  rw [hrr] at *
  clear hrr
  go_upto_region 2 with (refine wpList_load_row rfl 43 (.tmp 8) rfl B rfl 43 X (0, 0) _ HV Tryz.underlying43 rfl HZ.out ?_)
  refine CR.mono ?_
  rintro e w1 ⟨rfl, G1⟩
  have HE1 : Hid (j5 w M B7 p2 p3 p5 p6 p7 p8 (.slice (some ⟨nb, no, none⟩) m cap) bf w1 v ts ne dp (l + 1)) := HEA.out.kept P hM G1
  have N1 : NB w1 B x := NB.kept NA G1
  have HG1 : Hid (W.grownBy w1 none) := d3 GA G1
  have c8 := HE1.out.c8
  clear CR G1 NA GA HEA HV HZ
  have f6 := VAt.free HE1.out.lf 0
  have c6 : w1.cell? ⟨p6, 0, none⟩ = some (.int .i64 ((l : Int) + 1)) := VAt.cell HE1.out.lf 0
  have hw1 : IntKind.i64.wrap ((l : Int) + 1 - 1) = (l : Int) := by rw [IntKind.wrap_i64]; omega
  have hBs := HE.out.sz
  have hB1 : B < w1.heap.size := VAt.lt N1
  clear c8
  go_upto_region 5 with fail
  obtain ⟨E2, K2⟩ := HE1.out.took P l
  have N2 : NB (w1.setCell ⟨p6, 0, none⟩ (.int .i64 (l : Int))) B x := VAt.setOther N1 _ (by have := P.l6; omega)
  have KW : Kp M (WS p5 p6 v) W (w1.setCell ⟨p6, 0, none⟩ (.int .i64 (l : Int))) := (Kp.none HG1.out (by omega)).trans K2
  generalize w1.setCell ⟨p6, 0, none⟩ (.int .i64 (l : Int)) = w2 at *
  have HE2 : Hid (j5 w M B7 p2 p3 p5 p6 p7 p8 (.slice (some ⟨nb, no, none⟩) m cap) bf w2 v ts ne dp l) := E2
  have HN2 : Hid (NB w2 B x) := N2
  have c8 := E2.c8
  have c3 := E2.c3
  have k0 := N2.kind
  rw [hk] at k0
  clear E2 K2 f6 c6 hw1 N1 N2
  have hvB : v.ownBlock ≠ some B := fun e => by have := (HE.out.out.2.lt B e).2; have := HBE.out; omega
  have c7 := HE2.out.c7
  have hwr : IntKind.i64.wrap (d5 x + 1) = d5 x + 1 := by rw [IntKind.wrap_i64]; omega
  have CS := fun W0 => aS9 x W0 hsg
  rw [HXX.out] at CS
  clear hsg
  go_upto_region 17 with fail
  refine wp_region_held_drew (S := fun W => W.cell? ⟨p7, 0, none⟩ = some (.func (.func 97) #[] #[.pointer (some ⟨p2, 0, none⟩), .pointer (some ⟨p6, 0, none⟩), .pointer (some ⟨p8, 0, none⟩), .pointer (some ⟨p3, 0, none⟩), .pointer (some ⟨p7, 0, none⟩), .pointer (some ⟨p5, 0, none⟩)]) ∧ W.cell? ⟨p3, 0, none⟩ = some (.func (.func bf) #[] #[])) (by kernel_rfl) ⟨c7, c3⟩ (fun hHeld => ?_)
  refine wpT (i := 0) (v := .func (.func 97) #[] #[.pointer (some ⟨p2, 0, none⟩), .pointer (some ⟨p6, 0, none⟩), .pointer (some ⟨p8, 0, none⟩), .pointer (some ⟨p3, 0, none⟩), .pointer (some ⟨p7, 0, none⟩), .pointer (some ⟨p5, 0, none⟩)]) rfl (Or.inl ⟨by rfl, fun W hW => ?_⟩) hHeld ?_
  ·obtain ⟨y1, y2⟩ := hW
   go_simp
  try simp only [Act.put, a0, a1, a3, a4, a5]
  refine wpT (i := 1) (v := .func (.func bf) #[] #[]) rfl (Or.inl ⟨by rfl, fun W hW => ?_⟩) hHeld ?_
  ·obtain ⟨y1, y2⟩ := hW
   go_simp
  try simp only [Act.put, a0, a1, a2, a3, a4, a5]
  refine wpT (i := 2) (v := .int .i64 (d5 x)) rfl (Or.inl ⟨by rfl, fun W hW => ?_⟩) hHeld ?_
  ·clear hW
   go_simp
  try simp only [Act.put, a0, a1, a2, a3, a4, a5]
  refine wpT (i := 3) (v := .int .i64 (d5 x + 1)) rfl (Or.inl ⟨by rfl, fun W hW => ?_⟩) hHeld ?_
  ·clear hW
   go_simp
  try simp only [Act.put, a0, a1, a2, a3, a4, a5]
  refine wpR (rs := [4]) (AllReadyH.cons rfl (fun K hK => ?_) AllReadyH.nil)
  go_simp
  (try rw [HFA.out, Oper.upon_enter]); refine (HBA.out _ w2.drew).mono ?_
  rintro e w4 ⟨rfl, rfl⟩
  go_wp2_with fail
  refine hK.out _ _ hHeld (fun hHeld => ?_)
  clear hK K
  try simp only [Act.put, a0, a1, a2, a3, a4, a5]
  refine wpR (rs := [5]) (AllReadyH.cons rfl (fun K hK => ?_) AllReadyH.nil)
  go_simp
  have G25 : w2.grownBy w2.drew none := ⟨rfl, rfl, rfl, Nat.le_refl _, fun _ _ _ => rfl⟩
  have E5 := HE2.out.kept P hM G25
  have hs2 := HE2.out.sz
  have KW5 := KW.trans (Kp.none (n := M) (S := WS p5 p6 v) G25 (by omega))
  have N5 : NB w2.drew B x := NB.kept HN2.out G25
  refine (H1 w2.drew E5).mono ?_
  rintro e w9 ⟨rfl, v9, R9, E9, g9, K9, h9, k9⟩
  have y7 := E9.c7
  have y3 := E9.c3
  have hB5 : B ≠ p5 ∧ B ≠ p6 := by have := P.l5; have := P.l6; omega
  have N9 : NB w9 B x := K9.2 B _ ⟨hB5.1, hB5.2, hvB⟩ N5 rfl
  have HE9 : Hid (j5 w M B7 p2 p3 p5 p6 p7 p8 (.slice (some ⟨nb, no, none⟩) m cap) bf w9 v9 (ts ++ R9) ne (max dp (ne + (dq : Int))) (l - nq)) := E9
  have KA : Kp M (WS p5 p6 v) W w9 := KW5.trans K9
  have gA : M4 W.heap.size v.ownBlock v9 := g9.mono KW5.1.size
  clear E9 K9 g9 N5 E5 KW5 KW H1
  go_wp2_with fail
  refine hK.out _ _ ⟨y7, y3⟩ (fun hHeld => ?_)
  clear hK K
  try simp only [Act.put, a0, a1, a2, a3, a4, a5]
  refine wpAnyH_done (by kernel_rfl) ?_ _
  have HV9 : VAt w9 B 43 X := HXX.out ▸ N9
  have HZN : Hid ((Tryz.prog.info? 43).map (·.size) = some X.size) := HXX.out ▸ E8 x
  clear y7 y3 c7 c3 c8 k0
  go_wp2_with (refine wpList_load_row rfl 43 (.tmp 8) rfl B rfl 43 X (0, 0) _ HV9 Tryz.underlying43 rfl HZN.out ?_)
  refine (CS w9).mono ?_
  rintro e w10 ⟨rfl, G10⟩
  have HE10 : Hid (j5 w M B7 p2 p3 p5 p6 p7 p8 (.slice (some ⟨nb, no, none⟩) m cap) bf w10 v9 (ts ++ R9) ne (max dp (ne + (dq : Int))) (l - nq)) := HE9.out.kept P hM G10
  have hP := a4F M B7 p5 w10.heap.size 3 [[32], U4 x, [32]] (ts ++ R9) v9 ne (max dp (ne + (dq : Int))) (w10.alloc (.cells #[str [32], str (U4 x), str [32]] 9)) P.m5 P.l5.1 (by have := HE10.out.sz; simp; omega) HE10.out.sz (by simp) (HE10.out.out.kept (World.grownBy_alloc _ _ _)) (fun e => by have := (HE10.out.out.2.lt _ e).2; omega) (an6 w10 _ _ _ _) (by simp) (by simp; omega)
  clear CS HV9 HZN hHeld
  go_upto_region 19 with (refine hP.mono ?_; rintro e w11 ⟨rfl, ⟨v11, hO11, g11⟩, K11⟩)
  have GA6 := World.grownBy_alloc w10 (.cells #[str [32], str (U4 x), str [32]] 9) none
  have hs9 := HE9.out.sz
  have hs10 := HE10.out.sz
  have E11 := (HE10.out.kept P hM GA6).wrote P K11 hO11 HE10.out.nd
  have KB : Kp M (WS p5 p6 v9) w9 w11 := (Kp.none (n := M) (S := WS p5 p6 v9) G10 (by omega)).trans ((Kp.none (n := M) (S := WS p5 p6 v9) GA6 (by omega)).trans (a4k K11))
  have gB : M4 w9.heap.size v9.ownBlock v11 := g11.mono (by have := G10.size; have := GA6.size; omega)
  have KAB := a4j KA gA KB
  have gAB := gA.trans gB KA.1.size
  rw [List.append_assoc] at E11
  have HE11 : Hid (j5 w M B7 p2 p3 p5 p6 p7 p8 (.slice (some ⟨nb, no, none⟩) m cap) bf w11 v11 (ts ++ (R9 ++ [[32], U4 x, [32]].reverse)) ne (max dp (ne + (dq : Int))) (l - nq)) := E11
  have c7 := E11.c7
  have c3 := E11.c3
  clear hP E11 GA6 G10 K11 hO11 g11 KA gA KB gB N9
  refine wp_region_held_drew (S := fun W => W.cell? ⟨p7, 0, none⟩ = some (.func (.func 97) #[] #[.pointer (some ⟨p2, 0, none⟩), .pointer (some ⟨p6, 0, none⟩), .pointer (some ⟨p8, 0, none⟩), .pointer (some ⟨p3, 0, none⟩), .pointer (some ⟨p7, 0, none⟩), .pointer (some ⟨p5, 0, none⟩)]) ∧ W.cell? ⟨p3, 0, none⟩ = some (.func (.func bf) #[] #[])) (by kernel_rfl) ⟨c7, c3⟩ (fun hHeld => ?_)
  refine wpT (i := 0) (v := .func (.func 97) #[] #[.pointer (some ⟨p2, 0, none⟩), .pointer (some ⟨p6, 0, none⟩), .pointer (some ⟨p8, 0, none⟩), .pointer (some ⟨p3, 0, none⟩), .pointer (some ⟨p7, 0, none⟩), .pointer (some ⟨p5, 0, none⟩)]) rfl (Or.inl ⟨by rfl, fun W hW => ?_⟩) hHeld ?_
  ·obtain ⟨y1, y2⟩ := hW
   go_simp
  try simp only [Act.put, a0, a1, a3, a4, a5]
  refine wpT (i := 1) (v := .func (.func bf) #[] #[]) rfl (Or.inl ⟨by rfl, fun W hW => ?_⟩) hHeld ?_
  ·obtain ⟨y1, y2⟩ := hW
   go_simp
  try simp only [Act.put, a0, a1, a2, a3, a4, a5]
  refine wpT (i := 2) (v := .int .i64 (d5 x)) rfl (Or.inl ⟨by rfl, fun W hW => ?_⟩) hHeld ?_
  ·clear hW
   go_simp
  try simp only [Act.put, a0, a1, a2, a3, a4, a5]
  refine wpR (rs := [3]) (AllReadyH.cons rfl (fun K hK => ?_) AllReadyH.nil)
  go_simp
  (try rw [HFA.out, Oper.upon_enter]); refine (HBA.out _ w11.drew).mono ?_
  rintro e w4 ⟨rfl, rfl⟩
  go_wp2_with fail
  refine hK.out _ _ hHeld (fun hHeld => ?_)
  clear hK K
  try simp only [Act.put, a0, a1, a2, a3, a4, a5]
  refine wpR (rs := [4]) (AllReadyH.cons rfl (fun K hK => ?_) AllReadyH.nil)
  go_simp
  have G35 : w11.grownBy w11.drew none := ⟨rfl, rfl, rfl, Nat.le_refl _, fun _ _ _ => rfl⟩
  have E15 := HE11.out.kept P hM G35
  have KAD := KAB.trans (Kp.none (n := M) (S := WS p5 p6 v) G35 (by have := HE11.out.sz; omega))
  refine (H2 w11.drew v11 _ _ E15 (by simp; omega)).mono ?_
  rintro e w12 ⟨rfl, v12, R12, E12, g12, K12, h12, k12⟩
  have z7 := E12.c7
  have z3 := E12.c3
  have HE12 : Hid (j5 w M B7 p2 p3 p5 p6 p7 p8 (.slice (some ⟨nb, no, none⟩) m cap) bf w12 v12 (ts ++ (R9 ++ [[32], U4 x, [32]].reverse) ++ R12) ne (max (max dp (ne + (dq : Int))) (ne + (dp0 : Int))) (l - nq - np)) := E12
  have KF := a4j KAD gAB K12
  have gF := gAB.trans g12 KAD.1.size
  clear E12 K12 g12 KAD E15 H2
  go_wp2_with fail
  refine hK.out _ _ ⟨z7, z3⟩ (fun hHeld => ?_)
  clear hK K
  try simp only [Act.put, a0, a1, a2, a3, a4, a5]
  refine wpAnyH_done (by kernel_rfl) ?_ _
  go_wp2
  go_end0
  have e1 : max (max dp (ne + (dq : Int))) (ne + (dp0 : Int)) = max dp (ne + ((max dp0 dq : Nat) : Int)) := by omega
  have e2 : l - nq - np = l + 1 - (np + nq + 1) := by omega
  have E := HE12.out
  rw [e1, e2, List.append_assoc] at E
  exact ⟨rfl, v12, _, E, gF, KF, by simp [h9, h12], by simp; omega⟩
theorem WP.weak {w : World} {M B7 p2 p3 p5 p6 p7 p8 : Nat} {sl : Value} {bf : Nat} {W : World} {v : Value} {ts : List (List UInt8)} {ne dp : Int} {left : Nat} {r r' : List UInt8} {d d' n n' k k' : Nat} {e : Ending} {W' : World} (hk : k ≤ k') (hr : r = r') (hd : d = d') (hn : n = n') (h : WP w M B7 p2 p3 p5 p6 p7 p8 sl bf W v ts ne dp left r d n k e W') : WP w M B7 p2 p3 p5 p6 p7 p8 sl bf W v ts ne dp left r' d' n' k' e W' := by
 subst hr hd hn
 obtain ⟨he, v', R, E, g, K, hr, h⟩ := h
 exact ⟨he, v', R, E, g, K, hr, Nat.le_trans h hk⟩
theorem a4H (x : Ng) : 1 ≤ d5 x ∧ d5 x ≤ 12 := by
 unfold d5
 repeat' split
 all_goals omega
theorem aR3 {x : Ng} (h : arG x.kind = some 2) : d5 x ≤ 10 := by
 rcases a0H h with ⟨h1, -⟩ | ⟨-, h1⟩ | ⟨h1, -⟩
 ·cases h1
 ·unfold d5
  repeat' split
  all_goals omega
 ·cases h1
def NOK (x : Ng) : Prop := U9 x = true ∧ m4 x = 0 ∧ x.n ≤ 4294967295 ∧ x.m ≤ 4294967295
theorem a5w {t : List Ng} {l : Nat} {x : Ng} {r : List Ng} (h : t.drop l = x :: r) : l < t.length ∧ t[l]? = some x := by
 have h1 := congrArg (·[0]?) h
 simp only [List.getElem?_drop, Nat.add_zero, List.getElem?_cons_zero] at h1
 exact ⟨(List.getElem?_eq_some_iff.1 h1).1, h1⟩
theorem a6O {bf : Nat} {w : World} {M B7 p2 p3 p5 p6 p7 p8 nb no cap : Nat} (P : a05 M B7 p2 p3 p5 p6 p7 p8) (hM : M ≤ B7) (t : List Ng) (hm : t.length ≤ 100000) (HROW : ∀ W, Below M w W → ∀ i x, t[i]? = some x → W.rangeAt nb (no + i * 24) x.cells) (x : Ng) (l n : Nat) (hx : t[l]? = some x) (hn : 1 ≤ n) (r : List UInt8) (d : Nat)
  (core : ∀ (least : Int) W v ts ne dp, j5 w M B7 p2 p3 p5 p6 p7 p8 (.slice (some ⟨nb, no, none⟩) t.length cap) bf W v ts ne dp (l + 1) → ¬ d5 x < least → ne + 2 * (n : Int) ≤ 800001 → ts.length + 8 * n ≤ 800001 → Calls Tryz.prog 97 #[.int .i64 least, .pointer (some ⟨p2, 0, none⟩), .pointer (some ⟨p6, 0, none⟩), .pointer (some ⟨p8, 0, none⟩), .pointer (some ⟨p3, 0, none⟩), .pointer (some ⟨p7, 0, none⟩), .pointer (some ⟨p5, 0, none⟩)] W (WP w M B7 p2 p3 p5 p6 p7 p8 (.slice (some ⟨nb, no, none⟩) t.length cap) bf W v ts ne dp (l + 1) r d n (8 * n - 2)))
  (least : Int) W v ts ne dp (E : j5 w M B7 p2 p3 p5 p6 p7 p8 (.slice (some ⟨nb, no, none⟩) t.length cap) bf W v ts ne dp (l + 1)) (hne : ne + 2 * (n : Int) ≤ 800000) (hts : ts.length + 8 * n ≤ 800000) :
  Calls Tryz.prog 97 #[.int .i64 least, .pointer (some ⟨p2, 0, none⟩), .pointer (some ⟨p6, 0, none⟩), .pointer (some ⟨p8, 0, none⟩), .pointer (some ⟨p3, 0, none⟩), .pointer (some ⟨p7, 0, none⟩), .pointer (some ⟨p5, 0, none⟩)] W (WP w M B7 p2 p3 p5 p6 p7 p8 (.slice (some ⟨nb, no, none⟩) t.length cap) bf W v ts ne dp (l + 1) (y9 (decide (d5 x < least)) (r, d)).1 (y9 (decide (d5 x < least)) (r, d)).2 n (8 * n)) := by
 have hlt : l < t.length := (List.getElem?_eq_some_iff.1 hx).1
 by_cases hr : d5 x < least
 ·rw [decide_eq_true hr]
  refine (b0b P hM E x (HROW W E.up l x hx) hlt (by omega) least hr r d n (8 * n - 2) (by omega) (by omega) (fun W1 v1 E1 => core 1 W1 v1 _ _ _ E1 (by have := (a4H x).1; omega) (by omega) (by simp; omega))).mono (fun e w' h => WP.weak (by omega) rfl rfl rfl h)
 ·rw [decide_eq_false hr]
  exact (core least W v ts ne dp E hr (by omega) (by omega)).mono (fun e w' h => WP.weak (by omega) rfl rfl rfl h)
theorem a4W {bf : Nat} {full : Bool} (HB : ∀ (l : Int) (w : World), Calls Tryz.prog bf #[.int .i64 l] w fun e w' => e = .returned (.int .i64 (gfB full l)) ∧ w' = w) (HF : ∀ (xs : Array Value) (w : World), (callFunc bf xs).run Tryz.prog w = .ok (.enter bf xs) w) {w : World} {M B7 p2 p3 p5 p6 p7 p8 nb no cap : Nat} (P : a05 M B7 p2 p3 p5 p6 p7 p8) (hM : M ≤ B7) (t : List Ng) (hm : t.length ≤ 100000) (hT : ∀ W, Below M w W → j2 W) (HROW : ∀ W, Below M w W → ∀ i x, t[i]? = some x → W.rangeAt nb (no + i * 24) x.cells) :
  ∀ (T : Tr), T.Wf → T.Typed → (∀ x ∈ T.flat, NOK x) → ∀ (pre : Nat) (rest : List Ng), t.drop pre = T.flat ++ rest → ∀ (least : Int), least ≤ 12 → ∀ W v ts ne dp, j5 w M B7 p2 p3 p5 p6 p7 p8 (.slice (some ⟨nb, no, none⟩) t.length cap) bf W v ts ne dp (pre + T.flat.length) → ne + 2 * (T.flat.length : Int) ≤ 800000 → ts.length + 8 * T.flat.length ≤ 800000 → Calls Tryz.prog 97 #[.int .i64 least, .pointer (some ⟨p2, 0, none⟩), .pointer (some ⟨p6, 0, none⟩), .pointer (some ⟨p8, 0, none⟩), .pointer (some ⟨p3, 0, none⟩), .pointer (some ⟨p7, 0, none⟩), .pointer (some ⟨p5, 0, none⟩)] W (WP w M B7 p2 p3 p5 p6 p7 p8 (.slice (some ⟨nb, no, none⟩) t.length cap) bf W v ts ne dp (pre + T.flat.length) (y9 (decide (d5 T.root < least)) (T.txt full)).1 (y9 (decide (d5 T.root < least)) (T.txt full)).2 T.flat.length (8 * T.flat.length))
 | .leaf x, hw, hty, hok, pre, rest, hd, least, hle, W, v, ts, ne, dp, E, hne, hts => by
  have ha : arG x.kind = some 0 := hw
  obtain ⟨hxf, hxr, hxn, hxm⟩ := hok x (by show x ∈ [x]; simp)
  obtain ⟨hlx, htx⟩ := a5w (show t.drop pre = x :: rest from hd)
  refine a6O P hM t hm HROW x pre 1 htx (by omega) _ _ (fun least W v ts ne dp E hr hne hts => ?_) least W v ts ne dp E hne hts
  refine (b0c P hM E x (HROW W E.up _ x htx) hlx (by omega) least hr x.kind rfl ?_ ha hxf hxr hxn hxm hT (by omega)).mono (fun e w' h => WP.weak (by omega) rfl rfl rfl h)
  rcases a0H ha with ⟨h1, -⟩ | ⟨h1, -⟩ | ⟨-, hk⟩
  ·cases h1
  ·cases h1
  ·omega
 | .one x p, hw, hty, hok, pre, rest, hd, least, hle, W, v, ts, ne, dp, E, hne, hts => by
  have hfl : (Tr.one x p).flat = p.flat ++ [x] := rfl
  have hln : (Tr.one x p).flat.length = p.flat.length + 1 := by rw [hfl]; simp
  rw [hln] at E hne hts ⊢
  obtain ⟨ha, hpw⟩ : arG x.kind = some 1 ∧ p.Wf := hw
  obtain ⟨hpt, -⟩ := id hty
  have hpok : ∀ y ∈ p.flat, NOK y := fun y hy => hok y (by rw [hfl]; exact List.mem_append_left _ hy)
  obtain ⟨hxf, hxr, hxn, hxm⟩ := hok x (by rw [hfl]; simp)
  obtain ⟨-, -, -, -, -, -, -, g8, -, -⟩ := a4a hxf hxr
  have hdp : t.drop pre = p.flat ++ ([x] ++ rest) := by rw [hd, hfl, List.append_assoc]
  have hdx : t.drop (pre + p.flat.length) = x :: rest := by rw [← List.drop_drop, hdp, List.drop_left]; rfl
  obtain ⟨hlx, htx⟩ := a5w hdx
  have IH := a4W (cap := cap) HB HF P hM t hm hT HROW p hpw hpt hpok pre ([x] ++ rest) hdp
  have hroot : (Tr.one x p).root = x := rfl
  rw [hroot]
  refine a6O P hM t hm HROW x (pre + p.flat.length) (p.flat.length + 1) htx (by omega) _ _ (fun least W v ts ne dp E hr hne hts => ?_) least W v ts ne dp E hne hts
  rcases a0H ha with ⟨-, hk⟩ | ⟨h1, -⟩ | ⟨h1, -⟩
  ·rcases hk with hk | hk | hk
   ·refine (b0d P hM E x (HROW W E.up _ x htx) hlx (by omega) least hr hk (g8 hk) hT (p.txt full).1 (p.txt full).2 p.flat.length (8 * p.flat.length) (by omega) (by omega) (fun W1 v1 E1 => ?_)).mono (fun e w' h => WP.weak (by omega) ?_ ?_ rfl h)
    ·have h := IH 1 (by decide) W1 v1 _ _ _ E1 (by omega) (by simp; omega)
     rw [decide_eq_false (show ¬ d5 p.root < 1 by have := (a4H p.root).1; omega)] at h
     exact h
    ·show _ = (if x.kind = 3 then (_ : List UInt8 × Nat) else _).1
     rw [if_pos hk]
     simp
    ·show _ = (if x.kind = 3 then (_ : List UInt8 × Nat) else _).2
     rw [if_pos hk]
   ·have hrow : d5 x = 11 := by unfold d5; rw [hk]; rfl
    have hwt : decide (d5 p.root < gfB full 11) = D2 full (d5 p.root) (d5 x) := by rw [hrow]; exact (a3S full (row := d5 p.root) (least := 11) (by decide))
    refine (b0e HB HF P hM E x (HROW W E.up _ x htx) hlx (by omega) least hr hk (y9 (D2 full (d5 p.root) (d5 x)) (p.txt full)).1 (y9 (D2 full (d5 p.root) (d5 x)) (p.txt full)).2 p.flat.length (8 * p.flat.length) (by omega) (by omega) (fun W1 v1 E1 => ?_)).mono (fun e w' h => WP.weak (by omega) ?_ ?_ rfl h)
    ·have h := IH (gfB full 11) (a4e (by decide)) W1 v1 _ _ _ E1 (by omega) (by simp; omega)
     rw [hwt] at h
     exact h
    ·show _ = (if x.kind = 3 then (_ : List UInt8 × Nat) else _).1
     rw [if_neg (by omega), hk]
     simp
    ·show _ = (if x.kind = 3 then (_ : List UInt8 × Nat) else _).2
     rw [if_neg (by omega)]
   ·have hrow : d5 x = 3 := by unfold d5; rw [hk]; rfl
    have hwt : decide (d5 p.root < gfB full 3) = D2 full (d5 p.root) (d5 x) := by rw [hrow]; exact (a3S full (row := d5 p.root) (least := 3) (by decide))
    refine (b0f HB HF P hM E x (HROW W E.up _ x htx) hlx (by omega) least hr hk (y9 (D2 full (d5 p.root) (d5 x)) (p.txt full)).1 (y9 (D2 full (d5 p.root) (d5 x)) (p.txt full)).2 p.flat.length (8 * p.flat.length) (by omega) (by omega) (fun W1 v1 E1 => ?_)).mono (fun e w' h => WP.weak (by omega) ?_ ?_ rfl h)
    ·have h := IH (gfB full 3) (a4e (by decide)) W1 v1 _ _ _ E1 (by omega) (by simp; omega)
     rw [hwt] at h
     exact h
    ·show _ = (if x.kind = 3 then (_ : List UInt8 × Nat) else _).1
     rw [if_neg (by omega), hk]
     simp
    ·show _ = (if x.kind = 3 then (_ : List UInt8 × Nat) else _).2
     rw [if_neg (by omega)]
  ·cases h1
  ·cases h1
 | .two x p q, hw, hty, hok, pre, rest, hd, least, hle, W, v, ts, ne, dp, E, hne, hts => by
  have hfl : (Tr.two x p q).flat = p.flat ++ q.flat ++ [x] := rfl
  have hln : (Tr.two x p q).flat.length = p.flat.length + q.flat.length + 1 := by rw [hfl]; simp only [List.length_append, List.length_cons, List.length_nil]
  rw [hln] at E hne hts ⊢
  obtain ⟨ha, hpw, hqw⟩ : arG x.kind = some 2 ∧ p.Wf ∧ q.Wf := hw
  obtain ⟨hpt, hqt, hpr, -⟩ := id hty
  have hpok : ∀ y ∈ p.flat, NOK y := fun y hy => hok y (by rw [hfl]; simp [hy])
  have hqok : ∀ y ∈ q.flat, NOK y := fun y hy => hok y (by rw [hfl]; simp [hy])
  obtain ⟨hxf, hxr, hxn, hxm⟩ := hok x (by rw [hfl]; simp)
  obtain ⟨-, -, -, -, -, -, -, -, g6, g4⟩ := a4a hxf hxr
  have hdp : t.drop pre = p.flat ++ (q.flat ++ ([x] ++ rest)) := by rw [hd, hfl]; simp
  have hdq : t.drop (pre + p.flat.length) = q.flat ++ ([x] ++ rest) := by rw [← List.drop_drop, hdp, List.drop_left]
  have hdx : t.drop (pre + p.flat.length + q.flat.length) = x :: rest := by rw [← List.drop_drop, hdq, List.drop_left]; rfl
  obtain ⟨hlx, htx⟩ := a5w hdx
  have IHp := a4W (cap := cap) HB HF P hM t hm hT HROW p hpw hpt hpok pre _ hdp
  have IHq := a4W (cap := cap) HB HF P hM t hm hT HROW q hqw hqt hqok (pre + p.flat.length) _ hdq
  have hroot : (Tr.two x p q).root = x := rfl
  rw [hroot]
  have hr12 := a4H x
  have hr10 := aR3 ha
  have hwp : decide (d5 p.root < gfB full (d5 x)) = D2 full (d5 p.root) (if d5 x = 4 then 5 else d5 x) := by
   by_cases h4 : d5 x = 4
   ·rw [if_pos h4]
    have h6 : x.kind = 6 := by
     have h := h4
     unfold d5 at h
     repeat' split at h
     all_goals omega
    have := b0g full (x := p.root) (by rw [hpr, h6]; rfl)
    rw [← this]
    rw [h4]; rfl
   ·rw [if_neg h4]
    exact a3S full (row := d5 p.root) (least := d5 x) (by omega)
  have hwq : decide (d5 q.root < gfB full (d5 x + 1)) = D2 full (d5 q.root) (d5 x + 1) := a3S full (row := d5 q.root) (least := d5 x + 1) (by omega)
  have e1 : pre + (p.flat.length + q.flat.length + 1) = pre + p.flat.length + q.flat.length + 1 := by omega
  rw [e1] at E ⊢
  refine a6O P hM t hm HROW x (pre + p.flat.length + q.flat.length) (p.flat.length + q.flat.length + 1) htx (by omega) _ _ (fun least W v ts ne dp E hr hne hts => ?_) least W v ts ne dp E hne hts
  have K1 : ∀ W1, j5 w M B7 p2 p3 p5 p6 p7 p8 (.slice (some ⟨nb, no, none⟩) t.length cap) bf W1 v ts ne dp (pre + p.flat.length + q.flat.length) → Calls Tryz.prog 97 #[.int .i64 (gfB full (d5 x + 1)), .pointer (some ⟨p2, 0, none⟩), .pointer (some ⟨p6, 0, none⟩), .pointer (some ⟨p8, 0, none⟩), .pointer (some ⟨p3, 0, none⟩), .pointer (some ⟨p7, 0, none⟩), .pointer (some ⟨p5, 0, none⟩)] W1 (WP w M B7 p2 p3 p5 p6 p7 p8 (.slice (some ⟨nb, no, none⟩) t.length cap) bf W1 v ts ne dp (pre + p.flat.length + q.flat.length) (y9 (D2 full (d5 q.root) (d5 x + 1)) (q.txt full)).1 (y9 (D2 full (d5 q.root) (d5 x + 1)) (q.txt full)).2 q.flat.length (8 * q.flat.length)) := fun W1 E1 => by
   have h := IHq (gfB full (d5 x + 1)) (a4e (by omega)) W1 v _ _ _ E1 (by omega) (by omega)
   rw [hwq] at h
   exact h
  have K2 : ∀ W1 v1 R1 dp1, j5 w M B7 p2 p3 p5 p6 p7 p8 (.slice (some ⟨nb, no, none⟩) t.length cap) bf W1 v1 (ts ++ R1) ne dp1 (pre + p.flat.length + q.flat.length - q.flat.length) → R1.length ≤ 8 * q.flat.length + 3 → Calls Tryz.prog 97 #[.int .i64 (gfB full (d5 x)), .pointer (some ⟨p2, 0, none⟩), .pointer (some ⟨p6, 0, none⟩), .pointer (some ⟨p8, 0, none⟩), .pointer (some ⟨p3, 0, none⟩), .pointer (some ⟨p7, 0, none⟩), .pointer (some ⟨p5, 0, none⟩)] W1 (WP w M B7 p2 p3 p5 p6 p7 p8 (.slice (some ⟨nb, no, none⟩) t.length cap) bf W1 v1 (ts ++ R1) ne dp1 (pre + p.flat.length + q.flat.length - q.flat.length) (y9 (D2 full (d5 p.root) (if d5 x = 4 then 5 else d5 x)) (p.txt full)).1 (y9 (D2 full (d5 p.root) (if d5 x = 4 then 5 else d5 x)) (p.txt full)).2 p.flat.length (8 * p.flat.length)) := fun W1 v1 R1 dp1 E1 h1 => by
   rw [Nat.add_sub_cancel] at E1 ⊢
   have h := IHp (gfB full (d5 x)) (a4e (by omega)) W1 v1 _ _ _ E1 (by omega) (by simp; omega)
   rw [hwp] at h
   exact h
  rcases a0H ha with ⟨h1, -⟩ | ⟨-, hk⟩ | ⟨h1, -⟩
  ·cases h1
  ·rcases hk with hk | hk | hk | hk
   ·exact (a4X HB HF P hM E x (HROW W E.up _ x htx) hlx (by omega) least hr (.inl hk) ⟨by omega, by omega⟩ (.inr (.inr (.inr ⟨hk, g4 hk⟩))) _ _ _ _ _ _ _ _ (by omega) K1 K2).mono (fun e w' h => WP.weak (by omega) rfl rfl rfl h)
   ·exact (a4X HB HF P hM E x (HROW W E.up _ x htx) hlx (by omega) least hr (.inr (.inl hk)) ⟨by omega, by omega⟩ (.inr (.inr (.inl ⟨hk, g6 hk⟩))) _ _ _ _ _ _ _ _ (by omega) K1 K2).mono (fun e w' h => WP.weak (by omega) rfl rfl rfl h)
   ·exact (a4X HB HF P hM E x (HROW W E.up _ x htx) hlx (by omega) least hr (.inr (.inr (.inl hk))) ⟨by omega, by omega⟩ (.inl hk) _ _ _ _ _ _ _ _ (by omega) K1 K2).mono (fun e w' h => WP.weak (by omega) rfl rfl rfl h)
   ·exact (a4X HB HF P hM E x (HROW W E.up _ x htx) hlx (by omega) least hr (.inr (.inr (.inr hk))) ⟨by omega, by omega⟩ (.inr (.inl hk)) _ _ _ _ _ _ _ _ (by omega) K1 K2).mono (fun e w' h => WP.weak (by omega) rfl rfl rfl h)
  ·cases h1

end Go.Proofs.YtklipelnjgpnjaaGreatDoor
