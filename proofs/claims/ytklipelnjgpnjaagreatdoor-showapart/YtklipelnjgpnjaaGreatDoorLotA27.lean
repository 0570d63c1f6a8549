import Derived.Test.YtklipelnjgpnjaaGreatDoorAb
import Derived.Test.YtklipelnjgpnjaaGreatDoorLotA26
import Derived.Test.YtklipelnjgpnjaaGreatDoorLotA25
import Derived.Test.YtklipelnjgpnjaaGreatDoorLotA10
namespace Go.Proofs.YtklipelnjgpnjaaGreatDoor
open Go.RowKit
set_option maxRecDepth 100000
set_option maxHeartbeats 1000000 in
theorem bare_S (l : Int) (w : World) : Calls Tryz.prog 25 #[.int .i64 l] w fun e w' => e = .returned (.int .i64 (l)) ∧ w' = w := by
 go_enter Tryz.func25, Tryz.ntmps25
 go_wp2
 go_ret
 exact ⟨rfl, rfl⟩
set_option maxHeartbeats 1000000 in
theorem bare_F (l : Int) (w : World) : Calls Tryz.prog 27 #[.int .i64 l] w fun e w' => e = .returned (.int .i64 (12)) ∧ w' = w := by
 go_enter Tryz.func27, Tryz.ntmps27
 go_wp2
 go_ret
 exact ⟨rfl, rfl⟩
set_option maxRecDepth 100000 in
set_option maxHeartbeats 4000000 in
theorem walk_not_S {w : World} {M B7 p2 p3 p5 p6 p7 p8 nb no m cap : Nat} (P : WPos M B7 p2 p3 p5 p6 p7 p8) (hM : M ≤ B7) {W : World} {v : Value} {ts : List (List UInt8)} {ne dp : Int} {l : Nat} (E : WEnv w M B7 p2 p3 p5 p6 p7 p8 (.slice (some ⟨nb, no, none⟩) m cap) 25 W v ts ne dp (l + 1)) (x : Ng) (hx : W.rangeAt nb (no + l * 24) x.cells) (hlt : l < m) (hm : m ≤ 1000000) (least : Int) (hr : ¬ rowG x < least) (hk : x.kind = 9) (r : List UInt8) (d n k : Nat) (hne : ne ≤ 900000) (hts : ts.length + k ≤ 900000) (H : ∀ W1 v1, WEnv w M B7 p2 p3 p5 p6 p7 p8 (.slice (some ⟨nb, no, none⟩) m cap) 25 W1 v1 (ts ++ [[]]) (ne + 1) (max dp (ne + 1)) l → Calls Tryz.prog 97 #[.int .i64 3, .pointer (some ⟨p2, 0, none⟩), .pointer (some ⟨p6, 0, none⟩), .pointer (some ⟨p8, 0, none⟩), .pointer (some ⟨p3, 0, none⟩), .pointer (some ⟨p7, 0, none⟩), .pointer (some ⟨p5, 0, none⟩)] W1 (WP w M B7 p2 p3 p5 p6 p7 p8 (.slice (some ⟨nb, no, none⟩) m cap) 25 W1 v1 (ts ++ [[]]) (ne + 1) (max dp (ne + 1)) l r d n k)) :
  Calls Tryz.prog 97 #[.int .i64 least, .pointer (some ⟨p2, 0, none⟩), .pointer (some ⟨p6, 0, none⟩), .pointer (some ⟨p8, 0, none⟩), .pointer (some ⟨p3, 0, none⟩), .pointer (some ⟨p7, 0, none⟩), .pointer (some ⟨p5, 0, none⟩)] W
   (WP w M B7 p2 p3 p5 p6 p7 p8 (.slice (some ⟨nb, no, none⟩) m cap) 25 W v ts ne dp (l + 1) ([110, 111, 116, 32] ++ r ++ []) (d + 1) (n + 1) (k + 2)) := by
 have hW := E.sz
 have X0 := VAt.alloc W 43 ngZ.cells.toArray
 have GA := World.grownBy_alloc W (.cells x.cells.toArray 43) none
 have EA := E.kept P hM GA
 have NA := NB.alloc W x
 have c2 := E.c2
 have c6 : W.cell? ⟨p6, 0, none⟩ = some (.int .i64 ((l : Int) + 1)) := VAt.cell E.lf 0
 have hw1 : IntKind.i64.wrap ((l : Int) + 1 - 1) = (l : Int) := by rw [IntKind.wrap_i64]; omega
 have hl0 : (0 : Int) ≤ (l : Int) := by omega
 have hl1 : (l : Int) < (m : Int) := by omega
 have HE : Hid (WEnv w M B7 p2 p3 p5 p6 p7 p8 (.slice (some ⟨nb, no, none⟩) m cap) 25 W v ts ne dp (l + 1)) := E
 have HEA : Hid (WEnv w M B7 p2 p3 p5 p6 p7 p8 (.slice (some ⟨nb, no, none⟩) m cap) 25 (W.alloc (.cells x.cells.toArray 43)) v ts ne dp (l + 1)) := EA
 have HX : Hid (W.rangeAt nb (no + l * 24) x.cells) := hx
 clear E EA hx
 go_enter Tryz.func97, Tryz.ntmps97
 go_upto_region 1 with (first | refine wpList_load_midG (by rfl) 43 (.tmp 13) rfl nb (no + l * 24) rfl x.cells _ HX.out Tryz.underlying43 rfl (ng_len x) ?_ | refine wpList_store_row rfl 43 (.tmp 8) (.tmp 14) rfl W.heap.size x.cells.toArray rfl rfl 43 _ X0 (ng_size x) rfl (ng_all x) ?_)
 rw [World.setRow_alloc_new]
 clear X0
 generalize W.alloc (.cells x.cells.toArray 43) = W0 at *
 generalize hBe : W.heap.size = B at *
 have HBE : Hid (W.heap.size = B) := hBe
 clear hBe
 have CR := rowOf_any x W0
 obtain ⟨X, hX⟩ : ∃ X, x.cells.toArray = X := ⟨_, rfl⟩
 have HV : VAt W0 B 43 X := hX ▸ NA
 have HZ : Hid ((Tryz.prog.info? 43).map (·.size) = some X.size) := hX ▸ ng_size x
 rw [hX] at CR ⊢
 have HXX : Hid (x.cells.toArray = X) := hX
 clear hX c2 c6 hw1
 obtain ⟨rr, hrr⟩ : ∃ rr, rowG x = rr := ⟨_, rfl⟩
 have HRR : Hid (rowG x = rr) := hrr
 rw [hrr] at *
 clear hrr
 go_upto_region 2 with (refine wpList_load_row rfl 43 (.tmp 8) rfl B rfl 43 X (0, 0) _ HV Tryz.underlying43 rfl HZ.out ?_)
 refine CR.mono ?_
 rintro e w1 ⟨rfl, G1⟩
 have HE1 : Hid (WEnv w M B7 p2 p3 p5 p6 p7 p8 (.slice (some ⟨nb, no, none⟩) m cap) 25 w1 v ts ne dp (l + 1)) := HEA.out.kept P hM G1
 have N1 : NB w1 B x := NB.kept NA G1
 have HG1 : Hid (W.grownBy w1 none) := grown_trans GA G1
 have c8 := HE1.out.c8
 clear CR G1 NA GA HEA HV HZ
 have f6 := VAt.free HE1.out.lf 0
 have c6 : w1.cell? ⟨p6, 0, none⟩ = some (.int .i64 ((l : Int) + 1)) := VAt.cell HE1.out.lf 0
 have hw1 : IntKind.i64.wrap ((l : Int) + 1 - 1) = (l : Int) := by rw [IntKind.wrap_i64]; omega
 have hBs := HE.out.sz
 have hB1 : B < w1.heap.size := VAt.lt N1
 clear c8
 go_upto_region 5 with fail
 obtain ⟨E2, K2⟩ := HE1.out.took P l
 have N2 : NB (w1.setCell ⟨p6, 0, none⟩ (.int .i64 (l : Int))) B x := VAt.setOther N1 _ (by have := P.l6; omega)
 have KW : Kp M (WS p5 p6 v) W (w1.setCell ⟨p6, 0, none⟩ (.int .i64 (l : Int))) := (Kp.none HG1.out (by omega)).trans K2
 generalize w1.setCell ⟨p6, 0, none⟩ (.int .i64 (l : Int)) = w2 at *
 have HE2 : Hid (WEnv w M B7 p2 p3 p5 p6 p7 p8 (.slice (some ⟨nb, no, none⟩) m cap) 25 w2 v ts ne dp l) := E2
 have HN2 : Hid (NB w2 B x) := N2
 have c8 := E2.c8
 have c3 := E2.c3
 have k0 := N2.kind
 rw [hk] at k0
 clear E2 K2 f6 c6 hw1 N1 N2
 have hvB : v.ownBlock ≠ some B := fun e => by have := (HE.out.out.2.lt B e).2; have := HBE.out; omega
 go_upto_region 12 with fail
 refine wp_region_held_drew (S := fun W => W.cell? ⟨p8, 0, none⟩ = some (.func (.func 94) #[] #[.pointer (some ⟨p5, 0, none⟩), .pointer (some ⟨p7, 0, none⟩)]) ∧ W.cell? ⟨p3, 0, none⟩ = some (.func (.func 25) #[] #[])) (by kernel_rfl) ⟨c8, c3⟩ (fun hHeld => ?_)
 refine wpT (i := 0) (v := .func (.func 94) #[] #[.pointer (some ⟨p5, 0, none⟩), .pointer (some ⟨p7, 0, none⟩)]) rfl (Or.inl ⟨by rfl, fun W hW => ?_⟩) hHeld ?_
 ·obtain ⟨y1, y2⟩ := hW
  go_simp
 try simp only [Act.put, a0, a1, a3, a4, a5]
 refine wpT (i := 1) (v := .func (.func 25) #[] #[]) rfl (Or.inl ⟨by rfl, fun W hW => ?_⟩) hHeld ?_
 ·obtain ⟨y1, y2⟩ := hW
  go_simp
 try simp only [Act.put, a0, a1, a2, a3, a4, a5]
 refine wpR (rs := [2]) (AllReadyH.cons rfl (fun K hK => ?_) AllReadyH.nil)
 go_simp
 refine (bare_S _ w2.drew).mono ?_
 rintro e w4 ⟨rfl, rfl⟩
 go_wp2_with fail
 refine hK.out _ _ hHeld (fun hHeld => ?_)
 clear hK K
 try simp only [Act.put, a0, a1, a2, a3, a4, a5]
 refine wpR (rs := [3]) (AllReadyH.cons rfl (fun K hK => ?_) AllReadyH.nil)
 go_simp
 have G25 : w2.grownBy w2.drew none := ⟨rfl, rfl, rfl, Nat.le_refl _, fun _ _ _ => rfl⟩
 have E5 := HE2.out.kept P hM G25
 have KW5 := KW.trans (Kp.none (n := M) (S := WS p5 p6 v) G25 (by have := HE2.out.sz; omega))
 refine (nested_any13 P E5 [110, 111, 116, 32] [] 3 r d n k hne hts H).mono ?_
 rintro e w9 hw9
 obtain ⟨rfl, v9, R9, E9, g9, K9, h9⟩ := id hw9
 have HW9 : Hid (WP w M B7 p2 p3 p5 p6 p7 p8 (.slice (some ⟨nb, no, none⟩) m cap) 25 _ _ _ _ _ _ _ _ _ _ _ _) := hw9
 have y8 := E9.c8
 have y3 := E9.c3
 clear hw9 E9 g9 K9 h9
 go_wp2_with fail
 refine hK.out _ _ ⟨y8, y3⟩ (fun hHeld => ?_)
 clear hK K
 try simp only [Act.put, a0, a1, a2, a3, a4, a5]
 refine wpAnyH_done (by kernel_rfl) ?_ _
 go_wp2
 go_end0
 exact WP.took KW5 HW9.out
set_option maxRecDepth 100000 in
set_option maxHeartbeats 4000000 in
theorem walk_minus_S {w : World} {M B7 p2 p3 p5 p6 p7 p8 nb no m cap : Nat} (P : WPos M B7 p2 p3 p5 p6 p7 p8) (hM : M ≤ B7) {W : World} {v : Value} {ts : List (List UInt8)} {ne dp : Int} {l : Nat} (E : WEnv w M B7 p2 p3 p5 p6 p7 p8 (.slice (some ⟨nb, no, none⟩) m cap) 25 W v ts ne dp (l + 1)) (x : Ng) (hx : W.rangeAt nb (no + l * 24) x.cells) (hlt : l < m) (hm : m ≤ 1000000) (least : Int) (hr : ¬ rowG x < least) (hk : x.kind = 5) (r : List UInt8) (d n k : Nat) (hne : ne ≤ 900000) (hts : ts.length + k ≤ 900000) (H : ∀ W1 v1, WEnv w M B7 p2 p3 p5 p6 p7 p8 (.slice (some ⟨nb, no, none⟩) m cap) 25 W1 v1 (ts ++ [[]]) (ne + 1) (max dp (ne + 1)) l → Calls Tryz.prog 97 #[.int .i64 11, .pointer (some ⟨p2, 0, none⟩), .pointer (some ⟨p6, 0, none⟩), .pointer (some ⟨p8, 0, none⟩), .pointer (some ⟨p3, 0, none⟩), .pointer (some ⟨p7, 0, none⟩), .pointer (some ⟨p5, 0, none⟩)] W1 (WP w M B7 p2 p3 p5 p6 p7 p8 (.slice (some ⟨nb, no, none⟩) m cap) 25 W1 v1 (ts ++ [[]]) (ne + 1) (max dp (ne + 1)) l r d n k)) :
  Calls Tryz.prog 97 #[.int .i64 least, .pointer (some ⟨p2, 0, none⟩), .pointer (some ⟨p6, 0, none⟩), .pointer (some ⟨p8, 0, none⟩), .pointer (some ⟨p3, 0, none⟩), .pointer (some ⟨p7, 0, none⟩), .pointer (some ⟨p5, 0, none⟩)] W
   (WP w M B7 p2 p3 p5 p6 p7 p8 (.slice (some ⟨nb, no, none⟩) m cap) 25 W v ts ne dp (l + 1) ([45] ++ r ++ []) (d + 1) (n + 1) (k + 2)) := by
 have hW := E.sz
 have X0 := VAt.alloc W 43 ngZ.cells.toArray
 have GA := World.grownBy_alloc W (.cells x.cells.toArray 43) none
 have EA := E.kept P hM GA
 have NA := NB.alloc W x
 have c2 := E.c2
 have c6 : W.cell? ⟨p6, 0, none⟩ = some (.int .i64 ((l : Int) + 1)) := VAt.cell E.lf 0
 have hw1 : IntKind.i64.wrap ((l : Int) + 1 - 1) = (l : Int) := by rw [IntKind.wrap_i64]; omega
 have hl0 : (0 : Int) ≤ (l : Int) := by omega
 have hl1 : (l : Int) < (m : Int) := by omega
 have HE : Hid (WEnv w M B7 p2 p3 p5 p6 p7 p8 (.slice (some ⟨nb, no, none⟩) m cap) 25 W v ts ne dp (l + 1)) := E
 have HEA : Hid (WEnv w M B7 p2 p3 p5 p6 p7 p8 (.slice (some ⟨nb, no, none⟩) m cap) 25 (W.alloc (.cells x.cells.toArray 43)) v ts ne dp (l + 1)) := EA
 have HX : Hid (W.rangeAt nb (no + l * 24) x.cells) := hx
 clear E EA hx
 go_enter Tryz.func97, Tryz.ntmps97
 go_upto_region 1 with (first | refine wpList_load_midG (by rfl) 43 (.tmp 13) rfl nb (no + l * 24) rfl x.cells _ HX.out Tryz.underlying43 rfl (ng_len x) ?_ | refine wpList_store_row rfl 43 (.tmp 8) (.tmp 14) rfl W.heap.size x.cells.toArray rfl rfl 43 _ X0 (ng_size x) rfl (ng_all x) ?_)
 rw [World.setRow_alloc_new]
 clear X0
 generalize W.alloc (.cells x.cells.toArray 43) = W0 at *
 generalize hBe : W.heap.size = B at *
 have HBE : Hid (W.heap.size = B) := hBe
 clear hBe
 have CR := rowOf_any x W0
 obtain ⟨X, hX⟩ : ∃ X, x.cells.toArray = X := ⟨_, rfl⟩
 have HV : VAt W0 B 43 X := hX ▸ NA
 have HZ : Hid ((Tryz.prog.info? 43).map (·.size) = some X.size) := hX ▸ ng_size x
 rw [hX] at CR ⊢
 have HXX : Hid (x.cells.toArray = X) := hX
 clear hX c2 c6 hw1
 obtain ⟨rr, hrr⟩ : ∃ rr, rowG x = rr := ⟨_, rfl⟩
 have HRR : Hid (rowG x = rr) := hrr
 rw [hrr] at *
 clear hrr
 go_upto_region 2 with (refine wpList_load_row rfl 43 (.tmp 8) rfl B rfl 43 X (0, 0) _ HV Tryz.underlying43 rfl HZ.out ?_)
 refine CR.mono ?_
 rintro e w1 ⟨rfl, G1⟩
 have HE1 : Hid (WEnv w M B7 p2 p3 p5 p6 p7 p8 (.slice (some ⟨nb, no, none⟩) m cap) 25 w1 v ts ne dp (l + 1)) := HEA.out.kept P hM G1
 have N1 : NB w1 B x := NB.kept NA G1
 have HG1 : Hid (W.grownBy w1 none) := grown_trans GA G1
 have c8 := HE1.out.c8
 clear CR G1 NA GA HEA HV HZ
 have f6 := VAt.free HE1.out.lf 0
 have c6 : w1.cell? ⟨p6, 0, none⟩ = some (.int .i64 ((l : Int) + 1)) := VAt.cell HE1.out.lf 0
 have hw1 : IntKind.i64.wrap ((l : Int) + 1 - 1) = (l : Int) := by rw [IntKind.wrap_i64]; omega
 have hBs := HE.out.sz
 have hB1 : B < w1.heap.size := VAt.lt N1
 clear c8
 go_upto_region 5 with fail
 obtain ⟨E2, K2⟩ := HE1.out.took P l
 have N2 : NB (w1.setCell ⟨p6, 0, none⟩ (.int .i64 (l : Int))) B x := VAt.setOther N1 _ (by have := P.l6; omega)
 have KW : Kp M (WS p5 p6 v) W (w1.setCell ⟨p6, 0, none⟩ (.int .i64 (l : Int))) := (Kp.none HG1.out (by omega)).trans K2
 generalize w1.setCell ⟨p6, 0, none⟩ (.int .i64 (l : Int)) = w2 at *
 have HE2 : Hid (WEnv w M B7 p2 p3 p5 p6 p7 p8 (.slice (some ⟨nb, no, none⟩) m cap) 25 w2 v ts ne dp l) := E2
 have HN2 : Hid (NB w2 B x) := N2
 have c8 := E2.c8
 have c3 := E2.c3
 have k0 := N2.kind
 rw [hk] at k0
 clear E2 K2 f6 c6 hw1 N1 N2
 have hvB : v.ownBlock ≠ some B := fun e => by have := (HE.out.out.2.lt B e).2; have := HBE.out; omega
 go_upto_region 10 with fail
 refine wp_region_held_drew (S := fun W => W.cell? ⟨p8, 0, none⟩ = some (.func (.func 94) #[] #[.pointer (some ⟨p5, 0, none⟩), .pointer (some ⟨p7, 0, none⟩)]) ∧ W.cell? ⟨p3, 0, none⟩ = some (.func (.func 25) #[] #[])) (by kernel_rfl) ⟨c8, c3⟩ (fun hHeld => ?_)
 refine wpT (i := 0) (v := .func (.func 94) #[] #[.pointer (some ⟨p5, 0, none⟩), .pointer (some ⟨p7, 0, none⟩)]) rfl (Or.inl ⟨by rfl, fun W hW => ?_⟩) hHeld ?_
 ·obtain ⟨y1, y2⟩ := hW
  go_simp
 try simp only [Act.put, a0, a1, a3, a4, a5]
 refine wpT (i := 1) (v := .func (.func 25) #[] #[]) rfl (Or.inl ⟨by rfl, fun W hW => ?_⟩) hHeld ?_
 ·obtain ⟨y1, y2⟩ := hW
  go_simp
 try simp only [Act.put, a0, a1, a2, a3, a4, a5]
 refine wpR (rs := [2]) (AllReadyH.cons rfl (fun K hK => ?_) AllReadyH.nil)
 go_simp
 refine (bare_S _ w2.drew).mono ?_
 rintro e w4 ⟨rfl, rfl⟩
 go_wp2_with fail
 refine hK.out _ _ hHeld (fun hHeld => ?_)
 clear hK K
 try simp only [Act.put, a0, a1, a2, a3, a4, a5]
 refine wpR (rs := [3]) (AllReadyH.cons rfl (fun K hK => ?_) AllReadyH.nil)
 go_simp
 have G25 : w2.grownBy w2.drew none := ⟨rfl, rfl, rfl, Nat.le_refl _, fun _ _ _ => rfl⟩
 have E5 := HE2.out.kept P hM G25
 have KW5 := KW.trans (Kp.none (n := M) (S := WS p5 p6 v) G25 (by have := HE2.out.sz; omega))
 refine (nested_any13 P E5 [45] [] 11 r d n k hne hts H).mono ?_
 rintro e w9 hw9
 obtain ⟨rfl, v9, R9, E9, g9, K9, h9⟩ := id hw9
 have HW9 : Hid (WP w M B7 p2 p3 p5 p6 p7 p8 (.slice (some ⟨nb, no, none⟩) m cap) 25 _ _ _ _ _ _ _ _ _ _ _ _) := hw9
 have y8 := E9.c8
 have y3 := E9.c3
 clear hw9 E9 g9 K9 h9
 go_wp2_with fail
 refine hK.out _ _ ⟨y8, y3⟩ (fun hHeld => ?_)
 clear hK K
 try simp only [Act.put, a0, a1, a2, a3, a4, a5]
 refine wpAnyH_done (by kernel_rfl) ?_ _
 go_wp2
 go_end0
 exact WP.took KW5 HW9.out
set_option maxRecDepth 100000 in
set_option maxHeartbeats 4000000 in
theorem walk_not_F {w : World} {M B7 p2 p3 p5 p6 p7 p8 nb no m cap : Nat} (P : WPos M B7 p2 p3 p5 p6 p7 p8) (hM : M ≤ B7) {W : World} {v : Value} {ts : List (List UInt8)} {ne dp : Int} {l : Nat} (E : WEnv w M B7 p2 p3 p5 p6 p7 p8 (.slice (some ⟨nb, no, none⟩) m cap) 27 W v ts ne dp (l + 1)) (x : Ng) (hx : W.rangeAt nb (no + l * 24) x.cells) (hlt : l < m) (hm : m ≤ 1000000) (least : Int) (hr : ¬ rowG x < least) (hk : x.kind = 9) (r : List UInt8) (d n k : Nat) (hne : ne ≤ 900000) (hts : ts.length + k ≤ 900000) (H : ∀ W1 v1, WEnv w M B7 p2 p3 p5 p6 p7 p8 (.slice (some ⟨nb, no, none⟩) m cap) 27 W1 v1 (ts ++ [[]]) (ne + 1) (max dp (ne + 1)) l → Calls Tryz.prog 97 #[.int .i64 12, .pointer (some ⟨p2, 0, none⟩), .pointer (some ⟨p6, 0, none⟩), .pointer (some ⟨p8, 0, none⟩), .pointer (some ⟨p3, 0, none⟩), .pointer (some ⟨p7, 0, none⟩), .pointer (some ⟨p5, 0, none⟩)] W1 (WP w M B7 p2 p3 p5 p6 p7 p8 (.slice (some ⟨nb, no, none⟩) m cap) 27 W1 v1 (ts ++ [[]]) (ne + 1) (max dp (ne + 1)) l r d n k)) :
  Calls Tryz.prog 97 #[.int .i64 least, .pointer (some ⟨p2, 0, none⟩), .pointer (some ⟨p6, 0, none⟩), .pointer (some ⟨p8, 0, none⟩), .pointer (some ⟨p3, 0, none⟩), .pointer (some ⟨p7, 0, none⟩), .pointer (some ⟨p5, 0, none⟩)] W
   (WP w M B7 p2 p3 p5 p6 p7 p8 (.slice (some ⟨nb, no, none⟩) m cap) 27 W v ts ne dp (l + 1) ([110, 111, 116, 32] ++ r ++ []) (d + 1) (n + 1) (k + 2)) := by
 have hW := E.sz
 have X0 := VAt.alloc W 43 ngZ.cells.toArray
 have GA := World.grownBy_alloc W (.cells x.cells.toArray 43) none
 have EA := E.kept P hM GA
 have NA := NB.alloc W x
 have c2 := E.c2
 have c6 : W.cell? ⟨p6, 0, none⟩ = some (.int .i64 ((l : Int) + 1)) := VAt.cell E.lf 0
 have hw1 : IntKind.i64.wrap ((l : Int) + 1 - 1) = (l : Int) := by rw [IntKind.wrap_i64]; omega
 have hl0 : (0 : Int) ≤ (l : Int) := by omega
 have hl1 : (l : Int) < (m : Int) := by omega
 have HE : Hid (WEnv w M B7 p2 p3 p5 p6 p7 p8 (.slice (some ⟨nb, no, none⟩) m cap) 27 W v ts ne dp (l + 1)) := E
 have HEA : Hid (WEnv w M B7 p2 p3 p5 p6 p7 p8 (.slice (some ⟨nb, no, none⟩) m cap) 27 (W.alloc (.cells x.cells.toArray 43)) v ts ne dp (l + 1)) := EA
 have HX : Hid (W.rangeAt nb (no + l * 24) x.cells) := hx
 clear E EA hx
 go_enter Tryz.func97, Tryz.ntmps97
 go_upto_region 1 with (first | refine wpList_load_midG (by rfl) 43 (.tmp 13) rfl nb (no + l * 24) rfl x.cells _ HX.out Tryz.underlying43 rfl (ng_len x) ?_ | refine wpList_store_row rfl 43 (.tmp 8) (.tmp 14) rfl W.heap.size x.cells.toArray rfl rfl 43 _ X0 (ng_size x) rfl (ng_all x) ?_)
 rw [World.setRow_alloc_new]
 clear X0
 generalize W.alloc (.cells x.cells.toArray 43) = W0 at *
 generalize hBe : W.heap.size = B at *
 have HBE : Hid (W.heap.size = B) := hBe
 clear hBe
 have CR := rowOf_any x W0
 obtain ⟨X, hX⟩ : ∃ X, x.cells.toArray = X := ⟨_, rfl⟩
 have HV : VAt W0 B 43 X := hX ▸ NA
 have HZ : Hid ((Tryz.prog.info? 43).map (·.size) = some X.size) := hX ▸ ng_size x
 rw [hX] at CR ⊢
 have HXX : Hid (x.cells.toArray = X) := hX
 clear hX c2 c6 hw1
 obtain ⟨rr, hrr⟩ : ∃ rr, rowG x = rr := ⟨_, rfl⟩
 have HRR : Hid (rowG x = rr) := hrr
 rw [hrr] at *
 clear hrr
 go_upto_region 2 with (refine wpList_load_row rfl 43 (.tmp 8) rfl B rfl 43 X (0, 0) _ HV Tryz.underlying43 rfl HZ.out ?_)
 refine CR.mono ?_
 rintro e w1 ⟨rfl, G1⟩
 have HE1 : Hid (WEnv w M B7 p2 p3 p5 p6 p7 p8 (.slice (some ⟨nb, no, none⟩) m cap) 27 w1 v ts ne dp (l + 1)) := HEA.out.kept P hM G1
 have N1 : NB w1 B x := NB.kept NA G1
 have HG1 : Hid (W.grownBy w1 none) := grown_trans GA G1
 have c8 := HE1.out.c8
 clear CR G1 NA GA HEA HV HZ
 have f6 := VAt.free HE1.out.lf 0
 have c6 : w1.cell? ⟨p6, 0, none⟩ = some (.int .i64 ((l : Int) + 1)) := VAt.cell HE1.out.lf 0
 have hw1 : IntKind.i64.wrap ((l : Int) + 1 - 1) = (l : Int) := by rw [IntKind.wrap_i64]; omega
 have hBs := HE.out.sz
 have hB1 : B < w1.heap.size := VAt.lt N1
 clear c8
 go_upto_region 5 with fail
 obtain ⟨E2, K2⟩ := HE1.out.took P l
 have N2 : NB (w1.setCell ⟨p6, 0, none⟩ (.int .i64 (l : Int))) B x := VAt.setOther N1 _ (by have := P.l6; omega)
 have KW : Kp M (WS p5 p6 v) W (w1.setCell ⟨p6, 0, none⟩ (.int .i64 (l : Int))) := (Kp.none HG1.out (by omega)).trans K2
 generalize w1.setCell ⟨p6, 0, none⟩ (.int .i64 (l : Int)) = w2 at *
 have HE2 : Hid (WEnv w M B7 p2 p3 p5 p6 p7 p8 (.slice (some ⟨nb, no, none⟩) m cap) 27 w2 v ts ne dp l) := E2
 have HN2 : Hid (NB w2 B x) := N2
 have c8 := E2.c8
 have c3 := E2.c3
 have k0 := N2.kind
 rw [hk] at k0
 clear E2 K2 f6 c6 hw1 N1 N2
 have hvB : v.ownBlock ≠ some B := fun e => by have := (HE.out.out.2.lt B e).2; have := HBE.out; omega
 go_upto_region 12 with fail
 refine wp_region_held_drew (S := fun W => W.cell? ⟨p8, 0, none⟩ = some (.func (.func 94) #[] #[.pointer (some ⟨p5, 0, none⟩), .pointer (some ⟨p7, 0, none⟩)]) ∧ W.cell? ⟨p3, 0, none⟩ = some (.func (.func 27) #[] #[])) (by kernel_rfl) ⟨c8, c3⟩ (fun hHeld => ?_)
 refine wpT (i := 0) (v := .func (.func 94) #[] #[.pointer (some ⟨p5, 0, none⟩), .pointer (some ⟨p7, 0, none⟩)]) rfl (Or.inl ⟨by rfl, fun W hW => ?_⟩) hHeld ?_
 ·obtain ⟨y1, y2⟩ := hW
  go_simp
 try simp only [Act.put, a0, a1, a3, a4, a5]
 refine wpT (i := 1) (v := .func (.func 27) #[] #[]) rfl (Or.inl ⟨by rfl, fun W hW => ?_⟩) hHeld ?_
 ·obtain ⟨y1, y2⟩ := hW
  go_simp
 try simp only [Act.put, a0, a1, a2, a3, a4, a5]
 refine wpR (rs := [2]) (AllReadyH.cons rfl (fun K hK => ?_) AllReadyH.nil)
 go_simp
 refine (bare_F _ w2.drew).mono ?_
 rintro e w4 ⟨rfl, rfl⟩
 go_wp2_with fail
 refine hK.out _ _ hHeld (fun hHeld => ?_)
 clear hK K
 try simp only [Act.put, a0, a1, a2, a3, a4, a5]
 refine wpR (rs := [3]) (AllReadyH.cons rfl (fun K hK => ?_) AllReadyH.nil)
 go_simp
 have G25 : w2.grownBy w2.drew none := ⟨rfl, rfl, rfl, Nat.le_refl _, fun _ _ _ => rfl⟩
 have E5 := HE2.out.kept P hM G25
 have KW5 := KW.trans (Kp.none (n := M) (S := WS p5 p6 v) G25 (by have := HE2.out.sz; omega))
 refine (nested_any13 P E5 [110, 111, 116, 32] [] 12 r d n k hne hts H).mono ?_
 rintro e w9 hw9
 obtain ⟨rfl, v9, R9, E9, g9, K9, h9⟩ := id hw9
 have HW9 : Hid (WP w M B7 p2 p3 p5 p6 p7 p8 (.slice (some ⟨nb, no, none⟩) m cap) 27 _ _ _ _ _ _ _ _ _ _ _ _) := hw9
 have y8 := E9.c8
 have y3 := E9.c3
 clear hw9 E9 g9 K9 h9
 go_wp2_with fail
 refine hK.out _ _ ⟨y8, y3⟩ (fun hHeld => ?_)
 clear hK K
 try simp only [Act.put, a0, a1, a2, a3, a4, a5]
 refine wpAnyH_done (by kernel_rfl) ?_ _
 go_wp2
 go_end0
 exact WP.took KW5 HW9.out
set_option maxRecDepth 100000 in
set_option maxHeartbeats 4000000 in
theorem walk_minus_F {w : World} {M B7 p2 p3 p5 p6 p7 p8 nb no m cap : Nat} (P : WPos M B7 p2 p3 p5 p6 p7 p8) (hM : M ≤ B7) {W : World} {v : Value} {ts : List (List UInt8)} {ne dp : Int} {l : Nat} (E : WEnv w M B7 p2 p3 p5 p6 p7 p8 (.slice (some ⟨nb, no, none⟩) m cap) 27 W v ts ne dp (l + 1)) (x : Ng) (hx : W.rangeAt nb (no + l * 24) x.cells) (hlt : l < m) (hm : m ≤ 1000000) (least : Int) (hr : ¬ rowG x < least) (hk : x.kind = 5) (r : List UInt8) (d n k : Nat) (hne : ne ≤ 900000) (hts : ts.length + k ≤ 900000) (H : ∀ W1 v1, WEnv w M B7 p2 p3 p5 p6 p7 p8 (.slice (some ⟨nb, no, none⟩) m cap) 27 W1 v1 (ts ++ [[]]) (ne + 1) (max dp (ne + 1)) l → Calls Tryz.prog 97 #[.int .i64 12, .pointer (some ⟨p2, 0, none⟩), .pointer (some ⟨p6, 0, none⟩), .pointer (some ⟨p8, 0, none⟩), .pointer (some ⟨p3, 0, none⟩), .pointer (some ⟨p7, 0, none⟩), .pointer (some ⟨p5, 0, none⟩)] W1 (WP w M B7 p2 p3 p5 p6 p7 p8 (.slice (some ⟨nb, no, none⟩) m cap) 27 W1 v1 (ts ++ [[]]) (ne + 1) (max dp (ne + 1)) l r d n k)) :
  Calls Tryz.prog 97 #[.int .i64 least, .pointer (some ⟨p2, 0, none⟩), .pointer (some ⟨p6, 0, none⟩), .pointer (some ⟨p8, 0, none⟩), .pointer (some ⟨p3, 0, none⟩), .pointer (some ⟨p7, 0, none⟩), .pointer (some ⟨p5, 0, none⟩)] W
   (WP w M B7 p2 p3 p5 p6 p7 p8 (.slice (some ⟨nb, no, none⟩) m cap) 27 W v ts ne dp (l + 1) ([45] ++ r ++ []) (d + 1) (n + 1) (k + 2)) := by
 have hW := E.sz
 have X0 := VAt.alloc W 43 ngZ.cells.toArray
 have GA := World.grownBy_alloc W (.cells x.cells.toArray 43) none
 have EA := E.kept P hM GA
 have NA := NB.alloc W x
 have c2 := E.c2
 have c6 : W.cell? ⟨p6, 0, none⟩ = some (.int .i64 ((l : Int) + 1)) := VAt.cell E.lf 0
 have hw1 : IntKind.i64.wrap ((l : Int) + 1 - 1) = (l : Int) := by rw [IntKind.wrap_i64]; omega
 have hl0 : (0 : Int) ≤ (l : Int) := by omega
 have hl1 : (l : Int) < (m : Int) := by omega
 have HE : Hid (WEnv w M B7 p2 p3 p5 p6 p7 p8 (.slice (some ⟨nb, no, none⟩) m cap) 27 W v ts ne dp (l + 1)) := E
 have HEA : Hid (WEnv w M B7 p2 p3 p5 p6 p7 p8 (.slice (some ⟨nb, no, none⟩) m cap) 27 (W.alloc (.cells x.cells.toArray 43)) v ts ne dp (l + 1)) := EA
 have HX : Hid (W.rangeAt nb (no + l * 24) x.cells) := hx
 clear E EA hx
 go_enter Tryz.func97, Tryz.ntmps97
 go_upto_region 1 with (first | refine wpList_load_midG (by rfl) 43 (.tmp 13) rfl nb (no + l * 24) rfl x.cells _ HX.out Tryz.underlying43 rfl (ng_len x) ?_ | refine wpList_store_row rfl 43 (.tmp 8) (.tmp 14) rfl W.heap.size x.cells.toArray rfl rfl 43 _ X0 (ng_size x) rfl (ng_all x) ?_)
 rw [World.setRow_alloc_new]
 clear X0
 generalize W.alloc (.cells x.cells.toArray 43) = W0 at *
 generalize hBe : W.heap.size = B at *
 have HBE : Hid (W.heap.size = B) := hBe
 clear hBe
 have CR := rowOf_any x W0
 obtain ⟨X, hX⟩ : ∃ X, x.cells.toArray = X := ⟨_, rfl⟩
 have HV : VAt W0 B 43 X := hX ▸ NA
 have HZ : Hid ((Tryz.prog.info? 43).map (·.size) = some X.size) := hX ▸ ng_size x
 rw [hX] at CR ⊢
 have HXX : Hid (x.cells.toArray = X) := hX
 clear hX c2 c6 hw1
 obtain ⟨rr, hrr⟩ : ∃ rr, rowG x = rr := ⟨_, rfl⟩
 have HRR : Hid (rowG x = rr) := hrr
 rw [hrr] at *
 clear hrr
 go_upto_region 2 with (refine wpList_load_row rfl 43 (.tmp 8) rfl B rfl 43 X (0, 0) _ HV Tryz.underlying43 rfl HZ.out ?_)
 refine CR.mono ?_
 rintro e w1 ⟨rfl, G1⟩
 have HE1 : Hid (WEnv w M B7 p2 p3 p5 p6 p7 p8 (.slice (some ⟨nb, no, none⟩) m cap) 27 w1 v ts ne dp (l + 1)) := HEA.out.kept P hM G1
 have N1 : NB w1 B x := NB.kept NA G1
 have HG1 : Hid (W.grownBy w1 none) := grown_trans GA G1
 have c8 := HE1.out.c8
 clear CR G1 NA GA HEA HV HZ
 have f6 := VAt.free HE1.out.lf 0
 have c6 : w1.cell? ⟨p6, 0, none⟩ = some (.int .i64 ((l : Int) + 1)) := VAt.cell HE1.out.lf 0
 have hw1 : IntKind.i64.wrap ((l : Int) + 1 - 1) = (l : Int) := by rw [IntKind.wrap_i64]; omega
 have hBs := HE.out.sz
 have hB1 : B < w1.heap.size := VAt.lt N1
 clear c8
 go_upto_region 5 with fail
 obtain ⟨E2, K2⟩ := HE1.out.took P l
 have N2 : NB (w1.setCell ⟨p6, 0, none⟩ (.int .i64 (l : Int))) B x := VAt.setOther N1 _ (by have := P.l6; omega)
 have KW : Kp M (WS p5 p6 v) W (w1.setCell ⟨p6, 0, none⟩ (.int .i64 (l : Int))) := (Kp.none HG1.out (by omega)).trans K2
 generalize w1.setCell ⟨p6, 0, none⟩ (.int .i64 (l : Int)) = w2 at *
 have HE2 : Hid (WEnv w M B7 p2 p3 p5 p6 p7 p8 (.slice (some ⟨nb, no, none⟩) m cap) 27 w2 v ts ne dp l) := E2
 have HN2 : Hid (NB w2 B x) := N2
 have c8 := E2.c8
 have c3 := E2.c3
 have k0 := N2.kind
 rw [hk] at k0
 clear E2 K2 f6 c6 hw1 N1 N2
 have hvB : v.ownBlock ≠ some B := fun e => by have := (HE.out.out.2.lt B e).2; have := HBE.out; omega
 go_upto_region 10 with fail
 refine wp_region_held_drew (S := fun W => W.cell? ⟨p8, 0, none⟩ = some (.func (.func 94) #[] #[.pointer (some ⟨p5, 0, none⟩), .pointer (some ⟨p7, 0, none⟩)]) ∧ W.cell? ⟨p3, 0, none⟩ = some (.func (.func 27) #[] #[])) (by kernel_rfl) ⟨c8, c3⟩ (fun hHeld => ?_)
 refine wpT (i := 0) (v := .func (.func 94) #[] #[.pointer (some ⟨p5, 0, none⟩), .pointer (some ⟨p7, 0, none⟩)]) rfl (Or.inl ⟨by rfl, fun W hW => ?_⟩) hHeld ?_
 ·obtain ⟨y1, y2⟩ := hW
  go_simp
 try simp only [Act.put, a0, a1, a3, a4, a5]
 refine wpT (i := 1) (v := .func (.func 27) #[] #[]) rfl (Or.inl ⟨by rfl, fun W hW => ?_⟩) hHeld ?_
 ·obtain ⟨y1, y2⟩ := hW
  go_simp
 try simp only [Act.put, a0, a1, a2, a3, a4, a5]
 refine wpR (rs := [2]) (AllReadyH.cons rfl (fun K hK => ?_) AllReadyH.nil)
 go_simp
 refine (bare_F _ w2.drew).mono ?_
 rintro e w4 ⟨rfl, rfl⟩
 go_wp2_with fail
 refine hK.out _ _ hHeld (fun hHeld => ?_)
 clear hK K
 try simp only [Act.put, a0, a1, a2, a3, a4, a5]
 refine wpR (rs := [3]) (AllReadyH.cons rfl (fun K hK => ?_) AllReadyH.nil)
 go_simp
 have G25 : w2.grownBy w2.drew none := ⟨rfl, rfl, rfl, Nat.le_refl _, fun _ _ _ => rfl⟩
 have E5 := HE2.out.kept P hM G25
 have KW5 := KW.trans (Kp.none (n := M) (S := WS p5 p6 v) G25 (by have := HE2.out.sz; omega))
 refine (nested_any13 P E5 [45] [] 12 r d n k hne hts H).mono ?_
 rintro e w9 hw9
 obtain ⟨rfl, v9, R9, E9, g9, K9, h9⟩ := id hw9
 have HW9 : Hid (WP w M B7 p2 p3 p5 p6 p7 p8 (.slice (some ⟨nb, no, none⟩) m cap) 27 _ _ _ _ _ _ _ _ _ _ _ _) := hw9
 have y8 := E9.c8
 have y3 := E9.c3
 clear hw9 E9 g9 K9 h9
 go_wp2_with fail
 refine hK.out _ _ ⟨y8, y3⟩ (fun hHeld => ?_)
 clear hK K
 try simp only [Act.put, a0, a1, a2, a3, a4, a5]
 refine wpAnyH_done (by kernel_rfl) ?_ _
 go_wp2
 go_end0
 exact WP.took KW5 HW9.out
theorem cv_three (w : World) (a b c : List UInt8) (t : Nat) : CV (w.alloc (.cells #[str a, str b, str c] t)) (some ⟨w.heap.size, 0, none⟩) ([a, b, c].map str) := ⟨fun h => (by cases h), fun ad had j hj => by
 obtain rfl := Option.some.inj had
 have e : ((⟨w.heap.size, 0, none⟩ : Addr).add j) = ⟨w.heap.size, j, none⟩ := by unfold Addr.add; split <;> simp_all
 rw [e, VAt.cell (VAt.alloc w t #[str a, str b, str c]) j]
 simp at hj
 rcases (by omega : j = 0 ∨ j = 1 ∨ j = 2) with rfl | rfl | rfl <;> rfl⟩
set_option maxRecDepth 100000 in
set_option maxHeartbeats 8000000 in
theorem walk_two_S {w : World} {M B7 p2 p3 p5 p6 p7 p8 nb no m cap : Nat} (P : WPos M B7 p2 p3 p5 p6 p7 p8) (hM : M ≤ B7) {W : World} {v : Value} {ts : List (List UInt8)} {ne dp : Int} {l : Nat} (E : WEnv w M B7 p2 p3 p5 p6 p7 p8 (.slice (some ⟨nb, no, none⟩) m cap) 25 W v ts ne dp (l + 1)) (x : Ng) (hx : W.rangeAt nb (no + l * 24) x.cells) (hlt : l < m) (hm : m ≤ 1000000) (least : Int) (hr : ¬ rowG x < least) (hk : x.kind = 4 ∨ x.kind = 6 ∨ x.kind = 7 ∨ x.kind = 8) (hrow : 0 ≤ rowG x ∧ rowG x ≤ 12) (hsg : x.kind = 7 ∨ x.kind = 8 ∨ (x.kind = 6 ∧ 1 ≤ x.op ∧ x.op ≤ 6) ∨ (x.kind = 4 ∧ 1 ≤ x.op ∧ x.op ≤ 10)) (rp rq : List UInt8) (dp0 dq np nq kp kq : Nat) (hts : ts.length + kp + kq ≤ 900000) (H1 : ∀ W1, WEnv w M B7 p2 p3 p5 p6 p7 p8 (.slice (some ⟨nb, no, none⟩) m cap) 25 W1 v ts ne dp l → Calls Tryz.prog 97 #[.int .i64 (rowG x + 1), .pointer (some ⟨p2, 0, none⟩), .pointer (some ⟨p6, 0, none⟩), .pointer (some ⟨p8, 0, none⟩), .pointer (some ⟨p3, 0, none⟩), .pointer (some ⟨p7, 0, none⟩), .pointer (some ⟨p5, 0, none⟩)] W1 (WP w M B7 p2 p3 p5 p6 p7 p8 (.slice (some ⟨nb, no, none⟩) m cap) 25 W1 v ts ne dp l rq dq nq kq)) (H2 : ∀ W1 v1 R1 dp1, WEnv w M B7 p2 p3 p5 p6 p7 p8 (.slice (some ⟨nb, no, none⟩) m cap) 25 W1 v1 (ts ++ R1) ne dp1 (l - nq) → R1.length ≤ kq + 3 → Calls Tryz.prog 97 #[.int .i64 (rowG x), .pointer (some ⟨p2, 0, none⟩), .pointer (some ⟨p6, 0, none⟩), .pointer (some ⟨p8, 0, none⟩), .pointer (some ⟨p3, 0, none⟩), .pointer (some ⟨p7, 0, none⟩), .pointer (some ⟨p5, 0, none⟩)] W1 (WP w M B7 p2 p3 p5 p6 p7 p8 (.slice (some ⟨nb, no, none⟩) m cap) 25 W1 v1 (ts ++ R1) ne dp1 (l - nq) rp dp0 np kp)) :
  Calls Tryz.prog 97 #[.int .i64 least, .pointer (some ⟨p2, 0, none⟩), .pointer (some ⟨p6, 0, none⟩), .pointer (some ⟨p8, 0, none⟩), .pointer (some ⟨p3, 0, none⟩), .pointer (some ⟨p7, 0, none⟩), .pointer (some ⟨p5, 0, none⟩)] W
   (WP w M B7 p2 p3 p5 p6 p7 p8 (.slice (some ⟨nb, no, none⟩) m cap) 25 W v ts ne dp (l + 1) (rp ++ [32] ++ signT x ++ [32] ++ rq) (max dp0 dq) (np + nq + 1) (kq + 3 + kp)) := by
 rcases hk with hk | hk | hk | hk
 all_goals
  have hW := E.sz
  have X0 := VAt.alloc W 43 ngZ.cells.toArray
  have GA := World.grownBy_alloc W (.cells x.cells.toArray 43) none
  have EA := E.kept P hM GA
  have NA := NB.alloc W x
  have c2 := E.c2
  have c6 : W.cell? ⟨p6, 0, none⟩ = some (.int .i64 ((l : Int) + 1)) := VAt.cell E.lf 0
  have hw1 : IntKind.i64.wrap ((l : Int) + 1 - 1) = (l : Int) := by rw [IntKind.wrap_i64]; omega
  have hl0 : (0 : Int) ≤ (l : Int) := by omega
  have hl1 : (l : Int) < (m : Int) := by omega
  have HE : Hid (WEnv w M B7 p2 p3 p5 p6 p7 p8 (.slice (some ⟨nb, no, none⟩) m cap) 25 W v ts ne dp (l + 1)) := E
  have HEA : Hid (WEnv w M B7 p2 p3 p5 p6 p7 p8 (.slice (some ⟨nb, no, none⟩) m cap) 25 (W.alloc (.cells x.cells.toArray 43)) v ts ne dp (l + 1)) := EA
  have HX : Hid (W.rangeAt nb (no + l * 24) x.cells) := hx
  clear E EA hx
  go_enter Tryz.func97, Tryz.ntmps97
  go_upto_region 1 with (first | refine wpList_load_midG (by rfl) 43 (.tmp 13) rfl nb (no + l * 24) rfl x.cells _ HX.out Tryz.underlying43 rfl (ng_len x) ?_ | refine wpList_store_row rfl 43 (.tmp 8) (.tmp 14) rfl W.heap.size x.cells.toArray rfl rfl 43 _ X0 (ng_size x) rfl (ng_all x) ?_)
  rw [World.setRow_alloc_new]
  clear X0
  generalize W.alloc (.cells x.cells.toArray 43) = W0 at *
  generalize hBe : W.heap.size = B at *
  have HBE : Hid (W.heap.size = B) := hBe
  clear hBe
  have CR := rowOf_any x W0
  obtain ⟨X, hX⟩ : ∃ X, x.cells.toArray = X := ⟨_, rfl⟩
  have HV : VAt W0 B 43 X := hX ▸ NA
  have HZ : Hid ((Tryz.prog.info? 43).map (·.size) = some X.size) := hX ▸ ng_size x
  rw [hX] at CR ⊢
  have HXX : Hid (x.cells.toArray = X) := hX
  clear hX c2 c6 hw1
  obtain ⟨rr, hrr⟩ : ∃ rr, rowG x = rr := ⟨_, rfl⟩
  have HRR : Hid (rowG x = rr) := hrr
  rw [hrr] at *
  clear hrr
  go_upto_region 2 with (refine wpList_load_row rfl 43 (.tmp 8) rfl B rfl 43 X (0, 0) _ HV Tryz.underlying43 rfl HZ.out ?_)
  refine CR.mono ?_
  rintro e w1 ⟨rfl, G1⟩
  have HE1 : Hid (WEnv w M B7 p2 p3 p5 p6 p7 p8 (.slice (some ⟨nb, no, none⟩) m cap) 25 w1 v ts ne dp (l + 1)) := HEA.out.kept P hM G1
  have N1 : NB w1 B x := NB.kept NA G1
  have HG1 : Hid (W.grownBy w1 none) := grown_trans GA G1
  have c8 := HE1.out.c8
  clear CR G1 NA GA HEA HV HZ
  have f6 := VAt.free HE1.out.lf 0
  have c6 : w1.cell? ⟨p6, 0, none⟩ = some (.int .i64 ((l : Int) + 1)) := VAt.cell HE1.out.lf 0
  have hw1 : IntKind.i64.wrap ((l : Int) + 1 - 1) = (l : Int) := by rw [IntKind.wrap_i64]; omega
  have hBs := HE.out.sz
  have hB1 : B < w1.heap.size := VAt.lt N1
  clear c8
  go_upto_region 5 with fail
  obtain ⟨E2, K2⟩ := HE1.out.took P l
  have N2 : NB (w1.setCell ⟨p6, 0, none⟩ (.int .i64 (l : Int))) B x := VAt.setOther N1 _ (by have := P.l6; omega)
  have KW : Kp M (WS p5 p6 v) W (w1.setCell ⟨p6, 0, none⟩ (.int .i64 (l : Int))) := (Kp.none HG1.out (by omega)).trans K2
  generalize w1.setCell ⟨p6, 0, none⟩ (.int .i64 (l : Int)) = w2 at *
  have HE2 : Hid (WEnv w M B7 p2 p3 p5 p6 p7 p8 (.slice (some ⟨nb, no, none⟩) m cap) 25 w2 v ts ne dp l) := E2
  have HN2 : Hid (NB w2 B x) := N2
  have c8 := E2.c8
  have c3 := E2.c3
  have k0 := N2.kind
  rw [hk] at k0
  clear E2 K2 f6 c6 hw1 N1 N2
  have hvB : v.ownBlock ≠ some B := fun e => by have := (HE.out.out.2.lt B e).2; have := HBE.out; omega
  have c7 := HE2.out.c7
  have hwr : IntKind.i64.wrap (rowG x + 1) = rowG x + 1 := by rw [IntKind.wrap_i64]; omega
  have CS := fun W0 => shsign_any x W0 hsg
  rw [HXX.out] at CS
  clear hsg
  go_upto_region 17 with fail
  refine wp_region_held_drew (S := fun W => W.cell? ⟨p7, 0, none⟩ = some (.func (.func 97) #[] #[.pointer (some ⟨p2, 0, none⟩), .pointer (some ⟨p6, 0, none⟩), .pointer (some ⟨p8, 0, none⟩), .pointer (some ⟨p3, 0, none⟩), .pointer (some ⟨p7, 0, none⟩), .pointer (some ⟨p5, 0, none⟩)]) ∧ W.cell? ⟨p3, 0, none⟩ = some (.func (.func 25) #[] #[])) (by kernel_rfl) ⟨c7, c3⟩ (fun hHeld => ?_)
  refine wpT (i := 0) (v := .func (.func 97) #[] #[.pointer (some ⟨p2, 0, none⟩), .pointer (some ⟨p6, 0, none⟩), .pointer (some ⟨p8, 0, none⟩), .pointer (some ⟨p3, 0, none⟩), .pointer (some ⟨p7, 0, none⟩), .pointer (some ⟨p5, 0, none⟩)]) rfl (Or.inl ⟨by rfl, fun W hW => ?_⟩) hHeld ?_
  ·obtain ⟨y1, y2⟩ := hW
   go_simp
  try simp only [Act.put, a0, a1, a3, a4, a5]
  refine wpT (i := 1) (v := .func (.func 25) #[] #[]) rfl (Or.inl ⟨by rfl, fun W hW => ?_⟩) hHeld ?_
  ·obtain ⟨y1, y2⟩ := hW
   go_simp
  try simp only [Act.put, a0, a1, a2, a3, a4, a5]
  refine wpT (i := 2) (v := .int .i64 (rowG x)) rfl (Or.inl ⟨by rfl, fun W hW => ?_⟩) hHeld ?_
  ·clear hW
   go_simp
  try simp only [Act.put, a0, a1, a2, a3, a4, a5]
  refine wpT (i := 3) (v := .int .i64 (rowG x + 1)) rfl (Or.inl ⟨by rfl, fun W hW => ?_⟩) hHeld ?_
  ·clear hW
   go_simp
  try simp only [Act.put, a0, a1, a2, a3, a4, a5]
  refine wpR (rs := [4]) (AllReadyH.cons rfl (fun K hK => ?_) AllReadyH.nil)
  go_simp
  refine (bare_S _ w2.drew).mono ?_
  rintro e w4 ⟨rfl, rfl⟩
  go_wp2_with fail
  refine hK.out _ _ hHeld (fun hHeld => ?_)
  clear hK K
  try simp only [Act.put, a0, a1, a2, a3, a4, a5]
  refine wpR (rs := [5]) (AllReadyH.cons rfl (fun K hK => ?_) AllReadyH.nil)
  go_simp
  have G25 : w2.grownBy w2.drew none := ⟨rfl, rfl, rfl, Nat.le_refl _, fun _ _ _ => rfl⟩
  have E5 := HE2.out.kept P hM G25
  have hs2 := HE2.out.sz
  have KW5 := KW.trans (Kp.none (n := M) (S := WS p5 p6 v) G25 (by omega))
  have N5 : NB w2.drew B x := NB.kept HN2.out G25
  refine (H1 w2.drew E5).mono ?_
  rintro e w9 ⟨rfl, v9, R9, E9, g9, K9, h9, k9⟩
  have y7 := E9.c7
  have y3 := E9.c3
  have hB5 : B ≠ p5 ∧ B ≠ p6 := by have := P.l5; have := P.l6; omega
  have N9 : NB w9 B x := K9.2 B _ ⟨hB5.1, hB5.2, hvB⟩ N5 rfl
  have HE9 : Hid (WEnv w M B7 p2 p3 p5 p6 p7 p8 (.slice (some ⟨nb, no, none⟩) m cap) 25 w9 v9 (ts ++ R9) ne (max dp (ne + (dq : Int))) (l - nq)) := E9
  have KA : Kp M (WS p5 p6 v) W w9 := KW5.trans K9
  have gA : OwnGo W.heap.size v.ownBlock v9 := g9.mono KW5.1.size
  clear E9 K9 g9 N5 E5 KW5 KW H1
  go_wp2_with fail
  refine hK.out _ _ ⟨y7, y3⟩ (fun hHeld => ?_)
  clear hK K
  try simp only [Act.put, a0, a1, a2, a3, a4, a5]
  refine wpAnyH_done (by kernel_rfl) ?_ _
  have HV9 : VAt w9 B 43 X := HXX.out ▸ N9
  have HZN : Hid ((Tryz.prog.info? 43).map (·.size) = some X.size) := HXX.out ▸ ng_size x
  clear y7 y3 c7 c3 c8 k0
  go_wp2_with (refine wpList_load_row rfl 43 (.tmp 8) rfl B rfl 43 X (0, 0) _ HV9 Tryz.underlying43 rfl HZN.out ?_)
  refine (CS w9).mono ?_
  rintro e w10 ⟨rfl, G10⟩
  have HE10 : Hid (WEnv w M B7 p2 p3 p5 p6 p7 p8 (.slice (some ⟨nb, no, none⟩) m cap) 25 w10 v9 (ts ++ R9) ne (max dp (ne + (dq : Int))) (l - nq)) := HE9.out.kept P hM G10
  have hP := put_any13 M B7 p5 w10.heap.size 3 [[32], signT x, [32]] (ts ++ R9) v9 ne (max dp (ne + (dq : Int))) (w10.alloc (.cells #[str [32], str (signT x), str [32]] 9)) P.m5 P.l5.1 (by have := HE10.out.sz; simp; omega) HE10.out.sz (by simp) (HE10.out.out.kept (World.grownBy_alloc _ _ _)) (fun e => by have := (HE10.out.out.2.lt _ e).2; omega) (cv_three w10 _ _ _ _) (by simp) (by simp; omega)
  clear CS HV9 HZN hHeld
  go_upto_region 19 with (refine hP.mono ?_; rintro e w11 ⟨rfl, ⟨v11, hO11, g11⟩, K11⟩)
  have GA6 := World.grownBy_alloc w10 (.cells #[str [32], str (signT x), str [32]] 9) none
  have hs9 := HE9.out.sz
  have hs10 := HE10.out.sz
  have E11 := (HE10.out.kept P hM GA6).wrote P K11 hO11 HE10.out.nd
  have KB : Kp M (WS p5 p6 v9) w9 w11 := (Kp.none (n := M) (S := WS p5 p6 v9) G10 (by omega)).trans ((Kp.none (n := M) (S := WS p5 p6 v9) GA6 (by omega)).trans (kp_wr K11))
  have gB : OwnGo w9.heap.size v9.ownBlock v11 := g11.mono (by have := G10.size; have := GA6.size; omega)
  have KAB := kp_then KA gA KB
  have gAB := gA.trans gB KA.1.size
  rw [List.append_assoc] at E11
  have HE11 : Hid (WEnv w M B7 p2 p3 p5 p6 p7 p8 (.slice (some ⟨nb, no, none⟩) m cap) 25 w11 v11 (ts ++ (R9 ++ [[32], signT x, [32]].reverse)) ne (max dp (ne + (dq : Int))) (l - nq)) := E11
  have c7 := E11.c7
  have c3 := E11.c3
  clear hP E11 GA6 G10 K11 hO11 g11 KA gA KB gB N9
  refine wp_region_held_drew (S := fun W => W.cell? ⟨p7, 0, none⟩ = some (.func (.func 97) #[] #[.pointer (some ⟨p2, 0, none⟩), .pointer (some ⟨p6, 0, none⟩), .pointer (some ⟨p8, 0, none⟩), .pointer (some ⟨p3, 0, none⟩), .pointer (some ⟨p7, 0, none⟩), .pointer (some ⟨p5, 0, none⟩)]) ∧ W.cell? ⟨p3, 0, none⟩ = some (.func (.func 25) #[] #[])) (by kernel_rfl) ⟨c7, c3⟩ (fun hHeld => ?_)
  refine wpT (i := 0) (v := .func (.func 97) #[] #[.pointer (some ⟨p2, 0, none⟩), .pointer (some ⟨p6, 0, none⟩), .pointer (some ⟨p8, 0, none⟩), .pointer (some ⟨p3, 0, none⟩), .pointer (some ⟨p7, 0, none⟩), .pointer (some ⟨p5, 0, none⟩)]) rfl (Or.inl ⟨by rfl, fun W hW => ?_⟩) hHeld ?_
  ·obtain ⟨y1, y2⟩ := hW
   go_simp
  try simp only [Act.put, a0, a1, a3, a4, a5]
  refine wpT (i := 1) (v := .func (.func 25) #[] #[]) rfl (Or.inl ⟨by rfl, fun W hW => ?_⟩) hHeld ?_
  ·obtain ⟨y1, y2⟩ := hW
   go_simp
  try simp only [Act.put, a0, a1, a2, a3, a4, a5]
  refine wpT (i := 2) (v := .int .i64 (rowG x)) rfl (Or.inl ⟨by rfl, fun W hW => ?_⟩) hHeld ?_
  ·clear hW
   go_simp
  try simp only [Act.put, a0, a1, a2, a3, a4, a5]
  refine wpR (rs := [3]) (AllReadyH.cons rfl (fun K hK => ?_) AllReadyH.nil)
  go_simp
  refine (bare_S _ w11.drew).mono ?_
  rintro e w4 ⟨rfl, rfl⟩
  go_wp2_with fail
  refine hK.out _ _ hHeld (fun hHeld => ?_)
  clear hK K
  try simp only [Act.put, a0, a1, a2, a3, a4, a5]
  refine wpR (rs := [4]) (AllReadyH.cons rfl (fun K hK => ?_) AllReadyH.nil)
  go_simp
  have G35 : w11.grownBy w11.drew none := ⟨rfl, rfl, rfl, Nat.le_refl _, fun _ _ _ => rfl⟩
  have E15 := HE11.out.kept P hM G35
  have KAD := KAB.trans (Kp.none (n := M) (S := WS p5 p6 v) G35 (by have := HE11.out.sz; omega))
  refine (H2 w11.drew v11 _ _ E15 (by simp; omega)).mono ?_
  rintro e w12 ⟨rfl, v12, R12, E12, g12, K12, h12, k12⟩
  have z7 := E12.c7
  have z3 := E12.c3
  have HE12 : Hid (WEnv w M B7 p2 p3 p5 p6 p7 p8 (.slice (some ⟨nb, no, none⟩) m cap) 25 w12 v12 (ts ++ (R9 ++ [[32], signT x, [32]].reverse) ++ R12) ne (max (max dp (ne + (dq : Int))) (ne + (dp0 : Int))) (l - nq - np)) := E12
  have KF := kp_then KAD gAB K12
  have gF := gAB.trans g12 KAD.1.size
  clear E12 K12 g12 KAD E15 H2
  go_wp2_with fail
  refine hK.out _ _ ⟨z7, z3⟩ (fun hHeld => ?_)
  clear hK K
  try simp only [Act.put, a0, a1, a2, a3, a4, a5]
  refine wpAnyH_done (by kernel_rfl) ?_ _
  go_wp2
  go_end0
  have e1 : max (max dp (ne + (dq : Int))) (ne + (dp0 : Int)) = max dp (ne + ((max dp0 dq : Nat) : Int)) := by omega
  have e2 : l - nq - np = l + 1 - (np + nq + 1) := by omega
  have E := HE12.out
  rw [e1, e2, List.append_assoc] at E
  exact ⟨rfl, v12, _, E, gF, KF, by simp [h9, h12], by simp; omega⟩

end Go.Proofs.YtklipelnjgpnjaaGreatDoor
