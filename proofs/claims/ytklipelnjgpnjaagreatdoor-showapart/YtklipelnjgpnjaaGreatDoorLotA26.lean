import Derived.Test.YtklipelnjgpnjaaGreatDoorAb
import Derived.Test.YtklipelnjgpnjaaGreatDoorLotA7
import Derived.Test.YtklipelnjgpnjaaGreatDoorLotA25
import Derived.Test.YtklipelnjgpnjaaGreatDoorLotA10
namespace Go.Proofs.YtklipelnjgpnjaaGreatDoor
open Go.RowKit
set_option maxRecDepth 100000
theorem WP.from {w : World} {M B7 p2 p3 p5 p6 p7 p8 : Nat} {sl : Value} {bf : Nat} {W W1 : World} {v : Value} {ts : List (List UInt8)} {ne dp : Int} {left : Nat} {r : List UInt8} {d n k : Nat} {e : Ending} {W' : World} (G : W.grownBy W1 none) (hM : M ≤ W.heap.size) (h : WP w M B7 p2 p3 p5 p6 p7 p8 sl bf W1 v ts ne dp left r d n k e W') : WP w M B7 p2 p3 p5 p6 p7 p8 sl bf W v ts ne dp left r d n k e W' := by
 obtain ⟨he, v', R, E, g, K, hr, hk⟩ := h
 exact ⟨he, v', R, E, g.mono G.size, (Kp.none G hM).trans K, hr, hk⟩
theorem WP.took {w : World} {M B7 p2 p3 p5 p6 p7 p8 : Nat} {sl : Value} {bf : Nat} {W W1 : World} {v : Value} {ts : List (List UInt8)} {ne dp : Int} {left : Nat} {r : List UInt8} {d n k : Nat} {e : Ending} {W' : World} (K : Kp M (WS p5 p6 v) W W1) (h : WP w M B7 p2 p3 p5 p6 p7 p8 sl bf W1 v ts ne dp left r d n k e W') : WP w M B7 p2 p3 p5 p6 p7 p8 sl bf W v ts ne dp (left + 1) r d (n + 1) k e W' := by
 obtain ⟨he, v', R, E, g, K', hr, hk⟩ := h
 exact ⟨he, v', R, by rw [Nat.add_sub_add_right]; exact E, g.mono K.1.size, K.trans K', hr, hk⟩
theorem WEnv.took {w : World} {M B7 p2 p3 p5 p6 p7 p8 : Nat} {sl : Value} {bf : Nat} {W : World} {v : Value} {ts : List (List UInt8)} {ne dp : Int} {left : Nat} (P : WPos M B7 p2 p3 p5 p6 p7 p8) (E : WEnv w M B7 p2 p3 p5 p6 p7 p8 sl bf W v ts ne dp left) (l : Nat) :
  WEnv w M B7 p2 p3 p5 p6 p7 p8 sl bf (W.setCell ⟨p6, 0, none⟩ (.int .i64 (l : Int))) v ts ne dp l ∧ Kp M (WS p5 p6 v) W (W.setCell ⟨p6, 0, none⟩ (.int .i64 (l : Int))) := by
 have K : Kp M (WS p5 p6 v) W (W.setCell ⟨p6, 0, none⟩ (.int .i64 (l : Int))) := ⟨(Below.refl _ _).setCell (p := ⟨p6, 0, none⟩) P.m6 _, fun k o hk ho _ => (Below.heap_setCell _ _ _ _ hk.2.1).trans ho⟩
 exact ⟨E.next P K (VAt.set E.lf 0 _) ⟨VAt.setOther E.out.1 _ P.l5.2, World.ownsRow.kept E.out.2 (row := some p6) ⟨rfl, rfl, rfl, by simp [World.setCell], fun k _ hk => Below.heap_setCell _ _ _ _ (fun e => hk (by rw [e]))⟩ (.inr (E.own P.l6))⟩ E.nd, K⟩
set_option maxRecDepth 100000 in
set_option maxHeartbeats 4000000 in
theorem walk_br {w : World} {M B7 p2 p3 p5 p6 p7 p8 nb no m cap bf : Nat} (P : WPos M B7 p2 p3 p5 p6 p7 p8) (hM : M ≤ B7) {W : World} {v : Value} {ts : List (List UInt8)} {ne dp : Int} {l : Nat} (E : WEnv w M B7 p2 p3 p5 p6 p7 p8 (.slice (some ⟨nb, no, none⟩) m cap) bf W v ts ne dp (l + 1)) (x : Ng) (hx : W.rangeAt nb (no + l * 24) x.cells) (hlt : l < m) (hm : m ≤ 1000000) (least : Int) (hr : rowG x < least) (r : List UInt8) (d n k : Nat) (hne : ne ≤ 900000) (hts : ts.length + k ≤ 900000) (H : ∀ W1 v1, WEnv w M B7 p2 p3 p5 p6 p7 p8 (.slice (some ⟨nb, no, none⟩) m cap) bf W1 v1 (ts ++ [[41]]) (ne + 1) (max dp (ne + 1)) (l + 1) → Calls Tryz.prog 97 #[.int .i64 1, .pointer (some ⟨p2, 0, none⟩), .pointer (some ⟨p6, 0, none⟩), .pointer (some ⟨p8, 0, none⟩), .pointer (some ⟨p3, 0, none⟩), .pointer (some ⟨p7, 0, none⟩), .pointer (some ⟨p5, 0, none⟩)] W1 (WP w M B7 p2 p3 p5 p6 p7 p8 (.slice (some ⟨nb, no, none⟩) m cap) bf W1 v1 (ts ++ [[41]]) (ne + 1) (max dp (ne + 1)) (l + 1) r d n k)) :
  Calls Tryz.prog 97 #[.int .i64 least, .pointer (some ⟨p2, 0, none⟩), .pointer (some ⟨p6, 0, none⟩), .pointer (some ⟨p8, 0, none⟩), .pointer (some ⟨p3, 0, none⟩), .pointer (some ⟨p7, 0, none⟩), .pointer (some ⟨p5, 0, none⟩)] W
   (WP w M B7 p2 p3 p5 p6 p7 p8 (.slice (some ⟨nb, no, none⟩) m cap) bf W v ts ne dp (l + 1) ([40] ++ r ++ [41]) (d + 1) n (k + 2)) := by
 have hW := E.sz
 have X0 := VAt.alloc W 43 ngZ.cells.toArray
 have GA := World.grownBy_alloc W (.cells x.cells.toArray 43) none
 have EA := E.kept P hM GA
 have NA := NB.alloc W x
 have c2 := E.c2
 have c6 : W.cell? ⟨p6, 0, none⟩ = some (.int .i64 ((l : Int) + 1)) := VAt.cell E.lf 0
 have hw1 : IntKind.i64.wrap ((l : Int) + 1 - 1) = (l : Int) := by rw [IntKind.wrap_i64]; omega
 have hl0 : (0 : Int) ≤ (l : Int) := by omega
 have hl1 : (l : Int) < (m : Int) := by omega
 have HE : Hid (WEnv w M B7 p2 p3 p5 p6 p7 p8 (.slice (some ⟨nb, no, none⟩) m cap) bf W v ts ne dp (l + 1)) := E
 have HEA : Hid (WEnv w M B7 p2 p3 p5 p6 p7 p8 (.slice (some ⟨nb, no, none⟩) m cap) bf (W.alloc (.cells x.cells.toArray 43)) v ts ne dp (l + 1)) := EA
 have HX : Hid (W.rangeAt nb (no + l * 24) x.cells) := hx
 clear E EA hx
 go_enter Tryz.func97, Tryz.ntmps97
 go_upto_region 1 with (first | refine wpList_load_midG (by rfl) 43 (.tmp 13) rfl nb (no + l * 24) rfl x.cells _ HX.out Tryz.underlying43 rfl (ng_len x) ?_ | refine wpList_store_row rfl 43 (.tmp 8) (.tmp 14) rfl W.heap.size x.cells.toArray rfl rfl 43 _ X0 (ng_size x) rfl (ng_all x) ?_)
 rw [World.setRow_alloc_new]
 clear X0
 generalize W.alloc (.cells x.cells.toArray 43) = W0 at *
 generalize hBe : W.heap.size = B at *
 have HBE : Hid (W.heap.size = B) := hBe
 clear hBe
 have CR := rowOf_any x W0
 obtain ⟨X, hX⟩ : ∃ X, x.cells.toArray = X := ⟨_, rfl⟩
 have HV : VAt W0 B 43 X := hX ▸ NA
 have HZ : Hid ((Tryz.prog.info? 43).map (·.size) = some X.size) := hX ▸ ng_size x
 rw [hX] at CR ⊢
 have HXX : Hid (x.cells.toArray = X) := hX
 clear hX c2 c6 hw1
 obtain ⟨rr, hrr⟩ : ∃ rr, rowG x = rr := ⟨_, rfl⟩
 have HRR : Hid (rowG x = rr) := hrr
 rw [hrr] at *
 clear hrr
 go_upto_region 2 with (refine wpList_load_row rfl 43 (.tmp 8) rfl B rfl 43 X (0, 0) _ HV Tryz.underlying43 rfl HZ.out ?_)
 refine CR.mono ?_
 rintro e w1 ⟨rfl, G1⟩
 have HE1 : Hid (WEnv w M B7 p2 p3 p5 p6 p7 p8 (.slice (some ⟨nb, no, none⟩) m cap) bf w1 v ts ne dp (l + 1)) := HEA.out.kept P hM G1
 have N1 : NB w1 B x := NB.kept NA G1
 have HG1 : Hid (W.grownBy w1 none) := grown_trans GA G1
 have c8 := HE1.out.c8
 clear CR G1 NA GA HEA HV HZ
 go_wp2_with (refine (nested_any13 P HE1.out [40] [41] 1 r d n k hne hts H).mono ?_; rintro e w2 hw2; have hf := hw2.1; subst hf)
 go_end0
 exact WP.from HG1.out (by have := HE.out.sz; omega) hw2
set_option maxRecDepth 100000 in
set_option maxHeartbeats 4000000 in
theorem walk_load {w : World} {M B7 p2 p3 p5 p6 p7 p8 nb no m cap bf : Nat} (P : WPos M B7 p2 p3 p5 p6 p7 p8) (hM : M ≤ B7) {W : World} {v : Value} {ts : List (List UInt8)} {ne dp : Int} {l : Nat} (E : WEnv w M B7 p2 p3 p5 p6 p7 p8 (.slice (some ⟨nb, no, none⟩) m cap) bf W v ts ne dp (l + 1)) (x : Ng) (hx : W.rangeAt nb (no + l * 24) x.cells) (hlt : l < m) (hm : m ≤ 1000000) (least : Int) (hr : ¬ rowG x < least) (hk : x.kind = 3) (hz : 1 ≤ x.size ∧ x.size ≤ 4) (hT : ∀ W, Below M w W → TabA W) (r : List UInt8) (d n k : Nat) (hne : ne ≤ 900000) (hts : ts.length + k ≤ 900000) (H : ∀ W1 v1, WEnv w M B7 p2 p3 p5 p6 p7 p8 (.slice (some ⟨nb, no, none⟩) m cap) bf W1 v1 (ts ++ [sizeT x.size ++ [93]]) (ne + 1) (max dp (ne + 1)) l → Calls Tryz.prog 97 #[.int .i64 1, .pointer (some ⟨p2, 0, none⟩), .pointer (some ⟨p6, 0, none⟩), .pointer (some ⟨p8, 0, none⟩), .pointer (some ⟨p3, 0, none⟩), .pointer (some ⟨p7, 0, none⟩), .pointer (some ⟨p5, 0, none⟩)] W1 (WP w M B7 p2 p3 p5 p6 p7 p8 (.slice (some ⟨nb, no, none⟩) m cap) bf W1 v1 (ts ++ [sizeT x.size ++ [93]]) (ne + 1) (max dp (ne + 1)) l r d n k)) :
  Calls Tryz.prog 97 #[.int .i64 least, .pointer (some ⟨p2, 0, none⟩), .pointer (some ⟨p6, 0, none⟩), .pointer (some ⟨p8, 0, none⟩), .pointer (some ⟨p3, 0, none⟩), .pointer (some ⟨p7, 0, none⟩), .pointer (some ⟨p5, 0, none⟩)] W
   (WP w M B7 p2 p3 p5 p6 p7 p8 (.slice (some ⟨nb, no, none⟩) m cap) bf W v ts ne dp (l + 1) ((nameT x.of ++ [91]) ++ r ++ (sizeT x.size ++ [93])) (d + 1) (n + 1) (k + 2)) := by
 have hW := E.sz
 have X0 := VAt.alloc W 43 ngZ.cells.toArray
 have GA := World.grownBy_alloc W (.cells x.cells.toArray 43) none
 have EA := E.kept P hM GA
 have NA := NB.alloc W x
 have c2 := E.c2
 have c6 : W.cell? ⟨p6, 0, none⟩ = some (.int .i64 ((l : Int) + 1)) := VAt.cell E.lf 0
 have hw1 : IntKind.i64.wrap ((l : Int) + 1 - 1) = (l : Int) := by rw [IntKind.wrap_i64]; omega
 have hl0 : (0 : Int) ≤ (l : Int) := by omega
 have hl1 : (l : Int) < (m : Int) := by omega
 have HE : Hid (WEnv w M B7 p2 p3 p5 p6 p7 p8 (.slice (some ⟨nb, no, none⟩) m cap) bf W v ts ne dp (l + 1)) := E
 have HEA : Hid (WEnv w M B7 p2 p3 p5 p6 p7 p8 (.slice (some ⟨nb, no, none⟩) m cap) bf (W.alloc (.cells x.cells.toArray 43)) v ts ne dp (l + 1)) := EA
 have HX : Hid (W.rangeAt nb (no + l * 24) x.cells) := hx
 clear E EA hx
 go_enter Tryz.func97, Tryz.ntmps97
 go_upto_region 1 with (first | refine wpList_load_midG (by rfl) 43 (.tmp 13) rfl nb (no + l * 24) rfl x.cells _ HX.out Tryz.underlying43 rfl (ng_len x) ?_ | refine wpList_store_row rfl 43 (.tmp 8) (.tmp 14) rfl W.heap.size x.cells.toArray rfl rfl 43 _ X0 (ng_size x) rfl (ng_all x) ?_)
 rw [World.setRow_alloc_new]
 clear X0
 generalize W.alloc (.cells x.cells.toArray 43) = W0 at *
 generalize hBe : W.heap.size = B at *
 have HBE : Hid (W.heap.size = B) := hBe
 clear hBe
 have CR := rowOf_any x W0
 obtain ⟨X, hX⟩ : ∃ X, x.cells.toArray = X := ⟨_, rfl⟩
 have HV : VAt W0 B 43 X := hX ▸ NA
 have HZ : Hid ((Tryz.prog.info? 43).map (·.size) = some X.size) := hX ▸ ng_size x
 rw [hX] at CR ⊢
 have HXX : Hid (x.cells.toArray = X) := hX
 clear hX c2 c6 hw1
 obtain ⟨rr, hrr⟩ : ∃ rr, rowG x = rr := ⟨_, rfl⟩
 have HRR : Hid (rowG x = rr) := hrr
 rw [hrr] at *
 clear hrr
 go_upto_region 2 with (refine wpList_load_row rfl 43 (.tmp 8) rfl B rfl 43 X (0, 0) _ HV Tryz.underlying43 rfl HZ.out ?_)
 refine CR.mono ?_
 rintro e w1 ⟨rfl, G1⟩
 have HE1 : Hid (WEnv w M B7 p2 p3 p5 p6 p7 p8 (.slice (some ⟨nb, no, none⟩) m cap) bf w1 v ts ne dp (l + 1)) := HEA.out.kept P hM G1
 have N1 : NB w1 B x := NB.kept NA G1
 have HG1 : Hid (W.grownBy w1 none) := grown_trans GA G1
 have c8 := HE1.out.c8
 clear CR G1 NA GA HEA HV HZ
 have f6 := VAt.free HE1.out.lf 0
 have c6 : w1.cell? ⟨p6, 0, none⟩ = some (.int .i64 ((l : Int) + 1)) := VAt.cell HE1.out.lf 0
 have hw1 : IntKind.i64.wrap ((l : Int) + 1 - 1) = (l : Int) := by rw [IntKind.wrap_i64]; omega
 have hBs := HE.out.sz
 have hB1 : B < w1.heap.size := VAt.lt N1
 clear c8
 go_upto_region 5 with fail
 obtain ⟨E2, K2⟩ := HE1.out.took P l
 have N2 : NB (w1.setCell ⟨p6, 0, none⟩ (.int .i64 (l : Int))) B x := VAt.setOther N1 _ (by have := P.l6; omega)
 have KW : Kp M (WS p5 p6 v) W (w1.setCell ⟨p6, 0, none⟩ (.int .i64 (l : Int))) := (Kp.none HG1.out (by omega)).trans K2
 generalize w1.setCell ⟨p6, 0, none⟩ (.int .i64 (l : Int)) = w2 at *
 have HE2 : Hid (WEnv w M B7 p2 p3 p5 p6 p7 p8 (.slice (some ⟨nb, no, none⟩) m cap) bf w2 v ts ne dp l) := E2
 have HN2 : Hid (NB w2 B x) := N2
 have c8 := E2.c8
 have c3 := E2.c3
 have k0 := N2.kind
 rw [hk] at k0
 clear E2 K2 f6 c6 hw1 N1 N2
 have hvB : v.ownBlock ≠ some B := fun e => by have := (HE.out.out.2.lt B e).2; have := HBE.out; omega
 have HTT : Hid (∀ W, Below M w W → TabA W) := hT
 clear hT
 have k5 := HN2.out.of
 have k4 := HN2.out.size
 have HSZ := fun W0 hW0 => size13_any x.size ⟨by omega, by omega⟩ W0 hW0
 have hnl := name_len x.of
 have q1 : (nameT x.of).length ≤ 9223372036854775806 := by omega
 have q2 : (sizeT x.size).length ≤ 9223372036854775806 := by
  rcases (by omega : x.size = 1 ∨ x.size = 2 ∨ x.size = 3 ∨ x.size = 4) with e | e | e | e <;> rw [e] <;> decide
 go_upto_region 8 with fail
 have KD : Kp M (WS p5 p6 v) w2 w2.drew := kp_drew w2
 refine wp_region_held_drew (S := fun W => W.cell? ⟨p8, 0, none⟩ = some (.func (.func 94) #[] #[.pointer (some ⟨p5, 0, none⟩), .pointer (some ⟨p7, 0, none⟩)]) ∧ W.cell? ⟨B, 5, none⟩ = some (.int .i64 x.of) ∧ W.cell? ⟨B, 4, none⟩ = some (.int .i64 x.size)) (by kernel_rfl) ⟨c8, k5, k4⟩ (fun hHeld => ?_)
 refine wpT (i := 0) (v := .func (.func 94) #[] #[.pointer (some ⟨p5, 0, none⟩), .pointer (some ⟨p7, 0, none⟩)]) rfl (Or.inl ⟨by rfl, fun W hW => ?_⟩) hHeld ?_
 ·obtain ⟨y1, y2, y3⟩ := hW
  go_simp
 try simp only [Act.put, a0, a1, a3, a4, a5]
 refine wpT (i := 1) (v := .pointer (some ⟨B, 5, none⟩)) rfl (Or.inl ⟨by rfl, fun W hW => ?_⟩) hHeld ?_
 ·clear hW
  go_simp
 try simp only [Act.put, a0, a1, a2, a3, a4, a5]
 refine wpT (i := 2) (v := .int .i64 x.of) rfl (Or.inl ⟨by rfl, fun W hW => ?_⟩) hHeld ?_
 ·obtain ⟨y1, y2, y3⟩ := hW
  go_simp
 try simp only [Act.put, a0, a1, a2, a3, a4, a5]
 refine wpT (i := 5) (v := .pointer (some ⟨B, 4, none⟩)) rfl (Or.inl ⟨by rfl, fun W hW => ?_⟩) hHeld ?_
 ·clear hW
  go_simp
 try simp only [Act.put, a0, a1, a2, a3, a4, a5]
 refine wpT (i := 6) (v := .int .i64 x.size) rfl (Or.inl ⟨by rfl, fun W hW => ?_⟩) hHeld ?_
 ·obtain ⟨y1, y2, y3⟩ := hW
  go_simp
 try simp only [Act.put, a0, a1, a2, a3, a4, a5]
 refine wpR (rs := [3]) (AllReadyH.cons rfl (fun K hK => ?_) AllReadyH.nil)
 go_simp
 refine (shname_any x.of w2.drew).mono ?_
 rintro e w4 ⟨rfl, rfl⟩
 go_wp2_with fail
 refine hK.out _ _ hHeld (fun hHeld => ?_)
 clear hK K
 try simp only [Act.put, a0, a1, a2, a3, a4, a5]
 refine wpT (i := 4) (v := .string (⟨(nameT x.of).toArray⟩ ++ ⟨#[91]⟩)) rfl (Or.inl ⟨by rfl, fun W hW => ?_⟩) hHeld ?_
 ·clear hW
  go_simp
 try simp only [Act.put, a0, a1, a2, a3, a4, a5]
 refine wpR (rs := [7]) (AllReadyH.cons rfl (fun K hK => ?_) AllReadyH.nil)
 go_simp
 refine (HSZ w2.drew (HTT.out w2.drew (HE2.out.up.drew))).mono ?_
 rintro e w5 ⟨rfl, G5⟩
 go_wp2_with fail
 refine hK.out _ _ ⟨G5.cell hHeld.1 (by simp), G5.cell hHeld.2.1 (by simp), G5.cell hHeld.2.2 (by simp)⟩ (fun hHeld => ?_)
 clear hK K
 try simp only [Act.put, a0, a1, a2, a3, a4, a5]
 refine wpT (i := 8) (v := .string (⟨(sizeT x.size).toArray⟩ ++ ⟨#[93]⟩)) rfl (Or.inl ⟨by rfl, fun W hW => ?_⟩) hHeld ?_
 ·clear hW
  go_simp
 try simp only [Act.put, a0, a1, a2, a3, a4, a5]
 refine wpR (rs := [9]) (AllReadyH.cons rfl (fun K hK => ?_) AllReadyH.nil)
 go_simp
 have G25 : w2.grownBy w5 none := ⟨G5.os, G5.tape, G5.output, G5.size, G5.block⟩
 have E5 := HE2.out.kept P hM G25
 have KW5 := KW.trans (Kp.none (n := M) (S := WS p5 p6 v) G25 (by have := HE2.out.sz; omega))
 rw [show (⟨(nameT x.of).toArray⟩ ++ ⟨#[91]⟩ : ByteArray) = ⟨(nameT x.of ++ [91]).toArray⟩ from cat _ [91], show (⟨(sizeT x.size).toArray⟩ ++ ⟨#[93]⟩ : ByteArray) = ⟨(sizeT x.size ++ [93]).toArray⟩ from cat _ [93]]
 refine (nested_any13 P E5 (nameT x.of ++ [91]) (sizeT x.size ++ [93]) 1 r d n k hne hts H).mono ?_
 rintro e w9 hw9
 obtain ⟨rfl, v9, R9, E9, g9, K9, h9⟩ := id hw9
 have HW9 : Hid (WP w M B7 p2 p3 p5 p6 p7 p8 (.slice (some ⟨nb, no, none⟩) m cap) bf _ _ _ _ _ _ _ _ _ _ _ _) := hw9
 have y8 := E9.c8
 have hB5 : B ≠ p5 ∧ B ≠ p6 := by have := P.l5; have := P.l6; omega
 have yB : w9.cell? ⟨B, 5, none⟩ = some (.int .i64 x.of) ∧ w9.cell? ⟨B, 4, none⟩ = some (.int .i64 x.size) := ⟨K9.cell (.inr ⟨hB5.1, hB5.2, hvB⟩) hHeld.2.1, K9.cell (.inr ⟨hB5.1, hB5.2, hvB⟩) hHeld.2.2⟩
 clear hw9 E9 g9 K9 h9
 go_wp2_with fail
 refine hK.out _ _ ⟨y8, yB⟩ (fun hHeld => ?_)
 clear hK K
 try simp only [Act.put, a0, a1, a2, a3, a4, a5]
 refine wpAnyH_done (by kernel_rfl) ?_ _
 go_wp2
 go_end0
 exact WP.took KW5 HW9.out
set_option maxRecDepth 100000 in
set_option maxHeartbeats 4000000 in
theorem walk_leaf {w : World} {M B7 p2 p3 p5 p6 p7 p8 nb no m cap bf : Nat} (P : WPos M B7 p2 p3 p5 p6 p7 p8) (hM : M ≤ B7) {W : World} {v : Value} {ts : List (List UInt8)} {ne dp : Int} {l : Nat} (E : WEnv w M B7 p2 p3 p5 p6 p7 p8 (.slice (some ⟨nb, no, none⟩) m cap) bf W v ts ne dp (l + 1)) (x : Ng) (hx : W.rangeAt nb (no + l * 24) x.cells) (hlt : l < m) (hm : m ≤ 1000000) (least : Int) (hr : ¬ rowG x < least) (kk : Int) (hk : x.kind = kk) (hkn : kk ≠ 3 ∧ kk ≠ 4 ∧ kk ≠ 5 ∧ kk ≠ 6 ∧ kk ≠ 7 ∧ kk ≠ 8 ∧ kk ≠ 9) (ha : arG x.kind = some 0) (hf : formG x = true) (hrg : rangeE x = 0) (hn : x.n ≤ 4294967295) (hm4 : x.m ≤ 4294967295) (hT : ∀ W, Below M w W → TabA W) (hts : ts.length ≤ 900000) :
  Calls Tryz.prog 97 #[.int .i64 least, .pointer (some ⟨p2, 0, none⟩), .pointer (some ⟨p6, 0, none⟩), .pointer (some ⟨p8, 0, none⟩), .pointer (some ⟨p3, 0, none⟩), .pointer (some ⟨p7, 0, none⟩), .pointer (some ⟨p5, 0, none⟩)] W
   (WP w M B7 p2 p3 p5 p6 p7 p8 (.slice (some ⟨nb, no, none⟩) m cap) bf W v ts ne dp (l + 1) (leafT x) 0 1 1) := by
 have hW := E.sz
 have X0 := VAt.alloc W 43 ngZ.cells.toArray
 have GA := World.grownBy_alloc W (.cells x.cells.toArray 43) none
 have EA := E.kept P hM GA
 have NA := NB.alloc W x
 have c2 := E.c2
 have c6 : W.cell? ⟨p6, 0, none⟩ = some (.int .i64 ((l : Int) + 1)) := VAt.cell E.lf 0
 have hw1 : IntKind.i64.wrap ((l : Int) + 1 - 1) = (l : Int) := by rw [IntKind.wrap_i64]; omega
 have hl0 : (0 : Int) ≤ (l : Int) := by omega
 have hl1 : (l : Int) < (m : Int) := by omega
 have HE : Hid (WEnv w M B7 p2 p3 p5 p6 p7 p8 (.slice (some ⟨nb, no, none⟩) m cap) bf W v ts ne dp (l + 1)) := E
 have HEA : Hid (WEnv w M B7 p2 p3 p5 p6 p7 p8 (.slice (some ⟨nb, no, none⟩) m cap) bf (W.alloc (.cells x.cells.toArray 43)) v ts ne dp (l + 1)) := EA
 have HX : Hid (W.rangeAt nb (no + l * 24) x.cells) := hx
 clear E EA hx
 go_enter Tryz.func97, Tryz.ntmps97
 go_upto_region 1 with (first | refine wpList_load_midG (by rfl) 43 (.tmp 13) rfl nb (no + l * 24) rfl x.cells _ HX.out Tryz.underlying43 rfl (ng_len x) ?_ | refine wpList_store_row rfl 43 (.tmp 8) (.tmp 14) rfl W.heap.size x.cells.toArray rfl rfl 43 _ X0 (ng_size x) rfl (ng_all x) ?_)
 rw [World.setRow_alloc_new]
 clear X0
 generalize W.alloc (.cells x.cells.toArray 43) = W0 at *
 generalize hBe : W.heap.size = B at *
 have HBE : Hid (W.heap.size = B) := hBe
 clear hBe
 have CR := rowOf_any x W0
 obtain ⟨X, hX⟩ : ∃ X, x.cells.toArray = X := ⟨_, rfl⟩
 have HV : VAt W0 B 43 X := hX ▸ NA
 have HZ : Hid ((Tryz.prog.info? 43).map (·.size) = some X.size) := hX ▸ ng_size x
 rw [hX] at CR ⊢
 have HXX : Hid (x.cells.toArray = X) := hX
 clear hX c2 c6 hw1
 obtain ⟨rr, hrr⟩ : ∃ rr, rowG x = rr := ⟨_, rfl⟩
 have HRR : Hid (rowG x = rr) := hrr
 rw [hrr] at *
 clear hrr
 go_upto_region 2 with (refine wpList_load_row rfl 43 (.tmp 8) rfl B rfl 43 X (0, 0) _ HV Tryz.underlying43 rfl HZ.out ?_)
 refine CR.mono ?_
 rintro e w1 ⟨rfl, G1⟩
 have HE1 : Hid (WEnv w M B7 p2 p3 p5 p6 p7 p8 (.slice (some ⟨nb, no, none⟩) m cap) bf w1 v ts ne dp (l + 1)) := HEA.out.kept P hM G1
 have N1 : NB w1 B x := NB.kept NA G1
 have HG1 : Hid (W.grownBy w1 none) := grown_trans GA G1
 have c8 := HE1.out.c8
 clear CR G1 NA GA HEA HV HZ
 have f6 := VAt.free HE1.out.lf 0
 have c6 : w1.cell? ⟨p6, 0, none⟩ = some (.int .i64 ((l : Int) + 1)) := VAt.cell HE1.out.lf 0
 have hw1 : IntKind.i64.wrap ((l : Int) + 1 - 1) = (l : Int) := by rw [IntKind.wrap_i64]; omega
 have hBs := HE.out.sz
 have hB1 : B < w1.heap.size := VAt.lt N1
 clear c8
 go_upto_region 5 with fail
 obtain ⟨E2, K2⟩ := HE1.out.took P l
 have N2 : NB (w1.setCell ⟨p6, 0, none⟩ (.int .i64 (l : Int))) B x := VAt.setOther N1 _ (by have := P.l6; omega)
 have KW : Kp M (WS p5 p6 v) W (w1.setCell ⟨p6, 0, none⟩ (.int .i64 (l : Int))) := (Kp.none HG1.out (by omega)).trans K2
 generalize w1.setCell ⟨p6, 0, none⟩ (.int .i64 (l : Int)) = w2 at *
 have HE2 : Hid (WEnv w M B7 p2 p3 p5 p6 p7 p8 (.slice (some ⟨nb, no, none⟩) m cap) bf w2 v ts ne dp l) := E2
 have HN2 : Hid (NB w2 B x) := N2
 have c8 := E2.c8
 have c3 := E2.c3
 have k0 := N2.kind
 rw [hk] at k0
 clear E2 K2 f6 c6 hw1 N1 N2
 have hvB : v.ownBlock ≠ some B := fun e => by have := (HE.out.out.2.lt B e).2; have := HBE.out; omega
 have HTT : Hid (∀ W, Below M w W → TabA W) := hT
 clear hT
 have u3 : (kk == 3) = false := by rw [beq_eq_false_iff_ne]; omega
 have u4 : (kk == 4) = false := by rw [beq_eq_false_iff_ne]; omega
 have u5 : (kk == 5) = false := by rw [beq_eq_false_iff_ne]; omega
 have u6 : (kk == 6) = false := by rw [beq_eq_false_iff_ne]; omega
 have u7 : (kk == 7) = false := by rw [beq_eq_false_iff_ne]; omega
 have u8 : (kk == 8) = false := by rw [beq_eq_false_iff_ne]; omega
 have u9 : (kk == 9) = false := by rw [beq_eq_false_iff_ne]; omega
 have CL := fun W0 h0 => shleaf_any x W0 h0 ha hf hrg hn hm4
 rw [HXX.out] at CL
 clear ha hf hrg hn hm4 c8 c3
 have HVN : VAt w2 B 43 X := HXX.out ▸ HN2.out
 have HZN : Hid ((Tryz.prog.info? 43).map (·.size) = some X.size) := HXX.out ▸ ng_size x
 go_upto_region 6 with fail
 go_wp2_with (refine wpList_load_row rfl 43 (.tmp 8) rfl B rfl 43 X (0, 0) _ HVN Tryz.underlying43 rfl HZN.out ?_)
 refine (CL _ (HTT.out _ HE2.out.up)).mono ?_
 rintro e w5 ⟨rfl, G5⟩
 have HE5 : Hid (WEnv w M B7 p2 p3 p5 p6 p7 p8 (.slice (some ⟨nb, no, none⟩) m cap) bf w5 v ts ne dp l) := HE2.out.kept P hM G5
 have hP := put_any13 M B7 p5 w5.heap.size 1 [leafT x] ts v ne dp (w5.alloc (.cells #[str (leafT x)] 9)) P.m5 P.l5.1 (by have := HE5.out.sz; simp; omega) HE5.out.sz (by simp) (HE5.out.out.kept (World.grownBy_alloc _ _ _)) (fun e => by have := (HE5.out.out.2.lt _ e).2; omega) (cv_one w5 _ _) (by simp) (by omega)
 clear HVN HZN CL
 go_wp2_with (refine hP.mono ?_; rintro e w6 ⟨rfl, ⟨v6, hO6, g6⟩, K6⟩)
 go_end0
 have GA6 := World.grownBy_alloc w5 (.cells #[str (leafT x)] 9) none
 have E6 := (HE5.out.kept P hM GA6).wrote P K6 hO6 HE5.out.nd
 have hs5 := HE5.out.sz
 have KX := (KW.trans (Kp.none (n := M) (S := WS p5 p6 v) G5 (by have := HE2.out.sz; omega))).trans ((Kp.none (n := M) (S := WS p5 p6 v) GA6 (by omega)).trans (kp_wr K6))
 exact ⟨rfl, v6, [leafT x], by rw [show max dp (ne + ((0 : Nat) : Int)) = dp by have := HE5.out.nd; omega]; exact E6, g6.mono (by have := KW.1.size; have := G5.size; have := GA6.size; omega), KX, by simp, by simp⟩

end Go.Proofs.YtklipelnjgpnjaaGreatDoor
