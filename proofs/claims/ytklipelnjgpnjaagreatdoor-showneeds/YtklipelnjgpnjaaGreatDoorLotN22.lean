import Derived.Test.YtklipelnjgpnjaaGreatDoorLotN21
import Derived.Test.YtklipelnjgpnjaaGreatDoorLotN10
set_option maxHeartbeats 64000000
set_option maxRecDepth 100000
namespace Go.Proofs.YtklipelnjgpnjaaGreatDoor
open Go.RowKit
theorem aR4 (w : World) (c0 c1 c2 c3 c4 c5 c6 : Array Value) (t0 t1 t2 t3 t4 t5 t6 : Nat) (W : World) (hW : (((((((w.alloc (.cells c0 t0)).alloc (.cells c1 t1)).alloc (.cells c2 t2)).alloc (.cells c3 t3)).alloc (.cells c4 t4)).alloc (.cells c5 t5)).alloc (.cells c6 t6)) = W) :
  VAt W w.heap.size t0 c0 ∧ VAt W (w.heap.size + 1) t1 c1 ∧ VAt W (w.heap.size + 1 + 1) t2 c2 ∧ VAt W (w.heap.size + 1 + 1 + 1) t3 c3 ∧ VAt W (w.heap.size + 1 + 1 + 1 + 1) t4 c4 ∧ VAt W (w.heap.size + 1 + 1 + 1 + 1 + 1) t5 c5 ∧ VAt W (w.heap.size + 1 + 1 + 1 + 1 + 1 + 1) t6 c6 ∧ w.grownBy W none ∧ W.heap.size = w.heap.size + 1 + 1 + 1 + 1 + 1 + 1 + 1 := by
 obtain ⟨w1, h1⟩ : ∃ w1, w.alloc (.cells c0 t0) = w1 := ⟨_, rfl⟩
 obtain ⟨w2, h2⟩ : ∃ w2, w1.alloc (.cells c1 t1) = w2 := ⟨_, rfl⟩
 obtain ⟨w3, h3⟩ : ∃ w3, w2.alloc (.cells c2 t2) = w3 := ⟨_, rfl⟩
 obtain ⟨w4, h4⟩ : ∃ w4, w3.alloc (.cells c3 t3) = w4 := ⟨_, rfl⟩
 obtain ⟨w5, h5⟩ : ∃ w5, w4.alloc (.cells c4 t4) = w5 := ⟨_, rfl⟩
 obtain ⟨w6, h6⟩ : ∃ w6, w5.alloc (.cells c5 t5) = w6 := ⟨_, rfl⟩
 rw [h1, h2, h3, h4, h5, h6] at hW
 have s1 : w1.heap.size = w.heap.size + 1 := by rw [← h1]; simp
 have s2 : w2.heap.size = w.heap.size + 1 + 1 := by rw [← h2, ← s1]; simp
 have s3 : w3.heap.size = w.heap.size + 1 + 1 + 1 := by rw [← h3, ← s2]; simp
 have s4 : w4.heap.size = w.heap.size + 1 + 1 + 1 + 1 := by rw [← h4, ← s3]; simp
 have s5 : w5.heap.size = w.heap.size + 1 + 1 + 1 + 1 + 1 := by rw [← h5, ← s4]; simp
 have s6 : w6.heap.size = w.heap.size + 1 + 1 + 1 + 1 + 1 + 1 := by rw [← h6, ← s5]; simp
 have s7 : W.heap.size = w.heap.size + 1 + 1 + 1 + 1 + 1 + 1 + 1 := by rw [← hW, ← s6]; simp
 have g1 : w.grownBy w1 none := h1 ▸ World.grownBy_alloc _ _ _
 have g2 : w1.grownBy w2 none := h2 ▸ World.grownBy_alloc _ _ _
 have g3 : w2.grownBy w3 none := h3 ▸ World.grownBy_alloc _ _ _
 have g4 : w3.grownBy w4 none := h4 ▸ World.grownBy_alloc _ _ _
 have g5 : w4.grownBy w5 none := h5 ▸ World.grownBy_alloc _ _ _
 have g6 : w5.grownBy w6 none := h6 ▸ World.grownBy_alloc _ _ _
 have g7 : w6.grownBy W none := hW ▸ World.grownBy_alloc _ _ _
 have a0 : VAt w1 w.heap.size t0 c0 := h1 ▸ VAt.alloc _ _ _
 have a1 : VAt w2 w1.heap.size t1 c1 := h2 ▸ VAt.alloc _ _ _
 have a2 : VAt w3 w2.heap.size t2 c2 := h3 ▸ VAt.alloc _ _ _
 have a3 : VAt w4 w3.heap.size t3 c3 := h4 ▸ VAt.alloc _ _ _
 have a4 : VAt w5 w4.heap.size t4 c4 := h5 ▸ VAt.alloc _ _ _
 have a5 : VAt w6 w5.heap.size t5 c5 := h6 ▸ VAt.alloc _ _ _
 have a6 : VAt W w6.heap.size t6 c6 := hW ▸ VAt.alloc _ _ _
 rw [s1] at a1
 rw [s2] at a2
 rw [s3] at a3
 rw [s4] at a4
 rw [s5] at a5
 rw [s6] at a6
 exact ⟨(((((a0.kept g2).kept g3).kept g4).kept g5).kept g6).kept g7, ((((a1.kept g3).kept g4).kept g5).kept g6).kept g7, (((a2.kept g4).kept g5).kept g6).kept g7, ((a3.kept g5).kept g6).kept g7, (a4.kept g6).kept g7, a5.kept g7, a6, d3 (d3 (d3 (d3 (d3 (d3 g1 g2) g3) g4) g5) g6) g7, s7⟩
theorem b0z {bf : Nat} {full : Bool} (HB : ∀ (l : Int) (w : World), Calls Tryz.prog bf #[.int .i64 l] w fun e w' => e = .returned (.int .i64 (gfB full l)) ∧ w' = w) (HF : ∀ (xs : Array Value) (w : World), (callFunc bf xs).run Tryz.prog w = .ok (.enter bf xs) w) (nb no cap : Nat) (t : List Ng) (T : Tr) (hw : T.Wf) (hty : T.Typed) (hf : T.flat = t) (hok : ∀ x ∈ t, NOK x) (hm : t.length ≤ 50000) (w : World) (HT : ∀ W, Below w.heap.size w W → j2 W) (C : CV w (some ⟨nb, no, none⟩) (p9 t)) :
  Calls Tryz.prog 45 #[.slice (some ⟨nb, no, none⟩) t.length cap, .func (.func bf) #[] #[]] w fun e w' => ∃ v ts, e = .returned (.agg #[v, .int .i64 0, .int .i64 ((T.txt full).2 : Int)]) ∧ w'.ownsRow w.heap.size 9 1 v ts.length (ts.map str) ∧ ts.reverse.flatten = (T.txt full).1 ∧ ts.length ≤ 800000 ∧ (ts = [] → (T.txt full).1 = []) ∧ w.grownBy w' none := by
 have HC : Hid (CV w (some ⟨nb, no, none⟩) (p9 t)) := C
 clear C
 go_enter Tryz.func45, Tryz.ntmps45
 go_upto_region 6 with fail
 obtain ⟨W, hW⟩ : ∃ W, (((((((w.alloc (.cells #[.slice (some ⟨nb, no, none⟩) t.length cap] 22)).alloc (.cells #[.func (.func bf) #[] #[]] 44)).alloc (.cells #[.slice none 0 0, .int .i64 0, .int .i64 0] 87)).alloc (.cells #[.slice none 0 0, .int .i64 0, .int .i64 0] 87)).alloc (.cells #[.int .i64 (t.length : Int)] 3)).alloc (.cells #[.func (.func 97) #[] #[.pointer (some ⟨w.heap.size, 0, none⟩), .pointer (some ⟨w.heap.size + 1 + 1 + 1 + 1, 0, none⟩), .pointer (some ⟨w.heap.size + 1 + 1 + 1 + 1 + 1 + 1, 0, none⟩), .pointer (some ⟨w.heap.size + 1, 0, none⟩), .pointer (some ⟨w.heap.size + 1 + 1 + 1 + 1 + 1, 0, none⟩), .pointer (some ⟨w.heap.size + 1 + 1 + 1, 0, none⟩)]] 117)).alloc (.cells #[.func (.func 94) #[] #[.pointer (some ⟨w.heap.size + 1 + 1 + 1, 0, none⟩), .pointer (some ⟨w.heap.size + 1 + 1 + 1 + 1 + 1, 0, none⟩)]] 119)) = W := ⟨_, rfl⟩
 rw [hW]
 obtain ⟨A0, A1, A2, A3, A4, A5, A6, GW, hs⟩ := aR4 w _ _ _ _ _ _ _ _ _ _ _ _ _ _ W hW
 clear hW
 have P : a05 w.heap.size (w.heap.size + 1 + 1 + 1 + 1 + 1 + 1 + 1) w.heap.size (w.heap.size + 1) (w.heap.size + 1 + 1 + 1) (w.heap.size + 1 + 1 + 1 + 1) (w.heap.size + 1 + 1 + 1 + 1 + 1) (w.heap.size + 1 + 1 + 1 + 1 + 1 + 1) := by constructor <;> omega
 have E : j5 w w.heap.size (w.heap.size + 1 + 1 + 1 + 1 + 1 + 1 + 1) w.heap.size (w.heap.size + 1) (w.heap.size + 1 + 1 + 1) (w.heap.size + 1 + 1 + 1 + 1) (w.heap.size + 1 + 1 + 1 + 1 + 1) (w.heap.size + 1 + 1 + 1 + 1 + 1 + 1) (.slice (some ⟨nb, no, none⟩) t.length cap) bf W (.slice none 0 0) [] 0 0 (0 + T.flat.length) :=
  ⟨a1c GW, by omega, VAt.cell A0 0, VAt.cell A1 0, VAt.cell A5 0, VAt.cell A6 0, by rw [hf, Nat.zero_add]; exact A4, ⟨A3, World.ownsRow_nil _ _ _ _⟩, ⟨by decide, by decide⟩⟩
 have HROW : ∀ W, Below w.heap.size w W → ∀ i x, t[i]? = some x → W.rangeAt nb (no + i * 24) x.cells := fun W hW i x hx => by
  obtain ⟨hi, rfl⟩ := List.getElem?_eq_some_iff.1 hx
  obtain ⟨b', o', e', hc'⟩ := (HC.out.keptNone (a0t hW)).ngs hi
  simp only [Option.some.injEq, Addr.mk.injEq] at e'
  obtain ⟨rfl, rfl, -⟩ := e'
  exact hc' i hi
 have C1 := a4W HB HF P (by omega) t (by omega) HT HROW T hw hty (by rw [hf]; exact hok) 0 [] (by simp [hf]) 1 (by decide) W _ _ _ _ E (by rw [hf]; omega) (by rw [hf]; simp; omega)
 have c7 := E.c7
 have hl1 : T.flat.length ≤ 50000 := by rw [hf]; exact hm
 rw [decide_eq_false (show ¬ d5 T.root < 1 by have := (a4H T.root).1; omega)] at C1
 have HS : Hid (W.heap.size = w.heap.size + 1 + 1 + 1 + 1 + 1 + 1 + 1) := hs
 have HC1 : Hid (Calls _ _ _ _ _) := C1
 have HP : Hid (a05 _ _ _ _ _ _ _ _) := P
 have HA2 : Hid (VAt W (w.heap.size + 1 + 1) 87 #[.slice none 0 0, .int .i64 0, .int .i64 0]) := A2
 have HL1 : Hid (T.flat.length ≤ 50000) := hl1
 have HGW : Hid (w.grownBy W none) := GW
 clear E HROW A0 A1 A3 A4 A5 A6 hs C1 hf hl1 hok hm hty hw A2 P GW HT
 go_upto_region 7 with fail
 refine HC1.out.mono ?_
 clear HC1 c7
 rintro e W2 ⟨rfl, v, R, E2, g2, K2, hr, hk⟩
 have A2' : VAt W2 (w.heap.size + 1 + 1) 87 #[.slice none 0 0, .int .i64 0, .int .i64 0] := K2.2 _ _ ⟨by omega, by omega, by simp [Value.ownBlock]⟩ HA2.out rfl
 have O2 := E2.out.2
 obtain ⟨ao, n2, c2, rfl⟩ : ∃ ao n c, v = .slice ao n c := by rcases O2.2 with ⟨rfl, -⟩ | ⟨g, cap, cur, rfl, -⟩ <;> exact ⟨_, _, _, rfl⟩
 have HA2' : Hid (VAt W2 _ _ _) := A2'
 have r0 := VAt.cell A2' 0
 have r1 := VAt.cell A2' 1
 have r2 := VAt.cell A2' 2
 have f0 := VAt.free A2' 0
 have f1 := VAt.free A2' 1
 have f2 := VAt.free A2' 2
 obtain ⟨b0, b1, b2⟩ := E2.out.cell
 have HK2 : Hid (Kp _ _ _ _) := K2
 have HO2 : Hid (World.ownsRow _ _ _ _ _ _ _) := O2
 have HRK : Hid (R.reverse.flatten = _ ∧ R.length ≤ _) := ⟨hr, hk⟩
 have HV2 : Hid (VAt W2 _ _ _) := E2.out.1
 clear E2 g2 K2 O2 hr hk A2'
 go_wp2
 have V3 := ((HA2'.out.set 0 (.slice ao n2 c2)).set 1 (.int .i64 0)).set 2 (.int .i64 ((y9 false (T.txt full)).2 : Int))
 have K3 : ∀ k, k ≠ w.heap.size + 1 + 1 → ((((W2.setCell ⟨w.heap.size + 1 + 1, 0, none⟩ (.slice ao n2 c2)).setCell ⟨w.heap.size + 1 + 1, 1, none⟩ (.int .i64 0)).setCell ⟨w.heap.size + 1 + 1, 2, none⟩ (.int .i64 ((y9 false (T.txt full)).2 : Int))).heap[k]? = W2.heap[k]?) := fun k hk => by
  rw [Below.heap_setCell _ _ _ _ hk, Below.heap_setCell _ _ _ _ hk, Below.heap_setCell _ _ _ _ hk]
 have S3 : (((W2.setCell ⟨w.heap.size + 1 + 1, 0, none⟩ (.slice ao n2 c2)).setCell ⟨w.heap.size + 1 + 1, 1, none⟩ (.int .i64 0)).setCell ⟨w.heap.size + 1 + 1, 2, none⟩ (.int .i64 ((y9 false (T.txt full)).2 : Int))).heap.size = W2.heap.size := by simp [World.setCell]
 have B3 : Below w.heap.size W2 (((W2.setCell ⟨w.heap.size + 1 + 1, 0, none⟩ (.slice ao n2 c2)).setCell ⟨w.heap.size + 1 + 1, 1, none⟩ (.int .i64 0)).setCell ⟨w.heap.size + 1 + 1, 2, none⟩ (.int .i64 ((y9 false (T.txt full)).2 : Int))) := (((Below.refl _ _).setCell (p := ⟨w.heap.size + 1 + 1, 0, none⟩) (by show w.heap.size ≤ w.heap.size + 1 + 1; omega) _).setCell (p := ⟨w.heap.size + 1 + 1, 1, none⟩) (by show w.heap.size ≤ w.heap.size + 1 + 1; omega) _).setCell (p := ⟨w.heap.size + 1 + 1, 2, none⟩) (by show w.heap.size ≤ w.heap.size + 1 + 1; omega) _
 generalize (((W2.setCell ⟨w.heap.size + 1 + 1, 0, none⟩ (.slice ao n2 c2)).setCell ⟨w.heap.size + 1 + 1, 1, none⟩ (.int .i64 0)).setCell ⟨w.heap.size + 1 + 1, 2, none⟩ (.int .i64 ((y9 false (T.txt full)).2 : Int))) = W3 at *
 have V4 : VAt W3 (w.heap.size + 1 + 1) 87 #[.slice ao n2 c2, .int .i64 0, .int .i64 ((y9 false (T.txt full)).2 : Int)] := V3
 have HZ : (Tryz.prog.info? 87).map (·.size) = some (#[Value.slice ao n2 c2, .int .i64 0, .int .i64 ((y9 false (T.txt full)).2 : Int)] : Array Value).size := by kernel_rfl
 refine bodyPost_ret (results_cell_row rfl _ _ (w.heap.size + 1 + 1) 87 _ (0, 0) _ rfl V4 Tryz.underlying87 rfl HZ) rfl ?_
 obtain ⟨hr, hk⟩ := HRK.out
 have O2 := HO2.out
 rw [List.nil_append] at O2
 have O3 : W3.ownsRow w.heap.size 9 1 (.slice ao n2 c2) R.length (R.map str) := by
  refine ⟨O2.1, ?_⟩
  rcases O2.2 with h | ⟨g, cap', cur, e, hb, hg, rest⟩
  ·exact .inl h
  ·exact .inr ⟨g, cap', cur, e, by omega, (K3 g (by omega)).trans hg, rest⟩
 refine ⟨_, R, rfl, O3, hr, by have := HL1.out; omega, fun h => ?_, a0t ((a1c HGW.out).trans (HK2.out.1.trans B3))⟩
 rw [h] at hr
 exact hr.symm

end Go.Proofs.YtklipelnjgpnjaaGreatDoor
