import Derived.Test.YtcodofamdhcfiaaGreatLotP5
import Derived.Deep.WholeRow
import Derived.Test.YtcodofamdhcfiaaGreatLotP1
namespace Go.Proofs.YtcodofamdhcfiaaGreat
open Go.RowKit
set_option maxRecDepth 100000
theorem two_views (w : World) (t s : Nat) (ds cs : Array Value) :
  VAt ((w.alloc (.cells ds t)).alloc (.cells cs s)) w.heap.size t ds ∧ VAt ((w.alloc (.cells ds t)).alloc (.cells cs s)) (w.heap.size + 1) s cs ∧ w.grownBy ((w.alloc (.cells ds t)).alloc (.cells cs s)) none := by
 have A0 := VAt.alloc w t ds
 have A1 := VAt.alloc (w.alloc (.cells ds t)) s cs
 have K1 := World.grownBy_alloc (w.alloc (.cells ds t)) (.cells cs s) none
 rw [show (w.alloc (.cells ds t)).heap.size = w.heap.size + 1 by simp] at A1
 exact ⟨A0.kept K1, A1, grown_trans (World.grownBy_alloc w _ none) K1⟩
theorem mod_and_u8 (h k : Nat) (hh : h < 256) (hk : k ≤ 8) : bits .and .u8 (h : Int) ((2 ^ k - 1 : Nat) : Int) = ((h % 2 ^ k : Nat) : Int) := by
 have hlt : 2 ^ k ≤ 2 ^ 8 := Nat.pow_le_pow_right (by decide) hk
 have := u8_and_nat h (2 ^ k - 1) hh (by omega)
 rw [this, Nat.and_two_pow_sub_one_eq_mod]
theorem and15 (x : Nat) (h : x < 256) : bits BinOp.and IntKind.u8 (x : Int) 15 = ((x % 16 : Nat) : Int) := by
 have := mod_and_u8 x 4 h (by decide)
 exact this
theorem and31 (x : Nat) (h : x < 256) : bits BinOp.and IntKind.u8 (x : Int) 31 = ((x % 32 : Nat) : Int) := by
 have := mod_and_u8 x 5 h (by decide)
 exact this
theorem two_sets {w wa : World} {L R t : Nat} {v : Vw} (LA : VAt wa L t (vwA v)) (RA : VAt wa R t (vwA Vw.zero)) (G : w.grownBy wa none) (hRL : R ≠ L) (hL : w.heap.size ≤ L) (n1 n2 : Nat) :
  VAt ((wa.setCell ⟨L, 6, none⟩ (.int .i64 (n1 : Int))).setCell ⟨L, 7, none⟩ (.int .i64 (n2 : Int))) L t (vwA { v with net := n1, next := n2 })
  ∧ VAt ((wa.setCell ⟨L, 6, none⟩ (.int .i64 (n1 : Int))).setCell ⟨L, 7, none⟩ (.int .i64 (n2 : Int))) R t (vwA Vw.zero)
  ∧ w.grownBy ((wa.setCell ⟨L, 6, none⟩ (.int .i64 (n1 : Int))).setCell ⟨L, 7, none⟩ (.int .i64 (n2 : Int))) none :=
 ⟨(LA.set 6 _).set 7 _, (RA.setOther _ hRL).setOther _ hRL, grown_setCell (grown_setCell G _ _ (.inr hL)) _ _ (.inr hL)⟩
theorem three_sets {w wa : World} {L R t : Nat} {v : Vw} (LA : VAt wa L t (vwA v)) (RA : VAt wa R t (vwA Vw.zero)) (G : w.grownBy wa none) (hRL : R ≠ L) (hL : w.heap.size ≤ L) (n1 n2 n3 : Nat) :
  VAt (((wa.setCell ⟨L, 6, none⟩ (.int .i64 (n1 : Int))).setCell ⟨L, 7, none⟩ (.int .i64 (n2 : Int))).setCell ⟨L, 8, none⟩ (.int .i64 (n3 : Int))) L t (vwA { v with net := n1, next := n2, load := n3 })
  ∧ VAt (((wa.setCell ⟨L, 6, none⟩ (.int .i64 (n1 : Int))).setCell ⟨L, 7, none⟩ (.int .i64 (n2 : Int))).setCell ⟨L, 8, none⟩ (.int .i64 (n3 : Int))) R t (vwA Vw.zero)
  ∧ w.grownBy (((wa.setCell ⟨L, 6, none⟩ (.int .i64 (n1 : Int))).setCell ⟨L, 7, none⟩ (.int .i64 (n2 : Int))).setCell ⟨L, 8, none⟩ (.int .i64 (n3 : Int))) none := by
 obtain ⟨h1, h2, h3⟩ := two_sets LA RA G hRL hL n1 n2
 exact ⟨h1.set 8 _, h2.setOther _ hRL, grown_setCell h3 _ _ (.inr hL)⟩
set_option maxRecDepth 100000 in
set_option maxHeartbeats 4000000 in
theorem refip6_any (v : Vw) (a : Option Addr) (ca : Nat) (b : List UInt8) (w : World) (ha : Cells w a b) (hn : b.length ≤ 65535) (hpos : v.pos ≤ b.length) (h87 : v.proto = 87) :
  Calls Tryz.prog 31 #[.agg (vwA v), .slice a b.length ca] w fun e w' => e = .returned (.tuple #[.agg (vwA (exV Vw.zero (ipV v b))), .int .i64 (exE (ipV v b))]) ∧ w.grownBy w' none := by
 obtain ⟨LA, RA, G0⟩ := two_views w 42 42 (vwA v) (vwA Vw.zero)
 have HA : Hid (Cells w a b) := ha
 have HS : Hid (∀ v : Vw, (Tryz.prog.info? 42).map (·.size) = some (vwA v).size) := fun v => size42
 clear ha
 obtain ⟨ans, hans⟩ : ∃ ans, ipV v b = ans := ⟨_, rfl⟩
 rw [hans]
 have HANS : Hid (ipV v b = ans) := hans
 have H87 : Hid (v.proto = 87) := h87
 clear hans h87
 go_enter Tryz.func31, Tryz.ntmps31
 go_upto_region 1 with fail
 rw [show (w.alloc (.cells (vwA v) 42)).alloc (.cells #[.int .u32 0, .bool false, .bool false, .bool false, .int .u32 0, .int .i64 0, .int .i64 0, .int .i64 0, .int .i64 0] 42) = (w.alloc (.cells (vwA v) 42)).alloc (.cells (vwA Vw.zero) 42) from rfl]
 generalize (w.alloc (.cells (vwA v) 42)).alloc (.cells (vwA Vw.zero) 42) = wa at *
 obtain ⟨L, hL, hL2⟩ : ∃ L, w.heap.size = L ∧ w.heap.size ≤ L := ⟨_, rfl, Nat.le_refl _⟩
 obtain ⟨R, hR, hR2⟩ : ∃ R, w.heap.size + 1 = R ∧ w.heap.size ≤ R := ⟨_, rfl, by omega⟩
 have HRL : Hid (R ≠ L) := by
  show R ≠ L
  omega
 rw [hR] at RA ⊢
 rw [hL] at LA ⊢
 clear hR hL
 have HR2 : Hid (w.heap.size ≤ R) := hR2
 have HL2 : Hid (w.heap.size ≤ L) := hL2
 clear hR2 hL2
 have c0 : wa.cell? ⟨L, 0, none⟩ = some (.int .u32 (v.proto : Int)) := LA.cell 0
 have c5 : wa.cell? ⟨L, 5, none⟩ = some (.int .i64 (v.pos : Int)) := LA.cell 5
 have c6 : wa.cell? ⟨L, 6, none⟩ = some (.int .i64 (v.net : Int)) := LA.cell 6
 have c7 : wa.cell? ⟨L, 7, none⟩ = some (.int .i64 (v.next : Int)) := LA.cell 7
 have c8 : wa.cell? ⟨L, 8, none⟩ = some (.int .i64 (v.load : Int)) := LA.cell 8
 have f6 := LA.free 6
 have f7 := LA.free 7
 have f8 := LA.free 8
 have hb : v.pos < 65536 := by omega
 have h87' : ((v.proto : Int) == 87) = true := by rw [H87.out]; rfl
 by_cases h40 : b.length < v.pos + 40
 ·have h40' : (b.length : Int) - (v.pos : Int) < 40 := by omega
  have HE : Hid (ans = .error 72) := by
   show ans = _
   rw [← HANS.out, ipV, if_pos H87.out, if_pos h40]
  clear HANS H87
  go_wp2_with (refine wpList_store_row rfl 42 (.tmp 4) (.tmp 21) rfl R (vwA Vw.zero) rfl rfl 42 _ RA (HS.out _) rfl (vwA_all _) ?_)
  refine bodyPost_ret (ret_row rfl _ _ R (vwA Vw.zero) _ rfl (RA.setRow _) Tryz.underlying42 rfl (HS.out _)) rfl ?_
  exact ⟨by rw [HE.out]; rfl, vgrown_setRow G0 _ _ (.inr HR2.out)⟩
 ·have h40' : ¬ (b.length : Int) - (v.pos : Int) < 40 := by omega
  obtain ⟨bb, o, rfl, hc⟩ := HA.out.bgc (k := v.pos) (by omega)
  have hbL : bb ≠ L := by
   have := World.block_lt_of_cell? w _ (hc v.pos (by omega))
   have := HL2.out
   simp only at *
   omega
  have hcw := fun i hi => G0.cell (hc i hi) (by simp)
  have x0 := hcw (v.pos) (by omega)
  have l0 : (v.pos : Int) < (b.length : Int) := by omega
  have b0 := bg_lt b (v.pos)
  have x6 := hcw (v.pos + 6) (by omega)
  have l6 : (v.pos : Int) + 6 < (b.length : Int) := by omega
  have b6 := bg_lt b (v.pos + 6)
  clear hc hcw HA
  by_cases hv : bg b v.pos / 16 = 6
  ·have hv' : ((bg b v.pos : Int) / 16 != 6) = false := by rw [bne_eq_false_iff_eq]; omega
   have HE : Hid (ans = .ok { v with net := 6, next := bg b (v.pos + 6), load := v.pos + 40 }) := by
    show ans = _
    rw [← HANS.out, ipV, if_pos H87.out, if_neg h40, if_neg (fun e => e hv)]
   clear HANS H87 hv
   obtain ⟨V3, R3, G3⟩ := three_sets LA RA G0 HRL.out HL2.out 6 (bg b (v.pos + 6)) (v.pos + 40)
   simp only [Int.natCast_add, Int.cast_ofNat_Int] at V3 R3 G3
   generalize bg b (v.pos + 6) = y at *
   generalize bg b v.pos = x at *
   have HU : Hid (∃ U : Vw, U = { v with net := 6, next := y, load := v.pos + 40 }) := ⟨_, rfl⟩
   obtain ⟨U, hU⟩ := HU.out
   rw [← hU] at V3 HE
   clear hU HU LA RA G0
   go_upto_region 14 with fail
   generalize ((wa.setCell ⟨L, 6, none⟩ (.int .i64 6)).setCell ⟨L, 7, none⟩ (.int .i64 (y : Int))).setCell ⟨L, 8, none⟩ (.int .i64 ((v.pos : Int) + 40)) = w3 at *
   clear c0 c5 c6 c7 c8 f6 f7 f8 x0 x6 hbL
   go_wp2_with (first | refine wpList_load_row rfl 42 (.tmp 2) rfl L rfl 42 (vwA U) (0, 0) _ V3 Tryz.underlying42 rfl (HS.out _) ?_ | refine wpList_store_row rfl 42 (.tmp 4) (.tmp 46) rfl R (vwA U) rfl rfl 42 _ R3 (HS.out _) rfl (vwA_all _) ?_)
   refine bodyPost_ret (ret_row rfl _ _ R (vwA U) _ rfl (R3.setRow _) Tryz.underlying42 rfl (HS.out _)) rfl ?_
   exact ⟨by rw [HE.out]; rfl, vgrown_setRow G3 _ _ (.inr HR2.out)⟩
  ·have hv' : ((bg b v.pos : Int) / 16 != 6) = true := by rw [bne_iff_ne]; omega
   have HE : Hid (ans = .error 76) := by
    show ans = _
    rw [← HANS.out, ipV, if_pos H87.out, if_neg h40, if_pos hv]
   clear HANS H87 hv
   go_wp2_with (refine wpList_store_row rfl 42 (.tmp 4) (.tmp 30) rfl R (vwA Vw.zero) rfl rfl 42 _ RA (HS.out _) rfl (vwA_all _) ?_)
   refine bodyPost_ret (ret_row rfl _ _ R (vwA Vw.zero) _ rfl (RA.setRow _) Tryz.underlying42 rfl (HS.out _)) rfl ?_
   exact ⟨by rw [HE.out]; rfl, vgrown_setRow G0 _ _ (.inr HR2.out)⟩
set_option maxRecDepth 100000 in
set_option maxHeartbeats 4000000 in
theorem refip4_any (v : Vw) (a : Option Addr) (ca : Nat) (b : List UInt8) (w : World) (ha : Cells w a b) (hn : b.length ≤ 65535) (hpos : v.pos ≤ b.length) (h87 : v.proto ≠ 87) :
  Calls Tryz.prog 31 #[.agg (vwA v), .slice a b.length ca] w fun e w' => e = .returned (.tuple #[.agg (vwA (exV Vw.zero (ipV v b))), .int .i64 (exE (ipV v b))]) ∧ w.grownBy w' none := by
 obtain ⟨LA, RA, G0⟩ := two_views w 42 42 (vwA v) (vwA Vw.zero)
 have HA : Hid (Cells w a b) := ha
 have HS : Hid (∀ v : Vw, (Tryz.prog.info? 42).map (·.size) = some (vwA v).size) := fun v => size42
 clear ha
 obtain ⟨ans, hans⟩ : ∃ ans, ipV v b = ans := ⟨_, rfl⟩
 rw [hans]
 have HANS : Hid (ipV v b = ans) := hans
 have H87 : Hid (v.proto ≠ 87) := h87
 clear hans h87
 go_enter Tryz.func31, Tryz.ntmps31
 go_upto_region 1 with fail
 rw [show (w.alloc (.cells (vwA v) 42)).alloc (.cells #[.int .u32 0, .bool false, .bool false, .bool false, .int .u32 0, .int .i64 0, .int .i64 0, .int .i64 0, .int .i64 0] 42) = (w.alloc (.cells (vwA v) 42)).alloc (.cells (vwA Vw.zero) 42) from rfl]
 generalize (w.alloc (.cells (vwA v) 42)).alloc (.cells (vwA Vw.zero) 42) = wa at *
 obtain ⟨L, hL, hL2⟩ : ∃ L, w.heap.size = L ∧ w.heap.size ≤ L := ⟨_, rfl, Nat.le_refl _⟩
 obtain ⟨R, hR, hR2⟩ : ∃ R, w.heap.size + 1 = R ∧ w.heap.size ≤ R := ⟨_, rfl, by omega⟩
 have HRL : Hid (R ≠ L) := by
  show R ≠ L
  omega
 rw [hR] at RA ⊢
 rw [hL] at LA ⊢
 clear hR hL
 have HR2 : Hid (w.heap.size ≤ R) := hR2
 have HL2 : Hid (w.heap.size ≤ L) := hL2
 clear hR2 hL2
 have c0 : wa.cell? ⟨L, 0, none⟩ = some (.int .u32 (v.proto : Int)) := LA.cell 0
 have c5 : wa.cell? ⟨L, 5, none⟩ = some (.int .i64 (v.pos : Int)) := LA.cell 5
 have c6 : wa.cell? ⟨L, 6, none⟩ = some (.int .i64 (v.net : Int)) := LA.cell 6
 have c7 : wa.cell? ⟨L, 7, none⟩ = some (.int .i64 (v.next : Int)) := LA.cell 7
 have c8 : wa.cell? ⟨L, 8, none⟩ = some (.int .i64 (v.load : Int)) := LA.cell 8
 have f6 := LA.free 6
 have f7 := LA.free 7
 have f8 := LA.free 8
 have hb : v.pos < 65536 := by omega
 have h87' : ((v.proto : Int) == 87) = false := by rw [beq_eq_false_iff_ne]; have := H87.out; omega
 by_cases h20 : b.length < v.pos + 20
 ·have h20' : (b.length : Int) - (v.pos : Int) < 20 := by omega
  have HE : Hid (ans = .error 72) := by
   show ans = _
   rw [← HANS.out, ipV, if_neg H87.out, if_pos h20]
  clear HANS H87
  go_wp2_with (refine wpList_store_row rfl 42 (.tmp 4) (.tmp 21) rfl R (vwA Vw.zero) rfl rfl 42 _ RA (HS.out _) rfl (vwA_all _) ?_)
  refine bodyPost_ret (ret_row rfl _ _ R (vwA Vw.zero) _ rfl (RA.setRow _) Tryz.underlying42 rfl (HS.out _)) rfl ?_
  exact ⟨by rw [HE.out]; rfl, vgrown_setRow G0 _ _ (.inr HR2.out)⟩
 ·have h20' : ¬ (b.length : Int) - (v.pos : Int) < 20 := by omega
  obtain ⟨bb, o, rfl, hc⟩ := HA.out.bgc (k := v.pos) (by omega)
  have hbL : bb ≠ L := by
   have := World.block_lt_of_cell? w _ (hc v.pos (by omega))
   have := HL2.out
   simp only at *
   omega
  have hcw := fun i hi => G0.cell (hc i hi) (by simp)
  have x0 := hcw (v.pos) (by omega)
  have l0 : (v.pos : Int) < (b.length : Int) := by omega
  have b0 := bg_lt b (v.pos)
  have x6 := hcw (v.pos + 6) (by omega)
  have l6 : (v.pos : Int) + 6 < (b.length : Int) := by omega
  have b6 := bg_lt b (v.pos + 6)
  have x7 := hcw (v.pos + 7) (by omega)
  have l7 : (v.pos : Int) + 7 < (b.length : Int) := by omega
  have b7 := bg_lt b (v.pos + 7)
  have x9 := hcw (v.pos + 9) (by omega)
  have l9 : (v.pos : Int) + 9 < (b.length : Int) := by omega
  have b9 := bg_lt b (v.pos + 9)
  clear hc hcw HA
  have HE1 := HANS.out
  rw [ipV, if_neg H87.out, if_neg h20] at HE1
  clear HANS H87
  by_cases hv : bg b v.pos / 16 = 4
  ·have hv' : ((bg b v.pos : Int) / 16 != 4) = false := by rw [bne_eq_false_iff_eq]; omega
   have a15 := and15 (bg b v.pos) b0
   have a31 := and31 (bg b (v.pos + 6)) b6
   rw [if_neg (fun e => e hv)] at HE1
   clear hv
   generalize bg b (v.pos + 6) = y6 at *
   generalize bg b (v.pos + 7) = y7 at *
   generalize bg b (v.pos + 9) = y9 at *
   generalize bg b v.pos = x at *
   obtain ⟨k, hk⟩ : ∃ k, x % 16 = k := ⟨_, rfl⟩
   have hk16 : k < 16 := by omega
   rw [hk] at a15 HE1
   clear hk
   obtain ⟨z6, hz6⟩ : ∃ z6, y6 % 32 = z6 := ⟨_, rfl⟩
   rw [hz6] at a31 HE1
   clear hz6
   by_cases hs : 4 * k < 20
   ·have hs' : 4 * (k : Int) < 20 := by omega
    rw [if_pos hs] at HE1
    have HE : Hid (ans = .error 76) := HE1.symm
    clear HE1
    go_wp2_with (refine wpList_store_row rfl 42 (.tmp 4) (.tmp 57) rfl R (vwA Vw.zero) rfl rfl 42 _ RA (HS.out _) rfl (vwA_all _) ?_)
    refine bodyPost_ret (ret_row rfl _ _ R (vwA Vw.zero) _ rfl (RA.setRow _) Tryz.underlying42 rfl (HS.out _)) rfl ?_
    exact ⟨by rw [HE.out]; rfl, vgrown_setRow G0 _ _ (.inr HR2.out)⟩
   ·have hs' : ¬ 4 * (k : Int) < 20 := by omega
    rw [if_neg hs] at HE1
    by_cases hr : b.length < v.pos + 4 * k
    ·have hr' : (b.length : Int) - (v.pos : Int) < 4 * (k : Int) := by omega
     rw [if_pos hr] at HE1
     have HE : Hid (ans = .error 72) := HE1.symm
     clear HE1
     go_wp2_with (refine wpList_store_row rfl 42 (.tmp 4) (.tmp 61) rfl R (vwA Vw.zero) rfl rfl 42 _ RA (HS.out _) rfl (vwA_all _) ?_)
     refine bodyPost_ret (ret_row rfl _ _ R (vwA Vw.zero) _ rfl (RA.setRow _) Tryz.underlying42 rfl (HS.out _)) rfl ?_
     exact ⟨by rw [HE.out]; rfl, vgrown_setRow G0 _ _ (.inr HR2.out)⟩
    ·have hr' : ¬ (b.length : Int) - (v.pos : Int) < 4 * (k : Int) := by omega
     rw [if_neg hr] at HE1
     by_cases hf : z6 = 0 ∧ y7 = 0
     ·have hf1 : ((z6 : Int) == 0) = true := by rw [hf.1]; rfl
      have hf2 : ((y7 : Int) == 0) = true := by rw [hf.2]; rfl
      rw [if_pos hf] at HE1
      clear hf
      obtain ⟨V3, R3, G3⟩ := three_sets LA RA G0 HRL.out HL2.out 4 y9 (v.pos + 4 * k)
      simp only [Int.natCast_add, Int.natCast_mul, Int.cast_ofNat_Int] at V3 R3 G3
      obtain ⟨U, hU⟩ : ∃ U : Vw, U = { v with net := 4, next := y9, load := v.pos + 4 * k } := ⟨_, rfl⟩
      rw [← hU] at V3 HE1
      have HE : Hid (ans = .ok U) := HE1.symm
      clear hU LA RA G0 HE1
      go_upto_region 24 with fail
      generalize ((wa.setCell ⟨L, 6, none⟩ (.int .i64 4)).setCell ⟨L, 7, none⟩ (.int .i64 (y9 : Int))).setCell ⟨L, 8, none⟩ (.int .i64 ((v.pos : Int) + 4 * (k : Int))) = w3 at *
      clear c0 c5 c6 c7 c8 f6 f7 f8 x0 x6 x7 x9 hbL
      go_wp2_with (first | refine wpList_load_row rfl 42 (.tmp 2) rfl L rfl 42 (vwA U) (0, 0) _ V3 Tryz.underlying42 rfl (HS.out _) ?_ | refine wpList_store_row rfl 42 (.tmp 4) (.tmp 93) rfl R (vwA U) rfl rfl 42 _ R3 (HS.out _) rfl (vwA_all _) ?_)
      refine bodyPost_ret (ret_row rfl _ _ R (vwA U) _ rfl (R3.setRow _) Tryz.underlying42 rfl (HS.out _)) rfl ?_
      exact ⟨by rw [HE.out]; rfl, vgrown_setRow G3 _ _ (.inr HR2.out)⟩
     ·rw [if_neg hf] at HE1
      have hf' : ((z6 : Int) == 0) = false ∨ ((z6 : Int) == 0) = true ∧ ((y7 : Int) == 0) = false := by
       by_cases h1 : z6 = 0
       ·exact .inr ⟨by rw [h1]; rfl, by rw [beq_eq_false_iff_ne]; intro e; exact hf ⟨h1, by omega⟩⟩
       ·exact .inl (by rw [beq_eq_false_iff_ne]; omega)
      clear hf
      obtain ⟨V3, R3, G3⟩ := two_sets LA RA G0 HRL.out HL2.out 4 y9
      simp only [Int.cast_ofNat_Int] at V3 R3 G3
      obtain ⟨U, hU⟩ : ∃ U : Vw, U = { v with net := 4, next := y9 } := ⟨_, rfl⟩
      rw [← hU] at V3
      have HE : Hid (ans = .ok U) := by rw [hU]; exact HE1.symm
      clear hU LA RA G0 HE1
      rcases hf' with hf1 | ⟨hf1, hf2⟩
      all_goals
       go_upto_region 24 with fail
       generalize (wa.setCell ⟨L, 6, none⟩ (.int .i64 4)).setCell ⟨L, 7, none⟩ (.int .i64 (y9 : Int)) = w3 at *
       clear c0 c5 c6 c7 c8 f6 f7 f8 x0 x6 x7 x9 hbL
       go_wp2_with (first | refine wpList_load_row rfl 42 (.tmp 2) rfl L rfl 42 (vwA U) (0, 0) _ V3 Tryz.underlying42 rfl (HS.out _) ?_ | refine wpList_store_row rfl 42 (.tmp 4) (.tmp 93) rfl R (vwA U) rfl rfl 42 _ R3 (HS.out _) rfl (vwA_all _) ?_)
       refine bodyPost_ret (ret_row rfl _ _ R (vwA U) _ rfl (R3.setRow _) Tryz.underlying42 rfl (HS.out _)) rfl ?_
       exact ⟨by rw [HE.out]; rfl, vgrown_setRow G3 _ _ (.inr HR2.out)⟩
  ·have hv' : ((bg b v.pos : Int) / 16 != 4) = true := by rw [bne_iff_ne]; omega
   have HE : Hid (ans = .error 76) := by
    show ans = _
    rw [← HE1, if_pos hv]
   clear HE1 hv
   go_wp2_with (refine wpList_store_row rfl 42 (.tmp 4) (.tmp 30) rfl R (vwA Vw.zero) rfl rfl 42 _ RA (HS.out _) rfl (vwA_all _) ?_)
   refine bodyPost_ret (ret_row rfl _ _ R (vwA Vw.zero) _ rfl (RA.setRow _) Tryz.underlying42 rfl (HS.out _)) rfl ?_
   exact ⟨by rw [HE.out]; rfl, vgrown_setRow G0 _ _ (.inr HR2.out)⟩
theorem refip_any (v : Vw) (a : Option Addr) (ca : Nat) (b : List UInt8) (w : World) (ha : Cells w a b) (hn : b.length ≤ 65535) (hpos : v.pos ≤ b.length) :
  Calls Tryz.prog 31 #[.agg (vwA v), .slice a b.length ca] w fun e w' => e = .returned (.tuple #[.agg (vwA (exV Vw.zero (ipV v b))), .int .i64 (exE (ipV v b))]) ∧ w.grownBy w' none := by
 by_cases h : v.proto = 87
 ·exact refip6_any v a ca b w ha hn hpos h
 ·exact refip4_any v a ca b w ha hn hpos h
theorem piece_err {l : Lk} {b : List UInt8} {e : Int} (h : pieceV l b = .error e) : (e != 0) = true := by
 unfold pieceV at h
 split at h
 ·cases h; rfl
 ·cases hp : plainV l b with
  | error x => rw [hp] at h; cases h; exact plain_err hp
  | ok p =>
   rw [bind_of hp] at h
   cases hq : protoV l b p with
   | error x => rw [hq] at h; cases h; exact proto_err hq
   | ok q =>
    rw [bind_of hq] at h
    split at h
    ·cases h
    ·cases hh : headV l b q.2 with
     | error x => rw [hh] at h; cases h; exact head_err hh
     | ok z => rw [bind_of hh] at h; cases h
set_option maxRecDepth 100000 in
set_option maxHeartbeats 4000000 in
theorem reflook_any (l : Lk) (a : Option Addr) (ca : Nat) (b : List UInt8) (w : World) (ha : Cells w a b) (hn : b.length ≤ 140737488355328) :
  Calls Tryz.prog 16 #[.agg (lkA l), .slice a b.length ca] w fun e w' => e = .returned (.tuple #[.agg (vwA (exV Vw.zero (lookX l b))), .int .i64 (exE (lookX l b))]) ∧ w.grownBy w' none := by
 obtain ⟨LA, RA, G0⟩ := two_blocks w l 24 42 (vwA Vw.zero)
 have HA : Hid (Cells _ a b) := ha.keptNone G0
 have HA0 : Hid (Cells w a b) := ha
 have HS : Hid (∀ v : Vw, (Tryz.prog.info? 42).map (·.size) = some (vwA v).size) := fun v => size42
 have HL : Hid ((Tryz.prog.info? 24).map (·.size) = some (lkA l).size) := size24
 clear ha
 obtain ⟨ans, hans⟩ : ∃ ans, lookX l b = ans := ⟨_, rfl⟩
 rw [hans]
 have HANS : Hid (lookX l b = ans) := hans
 clear hans
 go_enter Tryz.func16, Tryz.ntmps16
 go_upto_region 1 with fail
 rw [show (w.alloc (.cells (lkA l) 24)).alloc (.cells #[.int .u32 0, .bool false, .bool false, .bool false, .int .u32 0, .int .i64 0, .int .i64 0, .int .i64 0, .int .i64 0] 42) = (w.alloc (.cells (lkA l) 24)).alloc (.cells (vwA Vw.zero) 42) from rfl]
 generalize (w.alloc (.cells (lkA l) 24)).alloc (.cells (vwA Vw.zero) 42) = wa at *
 obtain ⟨L, hL⟩ : ∃ L, w.heap.size = L := ⟨_, rfl⟩
 obtain ⟨R, hR, hR2⟩ : ∃ R, w.heap.size + 1 = R ∧ w.heap.size ≤ R := ⟨_, rfl, by omega⟩
 rw [hR] at RA ⊢
 rw [hL] at LA ⊢
 clear hR hL
 have HR2 : Hid (w.heap.size ≤ R) := hR2
 clear hR2
 have CC := refchk_any l wa
 go_upto_region 2 with (refine wpList_load_row rfl 24 (.tmp 2) rfl L rfl 24 (lkA l) (0, 0) _ LA Tryz.underlying24 rfl HL.out ?_)
 refine CC.mono ?_
 rintro e' w1 ⟨rfl, K⟩
 have RA1 := RA.kept K
 have LA1 := LA.kept K
 have HA1 : Hid (Cells w1 a b) := HA.out.keptNone K
 have G1 := grown_trans G0 K
 clear CC RA LA HA G0 K
 by_cases hck : checkF l = 0
 ·have hck' : (checkF l != 0) = false := by rw [hck]; rfl
  have HE1 := HANS.out
  rw [lookX, if_neg (fun e => e hck)] at HE1
  clear HANS hck
  generalize checkF l = ck at *
  go_upto_region 4 with fail
  clear hck'
  have CP := refpiece_any l a ca b w1 HA1.out hn
  cases hp : pieceV l b with
  | error e =>
   rw [hp] at CP HE1
   have hz := piece_err hp
   have HE : Hid (ans = .error e) := HE1.symm
   clear HE1 hp
   go_upto_region 5 with (refine wpList_load_row rfl 24 (.tmp 2) rfl L rfl 24 (lkA l) (0, 0) _ LA1 Tryz.underlying24 rfl HL.out ?_)
   refine CP.mono ?_
   rintro e' w2 ⟨rfl, K⟩
   simp only [exV, exE]
   have RA2 := RA1.kept K
   have G2 := grown_trans G1 K
   clear CP RA1 LA1 HA1 G1 K
   have VZ : VAt (w2.alloc (.cells #[.int .u32 0, .bool false, .bool false, .bool false, .int .u32 0, .int .i64 0, .int .i64 0, .int .i64 0, .int .i64 0] 42)) w2.heap.size 42 #[.int .u32 0, .bool false, .bool false, .bool false, .int .u32 0, .int .i64 0, .int .i64 0, .int .i64 0, .int .i64 0] := heap_alloc_new w2 _
   go_upto_region 5 with (refine wpList_store_row rfl 42 (.tmp 7) (.tmp 19) rfl w2.heap.size (vwA Vw.zero) rfl rfl 42 _ VZ (HS.out _) rfl (vwA_all _) ?_)
   rw [World.setRow_alloc_new]
   have V3 : VAt (w2.alloc (.cells (vwA Vw.zero) 42)) w2.heap.size 42 (vwA Vw.zero) := VAt.alloc w2 42 (vwA Vw.zero)
   have K3 := World.grownBy_alloc w2 (.cells (vwA Vw.zero) 42) none
   have R3 := RA2.kept K3
   have G3 := grown_trans G2 K3
   have hV : w.heap.size ≤ w2.heap.size := G2.size
   have HVR : Hid (R ≠ w2.heap.size) := by
    have := RA2.lt
    show R ≠ w2.heap.size
    omega
   clear K3 VZ RA2 G2
   generalize w2.alloc (.cells (vwA Vw.zero) 42) = w3 at *
   generalize w2.heap.size = V at *
   have HV2 : Hid (w.heap.size ≤ V) := hV
   clear hV
   go_wp2_with (first | refine wpList_load_row rfl 42 (.tmp 7) rfl V rfl 42 (vwA Vw.zero) (0, 0) _ V3 Tryz.underlying42 rfl (HS.out _) ?_ | refine wpList_store_row rfl 42 (.tmp 4) (.tmp 32) rfl R (vwA Vw.zero) rfl rfl 42 _ R3 (HS.out _) rfl (vwA_all _) ?_)
   refine bodyPost_ret (ret_row rfl _ _ R (vwA Vw.zero) _ rfl (R3.setRow _) Tryz.underlying42 rfl (HS.out _)) rfl ?_
   exact ⟨by rw [HE.out]; rfl, vgrown_setRow G3 _ _ (.inr HR2.out)⟩
  | ok v =>
   obtain ⟨p1, -, -, -, -, p6, -⟩ := piece_ok hp
   have HLEN : Hid (b.length ≤ 65535) := p1
   have HU : Hid (v.pos ≤ b.length) := p6
   clear p1 p6
   rw [hp, bind_of rfl] at HE1
   rw [hp] at CP
   clear hp
   go_upto_region 5 with (refine wpList_load_row rfl 24 (.tmp 2) rfl L rfl 24 (lkA l) (0, 0) _ LA1 Tryz.underlying24 rfl HL.out ?_)
   refine CP.mono ?_
   rintro e' w2 ⟨rfl, K⟩
   simp only [exV, exE]
   have RA2 := RA1.kept K
   have LA2 := LA1.kept K
   have HA2 : Hid (Cells w2 a b) := HA1.out.keptNone K
   have G2 := grown_trans G1 K
   clear CP RA1 LA1 HA1 G1 K
   have VZ : VAt (w2.alloc (.cells #[.int .u32 0, .bool false, .bool false, .bool false, .int .u32 0, .int .i64 0, .int .i64 0, .int .i64 0, .int .i64 0] 42)) w2.heap.size 42 #[.int .u32 0, .bool false, .bool false, .bool false, .int .u32 0, .int .i64 0, .int .i64 0, .int .i64 0, .int .i64 0] := heap_alloc_new w2 _
   go_upto_region 5 with (refine wpList_store_row rfl 42 (.tmp 7) (.tmp 19) rfl w2.heap.size (vwA v) rfl rfl 42 _ VZ (HS.out _) rfl (vwA_all _) ?_)
   rw [World.setRow_alloc_new]
   have V3 : VAt (w2.alloc (.cells (vwA v) 42)) w2.heap.size 42 (vwA v) := VAt.alloc w2 42 (vwA v)
   have K3 := World.grownBy_alloc w2 (.cells (vwA v) 42) none
   have R3 := RA2.kept K3
   have L3 := LA2.kept K3
   have A3 : Hid (Cells (w2.alloc (.cells (vwA v) 42)) a b) := HA2.out.keptNone K3
   have G3 := grown_trans G2 K3
   have hV : w.heap.size ≤ w2.heap.size := G2.size
   have HVR : Hid (R ≠ w2.heap.size) := by
    have := RA2.lt
    show R ≠ w2.heap.size
    omega
   have HVL : Hid (L ≠ w2.heap.size) := by
    have := LA2.lt
    show L ≠ w2.heap.size
    omega
   clear K3 VZ RA2 G2 LA2 HA2
   generalize w2.alloc (.cells (vwA v) 42) = w3 at *
   generalize w2.heap.size = V at *
   have HV2 : Hid (w.heap.size ≤ V) := hV
   clear hV
   have d1 : w3.cell? ⟨V, 1, none⟩ = some (.bool v.multi) := V3.cell 1
   have d2 : w3.cell? ⟨V, 2, none⟩ = some (.bool v.beg) := V3.cell 2
   have d5 : w3.cell? ⟨V, 5, none⟩ = some (.int .i64 (v.pos : Int)) := V3.cell 5
   cases hm : v.multi with
   | false =>
    rw [hm] at d1
    have HQ : Hid (ans = if v.proto = 33 ∨ v.proto = 87 then ipV v b else .ok v) := by
     show ans = _
     rw [← HE1, if_neg (by rw [hm]; simp), if_neg (by rw [hm]; simp)]
     rfl
    clear HE1 hm
    have d0 : w3.cell? ⟨V, 0, none⟩ = some (.int .u32 (v.proto : Int)) := V3.cell 0
    by_cases hi : v.proto = 33 ∨ v.proto = 87
    ·have hd : ((v.proto : Int) == 33) = true ∨ ((v.proto : Int) == 33) = false ∧ ((v.proto : Int) == 87) = true := by
      by_cases h0 : v.proto = 33
      ·exact .inl (by rw [h0]; rfl)
      ·exact .inr ⟨by rw [beq_eq_false_iff_ne]; omega, by have := hi.resolve_left h0; rw [this]; rfl⟩
     have HE : Hid (ans = ipV v b) := by
      show ans = _
      rw [HQ.out, if_pos hi]
     clear HQ hi
     have CI := refip_any v a ca b w3 A3.out HLEN.out HU.out
     generalize ipV v b = ip at *
     rcases hd with hd | ⟨hd, hd2⟩
     all_goals
      go_wp2_with (refine wpList_load_row rfl 42 (.tmp 7) rfl V rfl 42 (vwA v) (0, 0) _ V3 Tryz.underlying42 rfl (HS.out _) ?_)
      refine CI.mono ?_
      rintro e' w9 ⟨rfl, K9⟩
      have R9 := R3.kept K9
      have G9 := grown_trans G3 K9
      clear CI V3 R3 G3 A3 K9 d0
      go_wp2_with (refine wpList_store_row rfl 42 (.tmp 4) (.tmp 62) rfl R (vwA (exV Vw.zero ip)) rfl rfl 42 _ R9 (HS.out _) rfl (vwA_all _) ?_)
      refine bodyPost_ret (ret_row rfl _ _ R (vwA (exV Vw.zero ip)) _ rfl (R9.setRow _) Tryz.underlying42 rfl (HS.out _)) rfl ?_
      exact ⟨by rw [HE.out]; rfl, vgrown_setRow G9 _ _ (.inr HR2.out)⟩
    ·have hd : ((v.proto : Int) == 33) = false := by rw [beq_eq_false_iff_ne]; omega
     have hd2 : ((v.proto : Int) == 87) = false := by rw [beq_eq_false_iff_ne]; omega
     have HE : Hid (ans = .ok v) := by
      show ans = _
      rw [HQ.out, if_neg hi]
     clear HQ hi
     go_wp2_with (first | refine wpList_load_row rfl 42 (.tmp 7) rfl V rfl 42 (vwA v) (0, 0) _ V3 Tryz.underlying42 rfl (HS.out _) ?_ | refine wpList_store_row rfl 42 (.tmp 4) (.tmp 64) rfl R (vwA v) rfl rfl 42 _ R3 (HS.out _) rfl (vwA_all _) ?_)
     refine bodyPost_ret (ret_row rfl _ _ R (vwA v) _ rfl (R3.setRow _) Tryz.underlying42 rfl (HS.out _)) rfl ?_
     exact ⟨by rw [HE.out]; rfl, vgrown_setRow G3 _ _ (.inr HR2.out)⟩
   | true =>
    rw [hm] at d1
    cases hbg : v.beg with
    | false =>
     rw [hbg] at d2
     have HE : Hid (ans = .ok v) := by
      show ans = _
      rw [← HE1, if_pos ⟨hm, hbg⟩]
     clear HE1 hm hbg
     go_wp2_with (first | refine wpList_load_row rfl 42 (.tmp 7) rfl V rfl 42 (vwA v) (0, 0) _ V3 Tryz.underlying42 rfl (HS.out _) ?_ | refine wpList_store_row rfl 42 (.tmp 4) (.tmp 32) rfl R (vwA v) rfl rfl 42 _ R3 (HS.out _) rfl (vwA_all _) ?_)
     refine bodyPost_ret (ret_row rfl _ _ R (vwA v) _ rfl (R3.setRow _) Tryz.underlying42 rfl (HS.out _)) rfl ?_
     exact ⟨by rw [HE.out]; rfl, vgrown_setRow G3 _ _ (.inr HR2.out)⟩
    | true =>
     rw [hbg] at d2
     have HE2 : Hid (ans = (protoV l b v.pos).bind fun q => if q.1 = 33 ∨ q.1 = 87 then ipV { v with proto := q.1, pos := q.2 } b else .ok { v with proto := q.1, pos := q.2 }) := by
      show ans = _
      rw [← HE1, if_neg (by rw [hbg]; simp), if_pos hm]
      cases protoV l b v.pos <;> rfl
     clear HE1 hm hbg
     have CQ := refproto_any l a ca b v.pos w3 A3.out (by have := HLEN.out; have := HU.out; omega)
     have d0 : w3.cell? ⟨V, 0, none⟩ = some (.int .u32 (v.proto : Int)) := V3.cell 0
     have f0 := V3.free 0
     have f5 := V3.free 5
     go_upto_region 8 with fail
     cases hq : protoV l b v.pos with
     | error e =>
      rw [hq] at CQ HE2
      have hz := proto_err hq
      have HE : Hid (ans = .error e) := HE2.out
      clear HE2 hq
      go_upto_region 9 with (refine wpList_load_row rfl 24 (.tmp 2) rfl L rfl 24 (lkA l) (0, 0) _ L3 Tryz.underlying24 rfl HL.out ?_)
      refine CQ.mono ?_
      rintro e' w4 ⟨rfl, K⟩
      simp only [exV, exE]
      have R4 := R3.kept K
      have V4 := V3.kept K
      have A4 : Hid (Cells w4 a b) := A3.out.keptNone K
      have G4 := grown_trans G3 K
      have g0 : w4.cell? ⟨V, 0, none⟩ = some (.int .u32 (v.proto : Int)) := V4.cell 0
      have g5 : w4.cell? ⟨V, 5, none⟩ = some (.int .i64 (v.pos : Int)) := V4.cell 5
      have f0 := V4.free 0
      have f5 := V4.free 5
      clear CQ R3 V3 L3 A3 G3 K d0 d1 d2 d5
      have R5 : VAt ((w4.setCell ⟨V, 0, none⟩ (.int .u32 0)).setCell ⟨V, 5, none⟩ (.int .i64 0)) R 42 (vwA Vw.zero) := (R4.setOther _ HVR.out).setOther _ HVR.out
      have G5 : w.grownBy ((w4.setCell ⟨V, 0, none⟩ (.int .u32 0)).setCell ⟨V, 5, none⟩ (.int .i64 0)) none := grown_setCell (grown_setCell G4 _ _ (.inr HV2.out)) _ _ (.inr HV2.out)
      clear R4 V4 A4 G4
      go_upto_region 9 with fail
      generalize (w4.setCell ⟨V, 0, none⟩ (.int .u32 0)).setCell ⟨V, 5, none⟩ (.int .i64 0) = w5 at *
      clear g0 g5 f0 f5
      go_wp2_with (refine wpList_store_row rfl 42 (.tmp 4) (.tmp 49) rfl R (vwA Vw.zero) rfl rfl 42 _ R5 (HS.out _) rfl (vwA_all _) ?_)
      refine bodyPost_ret (ret_row rfl _ _ R (vwA Vw.zero) _ rfl (R5.setRow _) Tryz.underlying42 rfl (HS.out _)) rfl ?_
      exact ⟨by rw [HE.out]; rfl, vgrown_setRow G5 _ _ (.inr HR2.out)⟩
     | ok q =>
      obtain ⟨pr, p2⟩ := q
      have HU2 : Hid (p2 ≤ b.length) := (proto_grows (c := []) hq).2.2
      rw [hq] at CQ HE2
      have HE3 : Hid (ans = if pr = 33 ∨ pr = 87 then ipV { v with proto := pr, pos := p2 } b else .ok { v with proto := pr, pos := p2 }) := HE2.out
      clear HE2 hq
      go_upto_region 9 with (refine wpList_load_row rfl 24 (.tmp 2) rfl L rfl 24 (lkA l) (0, 0) _ L3 Tryz.underlying24 rfl HL.out ?_)
      refine CQ.mono ?_
      rintro e' w4 ⟨rfl, K⟩
      simp only [exV, exE]
      have R4 := R3.kept K
      have V4 := V3.kept K
      have A4 : Hid (Cells w4 a b) := A3.out.keptNone K
      have G4 := grown_trans G3 K
      have g0 : w4.cell? ⟨V, 0, none⟩ = some (.int .u32 (v.proto : Int)) := V4.cell 0
      have g5 : w4.cell? ⟨V, 5, none⟩ = some (.int .i64 (v.pos : Int)) := V4.cell 5
      have f0 := V4.free 0
      have f5 := V4.free 5
      clear CQ R3 V3 L3 A3 G3 K d0 d1 d2 d5
      have R5 : VAt ((w4.setCell ⟨V, 0, none⟩ (.int .u32 (pr : Int))).setCell ⟨V, 5, none⟩ (.int .i64 (p2 : Int))) R 42 (vwA Vw.zero) := (R4.setOther _ HVR.out).setOther _ HVR.out
      have V5 : VAt ((w4.setCell ⟨V, 0, none⟩ (.int .u32 (pr : Int))).setCell ⟨V, 5, none⟩ (.int .i64 (p2 : Int))) V 42 (vwA { v with proto := pr, pos := p2 }) := (V4.set 0 _).set 5 _
      have G5 : w.grownBy ((w4.setCell ⟨V, 0, none⟩ (.int .u32 (pr : Int))).setCell ⟨V, 5, none⟩ (.int .i64 (p2 : Int))) none := grown_setCell (grown_setCell G4 _ _ (.inr HV2.out)) _ _ (.inr HV2.out)
      have A5 : Hid (Cells ((w4.setCell ⟨V, 0, none⟩ (.int .u32 (pr : Int))).setCell ⟨V, 5, none⟩ (.int .i64 (p2 : Int))) a b) := HA0.out.keptNone G5
      clear R4 V4 A4 G4 HU
      go_upto_region 9 with fail
      generalize (w4.setCell ⟨V, 0, none⟩ (.int .u32 (pr : Int))).setCell ⟨V, 5, none⟩ (.int .i64 (p2 : Int)) = w5 at *
      clear g0 g5 f0 f5
      obtain ⟨U, hU⟩ : ∃ U : Vw, U = { v with proto := pr, pos := p2 } := ⟨_, rfl⟩
      have hU1 : U.proto = pr := by rw [hU]
      have HU : Hid (U.pos ≤ b.length) := by
       show U.pos ≤ b.length
       rw [hU]
       exact HU2.out
      have HQ : Hid (ans = if U.proto = 33 ∨ U.proto = 87 then ipV U b else .ok U) := by
       show ans = _
       rw [HE3.out, ← hU, hU1]
      rw [← hU] at V5
      clear hU hU1 HU2 HE3
      have d0 : w5.cell? ⟨V, 0, none⟩ = some (.int .u32 (U.proto : Int)) := V5.cell 0
      by_cases hi : U.proto = 33 ∨ U.proto = 87
      ·have hd : ((U.proto : Int) == 33) = true ∨ ((U.proto : Int) == 33) = false ∧ ((U.proto : Int) == 87) = true := by
        by_cases h0 : U.proto = 33
        ·exact .inl (by rw [h0]; rfl)
        ·exact .inr ⟨by rw [beq_eq_false_iff_ne]; omega, by have := hi.resolve_left h0; rw [this]; rfl⟩
       have HE : Hid (ans = ipV U b) := by
        show ans = _
        rw [HQ.out, if_pos hi]
       clear HQ hi
       have CI := refip_any U a ca b w5 A5.out HLEN.out HU.out
       generalize ipV U b = ip at *
       rcases hd with hd | ⟨hd, hd2⟩
       all_goals
        go_wp2_with (refine wpList_load_row rfl 42 (.tmp 7) rfl V rfl 42 (vwA U) (0, 0) _ V5 Tryz.underlying42 rfl (HS.out _) ?_)
        refine CI.mono ?_
        rintro e' w9 ⟨rfl, K9⟩
        have R9 := R5.kept K9
        have G9 := grown_trans G5 K9
        clear CI V5 R5 G5 A5 K9 d0
        go_wp2_with (refine wpList_store_row rfl 42 (.tmp 4) (.tmp 62) rfl R (vwA (exV Vw.zero ip)) rfl rfl 42 _ R9 (HS.out _) rfl (vwA_all _) ?_)
        refine bodyPost_ret (ret_row rfl _ _ R (vwA (exV Vw.zero ip)) _ rfl (R9.setRow _) Tryz.underlying42 rfl (HS.out _)) rfl ?_
        exact ⟨by rw [HE.out]; rfl, vgrown_setRow G9 _ _ (.inr HR2.out)⟩
      ·have hd : ((U.proto : Int) == 33) = false := by rw [beq_eq_false_iff_ne]; omega
       have hd2 : ((U.proto : Int) == 87) = false := by rw [beq_eq_false_iff_ne]; omega
       have HE : Hid (ans = .ok U) := by
        show ans = _
        rw [HQ.out, if_neg hi]
       clear HQ hi
       go_wp2_with (first | refine wpList_load_row rfl 42 (.tmp 7) rfl V rfl 42 (vwA U) (0, 0) _ V5 Tryz.underlying42 rfl (HS.out _) ?_ | refine wpList_store_row rfl 42 (.tmp 4) (.tmp 64) rfl R (vwA U) rfl rfl 42 _ R5 (HS.out _) rfl (vwA_all _) ?_)
       refine bodyPost_ret (ret_row rfl _ _ R (vwA U) _ rfl (R5.setRow _) Tryz.underlying42 rfl (HS.out _)) rfl ?_
       exact ⟨by rw [HE.out]; rfl, vgrown_setRow G5 _ _ (.inr HR2.out)⟩
 ·have hck' : (checkF l != 0) = true := by rw [bne_iff_ne]; exact hck
  have HE : Hid (ans = .error (checkF l)) := by
   show ans = _
   rw [← HANS.out, lookX, if_pos hck]
  clear HANS hck
  generalize checkF l = ck at *
  go_wp2_with (refine wpList_store_row rfl 42 (.tmp 4) (.tmp 13) rfl R (vwA Vw.zero) rfl rfl 42 _ RA1 (HS.out _) rfl (vwA_all _) ?_)
  refine bodyPost_ret (ret_row rfl _ _ R (vwA Vw.zero) _ rfl (RA1.setRow _) Tryz.underlying42 rfl (HS.out _)) rfl ?_
  exact ⟨by rw [HE.out]; rfl, vgrown_setRow G1 _ _ (.inr HR2.out)⟩
def wv (c : UInt32) : Value := .int .u32 (c.toNat : Int)
structure Part where
 ao : Option Addr
 cap : Nat
 bs : List UInt8
def Part.v (p : Part) : Value := .slice p.ao p.bs.length p.cap
def Part.ok (p : Part) (w : World) : Prop := Cells w p.ao p.bs ∧ (p.ao = none → p.cap = 0)
def SizesRel (w : World) (g n : Nat) (wr : World) : Prop :=
 ∃ xs : List UInt32, xs.length = n ∧ wr.ownsRow w.heap.size 37 1 (.slice (some ⟨g, 0, none⟩) n n) n (xs.map wv) ∧ w.grownBy wr none
theorem SizesRel.store {w wr : World} {g n : Nat} (h : SizesRel w g n wr) (i : Nat) (m : Nat) : SizesRel w g n (wr.setCell ⟨g, i, none⟩ (.int .u32 ((m : Int) % 4294967296))) := by
 obtain ⟨xs, hx, ho, hg⟩ := h
 refine ⟨xs.set i (UInt32.ofNat m), by simpa using hx, ?_, ?_⟩
 ·have := ho.stored i (.int .u32 ((m : Int) % 4294967296))
  rw [List.map_set]
  have e : wv (UInt32.ofNat m) = .int .u32 ((m : Int) % 4294967296) := by simp [wv]
  rw [e]
  exact this.1
 ·exact grown_setCell hg _ _ (.inr (ho.lt g rfl).1)
theorem SizesRel.cell {w wr : World} {g n : Nat} (h : SizesRel w g n wr) {i : Nat} (hi : i < n) : ∃ u, wr.cell? ⟨g, i, none⟩ = some u := by
 obtain ⟨xs, hx, ho, hg⟩ := h
 have := ho.cellAt i (by omega)
 refine ⟨wv (xs[i]'(by omega)), ?_⟩
 rw [this]
 simp [show i < xs.length by omega]
theorem SizesRel.free {w wr : World} {g n : Nat} (h : SizesRel w g n wr) (i : Nat) : wr.frozen? ⟨g, i, none⟩ = false := by
 obtain ⟨xs, hx, ho, hg⟩ := h
 exact ho.frozenAt i
theorem Part.ok.kept {p : Part} {w w' : World} (h : p.ok w) (hg : w.grownBy w' none) : p.ok w' := ⟨h.1.keptNone hg, h.2⟩

end Go.Proofs.YtcodofamdhcfiaaGreat
