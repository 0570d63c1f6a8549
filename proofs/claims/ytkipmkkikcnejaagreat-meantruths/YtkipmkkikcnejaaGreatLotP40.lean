/-
  Package frame as landed: Check, the reader's beginning, what is caught, a frame that is refused for its link. The document's own IP.
-/
import Derived.Test.YtkipmkkikcnejaaGreatLotP39
import Derived.Defers
import Derived.Recover
import Derived.Deep.MidRow
import Derived.Test.YtkipmkkikcnejaaGreatLotP8
namespace Go.Proofs.YtkipmkkikcnejaaGreat
open Go.RowKit
set_option maxRecDepth 100000

set_option maxHeartbeats 400000 in
theorem chk_any (l : Lk) (w : World) : Calls Tryz.prog 37 #[.agg (lkA l)] w fun e w' => e = .returned (.int .i64 (checkF l)) ∧ w.grownBy w' none := by
  obtain ⟨a, p, m⟩ := l
  simp only [lkA]
  by_cases h0 : m < 0
  · have e : checkF ⟨a, p, m⟩ = 70 := by rw [checkF, if_pos (.inl h0)]
    rw [e]
    go_enter Tryz.func37, Tryz.ntmps37
    go_wp2
    go_ret
    exact ⟨rfl, World.grownBy_alloc _ _ _⟩
  · by_cases h2 : 2 < m
    · have e : checkF ⟨a, p, m⟩ = 70 := by rw [checkF, if_pos (.inr h2)]
      rw [e]
      go_enter Tryz.func37, Tryz.ntmps37
      go_wp2
      go_ret
      exact ⟨rfl, World.grownBy_alloc _ _ _⟩
    · have e : checkF ⟨a, p, m⟩ = 0 := by rw [checkF, if_neg (by simp only; omega)]
      rw [e]
      go_enter Tryz.func37, Tryz.ntmps37
      go_wp2
      go_ret
      exact ⟨rfl, World.grownBy_alloc _ _ _⟩

set_option maxHeartbeats 1000000 in
theorem over_any (l : Lk) (a : Option Addr) (n ca : Nat) (w : World) : Calls Tryz.prog 126 #[.agg (lkA l), .slice a n ca] w fun e w' => ∃ g, e = .returned (.pointer (some ⟨g, 0, none⟩)) ∧ WAt w' g Vw.zero l (.slice a n ca) ∧ w.heap.size ≤ g ∧ w.grownBy w' none := by
  obtain ⟨ac, pf, m⟩ := l
  simp only [lkA]
  go_enter Tryz.func126, Tryz.ntmps126
  go_wp2
  go_ret
  refine ⟨_, rfl, ?_, Nat.le_succ _, grown_trans (World.grownBy_alloc _ _ _) (World.grownBy_alloc _ _ _)⟩
  have k := VAt.alloc (w.alloc (.cells #[.bool ac, .bool pf, .int .i64 m] 24)) 141 (wkA Vw.zero ⟨ac, pf, m⟩ (.slice a n ca))
  rw [show (w.alloc (.cells #[.bool ac, .bool pf, .int .i64 m] 24)).heap.size = w.heap.size + 1 by simp] at k
  exact k

/-- Three new blocks: the boxed link, the view, the error. -/
theorem three_blocks (w : World) (l : Lk) (t s r : Nat) (cs ds : Array Value) :
    VAt (((w.alloc (.cells (lkA l) t)).alloc (.cells cs s)).alloc (.cells ds r)) w.heap.size t (lkA l) ∧ VAt (((w.alloc (.cells (lkA l) t)).alloc (.cells cs s)).alloc (.cells ds r)) (w.heap.size + 1) s cs ∧ VAt (((w.alloc (.cells (lkA l) t)).alloc (.cells cs s)).alloc (.cells ds r)) (w.heap.size + 2) r ds ∧ w.grownBy (((w.alloc (.cells (lkA l) t)).alloc (.cells cs s)).alloc (.cells ds r)) none := by
  obtain ⟨A0, A1, G⟩ := two_blocks w l t s cs
  have A2 := VAt.alloc ((w.alloc (.cells (lkA l) t)).alloc (.cells cs s)) r ds
  have K := World.grownBy_alloc ((w.alloc (.cells (lkA l) t)).alloc (.cells cs s)) (.cells ds r) none
  rw [show ((w.alloc (.cells (lkA l) t)).alloc (.cells cs s)).heap.size = w.heap.size + 2 by simp] at A2
  exact ⟨A0.kept K, A1.kept K, A2, grown_trans G K⟩

set_option maxHeartbeats 1000000 in
theorem catch_pan (R E : Nat) (er e0 : Int) (X : Array Value) (w : World) (hR : VAt w R 58 X) (hX : X.size = 9) (hE : VAt w E 26 #[.int .i64 e0]) (hne : R ≠ E) :
    CallsD Tryz.prog 125 #[.pointer (some ⟨R, 0, none⟩), .pointer (some ⟨E, 0, none⟩)] (.panicking (PanE er)) w fun e u' w' =>
      e = .returned (.tuple #[]) ∧ u' = .panicking [{ v := .iface 26 (.int .i64 er), recovered := true }] ∧ w' = (w.setRow R (vwA Vw.zero)).setCell ⟨E, 0, none⟩ (.int .i64 er) := by
  have hta : ∀ W : World, (Instr.typeAssert (.iface 26 (.int .i64 er)) 20 26 true).run Tryz.prog W = .ok (.tuple #[.int .i64 er, .bool true]) W := fun W => by kernel_rfl
  refine callsD_of_wpS Tryz.func125 rfl fun c₀ cs hu => ?_
  unfold PanE at hu
  apply wpS_seq
  apply wpS_region
  simp [wpOpsS, go_sem, recoverD, hu, hta, Tryz.ntmps125, Exit.thenS]
  refine wpS_of_wp ?_
  have HS : Hid ((Tryz.prog.info? 58).map (·.size) = some (vwA Vw.zero).size) := size58
  have HX : Hid (X.size = (vwA Vw.zero).size) := hX
  have RA := hR
  have E1 := hE.grown (w' := w.setRow R (vwA Vw.zero)) (vgrown_setRow (World.grownBy.refl w (some R)) R (vwA Vw.zero) (.inl rfl)) (by simpa using hne)
  have cE : (w.setRow R (vwA Vw.zero)).cell? ⟨E, 0, none⟩ = some (.int .i64 e0) := E1.cell 0
  have fE := E1.free 0
  clear hta hX hE E1 hR
  obtain ⟨T, hT⟩ : ∃ T, Tryz.f125 = T := ⟨_, rfl⟩
  have HT : Hid (T.results = #[]) := by show T.results = #[]; rw [← hT]; rfl
  rw [hT]
  clear hT
  have eT : (#[.pointer (some ⟨R, 0, none⟩), .pointer (some ⟨E, 0, none⟩)] ++ (((((((Array.replicate 10 undef).setIfInBounds 3 (.iface 26 (.int .i64 er))).setIfInBounds 4 (.tuple #[.int .i64 er, .bool true])).setIfInBounds 2 (.tuple #[.int .i64 er, .bool true])).setIfInBounds 5 (.int .i64 er)).setIfInBounds 6 (.bool true)).setIfInBounds 0 (.int .i64 er)).setIfInBounds 1 (.bool true) : Array Value) = #[.pointer (some ⟨R, 0, none⟩), .pointer (some ⟨E, 0, none⟩), .int .i64 er, .bool true, .tuple #[.int .i64 er, .bool true], .iface 26 (.int .i64 er), .tuple #[.int .i64 er, .bool true], .int .i64 er, .bool true, undef, undef, undef] := by kernel_rfl
  rw [eT]
  clear eT
  go_wp2_with (refine wpList_store_row rfl 58 (.tmp 0) (.tmp 10) rfl R (vwA Vw.zero) rfl rfl 58 X RA HS.out HX.out (vwA_all _) ?_)
  exact ⟨rfl, _, rfl, _, results_none HT.out _ _ _, rfl, rfl, rfl⟩

set_option maxHeartbeats 1000000 in
theorem catch_idle (R E : Nat) (w : World) :
    CallsD Tryz.prog 125 #[.pointer (some ⟨R, 0, none⟩), .pointer (some ⟨E, 0, none⟩)] .returning w fun e u' w' => e = .returned (.tuple #[]) ∧ u' = .returning ∧ w' = w := by
  have hta : ∀ W : World, (Instr.typeAssert .nilIface 20 26 true).run Tryz.prog W = .ok (.tuple #[.int .i64 0, .bool false]) W := fun W => by kernel_rfl
  refine callsD_of_wpS Tryz.func125 rfl fun c₀ cs hu => ?_
  apply wpS_seq
  apply wpS_region
  simp [wpOpsS, go_sem, recoverD, hu, hta, Tryz.ntmps125, Exit.thenS]
  refine wpS_of_wp ?_
  clear hta
  obtain ⟨T, hT⟩ : ∃ T, Tryz.f125 = T := ⟨_, rfl⟩
  have HT : Hid (T.results = #[]) := by show T.results = #[]; rw [← hT]; rfl
  rw [hT]
  clear hT
  have eT : (#[.pointer (some ⟨R, 0, none⟩), .pointer (some ⟨E, 0, none⟩)] ++ (((((((Array.replicate 10 undef).setIfInBounds 3 .nilIface).setIfInBounds 4 (.tuple #[.int .i64 0, .bool false])).setIfInBounds 2 (.tuple #[.int .i64 0, .bool false])).setIfInBounds 5 (.int .i64 0)).setIfInBounds 6 (.bool false)).setIfInBounds 0 (.int .i64 0)).setIfInBounds 1 (.bool false) : Array Value) = #[.pointer (some ⟨R, 0, none⟩), .pointer (some ⟨E, 0, none⟩), .int .i64 0, .bool false, .tuple #[.int .i64 0, .bool false], .nilIface, .tuple #[.int .i64 0, .bool false], .int .i64 0, .bool false, undef, undef, undef] := by kernel_rfl
  rw [eT]
  clear eT
  go_wp2
  exact ⟨rfl, _, by rw [← hu], _, results_none HT.out _ _ _, rfl, rfl, rfl⟩

end Go.Proofs.YtkipmkkikcnejaaGreat

namespace Go.Proofs.YtkipmkkikcnejaaGreat
open Go.RowKit
set_option maxRecDepth 100000

/-- A boxed view, and a second behind it. -/
theorem two_views (w : World) (t s : Nat) (ds cs : Array Value) :
    VAt ((w.alloc (.cells ds t)).alloc (.cells cs s)) w.heap.size t ds ∧ VAt ((w.alloc (.cells ds t)).alloc (.cells cs s)) (w.heap.size + 1) s cs ∧ w.grownBy ((w.alloc (.cells ds t)).alloc (.cells cs s)) none := by
  have A0 := VAt.alloc w t ds
  have A1 := VAt.alloc (w.alloc (.cells ds t)) s cs
  have K1 := World.grownBy_alloc (w.alloc (.cells ds t)) (.cells cs s) none
  rw [show (w.alloc (.cells ds t)).heap.size = w.heap.size + 1 by simp] at A1
  exact ⟨A0.kept K1, A1, grown_trans (World.grownBy_alloc w _ none) K1⟩

theorem mod_and_u8 (h k : Nat) (hh : h < 256) (hk : k ≤ 8) : bits .and .u8 (h : Int) ((2 ^ k - 1 : Nat) : Int) = ((h % 2 ^ k : Nat) : Int) := by
  have hlt : 2 ^ k ≤ 2 ^ 8 := Nat.pow_le_pow_right (by decide) hk
  have := u8_and_nat h (2 ^ k - 1) hh (by omega)
  rw [this, Nat.and_two_pow_sub_one_eq_mod]
theorem and15 (x : Nat) (h : x < 256) : bits BinOp.and IntKind.u8 (x : Int) 15 = ((x % 16 : Nat) : Int) := by
  have := mod_and_u8 x 4 h (by decide)
  exact this
theorem and31 (x : Nat) (h : x < 256) : bits BinOp.and IntKind.u8 (x : Int) 31 = ((x % 32 : Nat) : Int) := by
  have := mod_and_u8 x 5 h (by decide)
  exact this

theorem two_sets {w wa : World} {L R t : Nat} {v : Vw} (LA : VAt wa L t (vwA v)) (RA : VAt wa R t (vwA Vw.zero)) (G : w.grownBy wa none) (hRL : R ≠ L) (hL : w.heap.size ≤ L) (n1 n2 : Nat) :
    VAt ((wa.setCell ⟨L, 6, none⟩ (.int .i64 (n1 : Int))).setCell ⟨L, 7, none⟩ (.int .i64 (n2 : Int))) L t (vwA { v with net := n1, next := n2 })
    ∧ VAt ((wa.setCell ⟨L, 6, none⟩ (.int .i64 (n1 : Int))).setCell ⟨L, 7, none⟩ (.int .i64 (n2 : Int))) R t (vwA Vw.zero)
    ∧ w.grownBy ((wa.setCell ⟨L, 6, none⟩ (.int .i64 (n1 : Int))).setCell ⟨L, 7, none⟩ (.int .i64 (n2 : Int))) none :=
  ⟨(LA.set 6 _).set 7 _, (RA.setOther _ hRL).setOther _ hRL, grown_setCell (grown_setCell G _ _ (.inr hL)) _ _ (.inr hL)⟩
theorem three_sets {w wa : World} {L R t : Nat} {v : Vw} (LA : VAt wa L t (vwA v)) (RA : VAt wa R t (vwA Vw.zero)) (G : w.grownBy wa none) (hRL : R ≠ L) (hL : w.heap.size ≤ L) (n1 n2 n3 : Nat) :
    VAt (((wa.setCell ⟨L, 6, none⟩ (.int .i64 (n1 : Int))).setCell ⟨L, 7, none⟩ (.int .i64 (n2 : Int))).setCell ⟨L, 8, none⟩ (.int .i64 (n3 : Int))) L t (vwA { v with net := n1, next := n2, load := n3 })
    ∧ VAt (((wa.setCell ⟨L, 6, none⟩ (.int .i64 (n1 : Int))).setCell ⟨L, 7, none⟩ (.int .i64 (n2 : Int))).setCell ⟨L, 8, none⟩ (.int .i64 (n3 : Int))) R t (vwA Vw.zero)
    ∧ w.grownBy (((wa.setCell ⟨L, 6, none⟩ (.int .i64 (n1 : Int))).setCell ⟨L, 7, none⟩ (.int .i64 (n2 : Int))).setCell ⟨L, 8, none⟩ (.int .i64 (n3 : Int))) none := by
  obtain ⟨h1, h2, h3⟩ := two_sets LA RA G hRL hL n1 n2
  exact ⟨h1.set 8 _, h2.setOther _ hRL, grown_setCell h3 _ _ (.inr hL)⟩

set_option maxRecDepth 100000 in
set_option maxHeartbeats 4000000 in
theorem refip6_any (v : Vw) (a : Option Addr) (ca : Nat) (b : List UInt8) (w : World) (ha : Cells w a b) (hn : b.length ≤ 65535) (hpos : v.pos ≤ b.length) (h87 : v.proto = 87) :
    Calls Tryz.prog 49 #[.agg (vwA v), .slice a b.length ca] w fun e w' => e = .returned (.tuple #[.agg (vwA (exV Vw.zero (ipV v b))), .int .i64 (exE (ipV v b))]) ∧ w.grownBy w' none := by
  obtain ⟨LA, RA, G0⟩ := two_views w 58 58 (vwA v) (vwA Vw.zero)
  have HA : Hid (Cells w a b) := ha
  have HS : Hid (∀ v : Vw, (Tryz.prog.info? 58).map (·.size) = some (vwA v).size) := fun v => size58
  clear ha
  obtain ⟨ans, hans⟩ : ∃ ans, ipV v b = ans := ⟨_, rfl⟩
  rw [hans]
  have HANS : Hid (ipV v b = ans) := hans
  have H87 : Hid (v.proto = 87) := h87
  clear hans h87
  go_enter Tryz.func49, Tryz.ntmps49
  go_upto_region 1 with fail
  rw [show (w.alloc (.cells (vwA v) 58)).alloc (.cells #[.int .u32 0, .bool false, .bool false, .bool false, .int .u32 0, .int .i64 0, .int .i64 0, .int .i64 0, .int .i64 0] 58) = (w.alloc (.cells (vwA v) 58)).alloc (.cells (vwA Vw.zero) 58) from rfl]
  generalize (w.alloc (.cells (vwA v) 58)).alloc (.cells (vwA Vw.zero) 58) = wa at *
  obtain ⟨L, hL, hL2⟩ : ∃ L, w.heap.size = L ∧ w.heap.size ≤ L := ⟨_, rfl, Nat.le_refl _⟩
  obtain ⟨R, hR, hR2⟩ : ∃ R, w.heap.size + 1 = R ∧ w.heap.size ≤ R := ⟨_, rfl, by omega⟩
  have HRL : Hid (R ≠ L) := by
    show R ≠ L
    omega
  rw [hR] at RA ⊢
  rw [hL] at LA ⊢
  clear hR hL
  have HR2 : Hid (w.heap.size ≤ R) := hR2
  have HL2 : Hid (w.heap.size ≤ L) := hL2
  clear hR2 hL2
  have c0 : wa.cell? ⟨L, 0, none⟩ = some (.int .u32 (v.proto : Int)) := LA.cell 0
  have c5 : wa.cell? ⟨L, 5, none⟩ = some (.int .i64 (v.pos : Int)) := LA.cell 5
  have c6 : wa.cell? ⟨L, 6, none⟩ = some (.int .i64 (v.net : Int)) := LA.cell 6
  have c7 : wa.cell? ⟨L, 7, none⟩ = some (.int .i64 (v.next : Int)) := LA.cell 7
  have c8 : wa.cell? ⟨L, 8, none⟩ = some (.int .i64 (v.load : Int)) := LA.cell 8
  have f6 := LA.free 6
  have f7 := LA.free 7
  have f8 := LA.free 8
  have hb : v.pos < 65536 := by omega
  have h87' : ((v.proto : Int) == 87) = true := by rw [H87.out]; rfl
  by_cases h40 : b.length < v.pos + 40
  · have h40' : (b.length : Int) - (v.pos : Int) < 40 := by omega
    have HE : Hid (ans = .error 72) := by
      show ans = _
      rw [← HANS.out, ipV, if_pos H87.out, if_pos h40]
    clear HANS H87
    go_wp2_with (refine wpList_store_row rfl 58 (.tmp 4) (.tmp 21) rfl R (vwA Vw.zero) rfl rfl 58 _ RA (HS.out _) rfl (vwA_all _) ?_)
    refine bodyPost_ret (ret_row rfl _ _ R (vwA Vw.zero) _ rfl (RA.setRow _) Tryz.underlying58 rfl (HS.out _)) rfl ?_
    exact ⟨by rw [HE.out]; rfl, vgrown_setRow G0 _ _ (.inr HR2.out)⟩
  · have h40' : ¬ (b.length : Int) - (v.pos : Int) < 40 := by omega
    obtain ⟨bb, o, rfl, hc⟩ := HA.out.bgc (k := v.pos) (by omega)
    have hbL : bb ≠ L := by
      have := World.block_lt_of_cell? w _ (hc v.pos (by omega))
      have := HL2.out
      simp only at *
      omega
    have hcw := fun i hi => G0.cell (hc i hi) (by simp)
    have x0 := hcw (v.pos) (by omega)
    have l0 : (v.pos : Int) < (b.length : Int) := by omega
    have b0 := bg_lt b (v.pos)
    have x6 := hcw (v.pos + 6) (by omega)
    have l6 : (v.pos : Int) + 6 < (b.length : Int) := by omega
    have b6 := bg_lt b (v.pos + 6)
    clear hc hcw HA
    by_cases hv : bg b v.pos / 16 = 6
    · have hv' : ((bg b v.pos : Int) / 16 != 6) = false := by rw [bne_eq_false_iff_eq]; omega
      have HE : Hid (ans = .ok { v with net := 6, next := bg b (v.pos + 6), load := v.pos + 40 }) := by
        show ans = _
        rw [← HANS.out, ipV, if_pos H87.out, if_neg h40, if_neg (fun e => e hv)]
      clear HANS H87 hv
      obtain ⟨V3, R3, G3⟩ := three_sets LA RA G0 HRL.out HL2.out 6 (bg b (v.pos + 6)) (v.pos + 40)
      simp only [Int.natCast_add, Int.cast_ofNat_Int] at V3 R3 G3
      generalize bg b (v.pos + 6) = y at *
      generalize bg b v.pos = x at *
      have HU : Hid (∃ U : Vw, U = { v with net := 6, next := y, load := v.pos + 40 }) := ⟨_, rfl⟩
      obtain ⟨U, hU⟩ := HU.out
      rw [← hU] at V3 HE
      clear hU HU LA RA G0
      go_upto_region 14 with fail
      generalize ((wa.setCell ⟨L, 6, none⟩ (.int .i64 6)).setCell ⟨L, 7, none⟩ (.int .i64 (y : Int))).setCell ⟨L, 8, none⟩ (.int .i64 ((v.pos : Int) + 40)) = w3 at *
      clear c0 c5 c6 c7 c8 f6 f7 f8 x0 x6 hbL
      go_wp2_with (first | refine wpList_load_row rfl 58 (.tmp 2) rfl L rfl 58 (vwA U) (0, 0) _ V3 Tryz.underlying58 rfl (HS.out _) ?_ | refine wpList_store_row rfl 58 (.tmp 4) (.tmp 46) rfl R (vwA U) rfl rfl 58 _ R3 (HS.out _) rfl (vwA_all _) ?_)
      refine bodyPost_ret (ret_row rfl _ _ R (vwA U) _ rfl (R3.setRow _) Tryz.underlying58 rfl (HS.out _)) rfl ?_
      exact ⟨by rw [HE.out]; rfl, vgrown_setRow G3 _ _ (.inr HR2.out)⟩
    · have hv' : ((bg b v.pos : Int) / 16 != 6) = true := by rw [bne_iff_ne]; omega
      have HE : Hid (ans = .error 76) := by
        show ans = _
        rw [← HANS.out, ipV, if_pos H87.out, if_neg h40, if_pos hv]
      clear HANS H87 hv
      go_wp2_with (refine wpList_store_row rfl 58 (.tmp 4) (.tmp 30) rfl R (vwA Vw.zero) rfl rfl 58 _ RA (HS.out _) rfl (vwA_all _) ?_)
      refine bodyPost_ret (ret_row rfl _ _ R (vwA Vw.zero) _ rfl (RA.setRow _) Tryz.underlying58 rfl (HS.out _)) rfl ?_
      exact ⟨by rw [HE.out]; rfl, vgrown_setRow G0 _ _ (.inr HR2.out)⟩

set_option maxRecDepth 100000 in
set_option maxHeartbeats 4000000 in
theorem refip4_any (v : Vw) (a : Option Addr) (ca : Nat) (b : List UInt8) (w : World) (ha : Cells w a b) (hn : b.length ≤ 65535) (hpos : v.pos ≤ b.length) (h87 : v.proto ≠ 87) :
    Calls Tryz.prog 49 #[.agg (vwA v), .slice a b.length ca] w fun e w' => e = .returned (.tuple #[.agg (vwA (exV Vw.zero (ipV v b))), .int .i64 (exE (ipV v b))]) ∧ w.grownBy w' none := by
  obtain ⟨LA, RA, G0⟩ := two_views w 58 58 (vwA v) (vwA Vw.zero)
  have HA : Hid (Cells w a b) := ha
  have HS : Hid (∀ v : Vw, (Tryz.prog.info? 58).map (·.size) = some (vwA v).size) := fun v => size58
  clear ha
  obtain ⟨ans, hans⟩ : ∃ ans, ipV v b = ans := ⟨_, rfl⟩
  rw [hans]
  have HANS : Hid (ipV v b = ans) := hans
  have H87 : Hid (v.proto ≠ 87) := h87
  clear hans h87
  go_enter Tryz.func49, Tryz.ntmps49
  go_upto_region 1 with fail
  rw [show (w.alloc (.cells (vwA v) 58)).alloc (.cells #[.int .u32 0, .bool false, .bool false, .bool false, .int .u32 0, .int .i64 0, .int .i64 0, .int .i64 0, .int .i64 0] 58) = (w.alloc (.cells (vwA v) 58)).alloc (.cells (vwA Vw.zero) 58) from rfl]
  generalize (w.alloc (.cells (vwA v) 58)).alloc (.cells (vwA Vw.zero) 58) = wa at *
  obtain ⟨L, hL, hL2⟩ : ∃ L, w.heap.size = L ∧ w.heap.size ≤ L := ⟨_, rfl, Nat.le_refl _⟩
  obtain ⟨R, hR, hR2⟩ : ∃ R, w.heap.size + 1 = R ∧ w.heap.size ≤ R := ⟨_, rfl, by omega⟩
  have HRL : Hid (R ≠ L) := by
    show R ≠ L
    omega
  rw [hR] at RA ⊢
  rw [hL] at LA ⊢
  clear hR hL
  have HR2 : Hid (w.heap.size ≤ R) := hR2
  have HL2 : Hid (w.heap.size ≤ L) := hL2
  clear hR2 hL2
  have c0 : wa.cell? ⟨L, 0, none⟩ = some (.int .u32 (v.proto : Int)) := LA.cell 0
  have c5 : wa.cell? ⟨L, 5, none⟩ = some (.int .i64 (v.pos : Int)) := LA.cell 5
  have c6 : wa.cell? ⟨L, 6, none⟩ = some (.int .i64 (v.net : Int)) := LA.cell 6
  have c7 : wa.cell? ⟨L, 7, none⟩ = some (.int .i64 (v.next : Int)) := LA.cell 7
  have c8 : wa.cell? ⟨L, 8, none⟩ = some (.int .i64 (v.load : Int)) := LA.cell 8
  have f6 := LA.free 6
  have f7 := LA.free 7
  have f8 := LA.free 8
  have hb : v.pos < 65536 := by omega
  have h87' : ((v.proto : Int) == 87) = false := by rw [beq_eq_false_iff_ne]; have := H87.out; omega
  by_cases h20 : b.length < v.pos + 20
  · have h20' : (b.length : Int) - (v.pos : Int) < 20 := by omega
    have HE : Hid (ans = .error 72) := by
      show ans = _
      rw [← HANS.out, ipV, if_neg H87.out, if_pos h20]
    clear HANS H87
    go_wp2_with (refine wpList_store_row rfl 58 (.tmp 4) (.tmp 21) rfl R (vwA Vw.zero) rfl rfl 58 _ RA (HS.out _) rfl (vwA_all _) ?_)
    refine bodyPost_ret (ret_row rfl _ _ R (vwA Vw.zero) _ rfl (RA.setRow _) Tryz.underlying58 rfl (HS.out _)) rfl ?_
    exact ⟨by rw [HE.out]; rfl, vgrown_setRow G0 _ _ (.inr HR2.out)⟩
  · have h20' : ¬ (b.length : Int) - (v.pos : Int) < 20 := by omega
    obtain ⟨bb, o, rfl, hc⟩ := HA.out.bgc (k := v.pos) (by omega)
    have hbL : bb ≠ L := by
      have := World.block_lt_of_cell? w _ (hc v.pos (by omega))
      have := HL2.out
      simp only at *
      omega
    have hcw := fun i hi => G0.cell (hc i hi) (by simp)
    have x0 := hcw (v.pos) (by omega)
    have l0 : (v.pos : Int) < (b.length : Int) := by omega
    have b0 := bg_lt b (v.pos)
    have x6 := hcw (v.pos + 6) (by omega)
    have l6 : (v.pos : Int) + 6 < (b.length : Int) := by omega
    have b6 := bg_lt b (v.pos + 6)
    have x7 := hcw (v.pos + 7) (by omega)
    have l7 : (v.pos : Int) + 7 < (b.length : Int) := by omega
    have b7 := bg_lt b (v.pos + 7)
    have x9 := hcw (v.pos + 9) (by omega)
    have l9 : (v.pos : Int) + 9 < (b.length : Int) := by omega
    have b9 := bg_lt b (v.pos + 9)
    clear hc hcw HA
    have HE1 := HANS.out
    rw [ipV, if_neg H87.out, if_neg h20] at HE1
    clear HANS H87
    by_cases hv : bg b v.pos / 16 = 4
    · have hv' : ((bg b v.pos : Int) / 16 != 4) = false := by rw [bne_eq_false_iff_eq]; omega
      have a15 := and15 (bg b v.pos) b0
      have a31 := and31 (bg b (v.pos + 6)) b6
      rw [if_neg (fun e => e hv)] at HE1
      clear hv
      generalize bg b (v.pos + 6) = y6 at *
      generalize bg b (v.pos + 7) = y7 at *
      generalize bg b (v.pos + 9) = y9 at *
      generalize bg b v.pos = x at *
      obtain ⟨k, hk⟩ : ∃ k, x % 16 = k := ⟨_, rfl⟩
      have hk16 : k < 16 := by omega
      rw [hk] at a15 HE1
      clear hk
      obtain ⟨z6, hz6⟩ : ∃ z6, y6 % 32 = z6 := ⟨_, rfl⟩
      rw [hz6] at a31 HE1
      clear hz6
      by_cases hs : 4 * k < 20
      · have hs' : 4 * (k : Int) < 20 := by omega
        rw [if_pos hs] at HE1
        have HE : Hid (ans = .error 76) := HE1.symm
        clear HE1
        go_wp2_with (refine wpList_store_row rfl 58 (.tmp 4) (.tmp 57) rfl R (vwA Vw.zero) rfl rfl 58 _ RA (HS.out _) rfl (vwA_all _) ?_)
        refine bodyPost_ret (ret_row rfl _ _ R (vwA Vw.zero) _ rfl (RA.setRow _) Tryz.underlying58 rfl (HS.out _)) rfl ?_
        exact ⟨by rw [HE.out]; rfl, vgrown_setRow G0 _ _ (.inr HR2.out)⟩
      · have hs' : ¬ 4 * (k : Int) < 20 := by omega
        rw [if_neg hs] at HE1
        by_cases hr : b.length < v.pos + 4 * k
        · have hr' : (b.length : Int) - (v.pos : Int) < 4 * (k : Int) := by omega
          rw [if_pos hr] at HE1
          have HE : Hid (ans = .error 72) := HE1.symm
          clear HE1
          go_wp2_with (refine wpList_store_row rfl 58 (.tmp 4) (.tmp 61) rfl R (vwA Vw.zero) rfl rfl 58 _ RA (HS.out _) rfl (vwA_all _) ?_)
          refine bodyPost_ret (ret_row rfl _ _ R (vwA Vw.zero) _ rfl (RA.setRow _) Tryz.underlying58 rfl (HS.out _)) rfl ?_
          exact ⟨by rw [HE.out]; rfl, vgrown_setRow G0 _ _ (.inr HR2.out)⟩
        · have hr' : ¬ (b.length : Int) - (v.pos : Int) < 4 * (k : Int) := by omega
          rw [if_neg hr] at HE1
          by_cases hf : z6 = 0 ∧ y7 = 0
          · have hf1 : ((z6 : Int) == 0) = true := by rw [hf.1]; rfl
            have hf2 : ((y7 : Int) == 0) = true := by rw [hf.2]; rfl
            rw [if_pos hf] at HE1
            clear hf
            obtain ⟨V3, R3, G3⟩ := three_sets LA RA G0 HRL.out HL2.out 4 y9 (v.pos + 4 * k)
            simp only [Int.natCast_add, Int.natCast_mul, Int.cast_ofNat_Int] at V3 R3 G3
            obtain ⟨U, hU⟩ : ∃ U : Vw, U = { v with net := 4, next := y9, load := v.pos + 4 * k } := ⟨_, rfl⟩
            rw [← hU] at V3 HE1
            have HE : Hid (ans = .ok U) := HE1.symm
            clear hU LA RA G0 HE1
            go_upto_region 24 with fail
            generalize ((wa.setCell ⟨L, 6, none⟩ (.int .i64 4)).setCell ⟨L, 7, none⟩ (.int .i64 (y9 : Int))).setCell ⟨L, 8, none⟩ (.int .i64 ((v.pos : Int) + 4 * (k : Int))) = w3 at *
            clear c0 c5 c6 c7 c8 f6 f7 f8 x0 x6 x7 x9 hbL
            go_wp2_with (first | refine wpList_load_row rfl 58 (.tmp 2) rfl L rfl 58 (vwA U) (0, 0) _ V3 Tryz.underlying58 rfl (HS.out _) ?_ | refine wpList_store_row rfl 58 (.tmp 4) (.tmp 93) rfl R (vwA U) rfl rfl 58 _ R3 (HS.out _) rfl (vwA_all _) ?_)
            refine bodyPost_ret (ret_row rfl _ _ R (vwA U) _ rfl (R3.setRow _) Tryz.underlying58 rfl (HS.out _)) rfl ?_
            exact ⟨by rw [HE.out]; rfl, vgrown_setRow G3 _ _ (.inr HR2.out)⟩
          · rw [if_neg hf] at HE1
            have hf' : ((z6 : Int) == 0) = false ∨ ((z6 : Int) == 0) = true ∧ ((y7 : Int) == 0) = false := by
              by_cases h1 : z6 = 0
              · exact .inr ⟨by rw [h1]; rfl, by rw [beq_eq_false_iff_ne]; intro e; exact hf ⟨h1, by omega⟩⟩
              · exact .inl (by rw [beq_eq_false_iff_ne]; omega)
            clear hf
            obtain ⟨V3, R3, G3⟩ := two_sets LA RA G0 HRL.out HL2.out 4 y9
            simp only [Int.cast_ofNat_Int] at V3 R3 G3
            obtain ⟨U, hU⟩ : ∃ U : Vw, U = { v with net := 4, next := y9 } := ⟨_, rfl⟩
            rw [← hU] at V3
            have HE : Hid (ans = .ok U) := by rw [hU]; exact HE1.symm
            clear hU LA RA G0 HE1
            rcases hf' with hf1 | ⟨hf1, hf2⟩
            all_goals
              go_upto_region 24 with fail
              generalize (wa.setCell ⟨L, 6, none⟩ (.int .i64 4)).setCell ⟨L, 7, none⟩ (.int .i64 (y9 : Int)) = w3 at *
              clear c0 c5 c6 c7 c8 f6 f7 f8 x0 x6 x7 x9 hbL
              go_wp2_with (first | refine wpList_load_row rfl 58 (.tmp 2) rfl L rfl 58 (vwA U) (0, 0) _ V3 Tryz.underlying58 rfl (HS.out _) ?_ | refine wpList_store_row rfl 58 (.tmp 4) (.tmp 93) rfl R (vwA U) rfl rfl 58 _ R3 (HS.out _) rfl (vwA_all _) ?_)
              refine bodyPost_ret (ret_row rfl _ _ R (vwA U) _ rfl (R3.setRow _) Tryz.underlying58 rfl (HS.out _)) rfl ?_
              exact ⟨by rw [HE.out]; rfl, vgrown_setRow G3 _ _ (.inr HR2.out)⟩
    · have hv' : ((bg b v.pos : Int) / 16 != 4) = true := by rw [bne_iff_ne]; omega
      have HE : Hid (ans = .error 76) := by
        show ans = _
        rw [← HE1, if_pos hv]
      clear HE1 hv
      go_wp2_with (refine wpList_store_row rfl 58 (.tmp 4) (.tmp 30) rfl R (vwA Vw.zero) rfl rfl 58 _ RA (HS.out _) rfl (vwA_all _) ?_)
      refine bodyPost_ret (ret_row rfl _ _ R (vwA Vw.zero) _ rfl (RA.setRow _) Tryz.underlying58 rfl (HS.out _)) rfl ?_
      exact ⟨by rw [HE.out]; rfl, vgrown_setRow G0 _ _ (.inr HR2.out)⟩

theorem refip_any (v : Vw) (a : Option Addr) (ca : Nat) (b : List UInt8) (w : World) (ha : Cells w a b) (hn : b.length ≤ 65535) (hpos : v.pos ≤ b.length) :
    Calls Tryz.prog 49 #[.agg (vwA v), .slice a b.length ca] w fun e w' => e = .returned (.tuple #[.agg (vwA (exV Vw.zero (ipV v b))), .int .i64 (exE (ipV v b))]) ∧ w.grownBy w' none := by
  by_cases h : v.proto = 87
  · exact refip6_any v a ca b w ha hn hpos h
  · exact refip4_any v a ca b w ha hn hpos h

end Go.Proofs.YtkipmkkikcnejaaGreat
