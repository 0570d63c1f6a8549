/-
  The document's own New.
-/
import Derived.Test.YtgfiadljjlajaaaBundleF
namespace Go.Proofs.Ytgfiadljjlajaaa
open Go.RowKit
set_option maxRecDepth 100000

theorem sizeB : (Try.prog.info? 37).map (·.size) = some 6 := by kernel_rfl
def newA (l : Lk) (next : Nat) : Array Value := match newX l next with
  | .ok u => rbA l u (.slice none 0 0)
  | .error _ => rbA ⟨false, false, 0⟩ ⟨0, false, []⟩ (.slice none 0 0)

set_option maxHeartbeats 2000000 in
theorem refnew_any (l : Lk) (next : Nat) (w : World) :
    Calls Try.prog 18 #[.agg (lkA l), .int .u32 (next : Int)] w fun e w' => e = .returned (.tuple #[.agg (newA l next), .int .i64 (exE (newX l next))]) ∧ w.grownBy w' none := by
  obtain ⟨LA, RA, G0⟩ := two_blocks w l 23 37 #[.bool false, .bool false, .int .i64 0, .int .u32 0, .bool false, .slice none 0 0]
  have HL : Hid ((Try.prog.info? 23).map (·.size) = some (lkA l).size) := size23
  have HSP : Hid (∀ W, Calls Try.prog 26 #[.agg (lkA l)] W fun e w' => e = .returned (.int .u32 (spV l : Int)) ∧ W.grownBy w' none) := fun W => space_any l W
  have CM := fun W => may_any l W
  have HCM : Hid (∀ W, Calls Try.prog 25 #[.agg (lkA l)] W fun e w' => e = .returned (.bool (mayB l)) ∧ W.grownBy w' none) := CM
  have hN : newX l next = if mayB l = false then .error 90 else if spV l ≤ next then .error 91 else .ok ⟨next, false, []⟩ := rfl
  clear CM
  unfold newA
  rw [hN]
  clear hN
  cases hmay : mayB l with
  | false =>
    rw [if_pos rfl]
    rw [hmay] at HCM
    clear hmay
    go_enter Try.func18, Try.ntmps18
    go_upto_region 1 with fail
    generalize (w.alloc (.cells (lkA l) 23)).alloc (.cells #[.bool false, .bool false, .int .i64 0, .int .u32 0, .bool false, .slice none 0 0] 37) = wa at *
    obtain ⟨L, hL⟩ : ∃ L, w.heap.size = L := ⟨_, rfl⟩
    obtain ⟨R, hR, hR2⟩ : ∃ R, w.heap.size + 1 = R ∧ w.heap.size ≤ R := ⟨_, rfl, by omega⟩
    have HR2 : Hid (w.heap.size ≤ R) := hR2
    rw [hR] at RA ⊢
    rw [hL] at LA ⊢
    clear hR hL hR2
    go_wp2_with (refine wpList_load_row rfl 23 (.tmp 2) rfl L rfl 23 (lkA l) (0, 0) _ LA Try.underlying23 rfl HL.out ?_)
    refine (HCM.out _).mono ?_
    rintro e w1 ⟨rfl, K1⟩
    have RA1 := RA.kept K1
    have G1 := grown_trans G0 K1
    clear LA RA G0 K1
    go_wp2_with (refine wpList_store_row rfl 37 (.tmp 4) (.tmp 10) rfl R #[.bool false, .bool false, .int .i64 0, .int .u32 0, .bool false, .slice none 0 0] rfl rfl 37 _ RA1 sizeB rfl (by simp [Value.oneCell']) ?_)
    refine bodyPost_ret (ret_row rfl _ _ R #[.bool false, .bool false, .int .i64 0, .int .u32 0, .bool false, .slice none 0 0] _ rfl (RA1.setRow _) Try.underlying37 rfl sizeB) rfl ?_
    exact ⟨rfl, vgrown_setRow G1 _ _ (.inr HR2.out)⟩
  | true =>
    rw [if_neg (by simp)]
    rw [hmay] at HCM
    clear hmay
    by_cases hs : spV l ≤ next
    · rw [if_pos hs]
      have hs' : (spV l : Int) ≤ (next : Int) := by omega
      clear hs
      go_enter Try.func18, Try.ntmps18
      go_upto_region 1 with fail
      generalize (w.alloc (.cells (lkA l) 23)).alloc (.cells #[.bool false, .bool false, .int .i64 0, .int .u32 0, .bool false, .slice none 0 0] 37) = wa at *
      obtain ⟨L, hL⟩ : ∃ L, w.heap.size = L := ⟨_, rfl⟩
      obtain ⟨R, hR, hR2⟩ : ∃ R, w.heap.size + 1 = R ∧ w.heap.size ≤ R := ⟨_, rfl, by omega⟩
      have HR2 : Hid (w.heap.size ≤ R) := hR2
      rw [hR] at RA ⊢
      rw [hL] at LA ⊢
      clear hR hL hR2
      go_wp2_with (refine wpList_load_row rfl 23 (.tmp 2) rfl L rfl 23 (lkA l) (0, 0) _ LA Try.underlying23 rfl HL.out ?_)
      refine (HCM.out _).mono ?_
      rintro e w1 ⟨rfl, K1⟩
      have LA1 := LA.kept K1
      have RA1 := RA.kept K1
      have G1 := grown_trans G0 K1
      clear LA RA G0 K1
      go_wp2_with (refine wpList_load_row rfl 23 (.tmp 2) rfl L rfl 23 (lkA l) (0, 0) _ LA1 Try.underlying23 rfl HL.out ?_)
      refine (HSP.out _).mono ?_
      rintro e w2 ⟨rfl, K2⟩
      have RA2 := RA1.kept K2
      have G2 := grown_trans G1 K2
      clear LA1 RA1 G1 K2
      go_wp2_with (refine wpList_store_row rfl 37 (.tmp 4) (.tmp 16) rfl R #[.bool false, .bool false, .int .i64 0, .int .u32 0, .bool false, .slice none 0 0] rfl rfl 37 _ RA2 sizeB rfl (by simp [Value.oneCell']) ?_)
      refine bodyPost_ret (ret_row rfl _ _ R #[.bool false, .bool false, .int .i64 0, .int .u32 0, .bool false, .slice none 0 0] _ rfl (RA2.setRow _) Try.underlying37 rfl sizeB) rfl ?_
      exact ⟨rfl, vgrown_setRow G2 _ _ (.inr HR2.out)⟩
    · rw [if_neg hs]
      have hs' : ¬ (spV l : Int) ≤ (next : Int) := by omega
      clear hs
      go_enter Try.func18, Try.ntmps18
      go_upto_region 1 with fail
      generalize (w.alloc (.cells (lkA l) 23)).alloc (.cells #[.bool false, .bool false, .int .i64 0, .int .u32 0, .bool false, .slice none 0 0] 37) = wa at *
      obtain ⟨L, hL⟩ : ∃ L, w.heap.size = L := ⟨_, rfl⟩
      obtain ⟨R, hR, hR2⟩ : ∃ R, w.heap.size + 1 = R ∧ w.heap.size ≤ R := ⟨_, rfl, by omega⟩
      have HR2 : Hid (w.heap.size ≤ R) := hR2
      rw [hR] at RA ⊢
      rw [hL] at LA ⊢
      clear hR hL hR2
      go_wp2_with (refine wpList_load_row rfl 23 (.tmp 2) rfl L rfl 23 (lkA l) (0, 0) _ LA Try.underlying23 rfl HL.out ?_)
      refine (HCM.out _).mono ?_
      rintro e w1 ⟨rfl, K1⟩
      have LA1 := LA.kept K1
      have RA1 := RA.kept K1
      have G1 := grown_trans G0 K1
      clear LA RA G0 K1
      go_wp2_with (refine wpList_load_row rfl 23 (.tmp 2) rfl L rfl 23 (lkA l) (0, 0) _ LA1 Try.underlying23 rfl HL.out ?_)
      refine (HSP.out _).mono ?_
      rintro e w2 ⟨rfl, K2⟩
      have RA2 := RA1.kept K2
      have LA2 := LA1.kept K2
      have G2 := grown_trans G1 K2
      have x0 : w2.cell? ⟨L, 0, none⟩ = some (.bool l.acfc) := LA2.cell 0
      have x1 : w2.cell? ⟨L, 1, none⟩ = some (.bool l.pfc) := LA2.cell 1
      have x2 : w2.cell? ⟨L, 2, none⟩ = some (.int .i64 l.mp) := LA2.cell 2
      clear LA1 RA1 G1 K2
      go_wp2_with (refine wpList_store_row rfl 37 (.tmp 4) (.tmp 19) rfl R #[.bool l.acfc, .bool l.pfc, .int .i64 l.mp, .int .u32 (next : Int), .bool false, .slice none 0 0] rfl rfl 37 _ RA2 sizeB rfl (by simp [Value.oneCell']) ?_)
      refine bodyPost_ret (ret_row rfl _ _ R #[.bool l.acfc, .bool l.pfc, .int .i64 l.mp, .int .u32 (next : Int), .bool false, .slice none 0 0] _ rfl (RA2.setRow _) Try.underlying37 rfl sizeB) rfl ?_
      exact ⟨rfl, vgrown_setRow G2 _ _ (.inr HR2.out)⟩

end Go.Proofs.Ytgfiadljjlajaaa
