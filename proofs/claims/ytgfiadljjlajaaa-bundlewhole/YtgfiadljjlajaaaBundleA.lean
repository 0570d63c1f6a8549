/-
  Package bundle as landed: a place in the row of a link's numbers.
-/
import Derived.Test.YtgfiadljjlajaaaBundleV
import Derived.Test.YtgfiadljjlajaaaFrameD
import Derived.Test.YtgfiadljjlajaaaWalkH
import Derived.Deep.RegionWith
namespace Go.Proofs.Ytgfiadljjlajaaa
open Go.RowKit
set_option maxRecDepth 100000

/-- A place in the row of a link's numbers. -/
def ordA (l : Lk) (next : Nat) : Array Value := match newX l next with
  | .ok u => #[.int .u32 (u.nxt : Int), .int .u32 ((spV l - 1 : Nat) : Int)]
  | .error _ => #[.int .u32 0, .int .u32 0]

theorem size61 : (Try.prog.info? 61).map (·.size) = some 2 := by kernel_rfl

theorem may_mp {l : Lk} (h : mayB l = true) : (l.mp = 1 ∨ l.mp = 2) ∧ checkF l = 0 := by
  unfold mayB at h
  rw [Bool.and_eq_true, decide_eq_true_eq, decide_eq_true_eq] at h
  refine ⟨?_, h.1⟩
  have h1 := h.1
  unfold checkF at h1
  split at h1
  · cases h1
  · have := h.2; omega
/-- The layout of a link with multilink. -/
theorem lay_of {l : Lk} (h : l.mp = 1 ∨ l.mp = 2) : ∃ y : Lay, layA l.mp = y.arr ∧ y.S = spV l - 1 := by
  rcases h with h | h
  · exact ⟨⟨2, 32768, 16384, 12288, 4095⟩, by rw [layA, if_pos h]; rfl, by rw [spV, if_neg (by omega)]⟩
  · exact ⟨⟨4, 2147483648, 1073741824, 1056964608, 16777215⟩, by rw [layA, if_neg (by omega)]; rfl, by rw [spV, if_pos h]⟩

theorem lay_field (sz B' E' Z' S' : Nat) (W : World) : (Instr.field 67 (.agg #[.int .i64 (sz : Int), .int .u32 (B' : Int), .int .u32 (E' : Int), .int .u32 (Z' : Int), .int .u32 (S' : Int)]) 4).run Try.prog W = .ok (.int .u32 (S' : Int)) W := by kernel_rfl

set_option maxHeartbeats 2000000 in
theorem order_any (l : Lk) (next : Nat) (w : World) :
    Calls Try.prog 28 #[.agg (lkA l), .int .u32 (next : Int)] w fun e w' => e = .returned (.tuple #[.agg (ordA l next), .int .i64 (exE (newX l next))]) ∧ w.grownBy w' none := by
  obtain ⟨LA, RA, G0⟩ := two_blocks w l 23 61 #[.int .u32 0, .int .u32 0]
  have HL : Hid ((Try.prog.info? 23).map (·.size) = some (lkA l).size) := size23
  have CK := fun W => chk_any l W
  have HCK : Hid (∀ W, Calls Try.prog 37 #[.agg (lkA l)] W fun e w' => e = .returned (.int .i64 (checkF l)) ∧ W.grownBy w' none) := CK
  have hN : newX l next = if mayB l = false then .error 90 else if spV l ≤ next then .error 91 else .ok ⟨next, false, []⟩ := rfl
  clear CK
  unfold ordA
  rw [hN]
  clear hN
  by_cases hc : checkF l = 0
  · by_cases hm : l.mp = 0
    · have hmay : mayB l = false := by rw [mayB, hm]; simp
      rw [hmay, if_pos rfl]
      rw [hc] at HCK
      clear hc hmay
      go_enter Try.func28, Try.ntmps28
      go_upto_region 1 with fail
      generalize (w.alloc (.cells (lkA l) 23)).alloc (.cells #[.int .u32 0, .int .u32 0] 61) = wa at *
      obtain ⟨L, hL⟩ : ∃ L, w.heap.size = L := ⟨_, rfl⟩
      obtain ⟨R, hR, hR2⟩ : ∃ R, w.heap.size + 1 = R ∧ w.heap.size ≤ R := ⟨_, rfl, by omega⟩
      have HR2 : Hid (w.heap.size ≤ R) := hR2
      rw [hR] at RA ⊢
      rw [hL] at LA ⊢
      clear hR hL hR2
      go_wp2_with (refine wpList_load_row rfl 23 (.tmp 2) rfl L rfl 23 (lkA l) (0, 0) _ LA Try.underlying23 rfl HL.out ?_)
      refine (HCK.out _).mono ?_
      rintro e w1 ⟨rfl, K1⟩
      have RA1 := RA.kept K1
      have x2 : w1.cell? ⟨L, 2, none⟩ = some (.int .i64 0) := by rw [← hm]; exact (LA.kept K1).cell 2
      have G1 := grown_trans G0 K1
      clear LA RA G0 K1 hm
      go_wp2_with (refine wpList_store_row rfl 61 (.tmp 4) (.tmp 15) rfl R #[.int .u32 0, .int .u32 0] rfl rfl 61 _ RA1 size61 rfl (by simp [Value.oneCell']) ?_)
      refine bodyPost_ret (ret_row rfl _ _ R #[.int .u32 0, .int .u32 0] _ rfl (RA1.setRow _) Try.underlying61 rfl size61) rfl ?_
      exact ⟨rfl, vgrown_setRow G1 _ _ (.inr HR2.out)⟩
    · have hmay : mayB l = true := by rw [mayB, decide_eq_true hc, decide_eq_true hm]; rfl
      obtain ⟨hm12, -⟩ := may_mp hmay
      obtain ⟨y, hy, hyS⟩ := lay_of hm12
      have HLY : Hid (∀ W : World, Calls Try.prog 30 #[.int .i64 l.mp] W fun e w' => e = .returned (.agg y.arr) ∧ W.grownBy w' none) := by
        intro W
        have k := layout_any l.mp W
        rw [hy] at k
        exact k
      have hspp := sp_pos l
      obtain ⟨sz, B', E', Z', S'⟩ := y
      simp only [Lay.arr] at *
      subst hyS
      rw [hmay, if_neg (by simp)]
      rw [hc] at HCK
      have hz : (l.mp == 0) = false := by rw [beq_eq_false_iff_ne]; exact hm
      clear hc hmay hm hm12 hy
      by_cases hs : spV l ≤ next
      · rw [if_pos hs]
        have hs' : ((spV l - 1 : Nat) : Int) < (next : Int) := by omega
        generalize spV l - 1 = S' at *
        have hfd := fun W => lay_field sz B' E' Z' S' W
        clear hs hspp
        go_enter Try.func28, Try.ntmps28
        go_upto_region 1 with fail
        generalize (w.alloc (.cells (lkA l) 23)).alloc (.cells #[.int .u32 0, .int .u32 0] 61) = wa at *
        obtain ⟨L, hL⟩ : ∃ L, w.heap.size = L := ⟨_, rfl⟩
        obtain ⟨R, hR, hR2⟩ : ∃ R, w.heap.size + 1 = R ∧ w.heap.size ≤ R := ⟨_, rfl, by omega⟩
        have HR2 : Hid (w.heap.size ≤ R) := hR2
        rw [hR] at RA ⊢
        rw [hL] at LA ⊢
        clear hR hL hR2
        go_wp2_with (refine wpList_load_row rfl 23 (.tmp 2) rfl L rfl 23 (lkA l) (0, 0) _ LA Try.underlying23 rfl HL.out ?_)
        refine (HCK.out _).mono ?_
        rintro e w1 ⟨rfl, K1⟩
        have RA1 := RA.kept K1
        have x2 : w1.cell? ⟨L, 2, none⟩ = some (.int .i64 l.mp) := (LA.kept K1).cell 2
        have G1 := grown_trans G0 K1
        clear LA RA G0 K1
        go_wp2_with fail
        refine (HLY.out _).mono ?_
        rintro e w2 ⟨rfl, K2⟩
        have RA2 := RA1.kept K2
        have G2 := grown_trans G1 K2
        clear RA1 G1 K2 x2
        go_wp2_with (refine wpList_store_row rfl 61 (.tmp 4) (.tmp 23) rfl R #[.int .u32 0, .int .u32 0] rfl rfl 61 _ RA2 size61 rfl (by simp [Value.oneCell']) ?_)
        refine bodyPost_ret (ret_row rfl _ _ R #[.int .u32 0, .int .u32 0] _ rfl (RA2.setRow _) Try.underlying61 rfl size61) rfl ?_
        exact ⟨rfl, vgrown_setRow G2 _ _ (.inr HR2.out)⟩
      · rw [if_neg hs]
        have hs' : ¬ ((spV l - 1 : Nat) : Int) < (next : Int) := by omega
        generalize spV l - 1 = S' at *
        have hfd := fun W => lay_field sz B' E' Z' S' W
        clear hs hspp
        go_enter Try.func28, Try.ntmps28
        go_upto_region 1 with fail
        generalize (w.alloc (.cells (lkA l) 23)).alloc (.cells #[.int .u32 0, .int .u32 0] 61) = wa at *
        obtain ⟨L, hL⟩ : ∃ L, w.heap.size = L := ⟨_, rfl⟩
        obtain ⟨R, hR, hR2⟩ : ∃ R, w.heap.size + 1 = R ∧ w.heap.size ≤ R := ⟨_, rfl, by omega⟩
        have HR2 : Hid (w.heap.size ≤ R) := hR2
        rw [hR] at RA ⊢
        rw [hL] at LA ⊢
        clear hR hL hR2
        go_wp2_with (refine wpList_load_row rfl 23 (.tmp 2) rfl L rfl 23 (lkA l) (0, 0) _ LA Try.underlying23 rfl HL.out ?_)
        refine (HCK.out _).mono ?_
        rintro e w1 ⟨rfl, K1⟩
        have RA1 := RA.kept K1
        have x2 : w1.cell? ⟨L, 2, none⟩ = some (.int .i64 l.mp) := (LA.kept K1).cell 2
        have G1 := grown_trans G0 K1
        clear LA RA G0 K1
        go_wp2_with fail
        refine (HLY.out _).mono ?_
        rintro e w2 ⟨rfl, K2⟩
        have RA2 := RA1.kept K2
        have G2 := grown_trans G1 K2
        clear RA1 G1 K2 x2
        go_wp2_with (refine wpList_store_row rfl 61 (.tmp 4) (.tmp 26) rfl R #[.int .u32 (next : Int), .int .u32 (S' : Int)] rfl rfl 61 _ RA2 size61 rfl (by simp [Value.oneCell']) ?_)
        refine bodyPost_ret (ret_row rfl _ _ R #[.int .u32 (next : Int), .int .u32 (S' : Int)] _ rfl (RA2.setRow _) Try.underlying61 rfl size61) rfl ?_
        exact ⟨rfl, vgrown_setRow G2 _ _ (.inr HR2.out)⟩
  · have hmay : mayB l = false := by rw [mayB, decide_eq_false hc]; rfl
    rw [hmay, if_pos rfl]
    have hz : (checkF l != 0) = true := by rw [bne_iff_ne]; exact hc
    generalize checkF l = er at *
    clear hc hmay
    go_enter Try.func28, Try.ntmps28
    go_upto_region 1 with fail
    generalize (w.alloc (.cells (lkA l) 23)).alloc (.cells #[.int .u32 0, .int .u32 0] 61) = wa at *
    obtain ⟨L, hL⟩ : ∃ L, w.heap.size = L := ⟨_, rfl⟩
    obtain ⟨R, hR, hR2⟩ : ∃ R, w.heap.size + 1 = R ∧ w.heap.size ≤ R := ⟨_, rfl, by omega⟩
    have HR2 : Hid (w.heap.size ≤ R) := hR2
    rw [hR] at RA ⊢
    rw [hL] at LA ⊢
    clear hR hL hR2
    go_wp2_with (refine wpList_load_row rfl 23 (.tmp 2) rfl L rfl 23 (lkA l) (0, 0) _ LA Try.underlying23 rfl HL.out ?_)
    refine (HCK.out _).mono ?_
    rintro e w1 ⟨rfl, K1⟩
    have RA1 := RA.kept K1
    have G1 := grown_trans G0 K1
    clear LA RA G0 K1
    go_wp2_with (refine wpList_store_row rfl 61 (.tmp 4) (.tmp 15) rfl R #[.int .u32 0, .int .u32 0] rfl rfl 61 _ RA1 size61 rfl (by simp [Value.oneCell']) ?_)
    refine bodyPost_ret (ret_row rfl _ _ R #[.int .u32 0, .int .u32 0] _ rfl (RA1.setRow _) Try.underlying61 rfl size61) rfl ?_
    exact ⟨rfl, vgrown_setRow G1 _ _ (.inr HR2.out)⟩

/-- The next number of a link's. -/
theorem and_space (l : Lk) (q : Nat) (hq : q < 4294967295) : bits BinOp.and IntKind.u32 ((q : Int) + 1) ((spV l - 1 : Nat) : Int) = (((q + 1) % spV l : Nat) : Int) := by
  rw [show (q : Int) + 1 = ((q + 1 : Nat) : Int) from rfl]
  unfold spV
  split
  · rw [show (16777216 - 1 : Nat) = 2 ^ 24 - 1 from rfl, u32_and_nat _ _ (by omega) (by omega), Nat.and_two_pow_sub_one_eq_mod]
  · rw [show (4096 - 1 : Nat) = 2 ^ 12 - 1 from rfl, u32_and_nat _ _ (by omega) (by omega), Nat.and_two_pow_sub_one_eq_mod]

set_option maxHeartbeats 1000000 in
theorem pass_any (l : Lk) (g q nx : Nat) (w : World) (hq : q < 4294967295) (h0 : w.cell? ⟨g, 0, none⟩ = some (.int .u32 (nx : Int))) (h1 : w.cell? ⟨g, 1, none⟩ = some (.int .u32 ((spV l - 1 : Nat) : Int))) (hf : w.frozen? ⟨g, 0, none⟩ = false) :
    Calls Try.prog 33 #[.pointer (some ⟨g, 0, none⟩), .int .u32 (q : Int)] w fun e w' => e = .returned (.bool (decide (q = nx))) ∧ w' = w.setCell ⟨g, 0, none⟩ (.int .u32 (((q + 1) % spV l : Nat) : Int)) := by
  have ha := and_space l q hq
  generalize spV l - 1 = S' at *
  go_enter Try.func33, Try.ntmps33
  go_wp2
  go_ret
  refine ⟨ret_bool ?_, by simp⟩
  rw [Bool.eq_iff_iff, beq_iff_eq, decide_eq_true_eq]
  omega

end Go.Proofs.Ytgfiadljjlajaaa
