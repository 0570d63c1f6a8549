/-
  Package bundle as landed: a place in the row of a link's numbers. Lists of lists of bytes in memory: a row of slices, each of a block of its own.
-/
import Derived.Test.YtkjofgnmjfngeaaLotBundleLost6
import Derived.Test.YtkjofgnmjfngeaaLotBundleLost12
import Derived.Test.YtkjofgnmjfngeaaWalkH
import Derived.Deep.RegionWith
import Derived.Test.YtkjofgnmjfngeaaLotBundleLost7
import Derived.Test.YtkjofgnmjfngeaaBase
namespace Go.Proofs.Ytkjofgnmjfngeaa
open Go.RowKit
set_option maxRecDepth 100000

/-- A place in the row of a link's numbers. -/
def ordA (l : Lk) (next : Nat) : Array Value := match newX l next with
  | .ok u => #[.int .u32 (u.nxt : Int), .int .u32 ((spV l - 1 : Nat) : Int)]
  | .error _ => #[.int .u32 0, .int .u32 0]

theorem size44 : (Try.prog.info? 44).map (·.size) = some 2 := by kernel_rfl

theorem may_mp {l : Lk} (h : mayB l = true) : (l.mp = 1 ∨ l.mp = 2) ∧ checkF l = 0 := by
  unfold mayB at h
  rw [Bool.and_eq_true, decide_eq_true_eq, decide_eq_true_eq] at h
  refine ⟨?_, h.1⟩
  have h1 := h.1
  unfold checkF at h1
  split at h1
  · cases h1
  · have := h.2; omega
/-- The layout of a link with multilink. -/
theorem lay_of {l : Lk} (h : l.mp = 1 ∨ l.mp = 2) : ∃ y : Lay, layA l.mp = y.arr ∧ y.S = spV l - 1 := by
  rcases h with h | h
  · exact ⟨⟨2, 32768, 16384, 12288, 4095⟩, by rw [layA, if_pos h]; rfl, by rw [spV, if_neg (by omega)]⟩
  · exact ⟨⟨4, 2147483648, 1073741824, 1056964608, 16777215⟩, by rw [layA, if_neg (by omega)]; rfl, by rw [spV, if_pos h]⟩

theorem lay_field (sz B' E' Z' S' : Nat) (W : World) : (Instr.field 50 (.agg #[.int .i64 (sz : Int), .int .u32 (B' : Int), .int .u32 (E' : Int), .int .u32 (Z' : Int), .int .u32 (S' : Int)]) 4).run Try.prog W = .ok (.int .u32 (S' : Int)) W := by kernel_rfl

set_option maxHeartbeats 2000000 in
theorem order_any (l : Lk) (next : Nat) (w : World) :
    Calls Try.prog 12 #[.agg (lkA l), .int .u32 (next : Int)] w fun e w' => e = .returned (.tuple #[.agg (ordA l next), .int .i64 (exE (newX l next))]) ∧ w.grownBy w' none := by
  obtain ⟨LA, RA, G0⟩ := two_blocks w l 26 44 #[.int .u32 0, .int .u32 0]
  have HL : Hid ((Try.prog.info? 26).map (·.size) = some (lkA l).size) := size26
  have CK := fun W => chk_any l W
  have HCK : Hid (∀ W, Calls Try.prog 20 #[.agg (lkA l)] W fun e w' => e = .returned (.int .i64 (checkF l)) ∧ W.grownBy w' none) := CK
  have hN : newX l next = if mayB l = false then .error 90 else if spV l ≤ next then .error 91 else .ok ⟨next, false, []⟩ := rfl
  clear CK
  unfold ordA
  rw [hN]
  clear hN
  by_cases hc : checkF l = 0
  · by_cases hm : l.mp = 0
    · have hmay : mayB l = false := by rw [mayB, hm]; simp
      rw [hmay, if_pos rfl]
      rw [hc] at HCK
      clear hc hmay
      go_enter Try.func12, Try.ntmps12
      go_upto_region 1 with fail
      generalize (w.alloc (.cells (lkA l) 26)).alloc (.cells #[.int .u32 0, .int .u32 0] 44) = wa at *
      obtain ⟨L, hL⟩ : ∃ L, w.heap.size = L := ⟨_, rfl⟩
      obtain ⟨R, hR, hR2⟩ : ∃ R, w.heap.size + 1 = R ∧ w.heap.size ≤ R := ⟨_, rfl, by omega⟩
      have HR2 : Hid (w.heap.size ≤ R) := hR2
      rw [hR] at RA ⊢
      rw [hL] at LA ⊢
      clear hR hL hR2
      go_wp2_with (refine wpList_load_row rfl 26 (.tmp 2) rfl L rfl 26 (lkA l) (0, 0) _ LA Try.underlying26 rfl HL.out ?_)
      refine (HCK.out _).mono ?_
      rintro e w1 ⟨rfl, K1⟩
      have RA1 := RA.kept K1
      have x2 : w1.cell? ⟨L, 2, none⟩ = some (.int .i64 0) := by rw [← hm]; exact (LA.kept K1).cell 2
      have G1 := grown_trans G0 K1
      clear LA RA G0 K1 hm
      go_wp2_with (refine wpList_store_row rfl 44 (.tmp 4) (.tmp 15) rfl R #[.int .u32 0, .int .u32 0] rfl rfl 44 _ RA1 size44 rfl (by simp [Value.oneCell']) ?_)
      refine bodyPost_ret (ret_row rfl _ _ R #[.int .u32 0, .int .u32 0] _ rfl (RA1.setRow _) Try.underlying44 rfl size44) rfl ?_
      exact ⟨rfl, vgrown_setRow G1 _ _ (.inr HR2.out)⟩
    · have hmay : mayB l = true := by rw [mayB, decide_eq_true hc, decide_eq_true hm]; rfl
      obtain ⟨hm12, -⟩ := may_mp hmay
      obtain ⟨y, hy, hyS⟩ := lay_of hm12
      have HLY : Hid (∀ W : World, Calls Try.prog 14 #[.int .i64 l.mp] W fun e w' => e = .returned (.agg y.arr) ∧ W.grownBy w' none) := by
        intro W
        have k := layout_any l.mp W
        rw [hy] at k
        exact k
      have hspp := sp_pos l
      obtain ⟨sz, B', E', Z', S'⟩ := y
      simp only [Lay.arr] at *
      subst hyS
      rw [hmay, if_neg (by simp)]
      rw [hc] at HCK
      have hz : (l.mp == 0) = false := by rw [beq_eq_false_iff_ne]; exact hm
      clear hc hmay hm hm12 hy
      by_cases hs : spV l ≤ next
      · rw [if_pos hs]
        have hs' : ((spV l - 1 : Nat) : Int) < (next : Int) := by omega
        generalize spV l - 1 = S' at *
        have hfd := fun W => lay_field sz B' E' Z' S' W
        clear hs hspp
        go_enter Try.func12, Try.ntmps12
        go_upto_region 1 with fail
        generalize (w.alloc (.cells (lkA l) 26)).alloc (.cells #[.int .u32 0, .int .u32 0] 44) = wa at *
        obtain ⟨L, hL⟩ : ∃ L, w.heap.size = L := ⟨_, rfl⟩
        obtain ⟨R, hR, hR2⟩ : ∃ R, w.heap.size + 1 = R ∧ w.heap.size ≤ R := ⟨_, rfl, by omega⟩
        have HR2 : Hid (w.heap.size ≤ R) := hR2
        rw [hR] at RA ⊢
        rw [hL] at LA ⊢
        clear hR hL hR2
        go_wp2_with (refine wpList_load_row rfl 26 (.tmp 2) rfl L rfl 26 (lkA l) (0, 0) _ LA Try.underlying26 rfl HL.out ?_)
        refine (HCK.out _).mono ?_
        rintro e w1 ⟨rfl, K1⟩
        have RA1 := RA.kept K1
        have x2 : w1.cell? ⟨L, 2, none⟩ = some (.int .i64 l.mp) := (LA.kept K1).cell 2
        have G1 := grown_trans G0 K1
        clear LA RA G0 K1
        go_wp2_with fail
        refine (HLY.out _).mono ?_
        rintro e w2 ⟨rfl, K2⟩
        have RA2 := RA1.kept K2
        have G2 := grown_trans G1 K2
        clear RA1 G1 K2 x2
        go_wp2_with (refine wpList_store_row rfl 44 (.tmp 4) (.tmp 23) rfl R #[.int .u32 0, .int .u32 0] rfl rfl 44 _ RA2 size44 rfl (by simp [Value.oneCell']) ?_)
        refine bodyPost_ret (ret_row rfl _ _ R #[.int .u32 0, .int .u32 0] _ rfl (RA2.setRow _) Try.underlying44 rfl size44) rfl ?_
        exact ⟨rfl, vgrown_setRow G2 _ _ (.inr HR2.out)⟩
      · rw [if_neg hs]
        have hs' : ¬ ((spV l - 1 : Nat) : Int) < (next : Int) := by omega
        generalize spV l - 1 = S' at *
        have hfd := fun W => lay_field sz B' E' Z' S' W
        clear hs hspp
        go_enter Try.func12, Try.ntmps12
        go_upto_region 1 with fail
        generalize (w.alloc (.cells (lkA l) 26)).alloc (.cells #[.int .u32 0, .int .u32 0] 44) = wa at *
        obtain ⟨L, hL⟩ : ∃ L, w.heap.size = L := ⟨_, rfl⟩
        obtain ⟨R, hR, hR2⟩ : ∃ R, w.heap.size + 1 = R ∧ w.heap.size ≤ R := ⟨_, rfl, by omega⟩
        have HR2 : Hid (w.heap.size ≤ R) := hR2
        rw [hR] at RA ⊢
        rw [hL] at LA ⊢
        clear hR hL hR2
        go_wp2_with (refine wpList_load_row rfl 26 (.tmp 2) rfl L rfl 26 (lkA l) (0, 0) _ LA Try.underlying26 rfl HL.out ?_)
        refine (HCK.out _).mono ?_
        rintro e w1 ⟨rfl, K1⟩
        have RA1 := RA.kept K1
        have x2 : w1.cell? ⟨L, 2, none⟩ = some (.int .i64 l.mp) := (LA.kept K1).cell 2
        have G1 := grown_trans G0 K1
        clear LA RA G0 K1
        go_wp2_with fail
        refine (HLY.out _).mono ?_
        rintro e w2 ⟨rfl, K2⟩
        have RA2 := RA1.kept K2
        have G2 := grown_trans G1 K2
        clear RA1 G1 K2 x2
        go_wp2_with (refine wpList_store_row rfl 44 (.tmp 4) (.tmp 26) rfl R #[.int .u32 (next : Int), .int .u32 (S' : Int)] rfl rfl 44 _ RA2 size44 rfl (by simp [Value.oneCell']) ?_)
        refine bodyPost_ret (ret_row rfl _ _ R #[.int .u32 (next : Int), .int .u32 (S' : Int)] _ rfl (RA2.setRow _) Try.underlying44 rfl size44) rfl ?_
        exact ⟨rfl, vgrown_setRow G2 _ _ (.inr HR2.out)⟩
  · have hmay : mayB l = false := by rw [mayB, decide_eq_false hc]; rfl
    rw [hmay, if_pos rfl]
    have hz : (checkF l != 0) = true := by rw [bne_iff_ne]; exact hc
    generalize checkF l = er at *
    clear hc hmay
    go_enter Try.func12, Try.ntmps12
    go_upto_region 1 with fail
    generalize (w.alloc (.cells (lkA l) 26)).alloc (.cells #[.int .u32 0, .int .u32 0] 44) = wa at *
    obtain ⟨L, hL⟩ : ∃ L, w.heap.size = L := ⟨_, rfl⟩
    obtain ⟨R, hR, hR2⟩ : ∃ R, w.heap.size + 1 = R ∧ w.heap.size ≤ R := ⟨_, rfl, by omega⟩
    have HR2 : Hid (w.heap.size ≤ R) := hR2
    rw [hR] at RA ⊢
    rw [hL] at LA ⊢
    clear hR hL hR2
    go_wp2_with (refine wpList_load_row rfl 26 (.tmp 2) rfl L rfl 26 (lkA l) (0, 0) _ LA Try.underlying26 rfl HL.out ?_)
    refine (HCK.out _).mono ?_
    rintro e w1 ⟨rfl, K1⟩
    have RA1 := RA.kept K1
    have G1 := grown_trans G0 K1
    clear LA RA G0 K1
    go_wp2_with (refine wpList_store_row rfl 44 (.tmp 4) (.tmp 15) rfl R #[.int .u32 0, .int .u32 0] rfl rfl 44 _ RA1 size44 rfl (by simp [Value.oneCell']) ?_)
    refine bodyPost_ret (ret_row rfl _ _ R #[.int .u32 0, .int .u32 0] _ rfl (RA1.setRow _) Try.underlying44 rfl size44) rfl ?_
    exact ⟨rfl, vgrown_setRow G1 _ _ (.inr HR2.out)⟩

/-- The next number of a link's. -/
theorem and_space (l : Lk) (q : Nat) (hq : q < 4294967295) : bits BinOp.and IntKind.u32 ((q : Int) + 1) ((spV l - 1 : Nat) : Int) = (((q + 1) % spV l : Nat) : Int) := by
  rw [show (q : Int) + 1 = ((q + 1 : Nat) : Int) from rfl]
  unfold spV
  split
  · rw [show (16777216 - 1 : Nat) = 2 ^ 24 - 1 from rfl, u32_and_nat _ _ (by omega) (by omega), Nat.and_two_pow_sub_one_eq_mod]
  · rw [show (4096 - 1 : Nat) = 2 ^ 12 - 1 from rfl, u32_and_nat _ _ (by omega) (by omega), Nat.and_two_pow_sub_one_eq_mod]

set_option maxHeartbeats 1000000 in
theorem pass_any (l : Lk) (g q nx : Nat) (w : World) (hq : q < 4294967295) (h0 : w.cell? ⟨g, 0, none⟩ = some (.int .u32 (nx : Int))) (h1 : w.cell? ⟨g, 1, none⟩ = some (.int .u32 ((spV l - 1 : Nat) : Int))) (hf : w.frozen? ⟨g, 0, none⟩ = false) :
    Calls Try.prog 17 #[.pointer (some ⟨g, 0, none⟩), .int .u32 (q : Int)] w fun e w' => e = .returned (.bool (decide (q = nx))) ∧ w' = w.setCell ⟨g, 0, none⟩ (.int .u32 (((q + 1) % spV l : Nat) : Int)) := by
  have ha := and_space l q hq
  generalize spV l - 1 = S' at *
  go_enter Try.func17, Try.ntmps17
  go_wp2
  go_ret
  refine ⟨ret_bool ?_, by simp⟩
  rw [Bool.eq_iff_iff, beq_iff_eq, decide_eq_true_eq]
  omega

end Go.Proofs.Ytkjofgnmjfngeaa

namespace Go.Proofs.Ytkjofgnmjfngeaa
open Go.RowKit
set_option maxRecDepth 100000

/-- Rows of two kinds of elements: the one stays where the other is written. -/
theorem ll_kinds {w w' : World} {base base' e e' size size' n n' : Nat} {v v' : Value} {vs vs' : List Value} (h : w.ownsRow base e size v n vs) (O : w.ownsRow base' e' size' v' n' vs') (he : e ≠ e') (K : w.grownBy w' v'.ownBlock) : w'.ownsRow base e size v n vs := by
  refine h.kept K ?_
  rcases h.2 with ⟨rfl, -⟩ | ⟨g, cap, cur, rfl, -, hg, -⟩
  · exact .inl rfl
  · right
    intro hh
    rcases O.2 with ⟨rfl, -⟩ | ⟨g', cap', cur', rfl, -, hg', -⟩
    · cases hh
    · simp only [Value.ownBlock, Option.some.injEq] at hh
      subst hh
      rw [hg] at hg'
      simp only [Option.some.injEq, Obj.cells.injEq] at hg'
      exact he hg'.2.1

/-- A row of slices, each with its bytes in a block of its own. -/
def LLv (w : World) (base : Nat) (v : Value) (vs : List Value) (xss : List (List UInt8)) : Prop :=
  w.ownsRow base 28 1 v vs.length vs ∧ vs.length = xss.length ∧ (∀ i, i < xss.length → Owns w base (vs.getD i undef) (xss.getD i [])) ∧ ∀ i j, i < j → j < xss.length → ∀ x, (vs.getD i undef).ownBlock = some x → (vs.getD j undef).ownBlock ≠ some x
def LL (w : World) (base : Nat) (v : Value) (xss : List (List UInt8)) : Prop := ∃ vs, LLv w base v vs xss

theorem LLv.kept {w w' : World} {base : Nat} {v : Value} {vs : List Value} {xss : List (List UInt8)} {row : Option Nat} (h : LLv w base v vs xss) (G : w.grownBy w' row) (h1 : v.ownBlock = none ∨ v.ownBlock ≠ row) (h2 : ∀ i, i < xss.length → (vs.getD i undef).ownBlock = none ∨ (vs.getD i undef).ownBlock ≠ row) : LLv w' base v vs xss :=
  ⟨h.1.kept G h1, h.2.1, fun i hi => World.ownsRow.kept (h.2.2.1 i hi) G (h2 i hi), h.2.2.2⟩
theorem LLv.keptNone {w w' : World} {base : Nat} {v : Value} {vs : List Value} {xss : List (List UInt8)} (h : LLv w base v vs xss) (G : w.grownBy w' none) : LLv w' base v vs xss :=
  h.kept G (by cases v.ownBlock <;> simp) (fun i _ => by cases (vs.getD i undef).ownBlock <;> simp)
theorem LLv.mono {w : World} {base base' : Nat} {v : Value} {vs : List Value} {xss : List (List UInt8)} (h : LLv w base v vs xss) (hb : base' ≤ base) : LLv w base' v vs xss :=
  ⟨owns_mono h.1 hb, h.2.1, fun i hi => owns_mono (h.2.2.1 i hi) hb, h.2.2.2⟩
/-- What is written behind all of it leaves it as it was. -/
theorem LLv.keptNew {w w' : World} {base g : Nat} {v : Value} {vs : List Value} {xss : List (List UInt8)} (h : LLv w base v vs xss) (G : w.grownBy w' (some g)) (hg : ∀ x, v.ownBlock = some x → x < g) (hp : ∀ i, i < xss.length → ∀ x, (vs.getD i undef).ownBlock = some x → x < g) : LLv w' base v vs xss := by
  refine h.kept G ?_ fun i hi => ?_
  · cases hv : v.ownBlock with
    | none => exact .inl rfl
    | some x =>
      have := hg x hv
      exact .inr (by simp; omega)
  · cases hv : (vs.getD i undef).ownBlock with
    | none => exact .inl rfl
    | some x =>
      have := hp i hi x hv
      exact .inr (by simp; omega)
theorem LLv.nil (w : World) (base : Nat) : LLv w base (.slice none 0 0) [] [] := ⟨World.ownsRow_nil _ _ _ _, rfl, fun i hi => absurd hi (by simp), fun i j _ hj => absurd hj (by simp)⟩

theorem getD_snoc_lt {α : Type} (xs : List α) (x d : α) (i : Nat) (h : i < xs.length) : (xs ++ [x]).getD i d = xs.getD i d := by
  rw [List.getD_eq_getElem?_getD, List.getD_eq_getElem?_getD, List.getElem?_append_left h]
theorem getD_snoc_eq {α : Type} (xs : List α) (x d : α) (i : Nat) (h : i = xs.length) : (xs ++ [x]).getD i d = x := by
  subst h
  rw [List.getD_eq_getElem?_getD, List.getElem?_append_right (Nat.le_refl _)]
  simp

/-- One list more. -/
theorem LLv.push {w w' : World} {base : Nat} {v v' p : Value} {vs : List Value} {xss : List (List UInt8)} {x : List UInt8} (h : LLv w base v vs xss) (hp : Owns w base p x) (hap : ∀ i, i < xss.length → ∀ y, (vs.getD i undef).ownBlock = some y → p.ownBlock ≠ some y)
    (O : w'.ownsRow base 28 1 v' (vs.length + 1) (vs ++ [p])) (K : w.grownBy w' v.ownBlock) (hT : (5 : Nat) ≠ 28) : LLv w' base v' (vs ++ [p]) (xss ++ [x]) := by
  have hl := h.2.1
  refine ⟨by rw [List.length_append]; exact O, by simp [hl], fun i hi => ?_, fun i j hij hj y hy => ?_⟩
  · rw [List.length_append, List.length_singleton] at hi
    by_cases h1 : i < xss.length
    · rw [getD_snoc_lt _ _ _ _ (by omega), getD_snoc_lt _ _ _ _ h1]
      exact ll_kinds (h.2.2.1 i h1) h.1 hT K
    · rw [getD_snoc_eq _ _ _ _ (by omega), getD_snoc_eq _ _ _ _ (by omega)]
      exact ll_kinds hp h.1 hT K
  · rw [List.length_append, List.length_singleton] at hj
    rw [getD_snoc_lt _ _ _ _ (by omega)] at hy
    by_cases h1 : j < xss.length
    · rw [getD_snoc_lt _ _ _ _ (by omega)]
      exact h.2.2.2 i j hij h1 y hy
    · rw [getD_snoc_eq _ _ _ _ (by omega)]
      exact hap i (by omega) y hy

/-- A list among them. -/
theorem LLv.item {w : World} {base : Nat} {v : Value} {vs : List Value} {xss : List (List UInt8)} (h : LLv w base v vs xss) {i : Nat} (hi : i < xss.length) : ∃ g cap ao ca, v = .slice (some ⟨g, 0, none⟩) xss.length cap ∧ w.cell? ⟨g, i, none⟩ = some (.slice ao (xss.getD i []).length ca) ∧ vs.getD i undef = .slice ao (xss.getD i []).length ca ∧ Cells w ao (xss.getD i []) ∧ Owns w base (.slice ao (xss.getD i []).length ca) (xss.getD i []) := by
  have O := h.2.2.1 i hi
  obtain ⟨ao, ca, hv, C, -⟩ := O.shape
  have hr := h.1
  rcases h.1.2 with ⟨-, h0⟩ | ⟨g, cap, cur, hv2, -⟩
  · have := h.2.1
    omega
  · rw [hv2] at hr
    have hc := hr.cellAt i (by have := h.2.1; omega)
    refine ⟨g, cap, ao, ca, by rw [hv2, h.2.1], ?_, hv, C, by rw [← hv]; exact O⟩
    rw [hc, ← hv, List.getD_eq_getElem?_getD, List.getElem?_eq_getElem (by have := h.2.1; omega)]
    rfl

end Go.Proofs.Ytkjofgnmjfngeaa
