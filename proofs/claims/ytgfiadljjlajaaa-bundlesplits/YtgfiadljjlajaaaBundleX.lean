/-
  Lists of lists that are written over one by one; how great they are.
-/
import Derived.Test.YtgfiadljjlajaaaBundleP
import Derived.Test.YtgfiadljjlajaaaBundleR
import Derived.Test.YtgfiadljjlajaaaLPart
import Derived.Test.YtgfiadljjlajaaaLSame
namespace Go.Proofs.Ytgfiadljjlajaaa
open Go.RowKit
set_option maxRecDepth 100000

/-- A row of slices, of which those from the k-th on have their bytes. -/
def XF (w : World) (base : Nat) (v : Value) (vs : List Value) (xss : List (List UInt8)) (k : Nat) : Prop :=
  w.ownsRow base 24 1 v vs.length vs ∧ vs.length = xss.length ∧ (∀ i, k ≤ i → i < xss.length → Owns w base (vs.getD i undef) (xss.getD i [])) ∧ ∀ i j, i < j → j < xss.length → ∀ x, (vs.getD i undef).ownBlock = some x → (vs.getD j undef).ownBlock ≠ some x
theorem LLv.xf {w : World} {base : Nat} {v : Value} {vs : List Value} {xss : List (List UInt8)} (h : LLv w base v vs xss) : XF w base v vs xss 0 := ⟨h.1, h.2.1, fun i _ hi => h.2.2.1 i hi, h.2.2.2⟩
theorem XF.keptNone {w w' : World} {base k : Nat} {v : Value} {vs : List Value} {xss : List (List UInt8)} (h : XF w base v vs xss k) (G : w.grownBy w' none) : XF w' base v vs xss k :=
  ⟨h.1.kept G (by cases v.ownBlock <;> simp), h.2.1, fun i h1 h2 => owns_keptNone (h.2.2.1 i h1 h2) G, h.2.2.2⟩
theorem XF.spoil {w w' : World} {base k : Nat} {v : Value} {vs : List Value} {xss : List (List UInt8)} (h : XF w base v vs xss k) (hk : k < xss.length) (K : w.grownBy w' (vs.getD k undef).ownBlock) (hT : (5 : Nat) ≠ 24) : XF w' base v vs xss (k + 1) := by
  refine ⟨ll_kinds h.1 (h.2.2.1 k (Nat.le_refl _) hk) (fun e => hT e.symm) K, h.2.1, fun i h1 h2 => World.ownsRow.kept (h.2.2.1 i (by omega) h2) K ?_, h.2.2.2⟩
  cases hz : (vs.getD i undef).ownBlock with
  | none => exact .inl rfl
  | some z =>
    right
    intro e
    exact h.2.2.2 k i (by omega) h2 z e.symm hz
theorem XF.item {w : World} {base k : Nat} {v : Value} {vs : List Value} {xss : List (List UInt8)} (h : XF w base v vs xss k) {i : Nat} (hk : k ≤ i) (hi : i < xss.length) : ∃ g cap ao ca, v = .slice (some ⟨g, 0, none⟩) xss.length cap ∧ w.cell? ⟨g, i, none⟩ = some (.slice ao (xss.getD i []).length ca) ∧ vs.getD i undef = .slice ao (xss.getD i []).length ca ∧ Cells w ao (xss.getD i []) ∧ Owns w base (.slice ao (xss.getD i []).length ca) (xss.getD i []) := by
  have O := h.2.2.1 i hk hi
  obtain ⟨ao, ca, hv, C, -⟩ := O.shape
  have hr := h.1
  rcases h.1.2 with ⟨-, h0⟩ | ⟨g, cap, cur, hv2, -⟩
  · have := h.2.1
    omega
  · rw [hv2] at hr
    have hc := hr.cellAt i (by have := h.2.1; omega)
    refine ⟨g, cap, ao, ca, by rw [hv2, h.2.1], ?_, hv, C, by rw [← hv]; exact O⟩
    rw [hc, ← hv, List.getD_eq_getElem?_getD, List.getElem?_eq_getElem (by have := h.2.1; omega)]
    rfl

theorem split_small (l : Lk) (b : List UInt8) (most : Int) (first : Nat) : (exV [] (splitX l b most first)).length ≤ 4096 ∧ ∀ p ∈ exV [] (splitX l b most first), p.length ≤ 70000 := by
  unfold splitX
  split
  · simp [exV]
  · split
    · simp [exV]
    · rename_i h1
      split
      · simp [exV]
      · split
        · simp [exV]
        · rename_i h3 h4
          simp only [exV, splitL, List.length_map, List.length_range, List.mem_map, List.mem_range]
          refine ⟨cnt_many (by omega) (by omega), ?_⟩
          rintro p ⟨i, -, rfl⟩
          have e1 := pc_len l b most.toNat first i
          have e2 := chunk_len b most.toNat i
          have e3 : szV l ≤ 4 := by unfold szV; split <;> omega
          omega

/-- Two lists of lists with the same bytes. -/
theorem sameLL_any {W : World} {b1 b2 : Nat} {v1 v2 : Value} {vs1 vs2 : List Value} {xss : List (List UInt8)} (h1 : LLv W b1 v1 vs1 xss) (h2 : LLv W b2 v2 vs2 xss) (hn : xss.length ≤ 4096) (hp : ∀ p ∈ xss, p.length ≤ 70000) :
    Calls Try.prog 14 #[v1, v2] W fun e w' => e = .returned (.bool true) ∧ W.grownBy w' none := by
  obtain ⟨a1, c1, ps, rfl, -, A1, O1, E1⟩ := h1.parts
  obtain ⟨a2, c2, qs, rfl, -, A2, O2, E2⟩ := h2.parts
  have hl : ps.length = xss.length := by rw [← E1, List.length_map]
  refine sameL_any a1 a2 c1 c2 ps qs W A1 A2 O1 O2 (by rw [E1, E2]) (by omega) (fun p hp' => ?_)
  have : p.bs ∈ xss := by rw [← E1]; exact List.mem_map_of_mem hp'
  have := hp _ this
  omega

theorem LLv.avoid {w w' : World} {base : Nat} {v : Value} {vs : List Value} {xss : List (List UInt8)} {S : Nat → Prop} (h : LLv w base v vs xss) (G : GB w w' S) (h1 : ∀ x, v.ownBlock = some x → ¬ S x) (h2 : ∀ i, i < xss.length → ∀ x, (vs.getD i undef).ownBlock = some x → ¬ S x) : LLv w' base v vs xss :=
  ⟨G.owns h.1 h1, h.2.1, fun i hi => G.owns (h.2.2.1 i hi) (h2 i hi), h.2.2.2⟩
theorem BW.feedp_ok {wN W : World} {p : Value} {l : Lk} {u u' : Bs} {m m' : Nat} {r : List UInt8} {d : Bool} (h : BW wN p l u m m' W) (a : Option Addr) (ca : Nat) (b : List UInt8) (ha : Cells W a b) (hc0 : a = none → ca = 0) (hca : b.length ≤ ca) (hn : b.length ≤ 140737488355328) (hm : m' ≤ W.heap.size) (hap : ∀ ad, a = some ad → b ≠ [] → m ≤ ad.block ∧ ad.block < m') (hf : feedX l u b = .ok (u', r, d)) :
    Calls Try.prog 21 #[p, .slice a b.length ca] W fun e w' => ∃ x, e = .returned (.tuple #[x, .bool d, .int .i64 0]) ∧ Owns w' W.heap.size x r ∧ BW wN p l u' m m' w' ∧ Rest wN m m' W w' := by
  have k := h.feed0 a ca b ha hc0 hca hn hm hap
  rw [hf] at k
  exact k
theorem split_len {l : Lk} {b : List UInt8} {most first n : Nat} (hn : cntV b.length most = n) : (splitL l b most first).length = n := by rw [splitL, List.length_map, List.length_range, hn]
theorem split_get {l : Lk} {b : List UInt8} {most first n i : Nat} (hn : cntV b.length most = n) (hi : i < n) : (splitL l b most first).getD i [] = pcV l b most first i := by
  unfold splitL
  rw [List.getD_eq_getElem?_getD, List.getElem?_map, List.getElem?_range (by rw [hn]; exact hi)]
  rfl

end Go.Proofs.Ytgfiadljjlajaaa
