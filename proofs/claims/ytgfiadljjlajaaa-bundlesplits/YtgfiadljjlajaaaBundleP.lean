/-
  What the laws of stage 9 share: a link in a block; loads of two pieces.
-/
import Derived.Test.YtgfiadljjlajaaaBundleW
import Derived.Test.YtgfiadljjlajaaaBundleH
import Derived.Test.YtgfiadljjlajaaaOpenL
import Derived.Deep.RegionHeld3
import Derived.Deep.DeepCutAuto
namespace Go.Proofs.Ytgfiadljjlajaaa
open Go.RowKit
set_option maxRecDepth 100000

/-- A link in a block, while memory is made behind it. -/
abbrev K3 (w : World) (L : Nat) (mp : Int) (W : World) : Prop := W.cell? ⟨L, 0, none⟩ = some (.bool false) ∧ W.cell? ⟨L, 1, none⟩ = some (.bool false) ∧ W.cell? ⟨L, 2, none⟩ = some (.int .i64 mp) ∧ w.grownBy W none
theorem k3_call {w W W' : World} {L : Nat} {mp : Int} (K : W.grownBy W' none) (h : K3 w L mp W) : K3 w L mp W' := ⟨K.cell h.1 (by simp), K.cell h.2.1 (by simp), K.cell h.2.2.1 (by simp), grown_trans h.2.2.2 K⟩
theorem k3_drew {w W : World} {L : Nat} {mp : Int} (h : K3 w L mp W) : K3 w L mp W.drew := k3_call (grown_drewN W 1 none) h

theorem feed_err {l : Lk} {u : Bs} {b : List UInt8} {e : Int} (h : feedX l u b = .error e) : (e != 0) = true := by
  unfold feedX at h
  cases hp : pieceV l b with
  | error e' =>
    rw [hp] at h
    have : e' = e := by simpa [Except.bind] using h
    rw [← this]
    exact piece_er9 hp
  | ok v =>
    rw [hp] at h
    simp only [Except.bind] at h
    split at h
    · cases h
    · have : (94 : Int) = e := by simpa using h
      rw [← this]
      rfl

theorem except_cases9' {α : Type} (x : Except Int α) : (∃ e, x = .error e) ∨ ∃ a, x = .ok a := by
  cases x with
  | error e => exact .inl ⟨e, rfl⟩
  | ok a => exact .inr ⟨a, rfl⟩
theorem Owns.items {w : World} {base : Nat} {v : Value} {xs : List UInt8} (h : Owns w base v xs) : ∃ ao ca, v = .slice ao xs.length ca ∧ Cells w ao xs ∧ (ao = none → ca = 0) ∧ xs.length ≤ ca := by
  obtain ⟨p1, q1, r1, -, s1, -, u1, -⟩ := cv_of_row h
  obtain ⟨ao, cap, rfl, C, h1, -⟩ := h.shape
  simp only [Value.slice.injEq] at r1
  obtain ⟨rfl, -, rfl⟩ := r1
  exact ⟨ao, cap, rfl, C, u1, h1⟩

/-! A load of two pieces. -/
theorem cnt_two {n : Nat} (h : 2 ≤ n) : cntV n ((n + 1) / 2) = 2 := by
  have h1 := cnt_ge (n := n) (most := (n + 1) / 2) (by omega)
  have h2 := cnt_pos n ((n + 1) / 2) (by omega)
  by_cases h3 : 2 + 1 ≤ cntV n ((n + 1) / 2)
  · have := cnt_lt (n := n) (most := (n + 1) / 2) (i := 1) (by omega) (by omega)
    omega
  · by_cases h4 : cntV n ((n + 1) / 2) = 1
    · rw [h4] at h1
      omega
    · omega
theorem split_two {b : List UInt8} (h : 2 ≤ b.length) (h2 : b.length ≤ 2000) : splitX k9 b (((b.length + 1) / 2 : Nat) : Int) 7 = .ok [pcV k9 b ((b.length + 1) / 2) 7 0, pcV k9 b ((b.length + 1) / 2) 7 1] := by
  unfold splitX
  rw [if_neg (by decide), if_neg (by rw [show spV k9 = 4096 from rfl]; omega), if_neg (by omega), if_neg (by omega), splitL, Int.toNat_natCast, cnt_two h]
  rfl
theorem two_one {b : List UInt8} (h : 2 ≤ b.length) (h2 : b.length ≤ 2000) : feedX k9 ⟨7, false, []⟩ (pcV k9 b ((b.length + 1) / 2) 7 0) = .ok (rowS k9 b ((b.length + 1) / 2) 7 1, [], false) := by
  rw [feed_row k9 _ b ((b.length + 1) / 2) 7 0 (by decide) (by omega) (by omega) (by omega) (by rw [cnt_two h]; omega) (.inl rfl), cnt_two h]
  rfl
theorem two_two {b : List UInt8} (h : 2 ≤ b.length) (h2 : b.length ≤ 2000) : feedX k9 (rowS k9 b ((b.length + 1) / 2) 7 1) (pcV k9 b ((b.length + 1) / 2) 7 1) = .ok (rowS k9 b ((b.length + 1) / 2) 7 2, b, true) := by
  rw [feed_row k9 _ b ((b.length + 1) / 2) 7 1 (by decide) (by omega) (by omega) (by omega) (by rw [cnt_two h]; omega) (.inr rfl), cnt_two h]
  rfl
theorem new_seven : newX k9 7 = .ok ⟨7, false, []⟩ := by kernel_rfl

/-- The pieces of a load, as they lie. -/
theorem LLv.pieces {W : World} {base : Nat} {v : Value} {vs : List Value} {l : Lk} {b : List UInt8} {most first n : Nat} (h : LLv W base v vs (splitL l b most first)) (hn : cntV b.length most = n) (h1 : 1 ≤ n) :
    ∃ g cap, v = .slice (some ⟨g, 0, none⟩) n cap ∧ ∀ i, i < n → ∃ ao ca, W.cell? ⟨g, i, none⟩ = some (.slice ao (pcV l b most first i).length ca) ∧ Cells W ao (pcV l b most first i) ∧ (ao = none → ca = 0) := by
  have hLL : (splitL l b most first).length = n := by rw [splitL, List.length_map, List.length_range, hn]
  obtain ⟨g, cap, -, -, hv, -⟩ := h.item (i := 0) (by omega)
  rw [hLL] at hv
  refine ⟨g, cap, hv, fun i hi => ?_⟩
  obtain ⟨g', cap', ao, ca, hv', hc, -, C, O⟩ := h.item (i := i) (by omega)
  rw [hLL, hv] at hv'
  simp only [Value.slice.injEq, Option.some.injEq, Addr.mk.injEq, and_true, true_and] at hv'
  obtain ⟨rfl, rfl⟩ := hv'
  have e : (splitL l b most first).getD i [] = pcV l b most first i := by
    unfold splitL
    rw [List.getD_eq_getElem?_getD, List.getElem?_map, List.getElem?_range (by rw [hn]; exact hi)]
    rfl
  rw [e] at hc C O
  obtain ⟨p1, q1, r1, -, -, -, u1, -⟩ := cv_of_row O
  simp only [Value.slice.injEq] at r1
  obtain ⟨rfl, -, rfl⟩ := r1
  exact ⟨ao, ca, hc, C, u1⟩

theorem cnt_max {n sz : Nat} (hs : 1 ≤ sz) : cntV n sz = max 1 ((n + sz - 1) / sz) := by
  unfold cntV
  split
  · rename_i h
    rw [h, Nat.zero_add, Nat.div_eq_of_lt (by omega)]
    rfl
  · rename_i h
    have : 1 ≤ (n + sz - 1) / sz := (Nat.le_div_iff_mul_le (by omega)).2 (by omega)
    omega
theorem cnt_many {n sz : Nat} (hs : 1 ≤ sz) (h : n ≤ 4096 * sz) : cntV n sz ≤ 4096 := by
  by_cases h1 : 4096 + 1 ≤ cntV n sz
  · have := cnt_lt (n := n) (most := sz) (i := 4095) hs (by omega)
    omega
  · omega

end Go.Proofs.Ytgfiadljjlajaaa
