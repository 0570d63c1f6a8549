/-
  What frame tells of the pieces of a load that begins with a protocol field. No Go text here.
-/
import Derived.Test.YtgfiadljjlajaaaBundleV
namespace Go.Proofs.Ytgfiadljjlajaaa
open Go.RowKit
set_option maxRecDepth 100000

def k10 : Lk := ⟨false, false, 2⟩

theorem bg_two (x y : UInt8) (r : List UInt8) : bg (x :: y :: r) 0 = x.toNat ∧ bg (x :: y :: r) 1 = y.toNat := ⟨rfl, rfl⟩

theorem look_piece (b : List UInt8) (most first i : Nat) (h2 : 2 ≤ most) (hm : most ≤ 65527) :
    ∃ pos, lookX k10 (pcV k10 (192 :: 33 :: b) most first i) = .ok ⟨if i = 0 then 49185 else 61, true, decide (i = 0), decide (i + 1 = cntV (b.length + 2) most), (first + i) % 16777216, pos, 0, 0, 0⟩ := by
  have hp := pc_piece k10 (192 :: 33 :: b) most first i (by decide) hm
  unfold lookX
  rw [if_neg (by decide), bind_of hp]
  rw [show spV k10 = 16777216 from rfl, show (192 :: 33 :: b).length = b.length + 2 from rfl, show szV k10 = 4 from rfl]
  by_cases hi : i = 0
  · subst hi
    rw [if_neg (by simp), if_pos rfl]
    have hl := pc_len k10 (192 :: 33 :: b) most first 0
    have hc : chunkV (192 :: 33 :: b) most 0 = 192 :: 33 :: b.take (most - 2) := by
      unfold chunkV
      rw [Nat.zero_mul, List.drop_zero]
      obtain ⟨m, rfl⟩ : ∃ m, most = m + 2 := ⟨most - 2, by omega⟩
      simp
    rw [hc, show szV k10 = 4 from rfl] at hl
    simp only [List.length_cons] at hl
    obtain ⟨F, hF⟩ : ∃ F, decide (0 + 1 = cntV (192 :: 33 :: b).length most) = F := ⟨_, rfl⟩
    have e : pcV k10 (192 :: 33 :: b) most first 0 = ([255, 3, 0, 61] ++ hdB k10 true F ((first + 0) % spV k10)) ++ (192 :: 33 :: b.take (most - 2)) := by
      unfold pcV
      rw [hc, hF, List.append_assoc]
      rfl
    have hL8 : ([255, 3, 0, 61] ++ hdB k10 true F ((first + 0) % spV k10)).length = 8 := by
      rw [List.length_append, hd_len]
      rfl
    have e0 : bg (pcV k10 (192 :: 33 :: b) most first 0) 8 = 192 := by
      rw [e]
      have := bg_at0 ([255, 3, 0, 61] ++ hdB k10 true F ((first + 0) % spV k10)) (192 :: 33 :: b.take (most - 2))
      rw [hL8] at this
      rw [this]
      rfl
    have e1 : bg (pcV k10 (192 :: 33 :: b) most first 0) (8 + 1) = 33 := by
      rw [e]
      have := bg_at ([255, 3, 0, 61] ++ hdB k10 true F ((first + 0) % spV k10)) (192 :: 33 :: b.take (most - 2)) 1
      rw [hL8] at this
      rw [this]
      rfl
    have hq : protoV k10 (pcV k10 (192 :: 33 :: b) most first 0) 8 = .ok (49185, 10) := by
      unfold protoV
      rw [e0, e1, if_neg (by omega), if_neg (by decide), if_neg (by omega), if_neg (by decide)]
    refine ⟨10, ?_⟩
    simp only [hq, Except.bind]
    rw [if_neg (by decide)]
    simp
  · rw [if_pos ⟨rfl, by simpa using hi⟩]
    refine ⟨4 + 4, ?_⟩
    simp [hi]

end Go.Proofs.Ytgfiadljjlajaaa
