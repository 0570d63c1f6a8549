import Derived.Test.YtklipelnjgpnjaaGreatDoorLotS11
import Derived.Test.YtklipelnjgpnjaaGreatDoorLotS9
namespace Go.Proofs.YtklipelnjgpnjaaGreatDoor
open Go.RowKit
set_option maxRecDepth 100000
def a5y : Value := .slice none 0 0
theorem an9 {t : List Ng} {x : Nat × Int} (h : t7 [] 0 t = .error x) : M8 t = x := by rw [M8, h]
theorem a6k : ∀ (l : List Ng) (w k : Nat), U5 w k l = none ↔ (l = [] ∨ w + N6 l ≤ 3000)
 | [], w, k => by simp [U5]
 | x :: l, w, k => by
  have e : N6 (x :: l) = I7 x + N6 l := by simp [N6]
  simp only [U5]
  by_cases h : 3000 < w + I7 x
  ·rw [if_pos h]
   constructor
   ·intro h2; cases h2
   ·intro h2; rcases h2 with h2 | h2
    ·cases h2
    ·omega
  ·rw [if_neg h, a6k l (w + I7 x) (k + 1)]
   constructor
   ·rintro (rfl | h2)
    ·right; rw [e]; simp [N6]; omega
    ·right; omega
   ·rintro (h2 | h2)
    ·cases h2
    ·right; omega
theorem a6a {t : List Ng} : (M8 t).2 = 0 ↔ ∃ p, t7 [] 0 t = .ok [p] ∧ p.truth = true ∧ N6 t ≤ 3000 := by
 constructor
 ·intro h
  cases hw : t7 [] 0 t with
  | error x =>
   obtain ⟨k, e⟩ := x
   rw [an9 hw] at h
   have := a7i t [] 0 hw
   simp only at h
   omega
  | ok st =>
   rw [M8, hw] at h
   simp only at h
   split at h
   ·cases h
   ·rename_i hl
    split at h
    ·cases h
    ·rename_i ht
     match st, hl with
     | [p], _ =>
      refine ⟨p, rfl, by simpa using ht, ?_⟩
      cases hh : U5 0 0 t with
      | some q => rw [hh] at h; cases h
      | none =>
       rcases (a6k t 0 0).1 hh with rfl | h2
       ·simp [N6]
       ·omega
     | [], hl => exact absurd (by simp) hl
     | _ :: _ :: _, hl => exact absurd (by simp) hl
 ·rintro ⟨p, hw, hp, hwt⟩
  rw [M8, hw]
  simp only [List.length_singleton, ne_eq, not_true_eq_false, if_false, List.getD_cons_zero, hp]
  rw [(a6k t 0 0).2 (.inr (by omega))]
  rfl
theorem b0U {x : Ng} (h : 1 ≤ x.kind ∧ x.kind ≤ 16) : 1 ≤ I7 x := by
 obtain ⟨k, hk⟩ : ∃ k : Nat, x.kind = k := Int.eq_ofNat_of_zero_le (by omega)
 unfold I7
 rw [hk]
 rcases a1B (k := k) (by omega) (by omega) with rfl | rfl | rfl | rfl | rfl | rfl | rfl | rfl | rfl | rfl | rfl | rfl | rfl | rfl | rfl | rfl
 all_goals first
  | exact Nat.le_refl 1
  | (show 1 ≤ (_ : Nat); simp; done)
  | (simp; split <;> omega)
theorem af4 : ∀ (l : List Ng) (st s : List Pt) (k : Nat), t7 st k l = .ok s → l.length ≤ N6 l
 | [], _, _, _, _ => Nat.le_refl _
 | x :: l, st, s, k, h => by
  simp only [t7] at h
  cases hs : M4 x st with
  | error e => rw [hs] at h; cases h
  | ok s1 =>
   rw [hs] at h
   have := af4 l s1 s (k + 1) h
   have hx : 1 ≤ I7 x := by
    unfold M4 at hs
    split at hs
    ·cases hs
    ·rename_i a ha
     exact b0U (a3I ha)
   have e : N6 (x :: l) = I7 x + N6 l := by simp [N6]
   rw [List.length_cons]
   omega
structure PL (w wr : World) (g8 c8 g9 c9 G n : Nat) (ss : List Nat) (last : Nat) (pss : List (List Ng)) (us : List Value) : Prop where
 grown : w.grownBy wr none
 starts : ah0 wr w.heap.size (.slice (some ⟨g8, 0, none⟩) ss.length c8) ss
 ends : wr.ownsRow w.heap.size 3 1 (.slice (some ⟨g9, 0, none⟩) (ss.length + 1) c9) (ss.length + 1) ((ss ++ [last]).map sv)
 row : wr.ownsRow w.heap.size 22 1 (.slice (some ⟨G, 0, none⟩) n n) n (us ++ List.replicate (n - us.length) a5y)
 each : ∀ j, j < us.length → a4l wr w.heap.size (us.getD j a5y) (pss.getD j [])
 apart : ∀ i j, i < j → j < us.length → ∀ x, (us.getD i a5y).ownBlock = some x → (us.getD j a5y).ownBlock ≠ some x
section
variable {w wr wr' : World} {g8 c8 g9 c9 G n : Nat} {ss : List Nat} {last : Nat} {pss : List (List Ng)} {us : List Value}
theorem PL.keep (h : PL w wr g8 c8 g9 c9 G n ss last pss us) (K : wr.grownBy wr' none) : PL w wr' g8 c8 g9 c9 G n ss last pss us :=
 { h with grown := d3 h.grown K, starts := D8 h.starts K, ends := D8 h.ends K, row := D8 h.row K, each := fun j hj => D8 (h.each j hj) K }

end

end Go.Proofs.YtklipelnjgpnjaaGreatDoor
