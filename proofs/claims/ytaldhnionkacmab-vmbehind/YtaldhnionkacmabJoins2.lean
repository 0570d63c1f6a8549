/-
  Join of two lists, of three, of none, as the statements call it.
-/
import Derived.Test.YtaldhnionkacmabJoin
namespace Go.Proofs.Ytaldhnionkacmab
open Go.RowKit
set_option maxRecDepth 100000

theorem jn2 (w : World) (a b : Option Addr) (ca cb : Nat) (xs ys : List UInt8) (ha : Cells w a xs) (ha0 : a = none → ca = 0) (hb : Cells w b ys) (hb0 : b = none → cb = 0) (hm : xs.length + ys.length ≤ 140737488355328) :
    Calls Try.prog 10 #[.slice (some ⟨w.heap.size, 0, none⟩) 2 2] (w.alloc (.cells #[.slice a xs.length ca, .slice b ys.length cb] 36)) fun e w' => ∃ v, e = .returned v ∧ Owns w' w.heap.size v (xs ++ ys) ∧ w.grownBy w' none := by
  have g1 : w.grownBy (w.alloc (.cells #[.slice a xs.length ca, .slice b ys.length cb] 36)) none := World.grownBy_alloc _ _ _
  have c1 : CV (w.alloc (.cells #[.slice a xs.length ca, .slice b ys.length cb] 36)) (some ⟨w.heap.size, 0, none⟩) [.slice a xs.length ca, .slice b ys.length cb] := cv_lit w _ _
  generalize w.alloc (.cells #[.slice a xs.length ca, .slice b ys.length cb] 36) = w1 at *
  refine (wjoin_any (some ⟨w.heap.size, 0, none⟩) 2 [⟨a, ca, xs⟩, ⟨b, cb, ys⟩] w1 c1 ?_ (by simp) (by simpa [joinS] using hm)).mono ?_
  · intro x hx
    simp only [List.mem_cons, List.not_mem_nil, or_false] at hx
    rcases hx with rfl | rfl
    · exact ⟨ha.keptNone g1, ha0⟩
    · exact ⟨hb.keptNone g1, hb0⟩
  · rintro e w2 ⟨v, rfl, o, g2⟩
    refine ⟨v, rfl, ?_, grown_trans g1 g2⟩
    have e : joinS [⟨a, ca, xs⟩, ⟨b, cb, ys⟩] = xs ++ ys := by simp [joinS]
    rw [e] at o
    exact owns_mono o g1.size

theorem jn3 (w : World) (a b c : Option Addr) (ca cb cc : Nat) (xs ys zs : List UInt8) (ha : Cells w a xs) (ha0 : a = none → ca = 0) (hb : Cells w b ys) (hb0 : b = none → cb = 0) (hc : Cells w c zs) (hc0 : c = none → cc = 0) (hm : xs.length + ys.length + zs.length ≤ 140737488355328) :
    Calls Try.prog 10 #[.slice (some ⟨w.heap.size, 0, none⟩) 3 3] (w.alloc (.cells #[.slice a xs.length ca, .slice b ys.length cb, .slice c zs.length cc] 36)) fun e w' => ∃ v, e = .returned v ∧ Owns w' w.heap.size v (xs ++ ys ++ zs) ∧ w.grownBy w' none := by
  have g1 : w.grownBy (w.alloc (.cells #[.slice a xs.length ca, .slice b ys.length cb, .slice c zs.length cc] 36)) none := World.grownBy_alloc _ _ _
  have c1 : CV (w.alloc (.cells #[.slice a xs.length ca, .slice b ys.length cb, .slice c zs.length cc] 36)) (some ⟨w.heap.size, 0, none⟩) [.slice a xs.length ca, .slice b ys.length cb, .slice c zs.length cc] := cv_lit w _ _
  generalize w.alloc (.cells #[.slice a xs.length ca, .slice b ys.length cb, .slice c zs.length cc] 36) = w1 at *
  refine (wjoin_any (some ⟨w.heap.size, 0, none⟩) 3 [⟨a, ca, xs⟩, ⟨b, cb, ys⟩, ⟨c, cc, zs⟩] w1 c1 ?_ (by simp) (by simp [joinS]; omega)).mono ?_
  · intro x hx
    simp only [List.mem_cons, List.not_mem_nil, or_false] at hx
    rcases hx with rfl | rfl | rfl
    · exact ⟨ha.keptNone g1, ha0⟩
    · exact ⟨hb.keptNone g1, hb0⟩
    · exact ⟨hc.keptNone g1, hc0⟩
  · rintro e w2 ⟨v, rfl, o, g2⟩
    refine ⟨v, rfl, ?_, grown_trans g1 g2⟩
    have e : joinS [⟨a, ca, xs⟩, ⟨b, cb, ys⟩, ⟨c, cc, zs⟩] = xs ++ ys ++ zs := by simp [joinS]
    rw [e] at o
    exact owns_mono o g1.size

theorem jn0 (w : World) :
    Calls Try.prog 10 #[.slice none 0 0] w fun e w' => ∃ ao cap, e = .returned (.slice ao 0 cap) ∧ Cells w' ao [] ∧ (ao = none → cap = 0) ∧ w.grownBy w' none := by
  refine (wjoin_any none 0 [] w ⟨fun _ => rfl, fun ad had => (by cases had)⟩ (by simp) (by simp) (by simp [joinS])).mono ?_
  rintro e w2 ⟨v, rfl, o, g2⟩
  obtain ⟨ao, cap, rfl, c, h0, _⟩ := Owns.rd (xs := []) o
  exact ⟨ao, cap, rfl, c, h0, g2⟩

end Go.Proofs.Ytaldhnionkacmab
