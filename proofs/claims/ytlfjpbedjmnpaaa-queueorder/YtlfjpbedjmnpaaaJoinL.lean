/-
  Lists written down in a row, and joined.
-/
import Derived.Test.YtlfjpbedjmnpaaaJoin
import Derived.Test.YtlfjpbedjmnpaaaICopy
namespace Go.Proofs.Ytlfjpbedjmnpaaa
open Go.RowKit
set_option maxRecDepth 100000

/-- Lists of bytes laid in a row, and joined. -/
theorem lit_join (ps : List Part) (n : Nat) (hn' : ps.length = n) (t : TypeId) (W : World) (hok : ∀ p ∈ ps, p.ok W) (hn : n ≤ 100) (hm : (joinS ps).length ≤ 140737488355328) :
    Calls Try.prog 42 #[.slice (some ⟨W.heap.size, 0, none⟩) n n] (W.alloc (.cells (ps.map Part.v).toArray t)) fun e w' => ∃ v, e = .returned v ∧ Owns w' W.heap.size v (joinS ps) ∧ (W.alloc (.cells (ps.map Part.v).toArray t)).grownBy w' none := by
  subst hn'
  have K := World.grownBy_alloc W (.cells (ps.map Part.v).toArray t) none
  have C1 := cv_lit W t (ps.map Part.v)
  refine (wjoin_any (some ⟨W.heap.size, 0, none⟩) ps.length ps _ C1 (fun p hp => (hok p hp).kept K) (by omega) hm).mono ?_
  rintro e w' ⟨v, rfl, O, K'⟩
  exact ⟨v, rfl, owns_mono O (by simp), K'⟩

/-- Two parts joined. -/
theorem lit_two {W : World} {a1 a2 : Option Addr} {k1 k2 : Nat} {x1 x2 : List UInt8} (t : TypeId) (C1 : Cells W a1 x1) (z1 : a1 = none → k1 = 0) (C2 : Cells W a2 x2) (z2 : a2 = none → k2 = 0) (hm : x1.length + x2.length ≤ 140737488355328) :
    Calls Try.prog 42 #[.slice (some ⟨W.heap.size, 0, none⟩) 2 2] (W.alloc (.cells #[.slice a1 x1.length k1, .slice a2 x2.length k2] t)) fun e w' => ∃ v, e = .returned v ∧ Owns w' W.heap.size v (x1 ++ x2) ∧ (W.alloc (.cells #[.slice a1 x1.length k1, .slice a2 x2.length k2] t)).grownBy w' none := by
  have k := lit_join [⟨a1, k1, x1⟩, ⟨a2, k2, x2⟩] 2 rfl t W (by simpa using ⟨⟨C1, z1⟩, ⟨C2, z2⟩⟩) (by omega) (by simpa [joinS] using hm)
  have e : joinS [⟨a1, k1, x1⟩, ⟨a2, k2, x2⟩] = x1 ++ x2 := by simp [joinS]
  rw [e] at k
  exact k

/-- One part copied. -/
theorem lit_one {W : World} {a1 : Option Addr} {k1 : Nat} {x1 : List UInt8} (t : TypeId) (C1 : Cells W a1 x1) (z1 : a1 = none → k1 = 0) (hm : x1.length ≤ 140737488355328) :
    Calls Try.prog 42 #[.slice (some ⟨W.heap.size, 0, none⟩) 1 1] (W.alloc (.cells #[.slice a1 x1.length k1] t)) fun e w' => ∃ v, e = .returned v ∧ Owns w' W.heap.size v x1 ∧ (W.alloc (.cells #[.slice a1 x1.length k1] t)).grownBy w' none := by
  have k := lit_join [⟨a1, k1, x1⟩] 1 rfl t W (by simpa using ⟨C1, z1⟩) (by omega) (by simpa [joinS] using hm)
  have e : joinS [⟨a1, k1, x1⟩] = x1 := by simp [joinS]
  rw [e] at k
  exact k

/-- Three parts joined. -/
theorem lit_three {W : World} {a1 a2 a3 : Option Addr} {k1 k2 k3 : Nat} {x1 x2 x3 : List UInt8} (t : TypeId) (C1 : Cells W a1 x1) (z1 : a1 = none → k1 = 0) (C2 : Cells W a2 x2) (z2 : a2 = none → k2 = 0) (C3 : Cells W a3 x3) (z3 : a3 = none → k3 = 0) (hm : x1.length + (x2.length + x3.length) ≤ 140737488355328) :
    Calls Try.prog 42 #[.slice (some ⟨W.heap.size, 0, none⟩) 3 3] (W.alloc (.cells #[.slice a1 x1.length k1, .slice a2 x2.length k2, .slice a3 x3.length k3] t)) fun e w' => ∃ v, e = .returned v ∧ Owns w' W.heap.size v (x1 ++ (x2 ++ x3)) ∧ (W.alloc (.cells #[.slice a1 x1.length k1, .slice a2 x2.length k2, .slice a3 x3.length k3] t)).grownBy w' none := by
  have k := lit_join [⟨a1, k1, x1⟩, ⟨a2, k2, x2⟩, ⟨a3, k3, x3⟩] 3 rfl t W (by simpa using ⟨⟨C1, z1⟩, ⟨C2, z2⟩, ⟨C3, z3⟩⟩) (by omega) (by simpa [joinS] using hm)
  have e : joinS [⟨a1, k1, x1⟩, ⟨a2, k2, x2⟩, ⟨a3, k3, x3⟩] = x1 ++ (x2 ++ x3) := by simp [joinS]
  rw [e] at k
  exact k

end Go.Proofs.Ytlfjpbedjmnpaaa
