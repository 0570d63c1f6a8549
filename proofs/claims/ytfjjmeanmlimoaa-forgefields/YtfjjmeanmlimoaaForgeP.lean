/-
  What the landed forge's walks share: rows loaded first in a drawn region; parts laid in a row and joined.
-/
import Derived.Test.YtfjjmeanmlimoaaForgeC
import Derived.Test.YtfjjmeanmlimoaaHand
import Derived.Test.YtfjjmeanmlimoaaJoin
import Derived.Test.YtfjjmeanmlimoaaPutW
import Derived.Laws.Rows
import Derived.Deep.RegionHeld3
import Derived.Deep.MidRow
import Derived.Deep.WholeRow
namespace Go.Proofs.Ytfjjmeanmlimoaa
open Go.RowKit
set_option maxRecDepth 100000

theorem size28 : (Try.prog.info? 28).map (·.size) = some 44 := by kernel_rfl
theorem spA_size {s : Sp} (ok : s.ok) (a : Option Addr) (ca : Nat) : (Try.prog.info? 28).map (·.size) = some (spA s a ca).size := by
  rw [spA, List.size_toArray, spL_len ok]
  exact size28

abbrev LS (w : World) (B C : Nat) (l : Lk) (s : Sp) (a : Option Addr) (ca : Nat) (W : World) : Prop := VAt W B 23 (lkA l) ∧ VAt W C 28 (spA s a ca) ∧ w.grownBy W none
theorem ls_call {w W W' : World} {B C : Nat} {l : Lk} {s : Sp} {a : Option Addr} {ca : Nat} (K : W.grownBy W' none) (h : LS w B C l s a ca W) : LS w B C l s a ca W' := ⟨h.1.kept K, h.2.1.kept K, grown_trans h.2.2 K⟩
theorem ls_drew {w W : World} {B C : Nat} {l : Lk} {s : Sp} {a : Option Addr} {ca : Nat} (h : LS w B C l s a ca W) : LS w B C l s a ca W.drew := ls_call (grown_drewN W 1 none) h

/-- Lists of bytes laid in a row, and joined. -/
theorem join_lit (ps : List Part) (n : Nat) (hn' : ps.length = n) (t : TypeId) (W : World) (hok : ∀ p ∈ ps, p.ok W) (hn : n ≤ 100) (hm : (joinS ps).length ≤ 140737488355328) :
    Calls Try.prog 26 #[.slice (some ⟨W.heap.size, 0, none⟩) n n] (W.alloc (.cells (ps.map Part.v).toArray t)) fun e w' => ∃ v, e = .returned v ∧ Owns w' W.heap.size v (joinS ps) ∧ (W.alloc (.cells (ps.map Part.v).toArray t)).grownBy w' none := by
  subst hn'
  have K := World.grownBy_alloc W (.cells (ps.map Part.v).toArray t) none
  have C1 := cv_lit W t (ps.map Part.v)
  refine (join_any (some ⟨W.heap.size, 0, none⟩) ps.length ps _ C1 (fun p hp => (hok p hp).kept K) (by omega) hm).mono ?_
  rintro e w' ⟨v, rfl, O, K'⟩
  exact ⟨v, rfl, owns_mono O (by simp), K'⟩

theorem Owns.part {w : World} {base : Nat} {v : Value} {xs : List UInt8} (h : Owns w base v xs) : ∃ p : Part, p.v = v ∧ p.bs = xs ∧ p.ok w := by
  obtain ⟨ao, cap, rfl, h2, h3⟩ := h.cells
  exact ⟨⟨ao, cap, xs⟩, rfl, rfl, h2, h3⟩

/-- A link and a spec are boxed, one behind the other. -/
theorem ls_boxes (w : World) (l : Lk) (s : Sp) (a : Option Addr) (ca : Nat) : LS w w.heap.size (w.heap.size + 1) l s a ca ((w.alloc (.cells (lkA l) 23)).alloc (.cells (spA s a ca) 28)) := by
  have L0 := VAt.alloc w 23 (lkA l)
  have K1 := World.grownBy_alloc (w.alloc (.cells (lkA l) 23)) (.cells (spA s a ca) 28) none
  have S1 := VAt.alloc (w.alloc (.cells (lkA l) 23)) 28 (spA s a ca)
  rw [show (w.alloc (.cells (lkA l) 23)).heap.size = w.heap.size + 1 by simp] at S1
  exact ⟨L0.kept K1, S1, grown_trans (World.grownBy_alloc w _ none) K1⟩

end Go.Proofs.Ytfjjmeanmlimoaa
