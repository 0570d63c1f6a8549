/-
  CopyBytes, LendBytes: new memory that reads as what was handed in.
-/
import Derived.Test.YtaldhnionkacmaaSame
namespace Go.Proofs.Ytaldhnionkacmaa
open Go.RowKit
set_option maxRecDepth 100000

theorem info5 : (Try.prog.info? 5).map (fun i => (i.zero, i.size, i.bytes)) = some (some (.int .u8 0), 1, 1) := by kernel_rfl

set_option maxHeartbeats 400000 in
theorem copy_any (a : Option Addr) (ca : Nat) (xs : List UInt8) (w : World) (ha : Cells w a xs) (hc0 : a = none → ca = 0) (hm : xs.length ≤ 140737488355328) :
    Calls Try.prog 18 #[.slice a xs.length ca] w fun e w' => ∃ v, e = .returned v ∧ Owns w' w.heap.size v xs ∧ w.grownBy w' none := by
  obtain ⟨i0, hi, hz0, hz1, hz2⟩ := info_parts info5
  have H : Hid (Cells w a xs) := ha
  clear ha
  go_enter Try.func18, Try.ntmps18
  go_wp2_with (at_builtin; refine wpList_append_rd rfl (.tmp 3) (.tmp 4) 23 rfl i0 Try.underlying23 hi hz0 hz1 hz2 w.heap.size _ [] rfl ?q1 a ca xs rfl hc0 ?q2 ?q3 ?q4 ?q5)
  case q1 => exact owns_made w _ (Nat.le_refl _)
  case q2 => exact H.out.keptNone (World.grownBy_alloc _ _ _)
  case q3 => simpa using hm
  case q4 => simp
  case q5 =>
    intro v' w' h1 h2
    have G : w.grownBy w' none := grown_trans_new (World.grownBy_alloc w _ _) h2 (by intro x hx; simp [Value.ownBlock] at hx; omega)
    clear h2
    go_wp2
    go_ret
    exact ⟨v', rfl, h1, G⟩

set_option maxHeartbeats 400000 in
theorem lend_any (a : Option Addr) (ca : Nat) (xs : List UInt8) (w : World) (ha : Cells w a xs) (hc0 : a = none → ca = 0) (hm : xs.length ≤ 140737488351232) :
    Calls Try.prog 11 #[.slice a xs.length ca] w fun e w' => ∃ v, e = .returned v ∧ Lent w' w.heap.size v xs ∧ w.grownBy w' none := by
  obtain ⟨i0, hi, hz0, hz1, hz2⟩ := info_parts info5
  go_enter Try.func11, Try.ntmps11
  go_wp2_with fail
  refine (copy_any a ca xs _ ha hc0 (by omega)).mono ?_
  rintro e w1 ⟨v, rfl, h1, h2⟩
  clear ha
  go_wp2_with (at_builtin; refine wpList_append_rd rfl (.tmp 5) (.tmp 6) 23 rfl i0 Try.underlying23 hi hz0 hz1 hz2 w.heap.size _ xs rfl ?q1 (some ⟨w1.heap.size, 0, none⟩) 3 [201, 201, 201] rfl (by simp) ?q2 ?q3 ?q4 ?q5)
  case q1 => exact h1.alloc _
  case q2 => exact cells_lit w1 [201, 201, 201]
  case q3 => simp; omega
  case q4 => have := h2.size; simp; omega
  case q5 =>
    intro v' w' h3 h4
    have G : w.grownBy w' none := grown_trans_new h2 (grown_trans (World.grownBy_alloc w1 _ _) h4) (fun x hx => (h1.lt x hx).1)
    obtain ⟨g, cap, hv, hc, hcm, hg1, hg2⟩ := h3.headL (by simp)
    have hlen : (xs ++ [201, 201, 201]).length = xs.length + 3 := by simp
    rw [hlen] at hv hc
    subst hv
    have R : Lent w' w.heap.size (.slice (some ⟨g, 0, none⟩) xs.length cap) xs := by
      refine ⟨g, cap, rfl, hc, hcm, hg1, hg2, ?_⟩
      have := h3
      unfold Owns at this
      rw [hlen] at this
      exact this
    clear h4 h3 h2 h1 hlen
    unfold maxLen at hcm
    have hx : (xs.length : Int) ≤ (cap : Int) := by omega
    go_wp2
    go_ret
    exact ⟨_, rfl, R, G⟩

end Go.Proofs.Ytaldhnionkacmaa
