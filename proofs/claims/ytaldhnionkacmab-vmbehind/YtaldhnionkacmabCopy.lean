/-
  CopyBytes, LendBytes: new memory that reads as what was handed in.
-/
import Derived.Test.YtaldhnionkacmabSame
namespace Go.Proofs.Ytaldhnionkacmab
open Go.RowKit
set_option maxRecDepth 100000

theorem info5 : (Try.prog.info? 5).map (fun i => (i.zero, i.size, i.bytes)) = some (some (.int .u8 0), 1, 1) := by kernel_rfl

set_option maxHeartbeats 400000 in
theorem copy_any (a : Option Addr) (ca : Nat) (xs : List UInt8) (w : World) (ha : Cells w a xs) (hc0 : a = none → ca = 0) (hm : xs.length ≤ 140737488355328) :
    Calls Try.prog 8 #[.slice a xs.length ca] w fun e w' => ∃ v, e = .returned v ∧ Owns w' w.heap.size v xs ∧ w.grownBy w' none := by
  obtain ⟨i0, hi, hz0, hz1, hz2⟩ := info_parts info5
  have H : Hid (Cells w a xs) := ha
  clear ha
  go_enter Try.func8, Try.ntmps8
  go_wp2_with (at_builtin; refine wpList_append_rd rfl (.tmp 3) (.tmp 4) 36 rfl i0 Try.underlying36 hi hz0 hz1 hz2 w.heap.size _ [] rfl ?q1 a ca xs rfl hc0 ?q2 ?q3 ?q4 ?q5)
  case q1 => exact owns_made w _ (Nat.le_refl _)
  case q2 => exact H.out.keptNone (World.grownBy_alloc _ _ _)
  case q3 => simpa using hm
  case q4 => simp
  case q5 =>
    intro v' w' h1 h2
    have G : w.grownBy w' none := grown_trans_new (World.grownBy_alloc w _ _) h2 (by intro x hx; simp [Value.ownBlock] at hx; omega)
    clear h2
    go_wp2
    go_ret
    exact ⟨v', rfl, h1, G⟩

end Go.Proofs.Ytaldhnionkacmab
