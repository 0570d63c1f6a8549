/-
  The document's own Packet.
-/
import Derived.Test.YtjjccbegljkkfaaFrameV
import Derived.Test.YtjjccbegljkkfaaCopy
import Derived.Test.YtjjccbegljkkfaaBase
namespace Go.Proofs.Ytjjccbegljkkfaa
open Go.RowKit
set_option maxRecDepth 100000

/-- P7.3. -/
def packV (way : Int) (b : List UInt8) : List UInt8 := if (way = 0 ∨ way = 1) ∧ b.length ≤ 65535 then UInt8.ofNat way.toNat :: b else []
theorem packV_len (way : Int) (b : List UInt8) : (packV way b).length ≤ 65536 := by
  unfold packV
  split
  · simp; omega
  · simp

set_option maxHeartbeats 1000000 in
theorem refpacket_0 (a : Option Addr) (ca : Nat) (b : List UInt8) (w : World) (ha : Cells w a b) (hc0 : a = none → ca = 0) (hl : b.length ≤ 65535) :
    Calls Try.prog 17 #[.int .i64 0, .slice a b.length ca] w fun e w' => ∃ v, e = .returned v ∧ Owns w' w.heap.size v (0 :: b) ∧ w.grownBy w' none := by
  obtain ⟨i0, hi, hz0, hz1, hz2⟩ := info_parts info5
  have H : Hid (Cells w a b) := ha
  have hl' : ¬ (65535 : Int) < (b.length : Int) := by omega
  have HO : Hid (Owns (w.alloc (.cells #[.int .u8 0] 5)) w.heap.size (.slice (some ⟨w.heap.size, 0, none⟩) 1 1) [0]) := owns_lit w _ (Nat.le_refl _) [0] (by unfold maxLen; simp)
  clear ha
  go_enter Try.func17, Try.ntmps17
  go_wp2_with (at_builtin; refine wpList_append_rd rfl (.tmp 18) (.tmp 19) 24 rfl i0 Try.underlying24 hi hz0 hz1 hz2 w.heap.size _ [0] rfl ?q1 a ca b rfl hc0 ?q2 ?q3 ?q4 ?q5)
  case q1 => exact HO.out
  case q2 => exact H.out.keptNone (World.grownBy_alloc _ _ _)
  case q3 => omega
  case q5 =>
    intro v' w5 O5 K5
    have G5 : w.grownBy w5 none := grown_trans_new (World.grownBy_alloc _ _ none) K5 (by intro x hx; simp [Value.ownBlock] at hx; omega)
    go_wp2
    go_ret
    exact ⟨_, rfl, O5, G5⟩

set_option maxHeartbeats 1000000 in
theorem refpacket_1 (a : Option Addr) (ca : Nat) (b : List UInt8) (w : World) (ha : Cells w a b) (hc0 : a = none → ca = 0) (hl : b.length ≤ 65535) :
    Calls Try.prog 17 #[.int .i64 1, .slice a b.length ca] w fun e w' => ∃ v, e = .returned v ∧ Owns w' w.heap.size v (1 :: b) ∧ w.grownBy w' none := by
  obtain ⟨i0, hi, hz0, hz1, hz2⟩ := info_parts info5
  have H : Hid (Cells w a b) := ha
  have hl' : ¬ (65535 : Int) < (b.length : Int) := by omega
  have HO : Hid (Owns (w.alloc (.cells #[.int .u8 1] 5)) w.heap.size (.slice (some ⟨w.heap.size, 0, none⟩) 1 1) [1]) := owns_lit w _ (Nat.le_refl _) [1] (by unfold maxLen; simp)
  clear ha
  go_enter Try.func17, Try.ntmps17
  go_wp2_with (at_builtin; refine wpList_append_rd rfl (.tmp 18) (.tmp 19) 24 rfl i0 Try.underlying24 hi hz0 hz1 hz2 w.heap.size _ [1] rfl ?q1 a ca b rfl hc0 ?q2 ?q3 ?q4 ?q5)
  case q1 => exact HO.out
  case q2 => exact H.out.keptNone (World.grownBy_alloc _ _ _)
  case q3 => omega
  case q5 =>
    intro v' w5 O5 K5
    have G5 : w.grownBy w5 none := grown_trans_new (World.grownBy_alloc _ _ none) K5 (by intro x hx; simp [Value.ownBlock] at hx; omega)
    go_wp2
    go_ret
    exact ⟨_, rfl, O5, G5⟩

set_option maxHeartbeats 1000000 in
theorem refpacket_no (way : Int) (a : Option Addr) (ca : Nat) (b : List UInt8) (w : World) (h : ¬ ((way = 0 ∨ way = 1) ∧ b.length ≤ 65535)) :
    Calls Try.prog 17 #[.int .i64 way, .slice a b.length ca] w fun e w' => ∃ v, e = .returned v ∧ Owns w' w.heap.size v [] ∧ w.grownBy w' none := by
  have hc : ((way != 0) = true ∧ (way != 1) = true) ∨ ((way != 0) = false ∧ (65535 : Int) < (b.length : Int)) ∨ ((way != 0) = true ∧ (way != 1) = false ∧ (65535 : Int) < (b.length : Int)) := by
    simp only [bne_iff_ne, bne_eq_false_iff_eq]
    omega
  rcases hc with ⟨h0, h1⟩ | ⟨h0, h1⟩ | ⟨h0, h1, h2⟩
  all_goals
    go_enter Try.func17, Try.ntmps17
    go_wp2
    go_ret
    exact ⟨_, rfl, World.ownsRow_nil _ _ _ _, World.grownBy.refl _ _⟩

theorem refpacket_any (way : Int) (a : Option Addr) (ca : Nat) (b : List UInt8) (w : World) (ha : Cells w a b) (hc0 : a = none → ca = 0) :
    Calls Try.prog 17 #[.int .i64 way, .slice a b.length ca] w fun e w' => ∃ v, e = .returned v ∧ Owns w' w.heap.size v (packV way b) ∧ w.grownBy w' none := by
  unfold packV
  by_cases h : (way = 0 ∨ way = 1) ∧ b.length ≤ 65535
  · rw [if_pos h]
    rcases h.1 with rfl | rfl
    · exact refpacket_0 a ca b w ha hc0 h.2
    · exact refpacket_1 a ca b w ha hc0 h.2
  · rw [if_neg h]
    exact refpacket_no way a ca b w h

end Go.Proofs.Ytjjccbegljkkfaa
