/-
  The program's own Put.
-/
import Derived.Test.YtfjjmeanmlimoaaGetW
import Derived.Test.YtfjjmeanmlimoaaJoin
namespace Go.Proofs.Ytfjjmeanmlimoaa
open Go.RowKit
set_option maxRecDepth 100000

set_option maxHeartbeats 1000000 in
theorem put_any (a : Option Addr) (ca : Nat) (xs : List UInt8) (p s : Int) (v : Nat) (w : World) (ha : Cells w a xs) (hc0 : a = none → ca = 0) (hn : xs.length ≤ 140737488355328) (hv : v ≤ 4294967295) :
    Calls Try.prog 70 #[.slice a xs.length ca, .int .i64 p, .int .i64 s, .int .u32 v] w fun e w' => MadeB w w' e (putV xs p s v) (okB xs.length p s) := by
  cases hok : okB xs.length p s with
  | false =>
    have hg : putV xs p s v = [] := by simp [putV, hok]
    rw [hg]
    clear hg
    go_enter Try.func70, Try.ntmps70
    go_wp2_with (go_at_call 40; refine (holds_any a ca xs.length p s _ hn).mono ?_; rintro e w' ⟨rfl, rfl⟩)
    go_ret2
    exact ⟨_, rfl, World.ownsRow_nil _ _ _ _, World.grownBy.refl _ _⟩
  | true =>
    have hy := okB_yes hok
    obtain ⟨P, rfl⟩ := Int.eq_ofNat_of_zero_le hy.2.1
    obtain ⟨S, rfl⟩ : ∃ S : Nat, s = S := ⟨s.toNat, by omega⟩
    have hS1 : 1 ≤ S := by omega
    have hS : S ≤ 4 := by omega
    have hP : P + S ≤ xs.length := by omega
    clear hy
    have hg : putV xs P S v = putTo xs P S v S := by simp [putV, hok]
    rw [hg]
    clear hg
    have H : Hid (Cells w a xs) := ha
    clear ha
    go_enter Try.func70, Try.ntmps70
    go_wp2_with (go_at_call 40; refine (holds_any a ca xs.length P S _ hn).mono ?_; rintro e w' ⟨rfl, rfl⟩)
    have G0 : w.grownBy (w.alloc (.cells #[.slice a xs.length ca] 26)) none := World.grownBy_alloc _ _ _
    have hs0 : (w.alloc (.cells #[.slice a xs.length ca] 26)).heap.size = w.heap.size + 1 := by simp
    refine (join_any (some ⟨w.heap.size, 0, none⟩) 1 [⟨a, ca, xs⟩] _ ?_ ?_ (by simp) (by simpa [joinS] using hn)).mono ?_
    · exact cv_lit w 26 [.slice a xs.length ca]
    · intro q hq
      simp only [List.mem_singleton] at hq
      subst hq
      exact ⟨H.out.keptNone G0, hc0⟩
    rintro e w1 ⟨v1, rfl, h1, h2⟩
    have G1 : w.grownBy w1 none := grown_trans G0 h2
    rw [hs0] at h1
    have h1' : Owns w1 w.heap.size v1 xs := owns_mono (by simpa [joinS] using h1) (by omega)
    obtain ⟨g, cap, hv1, hc1, hc2, hg1, hg2⟩ := h1'.headL (by omega)
    subst hv1
    have R : PutRel w g cap xs P S v 0 w1 := ⟨h1', G1⟩
    clear h1 h1' h2 G1 G0 hs0 H
    unfold maxLen at hc2
    go_wp2
    go_loopw [3, 21] (fun x i wr => ∃ k : Nat, k ≤ S ∧ i = .int .i64 k ∧ x = .int .u32 ((shr8 v k : Nat) : Int) ∧ PutRel w g cap xs P S v k wr) (fun _ i _ => S - (intOf i).toNat)
    case atStart => exact ⟨0, Nat.zero_le _, rfl, by rw [shr8_zero], R⟩
    case round =>
      clear R
      obtain ⟨k, hk, rfl, rfl, R⟩ := hrel
      by_cases hlt : k < S
      · obtain ⟨u, hu⟩ := R.cell (i := P + S - 1 - k) (by omega)
        have hf := R.free (P + S - 1 - k)
        have R' := R.store
        have hq : shr8 v k ≤ 4294967295 := Nat.le_trans (shr8_le v k) hv
        have HQ : Hid (shr8 v (k + 1) = shr8 v k / 256) := shr8_succ v k
        clear R
        go_wp2
        go_roundw
        case rel => exact ⟨k + 1, by omega, by go_num, by rw [HQ.out]; go_num, R'⟩
        case measure => simp [intOf]; omega
      · obtain rfl : k = S := by omega
        go_wp2
        go_ret2
        refine ⟨_, rfl, ?_, R.2⟩
        unfold Owns
        rw [putTo_len]
        exact R.1

end Go.Proofs.Ytfjjmeanmlimoaa
