/-
  The document's own Put.
-/
import Derived.Test.YtfjjmeanmlimoaaGetR
namespace Go.Proofs.Ytfjjmeanmlimoaa
open Go.RowKit
set_option maxRecDepth 100000

set_option maxHeartbeats 1000000 in
theorem refput_any (a : Option Addr) (ca : Nat) (xs : List UInt8) (p s : Int) (v : Nat) (w : World) (ha : Cells w a xs) (hc0 : a = none → ca = 0) (hn : xs.length ≤ 140737488355328) (hv : v ≤ 4294967295) :
    Calls Try.prog 69 #[.slice a xs.length ca, .int .i64 p, .int .i64 s, .int .u32 v] w fun e w' => MadeB w w' e (putV xs p s v) (okB xs.length p s) := by
  obtain ⟨i0, hi, hz0, hz1, hz2⟩ := info_parts info5
  have H : Hid (Cells w a xs) := ha
  clear ha
  by_cases h : s = 1 ∨ s = 2 ∨ s = 4
  case neg =>
    have hok : okB xs.length p s = false := (okB_no (by omega)).symm
    have h1 : (s != 1) = true := by rw [bne_iff_ne]; omega
    have h2 : (s != 2) = true := by rw [bne_iff_ne]; omega
    have h3 : (s != 4) = true := by rw [bne_iff_ne]; omega
    have hg : putV xs p s v = [] := by simp [putV, hok]
    rw [hok, hg]
    clear hok hg
    go_enter Try.func69, Try.ntmps69
    go_wp2
    go_ret2
    exact ⟨_, rfl, World.ownsRow_nil _ _ _ _, World.grownBy.refl _ _⟩
  case pos =>
    obtain ⟨S, rfl⟩ : ∃ S : Nat, s = S := ⟨s.toNat, by omega⟩
    have key := three_tests h
    have HS : Hid ((S : Int) = 1 ∨ (S : Int) = 2 ∨ (S : Int) = 4) := h
    clear h
    cases hok : okB xs.length p S with
    | false =>
      have hg : putV xs p S v = [] := by simp [putV, hok]
      rw [hg]
      clear hg
      rcases key with h1 | ⟨h1, h2⟩ | ⟨h1, h2, h3⟩
      all_goals
        go_enter Try.func69, Try.ntmps69
        go_wp2_with (go_at_call 75; refine (in_any xs.length p _ _ hn HS.out).mono ?_; rintro e w' ⟨rfl, rfl⟩)
        go_ret2
        exact ⟨_, rfl, World.ownsRow_nil _ _ _ _, World.grownBy.refl _ _⟩
    | true =>
      have hy := okB_yes hok
      obtain ⟨P, rfl⟩ := Int.eq_ofNat_of_zero_le hy.2.1
      have hP : P + S ≤ xs.length := by omega
      have hS1 : 1 ≤ S := by omega
      have hS : S ≤ 4 := by omega
      clear hy
      have hg : putV xs P S v = putTo xs P S v S := by simp [putV, hok]
      rw [hg]
      clear hg
      rcases key with h1 | ⟨h1, h2⟩ | ⟨h1, h2, h3⟩
      all_goals
        go_enter Try.func69, Try.ntmps69
        go_wp2_with (first | (go_at_call 75; refine (in_any xs.length P _ _ hn HS.out).mono ?_; rintro e w' ⟨rfl, rfl⟩) | (at_builtin; refine wpList_append_rd rfl (.tmp 30) (.tmp 31) 26 rfl i0 Try.underlying26 hi hz0 hz1 hz2 w.heap.size _ [] rfl ?q1 a ca xs rfl hc0 ?q2 ?q3 ?q4 ?q5))
        case q1 => exact owns_made w _ (Nat.le_refl _)
        case q2 => exact H.out.keptNone (World.grownBy_alloc _ _ _)
        case q3 => simpa using hn
        case q4 => simp
        case q5 =>
          intro v' w1 k1 k2
          have G1 : w.grownBy w1 none := grown_trans_new (World.grownBy_alloc w _ _) k2 (by intro x hx; simp [Value.ownBlock] at hx; omega)
          obtain ⟨g, cap, hv1, hc1, hc2, hg1, hg2⟩ := Owns.headL (xs := xs) k1 (by omega)
          subst hv1
          have R : PutRel w g cap xs P S v 0 w1 := ⟨k1, G1⟩
          clear k1 k2 G1
          unfold maxLen at hc2
          go_wp2
          go_loopw [3, 11] (fun x i wr => ∃ k : Nat, k ≤ S ∧ i = .int .i64 ((S : Int) - 1 - k) ∧ x = .int .u32 ((shr8 v k : Nat) : Int) ∧ PutRel w g cap xs P S v k wr) (fun _ i _ => (intOf i + 1).toNat)
          case atStart => exact ⟨0, Nat.zero_le _, by go_num, by rw [shr8_zero], R⟩
          case round =>
            clear R
            obtain ⟨k, hk, rfl, rfl, R⟩ := hrel
            by_cases hlt : k < S
            · obtain ⟨j, hj⟩ : ∃ j : Nat, (S : Int) - 1 - k = j := ⟨S - 1 - k, by omega⟩
              have hjk : P + S - 1 - k = P + j := by omega
              obtain ⟨u, hu⟩ := R.cell (i := P + S - 1 - k) (by omega)
              have hf := R.free (P + S - 1 - k)
              have R' := R.store
              rw [hjk] at hu hf R'
              have hq : shr8 v k ≤ 4294967295 := Nat.le_trans (shr8_le v k) hv
              have HQ : Hid (shr8 v (k + 1) = shr8 v k / 256) := shr8_succ v k
              have HJ : Hid ((S : Int) - 1 - k = j) := hj
              have hjl : P + j < xs.length := by omega
              clear R hjk
              rw [hj]
              clear hj
              go_wp2
              go_roundw
              case rel => exact ⟨k + 1, by omega, by have := HJ.out; go_num, by rw [HQ.out]; go_num, R'⟩
              case measure => simp [intOf]
            · obtain rfl : k = S := by omega
              go_wp2
              go_ret2
              refine ⟨_, rfl, ?_, R.2⟩
              unfold Owns
              rw [putTo_len]
              exact R.1

end Go.Proofs.Ytfjjmeanmlimoaa
