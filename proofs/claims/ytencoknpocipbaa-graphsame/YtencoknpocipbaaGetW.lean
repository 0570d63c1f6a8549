/-
  The program's own Get.
-/
import Derived.Test.YtencoknpocipbaaLotP2
namespace Go.Proofs.Ytencoknpocipbaa
open Go.RowKit
set_option maxRecDepth 100000

set_option maxHeartbeats 400000 in
theorem holds_any (a : Option Addr) (ca n : Nat) (p s : Int) (w : World) (hn : n ≤ 140737488355328) :
    Calls Try.prog 102 #[.slice a n ca, .int .i64 p, .int .i64 s] w fun e w' => e = .returned (.bool (okB n p s)) ∧ w = w' := by
  by_cases h : s = 1 ∨ s = 2 ∨ s = 4
  · rcases h with rfl | rfl | rfl
    all_goals
      go_enter Try.func102, Try.ntmps102
      go_wp2
      · go_ret
        exact ⟨ret_bool (okB_of (by omega)), rfl⟩
      · go_ret
        exact ⟨ret_bool (okB_no (by omega)), rfl⟩
  · have h1 : (s != 1) = true := by rw [bne_iff_ne]; omega
    have h2 : (s != 2) = true := by rw [bne_iff_ne]; omega
    have h3 : (s != 4) = true := by rw [bne_iff_ne]; omega
    go_enter Try.func102, Try.ntmps102
    go_wp2
    go_ret
    exact ⟨ret_bool (okB_no (by omega)), rfl⟩

set_option maxHeartbeats 400000 in
theorem get_any (a : Option Addr) (ca : Nat) (xs : List UInt8) (p s : Int) (w : World) (ha : Cells w a xs) (hn : xs.length ≤ 140737488355328) :
    Calls Try.prog 101 #[.slice a xs.length ca, .int .i64 p, .int .i64 s] w fun e w' => e = .returned (.tuple #[.int .u32 (getV xs p s), .bool (okB xs.length p s)]) ∧ w = w' := by
  cases hok : okB xs.length p s with
  | false =>
    go_enter Try.func101, Try.ntmps101
    go_wp2_with (go_at_call 102; refine (holds_any a ca xs.length p s _ hn).mono ?_; rintro e w' ⟨rfl, rfl⟩)
    go_ret2
    simp [getV, hok]
  | true =>
    have hy := okB_yes hok
    obtain ⟨P, rfl⟩ := Int.eq_ofNat_of_zero_le hy.2.1
    obtain ⟨S, rfl⟩ : ∃ S : Nat, s = S := ⟨s.toNat, by omega⟩
    have hS : S = 1 ∨ S = 2 ∨ S = 4 := by omega
    have hP : P + S ≤ xs.length := by omega
    clear hy
    go_enter Try.func101, Try.ntmps101
    go_wp2_with (go_at_call 102; refine (holds_any a ca xs.length P S _ hn).mono ?_; rintro e w' ⟨rfl, rfl⟩)
    go_loop [8, 16, 9] (fun v i _ => ∃ k : Nat, k ≤ S ∧ i = .int .i64 k ∧ v = .int .u32 (numAt xs P k)) (fun _ i _ => S - (intOf i).toNat)
    case atStart => exact ⟨0, Nat.zero_le _, rfl, rfl⟩
    case round =>
      obtain ⟨k, hk, rfl, rfl⟩ := hrel
      by_cases hlt : k < S
      · obtain ⟨b, o, rfl, h1⟩ := ha.addr (k := P + k) (by omega)
        have c1 := h1 (P + k) (by omega)
        clear ha h1
        go_wp2
        go_round
        case rel => exact ⟨k + 1, by omega, by go_num, numAt_step xs P k (by omega) (by omega)⟩
        case measure => simp [intOf]; omega
      · obtain rfl : k = S := by omega
        go_wp2
        go_ret2
        simp [getV, hok]

end Go.Proofs.Ytencoknpocipbaa
