/-
  SameBytes of two lists that read alike answers true.
-/
import Derived.Test.YtaldhnionkacmaaMem
namespace Go.Proofs.Ytaldhnionkacmaa
open Go.RowKit
set_option maxRecDepth 100000

set_option maxHeartbeats 400000 in
theorem same_any (a b : Option Addr) (ca cb : Nat) (xs : List UInt8) (w : World) (ha : Cells w a xs) (hb : Cells w b xs) (hm : xs.length ≤ 9223372036854775807) :
    Calls Try.prog 32 #[.slice a xs.length ca, .slice b xs.length cb] w fun e w' => e = .returned (.bool true) ∧ ∃ n, w' = w.drewN n := by
  have hne : ((xs.length : Int) != (xs.length : Int)) = false := by simp
  go_enter Try.func32, Try.ntmps32
  go_wp2
  go_loopw [5] (fun i wr => ∃ k : Nat, k ≤ xs.length ∧ i = .int .i64 k ∧ ∃ n, wr = w.drewN n) (fun i _ => xs.length - (intOf i).toNat)
  case atStart => exact ⟨0, Nat.zero_le _, rfl, 0, rfl⟩
  case round =>
    obtain ⟨k, hk, rfl, n, rfl⟩ := hrel
    by_cases hlt : k < xs.length
    · obtain ⟨b1, o1, rfl, h1⟩ := ha.addr hlt
      obtain ⟨b2, o2, rfl, h2⟩ := hb.addr hlt
      have c1 := h1 k hlt
      have c2 := h2 k hlt
      clear ha hb h1 h2
      have hl : (k : Int) < (xs.length : Int) := by omega
      go_wp2
      go_quiet (fail)
      go_wp2
      go_roundw
      case rel => exact ⟨k + 1, by omega, by go_num, _, by rfl⟩
      case measure => simp [intOf]; omega
    · go_wp2
      go_ret
      exact ⟨rfl, n, rfl⟩

end Go.Proofs.Ytaldhnionkacmaa
