/-
  The document's own Code and Run.
-/
import Derived.Test.YtaldhnionkacmaaVmD
import Derived.Test.YtaldhnionkacmaaVmQ
namespace Go.Proofs.Ytaldhnionkacmaa
open Go.RowKit
set_option maxRecDepth 100000

set_option maxHeartbeats 400000 in
theorem refcode_any (a b : Option Addr) (ca cb : Nat) (xs : List In) (pk : List UInt8) (w : World) (ha : CV w a (flat xs)) :
    Calls Try.prog 24 #[.slice a xs.length ca, .slice b pk.length cb] w fun e w' => e = .returned (.int .i64 (runE xs pk)) ∧ w.grownBy w' none := by
  obtain ⟨P, E, hPE⟩ : ∃ P E, checkV xs = (P, E) := ⟨_, _, rfl⟩
  have HR : Hid (∀ (W : World), CV W a (flat xs) → Calls Try.prog 41 #[.slice a xs.length ca] W fun e w' => e = .returned (.tuple #[.int .i64 (P : Int), .int .i64 E]) ∧ W.grownBy w' none) := fun W h => by
    have k := refcheck_any a ca xs W h
    rw [hPE] at k
    exact k
  have H : Hid (CV w a (flat xs)) := ha
  clear ha
  by_cases hE : E = 0
  · subst hE
    by_cases hl : 65536 < pk.length
    · have e : runE xs pk = 51 := by simp [runE, hPE, hl]
      rw [e]
      have hl' : (65536 : Int) < (pk.length : Int) := by omega
      clear hPE
      go_enter Try.func24, Try.ntmps24
      go_wp2_with fail
      refine (HR.out _ H.out).mono ?_
      rintro e w' ⟨rfl, G⟩
      go_wp2
      go_ret
      exact ⟨rfl, G⟩
    · have e : runE xs pk = 0 := by simp [runE, hPE, hl]
      rw [e]
      have hl' : ¬ ((65536 : Int) < (pk.length : Int)) := by omega
      clear hPE
      go_enter Try.func24, Try.ntmps24
      go_wp2_with fail
      refine (HR.out _ H.out).mono ?_
      rintro e w' ⟨rfl, G⟩
      go_wp2
      go_ret
      exact ⟨rfl, G⟩
  · have e : runE xs pk = 50 := by simp [runE, hPE, hE]
    rw [e]
    have hEb : (E != 0) = true := by rw [bne_iff_ne]; exact hE
    clear hPE hE
    go_enter Try.func24, Try.ntmps24
    go_wp2_with fail
    refine (HR.out _ H.out).mono ?_
    rintro e w' ⟨rfl, G⟩
    go_wp2
    go_ret
    exact ⟨rfl, G⟩

end Go.Proofs.Ytaldhnionkacmaa
