/-
  The law's own decimal.
-/
import Derived.Test.YthmfpodibgheiaaDoorLexN
import Derived.Test.YthmfpodibgheiaaDoorDec
namespace Go.Proofs.YthmfpodibgheiaaDoor
open Go.RowKit
set_option maxRecDepth 100000

def oneB (v : Value) : Nat := match v with
  | .bool true => 1
  | _ => 0

set_option maxHeartbeats 400000 in
theorem lawdec_any (n : Nat) (w : World) (hn : n < 8589934592) :
    Calls Tryd.prog 15 #[.int .u64 n] w fun e w' => e = .returned (str (dec n)) ∧ w.grownBy w' none := by
  go_enter Tryd.func15, Tryd.ntmps15
  go_wp2
  go_loopw [0, 3, 4] (fun x s f wr => ∃ (k : Nat) (t : List UInt8) (b : Bool), k ≤ 8589934591 ∧ x = .int .u64 k ∧ s = str t ∧ f = .bool b ∧ t.length ≤ 20 ∧ Hid ((b = true ∧ k = n ∧ t = []) ∨ (b = false ∧ decZ k ++ t = dec n)) ∧ Hid (w.grownBy wr none)) (fun x _ f _ => (intOf x).toNat + oneB f)
  case atStart => exact ⟨n, [], true, by omega, rfl, rfl, rfl, by simp, .inl ⟨rfl, rfl, rfl⟩, World.grownBy.refl _ _⟩
  case round =>
    obtain ⟨k, t, b, hk, rfl, rfl, rfl, htl, HT, G⟩ := hrel
    have hcv := run_str1 (P := Tryd.prog) (w := wr) (dg (k % 10)) 34 9 Tryd.underlying34 Tryd.underlying5 Tryd.underlying9 (48 + (k : Int) % 10) (digit_cell k)
    cases b with
    | true =>
      have HE : Hid (k = n ∧ t = []) := by
        rcases HT.out with h | h
        · exact h.2
        · exact absurd h.1 (by simp)
      clear HT
      go_wp2
      clear hcv
      go_roundw
      case rel => exact ⟨k / 10, [dg (k % 10)] ++ t, false, by omega, by go_num, str_cat _ _, rfl, by rw [HE.out.2]; simp, .inr ⟨rfl, by rw [HE.out.2, HE.out.1]; exact (dec_step n (by omega)).symm⟩, grown_trans G.out (World.grownBy_alloc _ _ _)⟩
      case measure => simp [intOf, oneB]; omega
    | false =>
      have HE : Hid (decZ k ++ t = dec n) := by
        rcases HT.out with h | h
        · exact absurd h.1 (by simp)
        · exact h.2
      clear HT
      by_cases hk0 : k = 0
      · subst hk0
        have e : dec n = t := by rw [← HE.out]; simp [decZ]
        clear hcv
        go_wp2
        go_ret
        exact ⟨by rw [e]; rfl, G.out⟩
      · have hkp : (0 : Int) < (k : Int) := by omega
        have ht2 : t.length + 1 ≤ 20 := by
          have : (decZ k ++ t).length ≤ 20 := by
            rw [HE.out]
            exact dec_len n
          rw [decZ_step k (by omega) (by omega)] at this
          simp only [List.length_append, List.length_cons, List.length_nil] at this
          omega
        go_wp2
        clear hcv
        go_roundw
        case rel => exact ⟨k / 10, [dg (k % 10)] ++ t, false, by omega, by go_num, str_cat _ _, rfl, by simp; omega, .inr ⟨rfl, by rw [← List.append_assoc, ← decZ_step k (by omega) (by omega)]; exact HE.out⟩, grown_trans G.out (World.grownBy_alloc _ _ _)⟩
        case measure => simp [intOf, oneB]; omega

end Go.Proofs.YthmfpodibgheiaaDoor
