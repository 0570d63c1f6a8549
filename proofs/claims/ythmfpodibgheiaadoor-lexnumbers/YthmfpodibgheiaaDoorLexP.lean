/-
  The law's own hex.
-/
import Derived.Test.YthmfpodibgheiaaDoorLexO
namespace Go.Proofs.YthmfpodibgheiaaDoor
open Go.RowKit
set_option maxRecDepth 100000

def hexL : ByteArray := ⟨#[48, 49, 50, 51, 52, 53, 54, 55, 56, 57, 97, 98, 99, 100, 101, 102]⟩
theorem hexL_at {r : Nat} (h : r ≤ 15) : hexL.extract r (r + 1) = ⟨[hxd r].toArray⟩ := by
  have : r = 0 ∨ r = 1 ∨ r = 2 ∨ r = 3 ∨ r = 4 ∨ r = 5 ∨ r = 6 ∨ r = 7 ∨ r = 8 ∨ r = 9 ∨ r = 10 ∨ r = 11 ∨ r = 12 ∨ r = 13 ∨ r = 14 ∨ r = 15 := by omega
  rcases this with rfl | rfl | rfl | rfl | rfl | rfl | rfl | rfl | rfl | rfl | rfl | rfl | rfl | rfl | rfl | rfl <;> decide

set_option maxHeartbeats 400000 in
theorem lawhex_any (n : Nat) (w : World) (hn : n < 8589934592) :
    Calls Tryd.prog 16 #[.int .u64 n] w fun e w' => e = .returned (str (48 :: 120 :: hx n)) ∧ w.grownBy w' none := by
  go_enter Tryd.func16, Tryd.ntmps16
  go_wp2
  go_loopw [0, 3, 4] (fun x s f wr => ∃ (k : Nat) (t : List UInt8) (b : Bool), k ≤ 8589934591 ∧ x = .int .u64 k ∧ s = str t ∧ f = .bool b ∧ t.length ≤ 16 ∧ Hid ((b = true ∧ k = n ∧ t = []) ∨ (b = false ∧ hxZ k ++ t = hx n)) ∧ Hid (w.grownBy wr none)) (fun x _ f _ => (intOf x).toNat + oneB f)
  case atStart => exact ⟨n, [], true, by omega, rfl, rfl, rfl, by simp, .inl ⟨rfl, rfl, rfl⟩, World.grownBy.refl _ _⟩
  case round =>
    obtain ⟨k, t, b, hk, rfl, rfl, rfl, htl, HT, G⟩ := hrel
    obtain ⟨r, hr⟩ : ∃ r, r = k % 16 := ⟨_, rfl⟩
    have hr15 : r ≤ 15 := by omega
    have hx0 := hexL_at hr15
    unfold hexL at hx0
    have hm : (k : Int) % 16 = (r : Int) := by omega
    have hr0 : (0 : Int) ≤ (r : Int) := by omega
    have hr1 : (r : Int) ≤ (r : Int) + 1 := by omega
    have hr2 : (r : Int) + 1 ≤ 16 := by omega
    have HR : Hid (r = k % 16) := hr
    clear hr
    cases b with
    | true =>
      have HE : Hid (k = n ∧ t = []) := by
        rcases HT.out with h | h
        · exact h.2
        · exact absurd h.1 (by simp)
      clear HT
      go_wp2
      go_roundw
      case rel => exact ⟨k / 16, [hxd r] ++ t, false, by omega, by go_num, str_cat _ _, rfl, by rw [HE.out.2]; simp, .inr ⟨rfl, by rw [HE.out.2, HR.out, HE.out.1]; exact (hx_step n (by omega)).symm⟩, G⟩
      case measure => simp [intOf, oneB]; omega
    | false =>
      have HE : Hid (hxZ k ++ t = hx n) := by
        rcases HT.out with h | h
        · exact absurd h.1 (by simp)
        · exact h.2
      clear HT
      by_cases hk0 : k = 0
      · subst hk0
        have e : hx n = t := by rw [← HE.out]; simp [hxZ]
        clear hx0 hm hr0 hr1 hr2
        go_wp2
        go_ret
        exact ⟨by rw [e]; rw [show str (48 :: 120 :: t) = Value.string ((⟨[48, 120].toArray⟩ : ByteArray) ++ (⟨t.toArray⟩ : ByteArray)) from (str_cat [48, 120] t).symm]; rfl, G.out⟩
      · have hkp : (0 : Int) < (k : Int) := by omega
        have ht2 : t.length + 1 ≤ 16 := by
          have : (hxZ k ++ t).length ≤ 16 := by
            rw [HE.out]
            exact hx_len n
          rw [hxZ_step k (by omega) (by omega)] at this
          simp only [List.length_append, List.length_cons, List.length_nil] at this
          omega
        go_wp2
        go_roundw
        case rel => exact ⟨k / 16, [hxd r] ++ t, false, by omega, by go_num, str_cat _ _, rfl, by simp; omega, .inr ⟨rfl, by rw [← List.append_assoc, HR.out, ← hxZ_step k (by omega) (by omega)]; exact HE.out⟩, G⟩
        case measure => simp [intOf, oneB]; omega

end Go.Proofs.YthmfpodibgheiaaDoor
