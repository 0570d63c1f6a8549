/-
  Numbers of 32 bits; Sum.
-/
import Derived.Test.YtaldhnionkacmabBase
namespace Go.Proofs.Ytaldhnionkacmab
open Go.RowKit
set_option maxRecDepth 100000

/-- A number of 32 bits as a cell. -/
def wv (c : UInt32) : Value := .int .u32 (c.toNat : Int)

theorem CV.words {w : World} {ao : Option Addr} {xs : List UInt32} (h : CV w ao (xs.map wv)) {k : Nat} (hk : k < xs.length) :
    ∃ b off, ao = some ⟨b, off, none⟩ ∧ ∀ i (hi : i < xs.length), w.cell? ⟨b, off + i, none⟩ = some (.int .u32 (xs[i].toNat : Int)) := by
  obtain ⟨b, off, hao, hc⟩ := h.addr (k := k) (by simpa using hk)
  refine ⟨b, off, hao, fun i hi => ?_⟩
  rw [hc i (by simpa using hi)]
  simp [wv]

/-- The sum, however great. -/
def tot (xs : List UInt32) : Nat := (xs.map UInt32.toNat).sum

theorem tot_nil : tot [] = 0 := rfl

theorem tot_cons (x : UInt32) (xs : List UInt32) : tot (x :: xs) = x.toNat + tot xs := by simp [tot]

theorem tot_append (xs ys : List UInt32) : tot (xs ++ ys) = tot xs + tot ys := by simp [tot]

theorem tot_take_succ (xs : List UInt32) (k : Nat) (hk : k < xs.length) : tot (xs.take (k + 1)) = tot (xs.take k) + xs[k].toNat := by
  rw [List.take_succ_eq_append_getElem hk, tot_append, tot_cons, tot_nil]; omega

theorem tot_take_le (xs : List UInt32) (k : Nat) : tot (xs.take k) ≤ tot xs := by
  have h := tot_append (xs.take k) (xs.drop k)
  rw [List.take_append_drop] at h
  omega

/-- What Sum says. -/
def sumS (xs : List UInt32) : Nat := min (tot xs) 4294967295

theorem sum_stop {xs : List UInt32} {k : Nat} (hk : k < xs.length) (h : (4294967295 : Int) - (tot (xs.take k) : Int) < (xs[k].toNat : Int)) : (4294967295 : Int) = (sumS xs : Int) := by
  have h1 := tot_take_succ xs k hk
  have h2 := tot_take_le xs (k + 1)
  unfold sumS
  omega

set_option maxHeartbeats 400000 in
theorem sum_any (a : Option Addr) (ca : Nat) (xs : List UInt32) (w : World) (ha : CV w a (xs.map wv)) (hn : xs.length ≤ 140737488355328) :
    Calls Try.prog 15 #[.slice a xs.length ca] w fun e w' => e = .returned (.int .u32 (sumS xs)) ∧ w = w' := by
  go_enter Try.func15, Try.ntmps15
  go_wp2
  go_loop [3, 8, 5] (fun t i _ => ∃ k : Nat, k ≤ xs.length ∧ i = .int .i64 k ∧ t = .int .u32 (tot (xs.take k)) ∧ tot (xs.take k) ≤ 4294967295) (fun _ i _ => xs.length - (intOf i).toNat)
  case atStart => exact ⟨0, Nat.zero_le _, rfl, rfl, by simp [tot]⟩
  case round =>
    obtain ⟨k, hk, rfl, rfl, hle⟩ := hrel
    by_cases hlt : k < xs.length
    · obtain ⟨b, o, rfl, h1⟩ := ha.words hlt
      have c1 := h1 k hlt
      have hx := xs[k].toNat_lt
      have HT : Hid (tot (xs.take (k + 1)) = tot (xs.take k) + xs[k].toNat) := tot_take_succ xs k hlt
      clear ha h1
      go_wp2
      · go_ret
        exact ⟨ret_int (sum_stop hlt ‹_›), rfl⟩
      · have hs : (xs[k].toNat : Int) ≤ 4294967295 - (tot (List.take k xs) : Int) := by assumption
        go_round
        case rel => exact ⟨k + 1, by omega, by go_num, by rw [HT.out]; go_num, by rw [HT.out]; omega⟩
        case measure => simp [intOf]; omega
    · obtain rfl : k = xs.length := by omega
      rw [List.take_length] at hle ⊢
      go_wp2
      go_ret
      exact ⟨ret_int (by unfold sumS; omega), rfl⟩

theorem sum_len (a : Option Addr) (n ca : Nat) (xs : List UInt32) (hx : xs.length = n) (w : World) (ha : CV w a (xs.map wv)) (hn : xs.length ≤ 140737488355328) :
    Calls Try.prog 15 #[.slice a n ca] w fun e w' => e = .returned (.int .u32 (sumS xs)) ∧ w = w' := by
  subst hx
  exact sum_any a ca xs w ha hn

end Go.Proofs.Ytaldhnionkacmab
