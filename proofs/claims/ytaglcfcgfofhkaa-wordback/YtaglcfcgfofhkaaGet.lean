/-
  Get, the document's and the program's: the number that stands at a place, or none.
-/
import Derived.Test.YtaglcfcgfofhkaaSpoil
namespace Go.Proofs.Ytaglcfcgfofhkaa
open Go.RowKit

/-- Are there bytes of that size at that place? -/
def okB (n : Nat) (p s : Int) : Bool := decide ((s = 1 ∨ s = 2 ∨ s = 4) ∧ 0 ≤ p ∧ p ≤ (n : Int) - s)

theorem ret_bool {a b : Bool} (h : a = b) : Ending.returned (.bool a) = .returned (.bool b) := by rw [h]
theorem ret_int {k : IntKind} {a b : Int} (h : a = b) : Ending.returned (.int k a) = .returned (.int k b) := by rw [h]
theorem okB_of {n : Nat} {p s : Int} {c : Prop} [Decidable c] (h : c ↔ ((s = 1 ∨ s = 2 ∨ s = 4) ∧ 0 ≤ p ∧ p ≤ (n : Int) - s)) : decide c = okB n p s := decide_eq_decide.2 h
theorem okB_no {n : Nat} {p s : Int} (h : ¬ ((s = 1 ∨ s = 2 ∨ s = 4) ∧ 0 ≤ p ∧ p ≤ (n : Int) - s)) : false = okB n p s := (decide_eq_false h).symm
theorem okB_yes {n : Nat} {p s : Int} (h : okB n p s = true) : (s = 1 ∨ s = 2 ∨ s = 4) ∧ 0 ≤ p ∧ p ≤ (n : Int) - s := of_decide_eq_true h

set_option maxHeartbeats 400000 in
theorem holds_any (a : Option Addr) (ca n : Nat) (p s : Int) (w : World) (hn : n ≤ 140737488355328) :
    Calls Try.prog 28 #[.slice a n ca, .int .i64 p, .int .i64 s] w fun e w' => e = .returned (.bool (okB n p s)) ∧ w = w' := by
  by_cases h : s = 1 ∨ s = 2 ∨ s = 4
  · rcases h with rfl | rfl | rfl
    all_goals
      go_enter Try.func28, Try.ntmps28
      go_wp2
      · go_ret
        exact ⟨ret_bool (okB_of (by omega)), rfl⟩
      · go_ret
        exact ⟨ret_bool (okB_no (by omega)), rfl⟩
  · have h1 : (s != 1) = true := by rw [bne_iff_ne]; omega
    have h2 : (s != 2) = true := by rw [bne_iff_ne]; omega
    have h3 : (s != 4) = true := by rw [bne_iff_ne]; omega
    go_enter Try.func28, Try.ntmps28
    go_wp2
    go_ret
    exact ⟨ret_bool (okB_no (by omega)), rfl⟩

set_option maxHeartbeats 400000 in
theorem in_any (n : Nat) (p s : Int) (w : World) (hn : n ≤ 140737488355328) (hs : s = 1 ∨ s = 2 ∨ s = 4) :
    Calls Try.prog 29 #[.int .i64 n, .int .i64 p, .int .i64 s] w fun e w' => e = .returned (.bool (okB n p s)) ∧ w = w' := by
  rcases hs with rfl | rfl | rfl
  all_goals
    go_enter Try.func29, Try.ntmps29
    go_wp2
    all_goals
      go_ret
      first
        | exact ⟨ret_bool (okB_of (by omega)), rfl⟩
        | exact ⟨ret_bool (okB_no (by omega)), rfl⟩

theorem three_tests {s : Int} (h : s = 1 ∨ s = 2 ∨ s = 4) : (s != 1) = false ∨ ((s != 1) = true ∧ (s != 2) = false) ∨ ((s != 1) = true ∧ (s != 2) = true ∧ (s != 4) = false) := by
  rcases h with rfl | rfl | rfl <;> simp

/-- The number that k bytes from p on say. -/
def numAt (xs : List UInt8) (p : Nat) : Nat → Nat
  | 0 => 0
  | k + 1 => numAt xs p k * 256 + (xs.getD (p + k) 0).toNat

theorem numAt_lt (xs : List UInt8) (p k : Nat) : numAt xs p k < 256 ^ k := by
  induction k with
  | zero => simp [numAt]
  | succ k ih =>
    have := (xs.getD (p + k) 0).toNat_lt
    simp only [numAt, Nat.pow_succ]
    omega

theorem numAt_lt3 (xs : List UInt8) (p k : Nat) (hk : k ≤ 3) : numAt xs p k < 16777216 := by
  have h := numAt_lt xs p k
  have h2 : 256 ^ k ≤ 256 ^ 3 := Nat.pow_le_pow_right (by decide) hk
  omega

theorem or_step (v c : Nat) (hv : v < 16777216) (hc : c < 256) : bits .or .u32 ((v : Int) * 256 % 4294967296) ((c : Int) % 4294967296) = ((v * 256 + c : Nat) : Int) := by
  rw [show ((v : Int) * 256 % 4294967296) = ((v * 256 : Nat) : Int) by omega, show ((c : Int) % 4294967296) = (c : Int) by omega, u32_or_nat _ _ (by omega) (by omega), nat_join 8 _ _ (by omega) (by omega)]

theorem numAt_step (xs : List UInt8) (p k : Nat) (hk : k ≤ 3) (hp : p + k < xs.length) :
    Value.int IntKind.u32 (bits BinOp.or IntKind.u32 ((numAt xs p k : Int) * 256 % 4294967296) ((xs[p + k].toNat : Int) % 4294967296)) = Value.int IntKind.u32 (numAt xs p (k + 1)) := by
  rw [or_step _ _ (numAt_lt3 xs p k hk) xs[p + k].toNat_lt]
  simp [numAt, hp]

/-- What Get says. -/
def getV (xs : List UInt8) (p s : Int) : Int := if okB xs.length p s = true then (numAt xs p.toNat s.toNat : Int) else 0

set_option maxHeartbeats 400000 in
theorem get_any (a : Option Addr) (ca : Nat) (xs : List UInt8) (p s : Int) (w : World) (ha : Cells w a xs) (hn : xs.length ≤ 140737488355328) :
    Calls Try.prog 10 #[.slice a xs.length ca, .int .i64 p, .int .i64 s] w fun e w' => e = .returned (.tuple #[.int .u32 (getV xs p s), .bool (okB xs.length p s)]) ∧ w = w' := by
  cases hok : okB xs.length p s with
  | false =>
    go_enter Try.func10, Try.ntmps10
    go_wp2_with (go_at_call 28; refine (holds_any a ca xs.length p s _ hn).mono ?_; rintro e w' ⟨rfl, rfl⟩)
    go_ret2
    simp [getV, hok]
  | true =>
    have hy := okB_yes hok
    obtain ⟨P, rfl⟩ := Int.eq_ofNat_of_zero_le hy.2.1
    obtain ⟨S, rfl⟩ : ∃ S : Nat, s = S := ⟨s.toNat, by omega⟩
    have hS : S = 1 ∨ S = 2 ∨ S = 4 := by omega
    have hP : P + S ≤ xs.length := by omega
    clear hy
    go_enter Try.func10, Try.ntmps10
    go_wp2_with (go_at_call 28; refine (holds_any a ca xs.length P S _ hn).mono ?_; rintro e w' ⟨rfl, rfl⟩)
    go_loop [8, 16, 9] (fun v i _ => ∃ k : Nat, k ≤ S ∧ i = .int .i64 k ∧ v = .int .u32 (numAt xs P k)) (fun _ i _ => S - (intOf i).toNat)
    case atStart => exact ⟨0, Nat.zero_le _, rfl, rfl⟩
    case round =>
      obtain ⟨k, hk, rfl, rfl⟩ := hrel
      by_cases hlt : k < S
      · obtain ⟨b, o, rfl, h1⟩ := ha.addr (k := P + k) (by omega)
        have c1 := h1 (P + k) (by omega)
        clear ha h1
        go_wp2
        go_round
        case rel => exact ⟨k + 1, by omega, by go_num, numAt_step xs P k (by omega) (by omega)⟩
        case measure => simp [intOf]; omega
      · obtain rfl : k = S := by omega
        go_wp2
        go_ret2
        simp [getV, hok]

set_option maxHeartbeats 400000 in
theorem refget_any (a : Option Addr) (ca : Nat) (xs : List UInt8) (p s : Int) (w : World) (ha : Cells w a xs) (hn : xs.length ≤ 140737488355328) :
    Calls Try.prog 11 #[.slice a xs.length ca, .int .i64 p, .int .i64 s] w fun e w' => e = .returned (.tuple #[.int .u32 (getV xs p s), .bool (okB xs.length p s)]) ∧ w = w' := by
  by_cases h : s = 1 ∨ s = 2 ∨ s = 4
  case neg =>
    have hok : okB xs.length p s = false := (okB_no (by omega)).symm
    have h1 : (s != 1) = true := by rw [bne_iff_ne]; omega
    have h2 : (s != 2) = true := by rw [bne_iff_ne]; omega
    have h3 : (s != 4) = true := by rw [bne_iff_ne]; omega
    have hg : getV xs p s = 0 := by simp [getV, hok]
    rw [hok, hg]
    clear hok hg
    go_enter Try.func11, Try.ntmps11
    go_wp2
    go_ret2
    exact ⟨rfl, rfl⟩
  case pos =>
    obtain ⟨S, rfl⟩ : ∃ S : Nat, s = S := ⟨s.toNat, by omega⟩
    have hS : (S : Int) = 1 ∨ (S : Int) = 2 ∨ (S : Int) = 4 := h
    have key := three_tests hS
    have HS : Hid ((S : Int) = 1 ∨ (S : Int) = 2 ∨ (S : Int) = 4) := hS
    clear hS h
    cases hok : okB xs.length p S with
    | false =>
      have hg : getV xs p S = 0 := by simp [getV, hok]
      rw [hg]
      clear hg
      rcases key with h1 | ⟨h1, h2⟩ | ⟨h1, h2, h3⟩
      all_goals
        go_enter Try.func11, Try.ntmps11
        go_wp2_with (go_at_call 29; refine (in_any xs.length p _ _ hn HS.out).mono ?_; rintro e w' ⟨rfl, rfl⟩)
        go_ret2
        exact ⟨rfl, rfl⟩
    | true =>
      have hy := okB_yes hok
      obtain ⟨P, rfl⟩ := Int.eq_ofNat_of_zero_le hy.2.1
      have hP : P + S ≤ xs.length := by omega
      have hS4 : S ≤ 4 := by omega
      clear hy
      have hg : getV xs P S = numAt xs P S := by simp [getV, hok]
      rw [hg]
      clear hg
      rcases key with h1 | ⟨h1, h2⟩ | ⟨h1, h2, h3⟩
      all_goals
        go_enter Try.func11, Try.ntmps11
        go_wp2_with (go_at_call 29; refine (in_any xs.length P _ _ hn HS.out).mono ?_; rintro e w' ⟨rfl, rfl⟩)
        go_loop [8, 9] (fun v i => ∃ k : Nat, k ≤ S ∧ i = .int .i64 k ∧ v = .int .u32 (numAt xs P k)) (fun _ i => S - (intOf i).toNat)
        case atStart => exact ⟨0, Nat.zero_le _, rfl, rfl⟩
        case round =>
          obtain ⟨k, hk, rfl, rfl⟩ := hrel
          by_cases hlt : k < S
          · obtain ⟨b, o, rfl, h1⟩ := ha.addr (k := P + k) (by omega)
            have c1 := h1 (P + k) (by omega)
            clear ha h1
            go_wp2
            go_round
            case rel => exact ⟨k + 1, by omega, by go_num, numAt_step xs P k (by omega) (by omega)⟩
            case measure => simp [intOf]; omega
          · obtain rfl : k = S := by omega
            go_wp2
            go_ret2
            exact ⟨rfl, rfl⟩

end Go.Proofs.Ytaglcfcgfofhkaa
