/-
  For every list of bytes, every place and every number (the list's capacity at most 2^47 - 4096 bytes, as the form itself says of each argument) riddlelaw1.WordBack returns true and leaves what was there as it was: no condition of ours.
-/
import Derived.Test.YtaglcfcgfofhkaaBack
namespace Go.Proofs.Ytaglcfcgfofhkaa
open Go.ChangeShapes Go.WideShapes Go.ChangeAt Go.RowKit
open Go.ChangeMaps (open_string shut_string)
namespace wordBack

/-- What is known of a round where the bytes are there: x is what Put laid, L its number, M its first byte, N the number that stood there. -/
structure Facts (xs X : List UInt8) (P S v L M N : Nat) : Prop where
  len : X.length = xs.length
  ok : okB xs.length P S = true
  ok1 : okB xs.length P 1 = true
  put : putV xs P S v = X
  low : getV X P S = L
  hi : getV X P 1 = M
  old : getV xs P S = N
  back : putV X P S N = xs
  small : N ≤ 4294967295
  lowOf : L = lowOf S v
  hiOf : M = hiOf S v
  out : ∀ i, i < P ∨ P + S ≤ i → X[i]? = xs[i]?

theorem facts (xs : List UInt8) (P S v : Nat) (hS : S = 1 ∨ S = 2 ∨ S = 4) (hok : okB xs.length P S = true) : ∃ X L M N, Facts xs X P S v L M N := by
  have hy := okB_yes hok
  have hp : P + S ≤ xs.length := by omega
  have hl := putTo_len xs P S v S
  have ok1 : okB xs.length P 1 = true := decide_eq_true (by omega)
  have gp := get_put xs P S v hS hp
  have hput : putV xs P S v = putTo xs P S v S := by simp [putV, hok]
  have hold : getV xs P S = numAt xs P S := by simp [getV, hok]
  refine ⟨putTo xs P S v S, lowOf S v, hiOf S v, numAt xs P S, hl, hok, ok1, hput, ?_, ?_, hold, ?_, ?_, rfl, rfl, fun i hi => put_out xs P S v i hp hi⟩
  · simp only [getV, hl, hok, if_pos, Int.toNat_natCast]
    rw [gp.1]
  · simp only [getV, hl, ok1, if_pos, Int.toNat_natCast]
    rw [show (1 : Int).toNat = 1 by rfl, gp.2]
  · simp only [putV, hl, hok, if_pos, Int.toNat_natCast]
    exact put_get xs P S v hS hp
  · have := numAt_lt xs P S
    rcases hS with rfl | rfl | rfl <;> omega

theorem mask1 (v : Nat) (hv : v ≤ 4294967295) : bits .and .u32 (v : Int) 255 = ((v % 256 : Nat) : Int) := by
  have h := u32_and_nat v 255 (by omega) (by omega)
  rw [show v &&& 255 = v % 256 from Nat.and_two_pow_sub_one_eq_mod v 8] at h
  exact h
theorem mask2 (v : Nat) (hv : v ≤ 4294967295) : bits .and .u32 (v : Int) 65535 = ((v % 65536 : Nat) : Int) := by
  have h := u32_and_nat v 65535 (by omega) (by omega)
  rw [show v &&& 65535 = v % 65536 from Nat.and_two_pow_sub_one_eq_mod v 16] at h
  exact h

section
variable {xs X : List UInt8} {P S v L M N : Nat} (F : Facts xs X P S v L M N) (a : Option Addr) (ca : Nat) (s : Int) (hs : s = (S : Int)) (w : World) (hn : xs.length ≤ 140737488355328)
include F hn

theorem get_f (hs : s = (S : Int)) (h : Cells w a X) : Calls Try.prog 10 #[.slice a X.length ca, .int .i64 P, .int .i64 s] w fun e w' => e = .returned (.tuple #[.int .u32 L, .bool true]) ∧ w = w' := by
  subst hs
  have k := get_any a ca X P S w h (by rw [F.len]; exact hn)
  rw [F.low, F.len, F.ok] at k
  rw [F.len]
  exact k

theorem get_f1 (h : Cells w a X) : Calls Try.prog 10 #[.slice a X.length ca, .int .i64 P, .int .i64 1] w fun e w' => e = .returned (.tuple #[.int .u32 M, .bool true]) ∧ w = w' := by
  have k := get_any a ca X P 1 w h (by rw [F.len]; exact hn)
  rw [F.hi, F.len, F.ok1] at k
  rw [F.len]
  exact k

theorem get_old (hs : s = (S : Int)) (h : Cells w a xs) : Calls Try.prog 10 #[.slice a xs.length ca, .int .i64 P, .int .i64 s] w fun e w' => e = .returned (.tuple #[.int .u32 N, .bool true]) ∧ w = w' := by
  subst hs
  have k := get_any a ca xs P S w h hn
  rw [F.old, F.ok] at k
  exact k

theorem put_f (hs : s = (S : Int)) (h : Cells w a xs) (h0 : a = none → ca = 0) (hv : v ≤ 4294967295) : Calls Try.prog 16 #[.slice a xs.length ca, .int .i64 P, .int .i64 s, .int .u32 v] w fun e w' => MadeB w w' e X true := by
  subst hs
  have k := put_any a ca xs P S v w h h0 hn hv
  rw [F.put, F.ok] at k
  exact k

theorem put_back (hs : s = (S : Int)) (h : Cells w a X) (h0 : a = none → ca = 0) : Calls Try.prog 16 #[.slice a X.length ca, .int .i64 P, .int .i64 s, .int .u32 N] w fun e w' => MadeB w w' e xs true := by
  subst hs
  have k := put_any a ca X P S N w h h0 (by rw [F.len]; exact hn) F.small
  rw [F.back, F.len, F.ok] at k
  rw [F.len]
  exact k
end

set_option maxRecDepth 100000 in
set_option maxHeartbeats 2000000 in
theorem walk (a : Option Addr) (ca : Nat) (xs : List UInt8) (p : Int) (v : Nat) (w : World) (ha : Cells w a xs) (hc0 : a = none → ca = 0) (hn : xs.length ≤ 140737488351232) (hv : v ≤ 4294967295) :
    Calls Try.prog 5 #[.slice a xs.length ca, .int .i64 p, .int .u32 v] w fun e w' => e = .returned (.bool true) ∧ w.grownBy w' none := by
  have H : Hid (Cells w a xs) := ha
  clear ha
  go_enter Try.func5, Try.ntmps5
  go_wp2
  go_loopw [7] (fun i wr => ∃ S : Nat, (S = 8 ∨ (S = 1 ∨ S = 2 ∨ S = 4)) ∧ i = .int .i64 S ∧ w.grownBy wr none) (fun i _ => (8 - intOf i).toNat)
  case atStart => exact ⟨1, .inr (.inl rfl), rfl, World.grownBy.refl _ _⟩
  case round =>
    obtain ⟨S, hS8, rfl, G⟩ := hrel
    rcases hS8 with rfl | hS
    · go_wp2_with fail
      refine (awake_any _).mono ?_
      rintro e w2 ⟨rfl, G3⟩
      have G4 := grown_trans G G3
      clear G3 G
      go_wp2
      go_ret
      exact ⟨rfl, G4⟩
    · cases hok : okB xs.length p S with
      | false =>
        have hno : p < 0 ∨ (0 ≤ p ∧ (xs.length : Int) - S < p) := by
          have h1 : ¬ ((((S : Int) = 1 ∨ (S : Int) = 2 ∨ (S : Int) = 4)) ∧ 0 ≤ p ∧ p ≤ (xs.length : Int) - S) := of_decide_eq_false hok
          omega
        have hpv : putV xs p S v = [] := by simp [putV, hok]
        have HP : Hid (∀ (a : Option Addr) (ca : Nat) (W : World), Cells W a xs → (a = none → ca = 0) → Calls Try.prog 16 #[.slice a xs.length ca, .int .i64 p, .int .i64 S, .int .u32 v] W fun e w' => MadeB W w' e [] false) := fun a ca W h h0 => by
          have k := put_any a ca xs p S v W h h0 (by omega) hv
          rw [hpv, hok] at k
          exact k
        clear hpv hok
        rcases hS with rfl | rfl | rfl
        all_goals
          rcases hno with h1 | ⟨h1, h2⟩
          all_goals
            go_wp2_with fail
            refine (copy_any a ca xs _ (H.out.keptNone G) hc0 (by omega)).mono ?_
            rintro e w1 ⟨v1, rfl, O1, K1⟩
            obtain ⟨a1, c1, rfl, C1, n1, -⟩ := O1.rd
            have G1 := grown_trans G K1
            clear O1 K1
            go_wp2_with fail
            refine (HP.out a1 c1 _ C1 n1).mono ?_
            rintro e w2 ⟨v2, rfl, O2, K2⟩
            obtain ⟨a2, c2, rfl, -⟩ := O2.rd
            have G2 := grown_trans G1 K2
            clear O2 K2 C1
            go_wp2
            go_roundw
            case rel => exact ⟨_, by decide, rfl, G2⟩
            case measure => simp [intOf]
      | true =>
        have hy := okB_yes hok
        obtain ⟨P, rfl⟩ := Int.eq_ofNat_of_zero_le hy.2.1
        obtain ⟨X, L, M, N, F⟩ := facts xs P S v hS hok
        have hP : P + S ≤ xs.length := by omega
        have HX : Hid (X.length = xs.length) := F.len
        clear hy hok
        rcases hS with rfl | rfl | rfl
        · have hL : L = v % 256 := by have := F.lowOf; simpa [lowOf] using this
          have hM : M = L := by have := F.hiOf; simp [hiOf] at this; omega
          have r1 : bits .and .u32 (v : Int) 255 = (L : Int) := by rw [hL]; exact mask1 v hv
          have HM : Hid (M = L) := hM
          subst hM
          clear hL HM
          have hPi : (P : Int) ≤ (xs.length : Int) - 1 := by omega
          go_wp2_with fail
          refine (copy_any a ca xs _ (H.out.keptNone G) hc0 (by omega)).mono ?_
          rintro e w1 ⟨v1, rfl, O1, K1⟩
          obtain ⟨a1, c1, rfl, C1, n1, -⟩ := O1.rd
          have G1 := grown_trans G K1
          clear O1 K1
          go_wp2_with fail
          refine (put_f F a1 c1 _ _ (by omega) (by rfl) C1 n1 (by omega)).mono ?_
          rintro e w2 ⟨v2, rfl, O2, K2⟩
          obtain ⟨ax, cx, rfl, X2, nx, -⟩ := O2.rd
          have G2 := grown_trans G1 K2
          clear O2 K2 C1
          have hXl : X.length ≤ 140737488351232 := by have := HX.out; omega
          go_wp2_with fail
          refine (copy_any ax cx X _ X2 nx (by omega)).mono ?_
          rintro e w3 ⟨v3, rfl, O3, K3⟩
          obtain ⟨a3, c3, rfl, C3, -, -⟩ := O3.rd
          have G3 := grown_trans G2 K3
          have X3 := X2.keptNone K3
          clear O3 K3 X2
          go_wp2_with fail
          refine (get_f F a3 c3 _ _ (by omega) (by rfl) C3).mono ?_
          rintro e w' ⟨rfl, rfl⟩
          clear C3
          go_wp2_with fail
          refine (copy_any ax cx X _ X3 nx (by omega)).mono ?_
          rintro e w4 ⟨v4, rfl, O4, K4⟩
          obtain ⟨a4, c4, rfl, C4, -, -⟩ := O4.rd
          have G4 := grown_trans G3 K4
          have X4 := X3.keptNone K4
          clear O4 K4 X3
          go_wp2_with fail
          refine (get_f1 F a4 c4 _ (by omega) C4).mono ?_
          rintro e w' ⟨rfl, rfl⟩
          clear C4
          go_wp2_with fail
          refine (copy_any a ca xs _ (H.out.keptNone G4) hc0 (by omega)).mono ?_
          rintro e w5 ⟨v5, rfl, O5, K5⟩
          obtain ⟨a5, c5, rfl, C5, -, -⟩ := O5.rd
          have G5 := grown_trans G4 K5
          have X5 := X4.keptNone K5
          clear O5 K5 X4
          go_wp2_with fail
          refine (get_old F a5 c5 _ _ (by omega) (by rfl) C5).mono ?_
          rintro e w' ⟨rfl, rfl⟩
          clear C5
          go_wp2_with fail
          refine (copy_any ax cx X _ X5 nx (by omega)).mono ?_
          rintro e w6 ⟨v6, rfl, O6, K6⟩
          obtain ⟨a6, c6, rfl, C6, n6, -⟩ := O6.rd
          have G6 := grown_trans G5 K6
          have X6 := X5.keptNone K6
          clear O6 K6 X5
          go_wp2_with fail
          refine (put_back F a6 c6 _ _ (by omega) (by rfl) C6 n6).mono ?_
          rintro e w7 ⟨v7, rfl, O7, K7⟩
          obtain ⟨a7, c7, rfl, C7, -, -⟩ := O7.rd
          have G7 := grown_trans G6 K7
          have X7 := X6.keptNone K7
          clear O7 K7 C6 X6 G1 G2 G3 G4 G5 G6
          rw [HX.out]
          go_wp2_with fail
          refine (same_any a7 a c7 ca xs _ C7 (H.out.keptNone G7) (by omega)).mono ?_
          rintro e w8 ⟨rfl, n8, rfl⟩
          have G8 := grown_trans G7 (grown_drewN w7 n8 none)
          have X8 : Cells (w7.drewN n8) ax X := X7
          have A8 : Cells (w7.drewN n8) a xs := H.out.keptNone G8
          have HX8 : Hid (Cells (w7.drewN n8) ax X) := X8
          have HA8 : Hid (Cells (w7.drewN n8) a xs) := A8
          clear C7 X7 G7 X8 A8 G
          generalize w7.drewN n8 = w8 at *
          try clear r1
          try clear r2
          go_wp2
          go_loopw [20] (fun i wr => ∃ k : Nat, k ≤ xs.length ∧ i = .int .i64 k ∧ ∃ m, wr = w8.drewN m) (fun i _ => xs.length - (intOf i).toNat)
          case atStart => exact ⟨0, Nat.zero_le _, rfl, 0, rfl⟩
          case round =>
            obtain ⟨k, hk, rfl, m, rfl⟩ := hrel
            by_cases hlt : k < xs.length
            · obtain ⟨b1, o1, rfl, h1⟩ := HX8.out.addr (k := k) (by rw [HX.out]; exact hlt)
              obtain ⟨b2, o2, rfl, h2⟩ := HA8.out.addr hlt
              have c1 := h1 k (by rw [HX.out]; exact hlt)
              have c2 := h2 k hlt
              clear h1 h2
              have hl : (k : Int) < (xs.length : Int) := by omega
              rcases (show (k < P ∨ P + 1 ≤ k) ∨ (P ≤ k ∧ k < P + 1) by omega) with hout | ⟨hin1, hin2⟩
              · have e1 : X[k]'(by rw [HX.out]; exact hlt) = xs[k] := by
                  have h := F.out k hout
                  rw [List.getElem?_eq_getElem (by rw [HX.out]; exact hlt), List.getElem?_eq_getElem hlt] at h
                  exact Option.some.inj h
                rw [e1] at c1
                clear e1
                rcases hout with hA | hB
                · have d1 : (k : Int) < (P : Int) := by omega
                  go_wp2
                  go_quiet (fail)
                  go_wp2
                  go_roundw
                  case rel => exact ⟨k + 1, by omega, by go_num, _, by rfl⟩
                  case measure => simp [intOf]; omega
                · have d1 : decide (k < P) = false := decide_eq_false (by omega)
                  have d2 : (P : Int) + 1 ≤ (k : Int) := by omega
                  go_wp2
                  go_quiet (fail)
                  go_wp2
                  go_roundw
                  case rel => exact ⟨k + 1, by omega, by go_num, _, by rfl⟩
                  case measure => simp [intOf]; omega
              · have d1 : decide (k < P) = false := decide_eq_false (by omega)
                have d2 : decide ((P : Int) + 1 ≤ (k : Int)) = false := decide_eq_false (by omega)
                clear c1 c2
                go_wp2
                go_quiet (fail)
                go_wp2
                go_roundw
                case rel => exact ⟨k + 1, by omega, by go_num, _, by rfl⟩
                case measure => simp [intOf]; omega
            · have G9 := grown_trans G8 (grown_drewN w8 m none)
              go_wp2
              go_roundw
              case rel => exact ⟨2, by decide, rfl, G9⟩
              case measure => simp [intOf]
        · have hL : L = v % 65536 := by have := F.lowOf; simpa [lowOf] using this
          have hM : M = L / 256 := by have := F.hiOf; simp [hiOf] at this; omega
          have r1 : bits .and .u32 (v : Int) 65535 = (L : Int) := by rw [hL]; exact mask2 v hv
          have r2 : (L : Int) / 256 = (M : Int) := by omega
          clear hL hM
          have hPi : (P : Int) ≤ (xs.length : Int) - 2 := by omega
          go_wp2_with fail
          refine (copy_any a ca xs _ (H.out.keptNone G) hc0 (by omega)).mono ?_
          rintro e w1 ⟨v1, rfl, O1, K1⟩
          obtain ⟨a1, c1, rfl, C1, n1, -⟩ := O1.rd
          have G1 := grown_trans G K1
          clear O1 K1
          go_wp2_with fail
          refine (put_f F a1 c1 _ _ (by omega) (by rfl) C1 n1 (by omega)).mono ?_
          rintro e w2 ⟨v2, rfl, O2, K2⟩
          obtain ⟨ax, cx, rfl, X2, nx, -⟩ := O2.rd
          have G2 := grown_trans G1 K2
          clear O2 K2 C1
          have hXl : X.length ≤ 140737488351232 := by have := HX.out; omega
          go_wp2_with fail
          refine (copy_any ax cx X _ X2 nx (by omega)).mono ?_
          rintro e w3 ⟨v3, rfl, O3, K3⟩
          obtain ⟨a3, c3, rfl, C3, -, -⟩ := O3.rd
          have G3 := grown_trans G2 K3
          have X3 := X2.keptNone K3
          clear O3 K3 X2
          go_wp2_with fail
          refine (get_f F a3 c3 _ _ (by omega) (by rfl) C3).mono ?_
          rintro e w' ⟨rfl, rfl⟩
          clear C3
          go_wp2_with fail
          refine (copy_any ax cx X _ X3 nx (by omega)).mono ?_
          rintro e w4 ⟨v4, rfl, O4, K4⟩
          obtain ⟨a4, c4, rfl, C4, -, -⟩ := O4.rd
          have G4 := grown_trans G3 K4
          have X4 := X3.keptNone K4
          clear O4 K4 X3
          go_wp2_with fail
          refine (get_f1 F a4 c4 _ (by omega) C4).mono ?_
          rintro e w' ⟨rfl, rfl⟩
          clear C4
          go_wp2_with fail
          refine (copy_any a ca xs _ (H.out.keptNone G4) hc0 (by omega)).mono ?_
          rintro e w5 ⟨v5, rfl, O5, K5⟩
          obtain ⟨a5, c5, rfl, C5, -, -⟩ := O5.rd
          have G5 := grown_trans G4 K5
          have X5 := X4.keptNone K5
          clear O5 K5 X4
          go_wp2_with fail
          refine (get_old F a5 c5 _ _ (by omega) (by rfl) C5).mono ?_
          rintro e w' ⟨rfl, rfl⟩
          clear C5
          go_wp2_with fail
          refine (copy_any ax cx X _ X5 nx (by omega)).mono ?_
          rintro e w6 ⟨v6, rfl, O6, K6⟩
          obtain ⟨a6, c6, rfl, C6, n6, -⟩ := O6.rd
          have G6 := grown_trans G5 K6
          have X6 := X5.keptNone K6
          clear O6 K6 X5
          go_wp2_with fail
          refine (put_back F a6 c6 _ _ (by omega) (by rfl) C6 n6).mono ?_
          rintro e w7 ⟨v7, rfl, O7, K7⟩
          obtain ⟨a7, c7, rfl, C7, -, -⟩ := O7.rd
          have G7 := grown_trans G6 K7
          have X7 := X6.keptNone K7
          clear O7 K7 C6 X6 G1 G2 G3 G4 G5 G6
          rw [HX.out]
          go_wp2_with fail
          refine (same_any a7 a c7 ca xs _ C7 (H.out.keptNone G7) (by omega)).mono ?_
          rintro e w8 ⟨rfl, n8, rfl⟩
          have G8 := grown_trans G7 (grown_drewN w7 n8 none)
          have X8 : Cells (w7.drewN n8) ax X := X7
          have A8 : Cells (w7.drewN n8) a xs := H.out.keptNone G8
          have HX8 : Hid (Cells (w7.drewN n8) ax X) := X8
          have HA8 : Hid (Cells (w7.drewN n8) a xs) := A8
          clear C7 X7 G7 X8 A8 G
          generalize w7.drewN n8 = w8 at *
          try clear r1
          try clear r2
          go_wp2
          go_loopw [20] (fun i wr => ∃ k : Nat, k ≤ xs.length ∧ i = .int .i64 k ∧ ∃ m, wr = w8.drewN m) (fun i _ => xs.length - (intOf i).toNat)
          case atStart => exact ⟨0, Nat.zero_le _, rfl, 0, rfl⟩
          case round =>
            obtain ⟨k, hk, rfl, m, rfl⟩ := hrel
            by_cases hlt : k < xs.length
            · obtain ⟨b1, o1, rfl, h1⟩ := HX8.out.addr (k := k) (by rw [HX.out]; exact hlt)
              obtain ⟨b2, o2, rfl, h2⟩ := HA8.out.addr hlt
              have c1 := h1 k (by rw [HX.out]; exact hlt)
              have c2 := h2 k hlt
              clear h1 h2
              have hl : (k : Int) < (xs.length : Int) := by omega
              rcases (show (k < P ∨ P + 2 ≤ k) ∨ (P ≤ k ∧ k < P + 2) by omega) with hout | ⟨hin1, hin2⟩
              · have e1 : X[k]'(by rw [HX.out]; exact hlt) = xs[k] := by
                  have h := F.out k hout
                  rw [List.getElem?_eq_getElem (by rw [HX.out]; exact hlt), List.getElem?_eq_getElem hlt] at h
                  exact Option.some.inj h
                rw [e1] at c1
                clear e1
                rcases hout with hA | hB
                · have d1 : (k : Int) < (P : Int) := by omega
                  go_wp2
                  go_quiet (fail)
                  go_wp2
                  go_roundw
                  case rel => exact ⟨k + 1, by omega, by go_num, _, by rfl⟩
                  case measure => simp [intOf]; omega
                · have d1 : decide (k < P) = false := decide_eq_false (by omega)
                  have d2 : (P : Int) + 2 ≤ (k : Int) := by omega
                  go_wp2
                  go_quiet (fail)
                  go_wp2
                  go_roundw
                  case rel => exact ⟨k + 1, by omega, by go_num, _, by rfl⟩
                  case measure => simp [intOf]; omega
              · have d1 : decide (k < P) = false := decide_eq_false (by omega)
                have d2 : decide ((P : Int) + 2 ≤ (k : Int)) = false := decide_eq_false (by omega)
                clear c1 c2
                go_wp2
                go_quiet (fail)
                go_wp2
                go_roundw
                case rel => exact ⟨k + 1, by omega, by go_num, _, by rfl⟩
                case measure => simp [intOf]; omega
            · have G9 := grown_trans G8 (grown_drewN w8 m none)
              go_wp2
              go_roundw
              case rel => exact ⟨4, by decide, rfl, G9⟩
              case measure => simp [intOf]
        · have hL : L = v := by have := F.lowOf; simp [lowOf] at this; omega
          have hM : M = L / 16777216 := by have := F.hiOf; simp [hiOf] at this; omega
          subst hL
          have r2 : (L : Int) / 16777216 = (M : Int) := by omega
          clear hM
          have hPi : (P : Int) ≤ (xs.length : Int) - 4 := by omega
          go_wp2_with fail
          refine (copy_any a ca xs _ (H.out.keptNone G) hc0 (by omega)).mono ?_
          rintro e w1 ⟨v1, rfl, O1, K1⟩
          obtain ⟨a1, c1, rfl, C1, n1, -⟩ := O1.rd
          have G1 := grown_trans G K1
          clear O1 K1
          go_wp2_with fail
          refine (put_f F a1 c1 _ _ (by omega) (by rfl) C1 n1 (by omega)).mono ?_
          rintro e w2 ⟨v2, rfl, O2, K2⟩
          obtain ⟨ax, cx, rfl, X2, nx, -⟩ := O2.rd
          have G2 := grown_trans G1 K2
          clear O2 K2 C1
          have hXl : X.length ≤ 140737488351232 := by have := HX.out; omega
          go_wp2_with fail
          refine (copy_any ax cx X _ X2 nx (by omega)).mono ?_
          rintro e w3 ⟨v3, rfl, O3, K3⟩
          obtain ⟨a3, c3, rfl, C3, -, -⟩ := O3.rd
          have G3 := grown_trans G2 K3
          have X3 := X2.keptNone K3
          clear O3 K3 X2
          go_wp2_with fail
          refine (get_f F a3 c3 _ _ (by omega) (by rfl) C3).mono ?_
          rintro e w' ⟨rfl, rfl⟩
          clear C3
          go_wp2_with fail
          refine (copy_any ax cx X _ X3 nx (by omega)).mono ?_
          rintro e w4 ⟨v4, rfl, O4, K4⟩
          obtain ⟨a4, c4, rfl, C4, -, -⟩ := O4.rd
          have G4 := grown_trans G3 K4
          have X4 := X3.keptNone K4
          clear O4 K4 X3
          go_wp2_with fail
          refine (get_f1 F a4 c4 _ (by omega) C4).mono ?_
          rintro e w' ⟨rfl, rfl⟩
          clear C4
          go_wp2_with fail
          refine (copy_any a ca xs _ (H.out.keptNone G4) hc0 (by omega)).mono ?_
          rintro e w5 ⟨v5, rfl, O5, K5⟩
          obtain ⟨a5, c5, rfl, C5, -, -⟩ := O5.rd
          have G5 := grown_trans G4 K5
          have X5 := X4.keptNone K5
          clear O5 K5 X4
          go_wp2_with fail
          refine (get_old F a5 c5 _ _ (by omega) (by rfl) C5).mono ?_
          rintro e w' ⟨rfl, rfl⟩
          clear C5
          go_wp2_with fail
          refine (copy_any ax cx X _ X5 nx (by omega)).mono ?_
          rintro e w6 ⟨v6, rfl, O6, K6⟩
          obtain ⟨a6, c6, rfl, C6, n6, -⟩ := O6.rd
          have G6 := grown_trans G5 K6
          have X6 := X5.keptNone K6
          clear O6 K6 X5
          go_wp2_with fail
          refine (put_back F a6 c6 _ _ (by omega) (by rfl) C6 n6).mono ?_
          rintro e w7 ⟨v7, rfl, O7, K7⟩
          obtain ⟨a7, c7, rfl, C7, -, -⟩ := O7.rd
          have G7 := grown_trans G6 K7
          have X7 := X6.keptNone K7
          clear O7 K7 C6 X6 G1 G2 G3 G4 G5 G6
          rw [HX.out]
          go_wp2_with fail
          refine (same_any a7 a c7 ca xs _ C7 (H.out.keptNone G7) (by omega)).mono ?_
          rintro e w8 ⟨rfl, n8, rfl⟩
          have G8 := grown_trans G7 (grown_drewN w7 n8 none)
          have X8 : Cells (w7.drewN n8) ax X := X7
          have A8 : Cells (w7.drewN n8) a xs := H.out.keptNone G8
          have HX8 : Hid (Cells (w7.drewN n8) ax X) := X8
          have HA8 : Hid (Cells (w7.drewN n8) a xs) := A8
          clear C7 X7 G7 X8 A8 G
          generalize w7.drewN n8 = w8 at *
          try clear r1
          try clear r2
          go_wp2
          go_loopw [20] (fun i wr => ∃ k : Nat, k ≤ xs.length ∧ i = .int .i64 k ∧ ∃ m, wr = w8.drewN m) (fun i _ => xs.length - (intOf i).toNat)
          case atStart => exact ⟨0, Nat.zero_le _, rfl, 0, rfl⟩
          case round =>
            obtain ⟨k, hk, rfl, m, rfl⟩ := hrel
            by_cases hlt : k < xs.length
            · obtain ⟨b1, o1, rfl, h1⟩ := HX8.out.addr (k := k) (by rw [HX.out]; exact hlt)
              obtain ⟨b2, o2, rfl, h2⟩ := HA8.out.addr hlt
              have c1 := h1 k (by rw [HX.out]; exact hlt)
              have c2 := h2 k hlt
              clear h1 h2
              have hl : (k : Int) < (xs.length : Int) := by omega
              rcases (show (k < P ∨ P + 4 ≤ k) ∨ (P ≤ k ∧ k < P + 4) by omega) with hout | ⟨hin1, hin2⟩
              · have e1 : X[k]'(by rw [HX.out]; exact hlt) = xs[k] := by
                  have h := F.out k hout
                  rw [List.getElem?_eq_getElem (by rw [HX.out]; exact hlt), List.getElem?_eq_getElem hlt] at h
                  exact Option.some.inj h
                rw [e1] at c1
                clear e1
                rcases hout with hA | hB
                · have d1 : (k : Int) < (P : Int) := by omega
                  go_wp2
                  go_quiet (fail)
                  go_wp2
                  go_roundw
                  case rel => exact ⟨k + 1, by omega, by go_num, _, by rfl⟩
                  case measure => simp [intOf]; omega
                · have d1 : decide (k < P) = false := decide_eq_false (by omega)
                  have d2 : (P : Int) + 4 ≤ (k : Int) := by omega
                  go_wp2
                  go_quiet (fail)
                  go_wp2
                  go_roundw
                  case rel => exact ⟨k + 1, by omega, by go_num, _, by rfl⟩
                  case measure => simp [intOf]; omega
              · have d1 : decide (k < P) = false := decide_eq_false (by omega)
                have d2 : decide ((P : Int) + 4 ≤ (k : Int)) = false := decide_eq_false (by omega)
                clear c1 c2
                go_wp2
                go_quiet (fail)
                go_wp2
                go_roundw
                case rel => exact ⟨k + 1, by omega, by go_num, _, by rfl⟩
                case measure => simp [intOf]; omega
            · have G9 := grown_trans G8 (grown_drewN w8 m none)
              go_wp2
              go_roundw
              case rel => exact ⟨8, by decide, rfl, G9⟩
              case measure => simp [intOf]

set_option maxRecDepth 100000 in
theorem lifted (os : Os) (started : os.Started) (H : Type) (enc : TypeId × Value → H) :
    ReturnsInHanded {} Try.checked os 5 .any (Rows.wordBackSpec.pre6 enc Try.prog Try.f5 Rows.wordBackRow.domain false) (Rows.wordBackSpec.post enc Try.prog Try.f5 false true false false) := by
  refine returnsInHanded_of_change_sized (C := Try.checked) own started (by kernel_rfl) Try.func5
    (ChangeSpec.witness6 (enc := enc) (C := Try.checked) false ⟨#[], #[.slice none 0 0, .int .i64 0, .int .u32 0], []⟩ 8 (by kernel_rfl) (by kernel_rfl) (by kernel_rfl) (by kernel_rfl)) ?_
  intro W base args ds gs before hval0 hW hcnd hsz0 _
  have hsz : (DataW.weightsEach Try.prog (Try.f5.params.toList ++ Rows.wordBackSpec.plain.varTypes Try.prog) (ds ++ gs)).all (· ≤ reachBytes) = true := hsz0
  have hval : ∀ (j : Nat) t v, Try.f5.params[j]? = some t → args[j]? = some v → Value.okWide Try.prog W .any base t v := hval0
  have hW' := hW
  obtain ⟨p, q, hA0, hV, rfl, hfz, hnd⟩ := hW
  have hA : DataW.TrodAll enc Try.prog W 0 (fun _ => true) true Try.f5.params.toList args.toList ds p := hA0
  rw [Try.params5] at hA hval hsz
  obtain ⟨v0, vs0, d0, ds0, p0, q0, hargs, rfl, rfl, h0, r0⟩ := trodAll_cons hA
  obtain ⟨v1, vs1, d1, ds1, p1, q1, rfl, rfl, rfl, h1, r1⟩ := trodAll_cons r0
  obtain ⟨v2, vs2, d2, ds2, p2, q2, rfl, rfl, rfl, h2, r2⟩ := trodAll_cons r1
  obtain ⟨rfl, rfl, rfl⟩ := trodAll_nil r2
  obtain rfl : args = #[v0, v1, v2] := by cases args; simp_all
  obtain ⟨rfl, rfl⟩ := trodVars_none hV
  obtain ⟨a0, len0, cap0, rfl⟩ := okWide_slice Try.underlying22 (hval 0 22 v0 rfl rfl)
  have k0 := h0
  have lt0 : ∀ x ∈ p0, x.block < W.heap.size := by obtain ⟨m, hm⟩ := k0; exact DataW.trod_lt m _ _ _ hm
  obtain ⟨xs0, rfl, hcells0, hnil0, hdat0⟩ := open_bytes Try.underlying22 Try.underlying5 (by kernel_rfl) h0
  obtain ⟨x1, rfl, rfl, rfl, w1⟩ := open_int Try.underlying3 (hval 1 3 v1 rfl rfl) h1
  obtain ⟨y2, rfl, rfl, rfl, w2⟩ := open_int Try.underlying24 (hval 2 24 v2 rfl rfl) h2
  have bd2 := bounds_u32 w2
  obtain ⟨x2, rfl⟩ := Int.eq_ofNat_of_zero_le bd2.1
  have hv2 : x2 ≤ 4294967295 := by omega
  have hlen0 : xs0.length * 1 ≤ 140737488351232 := by
    rcases hdat0 with ⟨_, rfl⟩ | ⟨elems, spare, rfl, hle⟩
    · simp
    · have := sized_slice hsz (j := 0) (t := 22) (e := 5) rfl rfl Try.underlying22
      rw [bytes5] at this
      unfold reachBytes at this
      omega
  clear hA0 hval0
  refine (walk a0 cap0 xs0 x1 x2 W hcells0 hnil0 (by omega) hv2).mono fun e W' ⟨he, hg⟩ => ?_
  subst he
  have bel : Below W.heap.size W W' := (Below.refl _ _).grown hg (Nat.le_refl _) (by simp)
  exact ⟨_, rfl, _, _, _, [], _, [], hW', trodAll_mk1 (shut_bool Try.underlying4 _), (trodAll_cons_mk (Below.trod laidOut (by kernel_rfl) (of_decide_eq_true (by kernel_rfl)) k0 bel lt0) (trodAll_cons_mk (shut_int Try.underlying3 w1) (trodAll_cons_mk (shut_int Try.underlying24 w2) trodAll_mk0))), rfl, bel.frame _, fun h => by cases h⟩

theorem over : Rows.WordBackSaid :=
  OpenClaim.holds_of_wide 5 Try.f5 rfl rfl rfl rfl rfl rfl rfl ⟨rfl, rfl, rfl, rfl, rfl⟩ rfl rfl rfl rfl rfl (by kernel_rfl) Try.func5 (by kernel_rfl)
    (of_decide_eq_true (by kernel_rfl)) (by unfold Func.isWrapper; first | (rw [if_pos (by decide +kernel)]; kernel_rfl) | (rw [if_neg (by decide +kernel)]; exact ⟨rfl, rfl⟩))
    (fun os started H enc _ => lifted os started H enc)

end wordBack

theorem wordBack_holds : Rows.WordBackSaid := wordBack.over
#print axioms wordBack_holds
end Go.Proofs.Ytaglcfcgfofhkaa
