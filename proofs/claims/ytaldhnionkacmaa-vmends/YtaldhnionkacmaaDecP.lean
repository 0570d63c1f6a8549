/-
  Package insn: read and Decode.
-/
import Derived.Test.YtaldhnionkacmaaGetW
import Derived.Test.YtaldhnionkacmaaDecR
import Derived.Handy
namespace Go.Proofs.Ytaldhnionkacmaa
open Go.RowKit
set_option maxRecDepth 100000

theorem get_ok (a : Option Addr) (ca : Nat) (xs : List UInt8) (m S : Nat) (p s : Int) (hp : p = (m : Int)) (hs : s = (S : Int)) (hS : S = 1 ∨ S = 2 ∨ S = 4) (hm : m + S ≤ xs.length) (w : World) (ha : Cells w a xs) (hn : xs.length ≤ 140737488355328) :
    Calls Try.prog 23 #[.slice a xs.length ca, .int .i64 p, .int .i64 s] w fun e w' => e = .returned (.tuple #[.int .u32 (numAt xs m S), .bool true]) ∧ w = w' := by
  subst hp hs
  have k := get_any a ca xs m S w ha hn
  have hok : okB xs.length m S = true := decide_eq_true (by omega)
  have hg : getV xs m S = numAt xs m S := by simp [getV, hok]
  rw [hg, hok] at k
  exact k

theorem get_is (a : Option Addr) (ca : Nat) (xs : List UInt8) (m S v : Nat) (p s : Int) (hp : p = (m : Int)) (hs : s = (S : Int)) (hS : S = 1 ∨ S = 2 ∨ S = 4) (hm : m + S ≤ xs.length) (w : World) (ha : Cells w a xs) (hn : xs.length ≤ 140737488355328) (hv : numAt xs m S = v) :
    Calls Try.prog 23 #[.slice a xs.length ca, .int .i64 p, .int .i64 s] w fun e w' => e = .returned (.tuple #[.int .u32 v, .bool true]) ∧ w = w' := by
  subst hv
  exact get_ok a ca xs m S p s hp hs hS hm w ha hn

set_option maxHeartbeats 2000000 in
theorem read_any (a : Option Addr) (ca : Nat) (xs : List UInt8) (m k : Nat) (hm : m = 8 * k) (h8 : m + 8 ≤ xs.length) (w : World) (ha : Cells w a xs) (hn : xs.length ≤ 140737488355328) :
    Calls Try.prog 36 #[.slice a xs.length ca, .int .i64 m] w fun e w' => e = .returned (.agg (decAt xs k).cells.toArray) ∧ w.grownBy w' none := by
  have k2 : m + 2 < xs.length := by clear hm; omega
  have k3 : m + 3 < xs.length := by clear hm; omega
  have e0 : (decAt xs k).cells = [.int .u16 (numAt xs m 2 : Int), .int .u8 ((xs[m + 2]'k2).toNat : Int), .int .u8 ((xs[m + 3]'k3).toNat : Int), .int .u32 (numAt xs (m + 4) 4 : Int)] := by
    subst hm
    exact decAt_cells xs k h8
  rw [e0]
  clear e0 hm
  obtain ⟨b1, o1, rfl, hc⟩ := ha.addr (k := m) (by omega)
  have H : Hid (Cells w (some ⟨b1, o1, none⟩) xs) := ha
  clear ha
  have G0 : w.grownBy (w.alloc (.cells #[.int .u16 0, .int .u8 0, .int .u8 0, .int .u32 0] 47)) none := World.grownBy_alloc _ _ _
  have q2 := hc (m + 2) (by omega)
  have q3 := hc (m + 3) (by omega)
  have g2 : (w.alloc (.cells #[.int .u16 0, .int .u8 0, .int .u8 0, .int .u32 0] 47)).cell? ⟨b1, o1 + (m + 2), none⟩ = some (.int .u8 (xs[m + 2].toNat : Int)) := G0.cell q2 (by simp)
  have g3 : (w.alloc (.cells #[.int .u16 0, .int .u8 0, .int .u8 0, .int .u32 0] 47)).cell? ⟨b1, o1 + (m + 3), none⟩ = some (.int .u8 (xs[m + 3].toNat : Int)) := G0.cell q3 (by simp)
  have hb1 : b1 < w.heap.size := World.block_lt_of_cell? w _ q2
  have hn2 := numAt_lt xs m 2
  have hn4 := numAt_lt xs (m + 4) 4
  clear hc q2 q3
  generalize xs[m + 2].toNat = t2 at *
  generalize xs[m + 3].toNat = t3 at *
  generalize e2 : numAt xs m 2 = c2 at *
  generalize e4 : numAt xs (m + 4) 4 = c4 at *
  have E2 : Hid (numAt xs m 2 = c2) := e2
  have E4 : Hid (numAt xs (m + 4) 4 = c4) := e4
  clear e2 e4
  have hc2 : c2 < 65536 := by simpa using hn2
  clear hn2 hn4
  go_enter Try.func36, Try.ntmps36
  go_wp2_with fail
  refine (get_is (some ⟨b1, o1, none⟩) ca xs m 2 c2 _ _ rfl rfl (.inr (.inl rfl)) (by omega) _ (H.out.keptNone G0) hn E2.out).mono ?_
  rintro e w' ⟨rfl, rfl⟩
  go_wp2_with fail
  refine (get_is (some ⟨b1, o1, none⟩) ca xs (m + 4) 4 c4 _ _ rfl rfl (.inr (.inr rfl)) (by omega) _ (H.out.keptNone G0) hn E4.out).mono ?_
  rintro e w' ⟨rfl, rfl⟩
  have l2 : (m : Int) + 2 < (xs.length : Int) := by omega
  have l3 : (m : Int) + 3 < (xs.length : Int) := by omega
  have z2 : (0 : Int) ≤ (m : Int) + 2 := by omega
  have z3 : (0 : Int) ≤ (m : Int) + 3 := by omega
  have v2 : IntKind.i64.wrap ((m : Int) + 2) = (m : Int) + 2 := by rw [IntKind.wrap_i64]; omega
  have v3 : IntKind.i64.wrap ((m : Int) + 3) = (m : Int) + 3 := by rw [IntKind.wrap_i64]; omega
  have v4 : IntKind.u16.wrap (c2 : Int) = (c2 : Int) := by rw [IntKind.wrap_u16]; omega
  have s2 : ((m : Int) + 2).toNat = m + 2 := by omega
  have s3 : ((m : Int) + 3).toNat = m + 3 := by omega
  clear H
  go_wp2
  go_region
  all_goals
    clear G0 g2 g3 v2 v3 v4 s2 s3
    go_wp2
    go_returns
    exact ⟨rfl, grown_alloc_drew _ _ _⟩

set_option maxHeartbeats 2000000 in
theorem decode_any (a : Option Addr) (ca : Nat) (xs : List UInt8) (w : World) (ha : Cells w a xs) (hn : xs.length ≤ 140737488355328) :
    Calls Try.prog 21 #[.slice a xs.length ca] w fun e w' => IMadeE w w' e (decV xs) (decE xs) := by
  obtain ⟨i0, hi, hz0, hz1, hz2⟩ := info_parts info47
  have H : Hid (Cells w a xs) := ha
  clear ha
  by_cases h8 : xs.length % 8 = 0
  case neg =>
    have e2 : decE xs = 20 := by simp [decE, h8]
    have e1 : decV xs = [] := by simp [decV, e2]
    rw [e1, e2]
    clear e1 e2
    have h5 : (((xs.length : Int) % 8) != 0) = true := by rw [bne_iff_ne]; omega
    have h5' : (((xs.length : Int).tmod 8) != 0) = true := by rw [bne_iff_ne, Int.tmod_eq_emod_of_nonneg (by omega)]; omega
    go_enter Try.func21, Try.ntmps21
    go_wp2
    go_ret2
    exact ⟨_, rfl, World.ownsRow_nil _ _ _ _, World.grownBy.refl _ _⟩
  case pos =>
    have h5 : (((xs.length : Int) % 8) != 0) = false := by simp; omega
    by_cases hm : 32768 < xs.length
    · have e2 : decE xs = 21 := by simp [decE, h8, hm]
      have e1 : decV xs = [] := by simp [decV, e2]
      rw [e1, e2]
      clear e1 e2
      have h6 : (32768 : Int) < (xs.length : Int) := by omega
      go_enter Try.func21, Try.ntmps21
      go_wp2
      go_ret2
      exact ⟨_, rfl, World.ownsRow_nil _ _ _ _, World.grownBy.refl _ _⟩
    · have e2 : decE xs = 0 := by simp [decE, h8, hm]
      have e1 : decV xs = decP xs (xs.length / 8) := by simp [decV, e2]
      rw [e1, e2]
      clear e1 e2
      have h6 : ¬ (32768 : Int) < (xs.length : Int) := by omega
      have H8 : Hid (xs.length % 8 = 0) := h8
      clear h8
      go_enter Try.func21, Try.ntmps21
      go_wp2_with (at_make; refine wpList_make_own _ rfl (.const (.int .i64 0)) (.tmp 15) 22 rfl w.heap.size 47 i0 _ 4 Try.underlying22 hi hz0 hz1 .i64 .i64 ((xs.length : Int) / 8) (xs.length / 8) rfl rfl (by omega) ?q1 ?q2 ?q3 ?q4)
      case q1 => omega
      case q2 => unfold maxLen; omega
      intro w1 O1 G1
      go_wp2
      go_loopw [4, 5] (fun v i wr => ∃ m k : Nat, m = 8 * k ∧ m ≤ xs.length ∧ i = .int .i64 m ∧ IOwns wr w.heap.size v (decP xs k) ∧ w.grownBy wr none) (fun _ i _ => xs.length - (intOf i).toNat)
      case atStart => exact ⟨0, 0, rfl, Nat.zero_le _, rfl, O1, G1⟩
      case round =>
        clear O1 G1
        obtain ⟨m, k, hmk, hk, rfl, O, G⟩ := hrel
        have HM : Hid (m = 8 * k) := hmk
        by_cases hlt : m < xs.length
        · have hlt8 : m + 8 ≤ xs.length := by have := H8.out; omega
          have HK : Hid (k ≤ 4096) := by
            show k ≤ 4096
            omega
          clear hmk
          go_wp2_with fail
          refine (read_any a ca xs m k HM.out hlt8 _ (H.out.keptNone G) hn).mono ?_
          rintro e w2 ⟨rfl, K2⟩
          have G2 := grown_trans G K2
          have O2 : IOwns w2 w.heap.size u4 (decP xs k) := owns_keptNone O K2
          clear O G K2
          have HL : Hid ((decP xs k).length = k) := decP_len xs k
          obtain ⟨v0, v1, v2, v3, hv⟩ : ∃ v0 v1 v2 v3, (decAt xs k).cells = [v0, v1, v2, v3] := ⟨_, _, _, _, rfl⟩
          have H1 : Hid (∀ u ∈ [v0, v1, v2, v3], u.oneCell' = true) := by
            show ∀ u ∈ [v0, v1, v2, v3], u.oneCell' = true
            rw [← hv]
            simp [In.cells, Value.oneCell']
          have HD : Hid ((decAt xs k).cells = [v0, v1, v2, v3]) := hv
          rw [hv]
          clear hv
          go_wp2_with (at_builtin; refine wpList_append_cv rfl (.tmp 23) (.tmp 27) 22 rfl 47 i0 _ 4 8 Try.underlying22 hi hz0 hz1 hz2 rfl (by decide) w.heap.size u4 (decP xs k).length (flat (decP xs k)) rfl ?r1 (some ⟨w2.heap.size, 0, none⟩) 1 1 [v0, v1, v2, v3] rfl rfl (by simp) ?r2 H1.out ?r3 ?r4 ?r5 ?r6)
          case r1 => exact O2.alloc _
          case r2 => exact cv_lit w2 _ _
          case r3 => have := HL.out; have := HK.out; unfold maxLen; omega
          case r4 => have := HL.out; have := HK.out; omega
          case r5 => have := G2.size; simp; omega
          case r6 =>
            intro y3 w3 O3 K3
            have G3 : w.grownBy w3 none := grown_trans_new (grown_trans G2 (World.grownBy_alloc _ _ _)) K3 (fun z hz => (O2.lt z hz).1)
            have O4 : IOwns w3 w.heap.size y3 (decP xs (k + 1)) := by
              have e1 : flat (decP xs (k + 1)) = flat (decP xs k) ++ [v0, v1, v2, v3] := by
                rw [← HD.out]
                simp only [decP, flat_append, flat_cons, flat_nil, List.append_nil]
              have e2 : (decP xs (k + 1)).length = (decP xs k).length + 1 := by rw [decP_len, decP_len]
              unfold IOwns
              rw [e1, e2]
              exact O3
            clear K3 O3 O2 G2 H1
            go_wp2
            go_roundw
            case rel => exact ⟨m + 8, k + 1, by have := HM.out; omega, by omega, by go_num, O4, G3⟩
            case measure => simp [intOf]; omega
        · have e9 : xs.length / 8 = k := by omega
          have E9 : Hid (decP xs (xs.length / 8) = decP xs k) := by
            show decP xs (xs.length / 8) = decP xs k
            rw [e9]
          clear hmk e9
          go_wp2
          go_ret2
          rw [E9.out]
          exact ⟨_, rfl, O, G⟩

end Go.Proofs.Ytaldhnionkacmaa
