/-
  The document's own Decode.
-/
import Derived.Test.YtoimhggpblkcgaaEncR
namespace Go.Proofs.Ytoimhggpblkcgaa
open Go.RowKit

/-- The instruction that stands at place j. -/
def decAt (bs : List UInt8) (j : Nat) : In := ⟨UInt16.ofNat (numAt bs (8 * j) 2), bs.getD (8 * j + 2) 0, bs.getD (8 * j + 3) 0, UInt32.ofNat (numAt bs (8 * j + 4) 4)⟩

/-- The first k of them. -/
def decP (bs : List UInt8) : Nat → List In
  | 0 => []
  | k + 1 => decP bs k ++ [decAt bs k]

theorem decP_len (bs : List UInt8) (k : Nat) : (decP bs k).length = k := by
  induction k with
  | zero => rfl
  | succ k ih => simp [decP, ih]

def decE (bs : List UInt8) : Int := if bs.length % 8 ≠ 0 then 20 else if 32768 < bs.length then 21 else 0
def decV (bs : List UInt8) : List In := if decE bs = 0 then decP bs (bs.length / 8) else []

/-- What a call leaves that makes instructions, or an error. -/
def IMadeE (w w' : World) (e : Ending) (xs : List In) (code : Int) : Prop := ∃ v, e = .returned (.tuple #[v, .int .i64 code]) ∧ IOwns w' w.heap.size v xs ∧ w.grownBy w' none

theorem decAt_cells (xs : List UInt8) (k : Nat) (h : 8 * k + 8 ≤ xs.length) : (decAt xs k).cells = [.int .u16 (numAt xs (8 * k) 2 : Int), .int .u8 (xs[8 * k + 2].toNat : Int), .int .u8 (xs[8 * k + 3].toNat : Int), .int .u32 (numAt xs (8 * k + 4) 4 : Int)] := by
  have h2 := numAt_lt xs (8 * k) 2
  have h4 := numAt_lt xs (8 * k + 4) 4
  have e2 : (UInt16.ofNat (numAt xs (8 * k) 2)).toNat = numAt xs (8 * k) 2 := by simp; omega
  have e4 : (UInt32.ofNat (numAt xs (8 * k + 4) 4)).toNat = numAt xs (8 * k + 4) 4 := by simp; omega
  have g2 : xs.getD (8 * k + 2) 0 = xs[8 * k + 2] := by simp [show 8 * k + 2 < xs.length by omega]
  have g3 : xs.getD (8 * k + 3) 0 = xs[8 * k + 3] := by simp [show 8 * k + 3 < xs.length by omega]
  simp only [decAt, In.cells, e2, e4, g2, g3]

theorem refget_ok (a : Option Addr) (ca : Nat) (xs : List UInt8) (m S : Nat) (p s : Int) (hp : p = (m : Int)) (hs : s = (S : Int)) (hS : S = 1 ∨ S = 2 ∨ S = 4) (hm : m + S ≤ xs.length) (w : World) (ha : Cells w a xs) (hn : xs.length ≤ 140737488355328) :
    Calls Try.prog 37 #[.slice a xs.length ca, .int .i64 p, .int .i64 s] w fun e w' => e = .returned (.tuple #[.int .u32 (numAt xs m S), .bool true]) ∧ w = w' := by
  subst hp hs
  have k := refget_any a ca xs m S w ha hn
  have hok : okB xs.length m S = true := decide_eq_true (by omega)
  have hg : getV xs m S = numAt xs m S := by simp [getV, hok]
  rw [hg, hok] at k
  exact k

set_option maxHeartbeats 2000000 in
theorem refdecode_any (a : Option Addr) (ca : Nat) (xs : List UInt8) (w : World) (ha : Cells w a xs) (hn : xs.length ≤ 140737488355328) :
    Calls Try.prog 22 #[.slice a xs.length ca] w fun e w' => IMadeE w w' e (decV xs) (decE xs) := by
  obtain ⟨i0, hi, hz0, hz1, hz2⟩ := info_parts info50
  have H : Hid (Cells w a xs) := ha
  clear ha
  by_cases h8 : xs.length % 8 = 0
  case neg =>
    have e2 : decE xs = 20 := by simp [decE, h8]
    have e1 : decV xs = [] := by simp [decV, e2]
    rw [e1, e2]
    clear e1 e2
    have h5 : (((xs.length : Int) % 8) != 0) = true := by rw [bne_iff_ne]; omega
    go_enter Try.func22, Try.ntmps22
    go_wp2
    go_ret2
    exact ⟨_, rfl, World.ownsRow_nil _ _ _ _, World.grownBy.refl _ _⟩
  case pos =>
    have h5 : (((xs.length : Int) % 8) != 0) = false := by simp; omega
    by_cases hm : 32768 < xs.length
    · have e2 : decE xs = 21 := by simp [decE, h8, hm]
      have e1 : decV xs = [] := by simp [decV, e2]
      rw [e1, e2]
      clear e1 e2
      have h6 : (32768 : Int) < (xs.length : Int) := by omega
      go_enter Try.func22, Try.ntmps22
      go_wp2
      go_ret2
      exact ⟨_, rfl, World.ownsRow_nil _ _ _ _, World.grownBy.refl _ _⟩
    · have e2 : decE xs = 0 := by simp [decE, h8, hm]
      have e1 : decV xs = decP xs (xs.length / 8) := by simp [decV, e2]
      rw [e1, e2]
      clear e1 e2
      have h6 : ¬ (32768 : Int) < (xs.length : Int) := by omega
      have H8 : Hid (xs.length % 8 = 0) := h8
      clear h8
      go_enter Try.func22, Try.ntmps22
      go_wp2
      go_loopw [4, 5] (fun v i wr => ∃ m k : Nat, m = 8 * k ∧ m ≤ xs.length ∧ i = .int .i64 m ∧ IOwns wr w.heap.size v (decP xs k) ∧ w.grownBy wr none) (fun _ i _ => xs.length - (intOf i).toNat)
      case atStart => exact ⟨0, 0, rfl, Nat.zero_le _, rfl, World.ownsRow_nil _ _ _ _, World.grownBy.refl _ _⟩
      case round =>
        obtain ⟨m, k, hmk, hk, rfl, O, G⟩ := hrel
        have HM : Hid (m = 8 * k) := hmk
        by_cases hlt : m < xs.length
        · have hlt8 : m + 8 ≤ xs.length := by have := H8.out; omega
          have HK : Hid (k ≤ 4096) := by
            show k ≤ 4096
            omega
          clear hmk
          go_wp2_with fail
          refine (refget_ok a ca xs m 2 _ _ rfl rfl (.inr (.inl rfl)) (by omega) _ (H.out.keptNone G) hn).mono ?_
          rintro e w' ⟨rfl, rfl⟩
          go_wp2_with fail
          refine (refget_ok a ca xs (m + 4) 4 _ _ rfl rfl (.inr (.inr rfl)) (by omega) _ (H.out.keptNone G) hn).mono ?_
          rintro e w' ⟨rfl, rfl⟩
          obtain ⟨b1, o1, rfl, hc⟩ := H.out.addr hlt
          have q2 := hc (m + 2) (by omega)
          have q3 := hc (m + 3) (by omega)
          have g2 : wr.cell? ⟨b1, o1 + (m + 2), none⟩ = some (.int .u8 (xs[m + 2].toNat : Int)) := G.cell q2 (by simp)
          have g3 : wr.cell? ⟨b1, o1 + (m + 3), none⟩ = some (.int .u8 (xs[m + 3].toNat : Int)) := G.cell q3 (by simp)
          have HD : Hid ((decAt xs k).cells = [.int .u16 (numAt xs m 2 : Int), .int .u8 (xs[m + 2].toNat : Int), .int .u8 (xs[m + 3].toNat : Int), .int .u32 (numAt xs (m + 4) 4 : Int)]) := by
            show (decAt xs k).cells = _
            have e := HM.out
            subst e
            exact decAt_cells xs k (by omega)
          have hn2 := numAt_lt xs m 2
          have hn4 := numAt_lt xs (m + 4) 4
          clear hc q2 q3
          generalize xs[m + 2].toNat = t2 at *
          generalize xs[m + 3].toNat = t3 at *
          generalize numAt xs m 2 = c2 at *
          generalize numAt xs (m + 4) 4 = c4 at *
          have l2 : (m : Int) + 2 < (xs.length : Int) := by omega
          have l3 : (m : Int) + 3 < (xs.length : Int) := by omega
          have z2 : (0 : Int) ≤ (m : Int) + 2 := by omega
          have z3 : (0 : Int) ≤ (m : Int) + 3 := by omega
          have hc2 : c2 < 65536 := by simpa using hn2
          have HL : Hid ((decP xs k).length = k) := decP_len xs k
          have v2 : IntKind.i64.wrap ((m : Int) + 2) = (m : Int) + 2 := by rw [IntKind.wrap_i64]; omega
          have v3 : IntKind.i64.wrap ((m : Int) + 3) = (m : Int) + 3 := by rw [IntKind.wrap_i64]; omega
          have v4 : IntKind.u16.wrap (c2 : Int) = (c2 : Int) := by rw [IntKind.wrap_u16]; omega
          have s2 : ((m : Int) + 2).toNat = m + 2 := by omega
          have s3 : ((m : Int) + 3).toNat = m + 3 := by omega
          clear hn2 hn4
          go_wp2
          go_region_law (refine step_append_cv rfl (.tmp 36) (.tmp 51) 28 rfl 50 i0 _ 4 8 Try.underlying28 hi hz0 hz1 hz2 rfl (by decide) w.heap.size u4 (decP xs k).length (flat (decP xs k)) (by simp [Act.eval]) (by first | exact (O.alloc _).drew | exact O.drew.alloc _) ⟨wr.heap.size, 0, none⟩ 1 1 [.int .u16 (c2 : Int), .int .u8 (t2 : Int), .int .u8 (t3 : Int), .int .u32 (c4 : Int)] (by simp [Act.eval]) rfl (by exact cv_lit wr _ _) (by simp [Value.oneCell']) (by have := HL.out; have := HK.out; unfold maxLen; omega) (by have := HL.out; have := HK.out; omega) (by have := G.size; simp; omega) ?_; intro y3 w3 O3 K3)
          all_goals
            rename_i y3 w3 O3 K3
            have G3 : w.grownBy w3 none := grown_trans_new G (grown_trans (grown_alloc_drew wr _ _) K3) (fun z hz => (O.lt z hz).1)
            have O4 : IOwns w3 w.heap.size y3 (decP xs (k + 1)) := by
              have e1 : flat (decP xs (k + 1)) = flat (decP xs k) ++ [.int .u16 (c2 : Int), .int .u8 (t2 : Int), .int .u8 (t3 : Int), .int .u32 (c4 : Int)] := by
                rw [← HD.out]
                simp only [decP, flat_append, flat_cons, flat_nil, List.append_nil]
              have e2 : (decP xs (k + 1)).length = (decP xs k).length + 1 := by rw [decP_len, decP_len]
              unfold IOwns
              rw [e1, e2]
              exact O3
            clear K3 O3 O G g2 g3 v2 v3 v4 s2 s3
            go_wp2
            go_roundw
            case rel => exact ⟨m + 8, k + 1, by have := HM.out; omega, by omega, by go_num, O4, G3⟩
            case measure => simp [intOf]; omega
        · have e9 : xs.length / 8 = k := by omega
          have E9 : Hid (decP xs (xs.length / 8) = decP xs k) := by
            show decP xs (xs.length / 8) = decP xs k
            rw [e9]
          clear hmk e9
          go_wp2
          go_ret2
          rw [E9.out]
          exact ⟨_, rfl, O, G⟩

end Go.Proofs.Ytoimhggpblkcgaa
