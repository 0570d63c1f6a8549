/-
  The first bits of some bytes; the document's own Mask, same, Net, In. The document's own answers on codes: Jump, Operation, Load, ByX, Known, Class, Uses. The document's own numbers of the machine: Shift, Operate, size, read.
-/
import Derived.Test.YtgoiblnddfggbaaLotP5
import Derived.Test.YtgoiblnddfggbaaLotP2
import Derived.Test.YtgoiblnddfggbaaLotP7
namespace Go.Proofs.Ytgoiblnddfggbaa
open Go.RowKit
set_option maxRecDepth 100000

/-- The first n bits of a byte. -/
def topB (n : Nat) (x : UInt8) : UInt8 := if n = 0 then 0 else if n < 8 then UInt8.ofNat (x.toNat / 2 ^ (8 - n) * 2 ^ (8 - n)) else x
def maskV : Nat → List UInt8 → List UInt8
  | _, [] => []
  | n, x :: r => topB n x :: maskV (n - 8) r

theorem mask_len (n : Nat) (xs : List UInt8) : (maskV n xs).length = xs.length := by
  induction xs generalizing n with
  | nil => rfl
  | cons x r ih => rw [maskV, List.length_cons, List.length_cons, ih]
theorem mask_get (n : Nat) (xs : List UInt8) (j : Nat) (h : j < xs.length) : (maskV n xs)[j]'(by rw [mask_len]; exact h) = topB (n - 8 * j) xs[j] := by
  induction xs generalizing n j with
  | nil => simp at h
  | cons x r ih =>
    cases j with
    | zero => rfl
    | succ j =>
      simp only [maskV, List.getElem_cons_succ]
      rw [ih (n - 8) j (by simpa using h)]
      congr 1
      omega

/-- Masked up to a place. -/
def mixV (n : Nat) (xs : List UInt8) (j : Nat) : List UInt8 := (maskV n xs).take j ++ xs.drop j
theorem mix_len (n : Nat) (xs : List UInt8) (j : Nat) (h : j ≤ xs.length) : (mixV n xs j).length = xs.length := by
  unfold mixV
  rw [List.length_append, List.length_take, List.length_drop, mask_len]
  omega
theorem mix_next (n : Nat) (xs : List UInt8) (j : Nat) (h : j < xs.length) : mixV n xs (j + 1) = (mixV n xs j).set j (topB (n - 8 * j) xs[j]) := by
  have hl : (List.take j (maskV n xs)).length = j := by rw [List.length_take, mask_len]; omega
  unfold mixV
  rw [List.set_append_right _ _ (by omega), hl, Nat.sub_self, List.drop_eq_getElem_cons h, List.set_cons_zero, List.take_succ_eq_append_getElem (by rw [mask_len]; exact h), mask_get n xs j h]
  simp
theorem mix_at (n : Nat) (xs : List UInt8) (j : Nat) (h : j < xs.length) : (mixV n xs j)[j]? = some xs[j] := by
  unfold mixV
  rw [List.getElem?_append_right (by rw [List.length_take, mask_len]; omega), List.length_take, mask_len, show j - min j xs.length = 0 by omega, List.getElem?_drop, Nat.add_zero, List.getElem?_eq_getElem h]

theorem set_same {α : Type} (l : List α) (j : Nat) (v : α) (h : l[j]? = some v) : l.set j v = l := by
  apply List.ext_getElem?
  intro i
  rw [List.getElem?_set]
  by_cases e : j = i
  · subst e
    rw [if_pos rfl, h]
    obtain ⟨hlt, -⟩ := List.getElem?_eq_some_iff.1 h
    simp [hlt]
  · rw [if_neg e]

theorem andNot_top : ∀ (x : Fin 256) (m : Fin 7), bits .andNot .u8 ((x.val : Nat) : Int) (((2 ^ (m.val + 1) - 1 : Nat)) : Int) = ((x.val / 2 ^ (m.val + 1) * 2 ^ (m.val + 1) : Nat) : Int) := by decide +kernel

set_option maxRecDepth 100000 in
set_option maxHeartbeats 2000000 in
theorem refmask_any (a : Option Addr) (ca : Nat) (xs : List UInt8) (n : Nat) (w : World) (ha : Cells w a xs) (hc0 : a = none → ca = 0) (hx : xs.length ≤ 16) (hn : n ≤ 128) :
    Calls Try.prog 87 #[.slice a xs.length ca, .int .i64 (n : Int)] w fun e w' => ∃ v, e = .returned v ∧ Owns w' w.heap.size v (maskV n xs) ∧ w.grownBy w' none := by
  obtain ⟨i0, hi, hz0, hz1, hz2⟩ := info_parts info5
  have H : Hid (Cells w a xs) := ha
  clear ha
  go_enter Try.func87, Try.ntmps87
  go_wp2_with (at_builtin; refine wpList_append_cv rfl (.tmp 8) (.tmp 9) 81 rfl 5 i0 (.int .u8 0) 1 1 Try.underlying81 hi hz0 hz1 hz2 rfl (by decide) w.heap.size _ 0 [] rfl ?q1 a xs.length ca (xs.map bv) rfl (by simp) hc0 ?q2 (bv_one xs) ?q3 ?q4 ?q5 ?q6)
  case q1 => exact World.ownsRow_made w #[] 0 (Nat.le_refl _) (Nat.zero_le _) rfl
  case q2 => exact H.out.cv.keptNone (World.grownBy_alloc _ _ _)
  case q3 => unfold maxLen; omega
  case q4 => omega
  case q5 => simp
  case q6 =>
    intro v w1 O1 K1
    have G1 : w.grownBy w1 none := grown_trans_new (World.grownBy_alloc w _ _) K1 (by intro x hx; simp [Value.ownBlock] at hx; omega)
    have O2 : Owns w1 w.heap.size v (mixV n xs 0) := by
      have e : mixV n xs 0 = xs := by simp [mixV]
      rw [e]
      simpa using O1
    clear O1 K1
    obtain ⟨ao, cap, rfl, -⟩ := cv_of_row O2
    rw [mix_len n xs 0 (Nat.zero_le _)] at O2
    rw [mix_len n xs 0 (Nat.zero_le _)]
    have O3 : w1.ownsRow w.heap.size 5 1 (.slice ao xs.length cap) xs.length ((mixV n xs 0).map bv) := by
      have := O2
      unfold Owns at this
      rw [mix_len n xs 0 (Nat.zero_le _)] at this
      exact this
    clear O2
    go_wp2
    go_loopw [6] (fun i wr => ∃ j : Nat, j ≤ xs.length ∧ i = .int .i64 j ∧ wr.ownsRow w.heap.size 5 1 (.slice ao xs.length cap) xs.length ((mixV n xs j).map bv) ∧ w.grownBy wr none) (fun i _ => xs.length - (intOf i).toNat)
    case atStart => exact ⟨0, Nat.zero_le _, rfl, O3, G1⟩
    case round =>
      clear O3 G1
      obtain ⟨j, hj, rfl, O, G⟩ := hrel
      by_cases hlt : j < xs.length
      · have hlt' : (j : Int) < (xs.length : Int) := by omega
        obtain ⟨g, cap', hv, -, -, hg, -⟩ := owns_head O (by omega)
        injection hv with hv1 hv2 hv3
        subst hv1
        clear hv2 hv3
        have bl := (BlkN.ofRow O).1
        have hfr := bl.free j
        have hcell : wr.cell? ⟨g, j, none⟩ = some (.int .u8 (xs[j].toNat : Int)) := by
          have := O.cells (g := g) rfl j (.int .u8 (xs[j].toNat : Int)) (by rw [List.getElem?_map, mix_at n xs j hlt]; rfl)
          rw [Addr.add_lit, Nat.zero_add] at this
          exact this
        have HN : Hid (∀ u : Nat, u < 256 → topB (n - 8 * j) xs[j] = UInt8.ofNat u → (wr.setCell ⟨g, j, none⟩ (.int .u8 (u : Int))).ownsRow w.heap.size 5 1 (.slice (some ⟨g, 0, none⟩) xs.length cap) xs.length ((mixV n xs (j + 1)).map bv)) := fun u hu e => by
          have := (O.stored j (.int .u8 (u : Int))).1
          rw [mix_next n xs j hlt, List.map_set, e]
          have e2 : bv (UInt8.ofNat u) = .int .u8 (u : Int) := by
            unfold bv
            rw [UInt8.toNat_ofNat_of_lt' (by simpa using hu)]
          rw [e2]
          exact this
        have hb := xs[j].toNat_lt
        have HO : Hid (wr.ownsRow w.heap.size 5 1 (.slice (some ⟨g, 0, none⟩) xs.length cap) xs.length ((mixV n xs j).map bv)) := O
        clear bl O
        by_cases h0 : (n : Int) - 8 * (j : Int) ≤ 0
        · have R2 := HN.out 0 (by decide) (by rw [topB, if_pos (by omega)]; rfl)
          have G2 := grown_setCell G ⟨g, j, none⟩ (.int .u8 ((0 : Nat) : Int)) (.inr hg)
          rw [show ((0 : Nat) : Int) = 0 from rfl] at R2 G2
          clear HN
          go_wp2
          go_roundw
          case rel => exact ⟨j + 1, by omega, by go_num, R2, G2⟩
          case measure => simp [intOf]; omega
        · by_cases h8 : (n : Int) - 8 * (j : Int) < 8
          · have hs : (n : Int) - 8 * (j : Int) = 1 ∨ (n : Int) - 8 * (j : Int) = 2 ∨ (n : Int) - 8 * (j : Int) = 3 ∨ (n : Int) - 8 * (j : Int) = 4 ∨ (n : Int) - 8 * (j : Int) = 5 ∨ (n : Int) - 8 * (j : Int) = 6 ∨ (n : Int) - 8 * (j : Int) = 7 := by omega
            have HT : Hid (∀ m : Fin 7, (n : Int) - 8 * (j : Int) = 7 - (m.val : Int) → topB (n - 8 * j) xs[j] = UInt8.ofNat (xs[j].toNat / 2 ^ (m.val + 1) * 2 ^ (m.val + 1))) := fun m hm => by
              rw [topB, if_neg (by omega), if_pos (by omega), show 8 - (n - 8 * j) = m.val + 1 by omega]
            have HB : Hid (∀ m : Fin 7, bits .andNot .u8 (xs[j].toNat : Int) (((2 ^ (m.val + 1) - 1 : Nat)) : Int) = ((xs[j].toNat / 2 ^ (m.val + 1) * 2 ^ (m.val + 1) : Nat) : Int)) := fun m => andNot_top ⟨xs[j].toNat, by omega⟩ m
            generalize xs[j] = x at *
            clear h0 h8
            rcases hs with hL | hL | hL | hL | hL | hL | hL
            · have e := HT.out 6 (by rw [hL]; rfl)
              have hb6 := HB.out 6
              obtain ⟨u, hu, hu8⟩ : ∃ u : Nat, x.toNat / 2 ^ ((6 : Fin 7).val + 1) * 2 ^ ((6 : Fin 7).val + 1) = u ∧ u < 256 := ⟨_, rfl, Nat.lt_of_le_of_lt (Nat.div_mul_le_self _ _) hb⟩
              rw [hu] at e hb6
              have R2 := HN.out u hu8 e
              have G2 := grown_setCell G ⟨g, j, none⟩ (.int .u8 (u : Int)) (.inr hg)
              rw [show (((2 ^ ((6 : Fin 7).val + 1) - 1 : Nat)) : Int) = 127 from rfl] at hb6
              clear HN HT HB hu e
              go_wp2
              go_region
              all_goals
                go_wp2
                go_roundw
                case rel => exact ⟨j + 1, by omega, by go_num, R2.drew, grown_trans G2 (grown_drewN _ 1 none)⟩
                case measure => simp [intOf]; omega
            · have e := HT.out 5 (by rw [hL]; rfl)
              have hb6 := HB.out 5
              obtain ⟨u, hu, hu8⟩ : ∃ u : Nat, x.toNat / 2 ^ ((5 : Fin 7).val + 1) * 2 ^ ((5 : Fin 7).val + 1) = u ∧ u < 256 := ⟨_, rfl, Nat.lt_of_le_of_lt (Nat.div_mul_le_self _ _) hb⟩
              rw [hu] at e hb6
              have R2 := HN.out u hu8 e
              have G2 := grown_setCell G ⟨g, j, none⟩ (.int .u8 (u : Int)) (.inr hg)
              rw [show (((2 ^ ((5 : Fin 7).val + 1) - 1 : Nat)) : Int) = 63 from rfl] at hb6
              clear HN HT HB hu e
              go_wp2
              go_region
              all_goals
                go_wp2
                go_roundw
                case rel => exact ⟨j + 1, by omega, by go_num, R2.drew, grown_trans G2 (grown_drewN _ 1 none)⟩
                case measure => simp [intOf]; omega
            · have e := HT.out 4 (by rw [hL]; rfl)
              have hb6 := HB.out 4
              obtain ⟨u, hu, hu8⟩ : ∃ u : Nat, x.toNat / 2 ^ ((4 : Fin 7).val + 1) * 2 ^ ((4 : Fin 7).val + 1) = u ∧ u < 256 := ⟨_, rfl, Nat.lt_of_le_of_lt (Nat.div_mul_le_self _ _) hb⟩
              rw [hu] at e hb6
              have R2 := HN.out u hu8 e
              have G2 := grown_setCell G ⟨g, j, none⟩ (.int .u8 (u : Int)) (.inr hg)
              rw [show (((2 ^ ((4 : Fin 7).val + 1) - 1 : Nat)) : Int) = 31 from rfl] at hb6
              clear HN HT HB hu e
              go_wp2
              go_region
              all_goals
                go_wp2
                go_roundw
                case rel => exact ⟨j + 1, by omega, by go_num, R2.drew, grown_trans G2 (grown_drewN _ 1 none)⟩
                case measure => simp [intOf]; omega
            · have e := HT.out 3 (by rw [hL]; rfl)
              have hb6 := HB.out 3
              obtain ⟨u, hu, hu8⟩ : ∃ u : Nat, x.toNat / 2 ^ ((3 : Fin 7).val + 1) * 2 ^ ((3 : Fin 7).val + 1) = u ∧ u < 256 := ⟨_, rfl, Nat.lt_of_le_of_lt (Nat.div_mul_le_self _ _) hb⟩
              rw [hu] at e hb6
              have R2 := HN.out u hu8 e
              have G2 := grown_setCell G ⟨g, j, none⟩ (.int .u8 (u : Int)) (.inr hg)
              rw [show (((2 ^ ((3 : Fin 7).val + 1) - 1 : Nat)) : Int) = 15 from rfl] at hb6
              clear HN HT HB hu e
              go_wp2
              go_region
              all_goals
                go_wp2
                go_roundw
                case rel => exact ⟨j + 1, by omega, by go_num, R2.drew, grown_trans G2 (grown_drewN _ 1 none)⟩
                case measure => simp [intOf]; omega
            · have e := HT.out 2 (by rw [hL]; rfl)
              have hb6 := HB.out 2
              obtain ⟨u, hu, hu8⟩ : ∃ u : Nat, x.toNat / 2 ^ ((2 : Fin 7).val + 1) * 2 ^ ((2 : Fin 7).val + 1) = u ∧ u < 256 := ⟨_, rfl, Nat.lt_of_le_of_lt (Nat.div_mul_le_self _ _) hb⟩
              rw [hu] at e hb6
              have R2 := HN.out u hu8 e
              have G2 := grown_setCell G ⟨g, j, none⟩ (.int .u8 (u : Int)) (.inr hg)
              rw [show (((2 ^ ((2 : Fin 7).val + 1) - 1 : Nat)) : Int) = 7 from rfl] at hb6
              clear HN HT HB hu e
              go_wp2
              go_region
              all_goals
                go_wp2
                go_roundw
                case rel => exact ⟨j + 1, by omega, by go_num, R2.drew, grown_trans G2 (grown_drewN _ 1 none)⟩
                case measure => simp [intOf]; omega
            · have e := HT.out 1 (by rw [hL]; rfl)
              have hb6 := HB.out 1
              obtain ⟨u, hu, hu8⟩ : ∃ u : Nat, x.toNat / 2 ^ ((1 : Fin 7).val + 1) * 2 ^ ((1 : Fin 7).val + 1) = u ∧ u < 256 := ⟨_, rfl, Nat.lt_of_le_of_lt (Nat.div_mul_le_self _ _) hb⟩
              rw [hu] at e hb6
              have R2 := HN.out u hu8 e
              have G2 := grown_setCell G ⟨g, j, none⟩ (.int .u8 (u : Int)) (.inr hg)
              rw [show (((2 ^ ((1 : Fin 7).val + 1) - 1 : Nat)) : Int) = 3 from rfl] at hb6
              clear HN HT HB hu e
              go_wp2
              go_region
              all_goals
                go_wp2
                go_roundw
                case rel => exact ⟨j + 1, by omega, by go_num, R2.drew, grown_trans G2 (grown_drewN _ 1 none)⟩
                case measure => simp [intOf]; omega
            · have e := HT.out 0 (by rw [hL]; rfl)
              have hb6 := HB.out 0
              obtain ⟨u, hu, hu8⟩ : ∃ u : Nat, x.toNat / 2 ^ ((0 : Fin 7).val + 1) * 2 ^ ((0 : Fin 7).val + 1) = u ∧ u < 256 := ⟨_, rfl, Nat.lt_of_le_of_lt (Nat.div_mul_le_self _ _) hb⟩
              rw [hu] at e hb6
              have R2 := HN.out u hu8 e
              have G2 := grown_setCell G ⟨g, j, none⟩ (.int .u8 (u : Int)) (.inr hg)
              rw [show (((2 ^ ((0 : Fin 7).val + 1) - 1 : Nat)) : Int) = 1 from rfl] at hb6
              clear HN HT HB hu e
              go_wp2
              go_region
              all_goals
                go_wp2
                go_roundw
                case rel => exact ⟨j + 1, by omega, by go_num, R2.drew, grown_trans G2 (grown_drewN _ 1 none)⟩
                case measure => simp [intOf]; omega
          · have e : topB (n - 8 * j) xs[j] = xs[j] := by
              rw [topB, if_neg (by omega), if_neg (by omega)]
            have R2 : wr.ownsRow w.heap.size 5 1 (.slice (some ⟨g, 0, none⟩) xs.length cap) xs.length ((mixV n xs (j + 1)).map bv) := by
              rw [mix_next n xs j hlt, e, set_same _ j _ (mix_at n xs j hlt)]
              exact HO.out
            clear HN e HO
            go_wp2
            go_roundw
            case rel => exact ⟨j + 1, by omega, by go_num, R2, G⟩
            case measure => simp [intOf]; omega
      · obtain rfl : j = xs.length := by omega
        have HE : Hid (mixV n xs xs.length = maskV n xs) := by
          show _ = _
          unfold mixV
          rw [List.take_of_length_le (by rw [mask_len]; omega), List.drop_length, List.append_nil]
        go_wp2
        go_ret
        refine ⟨_, rfl, ?_, G⟩
        unfold Owns
        rw [mask_len, ← HE.out]
        exact O

/-- P6.3. -/
def netE (n : Nat) (bits : Int) : Int := if n ≠ 4 ∧ n ≠ 16 then 60 else if bits < 0 ∨ 8 * (n : Int) < bits then 61 else 0
def netV (xs : List UInt8) (bits : Int) : List UInt8 := if netE xs.length bits = 0 then maskV bits.toNat xs else []
/-- P6.4. -/
def inE (xs ys : List UInt8) (bits : Int) : Int := if ys.length ≠ xs.length then 60 else if netE xs.length bits = 0 then (if maskV bits.toNat ys = ys then 0 else 62) else netE xs.length bits
def inV (xs ys : List UInt8) (bits : Int) : Bool := decide (inE xs ys bits = 0) && decide (maskV bits.toNat xs = ys)

theorem netE_ok {n : Nat} {bits : Int} (h : netE n bits = 0) : (n = 4 ∨ n = 16) ∧ 0 ≤ bits ∧ bits ≤ 8 * (n : Int) := by
  unfold netE at h
  split at h
  · simp at h
  · split at h
    · simp at h
    · omega

end Go.Proofs.Ytgoiblnddfggbaa

namespace Go.Proofs.Ytgoiblnddfggbaa
open Go.RowKit
set_option maxRecDepth 100000

def jumpB (c : Int) : Bool := c == 21 || c == 29 || c == 37 || c == 45 || c == 53 || c == 61 || c == 69 || c == 77
def operB (c : Int) : Bool := c == 4 || c == 12 || c == 20 || c == 28 || c == 36 || c == 44 || c == 52 || c == 60 || c == 68 || c == 76 || c == 84 || c == 92 || c == 100 || c == 108 || c == 116 || c == 124 || c == 148 || c == 156 || c == 164 || c == 172
def loadB (c : Int) : Bool := c == 32 || c == 40 || c == 48 || c == 64 || c == 72 || c == 80 || c == 177
def plainB (c : Int) : Bool := (c == 0 || c == 32 || c == 40 || c == 48 || c == 64 || c == 72 || c == 80 || c == 96 || c == 128) || (c == 1 || c == 97 || c == 129 || c == 177 || c == 2 || c == 3 || c == 132 || c == 6 || c == 22 || c == 7 || c == 135 || c == 5)
def knownB (c : Int) : Bool := plainB c || (jumpB c || operB c)

/-- Its bit 8. -/
def bit8 (c : Int) : Bool := bits .and .u16 c 8 != 0
def byxB (c : Int) : Bool := (jumpB c || operB c) && bit8 c

/-- What Class says. -/
def classV (c : Int) : Int := if knownB c = true then c % 8 else -1

theorem and7 (c : Int) (h0 : 0 ≤ c) (h1 : c ≤ 65535) : bits .and .u16 c 7 = c % 8 := by
  obtain ⟨n, rfl⟩ := Int.eq_ofNat_of_zero_le h0
  have h := u16_and_nat n 7 (by omega) (by omega)
  rw [show n &&& 7 = n % 8 from Nat.and_two_pow_sub_one_eq_mod n 3] at h
  rw [show (7 : Int) = ((7 : Nat) : Int) by rfl, h]
  omega

/-- What Uses says, answer by answer. -/
def noKB (c : Int) : Bool := c == 128 || c == 129 || c == 132 || c == 22 || c == 7 || c == 135
def usesK (c : Int) : Bool := knownB c && (!byxB c && !noKB c)
def usesJ (c : Int) : Bool := knownB c && jumpB c
def usesF (c : Int) : Bool := knownB c && (loadB c || c == 60 || c == 156)

theorem cret_three {a b c x y z : Bool} (h1 : a = x) (h2 : b = y) (h3 : c = z) : Ending.returned (.tuple #[.bool a, .bool b, .bool c]) = .returned (.tuple #[.bool x, .bool y, .bool z]) := by rw [h1, h2, h3]

end Go.Proofs.Ytgoiblnddfggbaa

namespace Go.Proofs.Ytgoiblnddfggbaa
open Go.RowKit
set_option maxRecDepth 100000

/-- A number shifted. -/
def shiftV (a b : Nat) (left : Bool) : Nat := if 31 < b then 0 else if left = true then a * 2 ^ b % 4294967296 else a / 2 ^ b

set_option maxHeartbeats 400000 in
theorem shift_any (a b : Nat) (left : Bool) (w : World) (_ha : a ≤ 4294967295) (hb : b ≤ 4294967295) :
    Calls Try.prog 91 #[.int .u32 a, .int .u32 b, .bool left] w fun e w' => e = .returned (.int .u32 (shiftV a b left : Int)) ∧ w = w' := by
  by_cases h : 31 < b
  · have h' : (31 : Int) < (b : Int) := by omega
    have e : shiftV a b left = 0 := by simp [shiftV, h]
    rw [e]
    go_enter Try.func91, Try.ntmps91
    go_wp2
    go_ret
    exact ⟨rfl, rfl⟩
  · have h' : ¬ ((31 : Int) < (b : Int)) := by omega
    cases left with
    | true =>
      go_enter Try.func91, Try.ntmps91
      go_wp2
      go_ret
      exact ⟨ret_int (by simp [shiftV, h]), rfl⟩
    | false =>
      go_enter Try.func91, Try.ntmps91
      go_wp2
      go_ret
      exact ⟨ret_int (by simp [shiftV, h]), rfl⟩

theorem shiftV_le (a b : Nat) (left : Bool) (ha : a ≤ 4294967295) : shiftV a b left ≤ 4294967295 := by
  unfold shiftV
  split
  · omega
  · split
    · omega
    · exact Nat.le_trans (Nat.div_le_self _ _) ha

/-- Two numbers by an operation, its bit 8 struck: the number, the fault. -/
def operV (d : Int) (a b : Nat) : Nat × Int :=
  if d == 4 then ((a + b) % 4294967296, 0) else if d == 20 then ((a + 4294967296 - b) % 4294967296, 0) else if d == 36 then (a * b % 4294967296, 0)
  else if d == 68 then (a ||| b, 0) else if d == 84 then (a &&& b, 0) else if d == 164 then (a ^^^ b, 0) else if d == 100 then (shiftV a b true, 0) else if d == 116 then (shiftV a b false, 0)
  else if b == 0 then (0, 2) else if d == 52 then (a / b, 0) else (a % b, 0)

theorem ret_oper {x y : Int} {u v : Int} (h : x = y) (h' : u = v) : Ending.returned (.tuple #[.int .u32 x, .int .i64 u]) = .returned (.tuple #[.int .u32 y, .int .i64 v]) := by rw [h, h']

set_option maxHeartbeats 1000000 in
theorem operate_any (c : Int) (a b : Nat) (w : World) (ha : a ≤ 4294967295) (hb : b ≤ 4294967295) :
    Calls Try.prog 84 #[.int .u16 c, .int .u32 a, .int .u32 b] w fun e w' => e = .returned (.tuple #[.int .u32 ((operV (bits .andNot .u16 c 8) a b).1 : Int), .int .i64 (operV (bits .andNot .u16 c 8) a b).2]) ∧ w = w' := by
  generalize hd : bits .andNot .u16 c 8 = d
  have e1 := u32_or_nat a b (by omega) (by omega)
  have e2 := u32_and_nat a b (by omega) (by omega)
  have e3 := u32_xor_nat a b (by omega) (by omega)
  have hsub : ((a : Int) - (b : Int)) % 4294967296 = ((a + 4294967296 - b : Nat) : Int) % 4294967296 := by omega
  by_cases hb0 : b = 0
  · have hz : ((b : Int) == 0) = true := by rw [hb0]; rfl
    have hz2 : (b == 0) = true := by rw [hb0]; rfl
    clear hb0
    go_enter Try.func84, Try.ntmps84
    go_wp2_with (go_at_call 91; refine (shift_any a b _ _ ha hb).mono ?_; rintro e w' ⟨rfl, rfl⟩)
    all_goals
      go_ret2
      refine ⟨ret_oper ?_ ?_, rfl⟩
      all_goals first
        | (simp [operV, *]; done)
        | (simp [operV, *]; omega)
  · have hz : ((b : Int) == 0) = false := by rw [beq_eq_false_iff_ne]; omega
    have hz2 : (b == 0) = false := by rw [beq_eq_false_iff_ne]; exact hb0
    have hz3 : ¬ ((b : Int) = 0) := by omega
    have q0 : a / b ≤ a := Nat.div_le_self _ _
    have q3 : a % b ≤ a := Nat.mod_le _ _
    have q1 : (a : Int) / (b : Int) % 4294967296 = (a : Int) / (b : Int) := by
      rw [← Int.natCast_ediv]
      clear hsub e1 e2 e3
      generalize a / b = q at *
      omega
    have q2 : (a : Int) % (b : Int) % 4294967296 = (a : Int) % (b : Int) := by
      rw [← Int.natCast_emod]
      clear hsub e1 e2 e3
      generalize a % b = q at *
      omega
    clear q0 q3
    go_enter Try.func84, Try.ntmps84
    go_wp2_with (go_at_call 91; refine (shift_any a b _ _ ha hb).mono ?_; rintro e w' ⟨rfl, rfl⟩)
    all_goals
      go_ret2
      refine ⟨ret_oper ?_ ?_, rfl⟩
      all_goals first
        | (simp [operV, *]; done)
        | (simp [operV, *]; omega)

/-- How many bytes a load reads. -/
def sizeV (c : Int) : Nat := if (c == 32 || c == 64) = true then 4 else if (c == 40 || c == 72) = true then 2 else 1

/-- A load from a place on: the number, the fault. -/
def readAtV (xs : List UInt8) (p S : Nat) : Nat × Int := if okB xs.length p S = true then (numAt xs p S, 0) else (0, 1)

end Go.Proofs.Ytgoiblnddfggbaa
