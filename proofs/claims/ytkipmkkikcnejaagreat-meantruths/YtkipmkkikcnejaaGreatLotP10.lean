/-
  The first bits of some bytes; the document's own Mask, same, Net, In. The document's own answers on codes: Jump, Operation, Load, ByX, Known, Class, Uses.
-/
import Derived.Test.YtkipmkkikcnejaaGreatLotP5
import Derived.Test.YtkipmkkikcnejaaGreatLotP2
namespace Go.Proofs.YtkipmkkikcnejaaGreat
open Go.RowKit
set_option maxRecDepth 100000

/-- The first n bits of a byte. -/
def topB (n : Nat) (x : UInt8) : UInt8 := if n = 0 then 0 else if n < 8 then UInt8.ofNat (x.toNat / 2 ^ (8 - n) * 2 ^ (8 - n)) else x
def maskV : Nat → List UInt8 → List UInt8
  | _, [] => []
  | n, x :: r => topB n x :: maskV (n - 8) r

theorem mask_len (n : Nat) (xs : List UInt8) : (maskV n xs).length = xs.length := by
  induction xs generalizing n with
  | nil => rfl
  | cons x r ih => rw [maskV, List.length_cons, List.length_cons, ih]
theorem mask_get (n : Nat) (xs : List UInt8) (j : Nat) (h : j < xs.length) : (maskV n xs)[j]'(by rw [mask_len]; exact h) = topB (n - 8 * j) xs[j] := by
  induction xs generalizing n j with
  | nil => simp at h
  | cons x r ih =>
    cases j with
    | zero => rfl
    | succ j =>
      simp only [maskV, List.getElem_cons_succ]
      rw [ih (n - 8) j (by simpa using h)]
      congr 1
      omega

/-- Masked up to a place. -/
def mixV (n : Nat) (xs : List UInt8) (j : Nat) : List UInt8 := (maskV n xs).take j ++ xs.drop j
theorem mix_len (n : Nat) (xs : List UInt8) (j : Nat) (h : j ≤ xs.length) : (mixV n xs j).length = xs.length := by
  unfold mixV
  rw [List.length_append, List.length_take, List.length_drop, mask_len]
  omega
theorem mix_next (n : Nat) (xs : List UInt8) (j : Nat) (h : j < xs.length) : mixV n xs (j + 1) = (mixV n xs j).set j (topB (n - 8 * j) xs[j]) := by
  have hl : (List.take j (maskV n xs)).length = j := by rw [List.length_take, mask_len]; omega
  unfold mixV
  rw [List.set_append_right _ _ (by omega), hl, Nat.sub_self, List.drop_eq_getElem_cons h, List.set_cons_zero, List.take_succ_eq_append_getElem (by rw [mask_len]; exact h), mask_get n xs j h]
  simp
theorem mix_at (n : Nat) (xs : List UInt8) (j : Nat) (h : j < xs.length) : (mixV n xs j)[j]? = some xs[j] := by
  unfold mixV
  rw [List.getElem?_append_right (by rw [List.length_take, mask_len]; omega), List.length_take, mask_len, show j - min j xs.length = 0 by omega, List.getElem?_drop, Nat.add_zero, List.getElem?_eq_getElem h]

theorem set_same {α : Type} (l : List α) (j : Nat) (v : α) (h : l[j]? = some v) : l.set j v = l := by
  apply List.ext_getElem?
  intro i
  rw [List.getElem?_set]
  by_cases e : j = i
  · subst e
    rw [if_pos rfl, h]
    obtain ⟨hlt, -⟩ := List.getElem?_eq_some_iff.1 h
    simp [hlt]
  · rw [if_neg e]

theorem andNot_top : ∀ (x : Fin 256) (m : Fin 7), bits .andNot .u8 ((x.val : Nat) : Int) (((2 ^ (m.val + 1) - 1 : Nat)) : Int) = ((x.val / 2 ^ (m.val + 1) * 2 ^ (m.val + 1) : Nat) : Int) := by decide +kernel

set_option maxRecDepth 100000 in
set_option maxHeartbeats 2000000 in
theorem refmask_any (a : Option Addr) (ca : Nat) (xs : List UInt8) (n : Nat) (w : World) (ha : Cells w a xs) (hc0 : a = none → ca = 0) (hx : xs.length ≤ 16) (hn : n ≤ 128) :
    Calls Tryz.prog 177 #[.slice a xs.length ca, .int .i64 (n : Int)] w fun e w' => ∃ v, e = .returned v ∧ Owns w' w.heap.size v (maskV n xs) ∧ w.grownBy w' none := by
  obtain ⟨i0, hi, hz0, hz1, hz2⟩ := info_parts info5
  have H : Hid (Cells w a xs) := ha
  clear ha
  go_enter Tryz.func177, Tryz.ntmps177
  go_wp2_with (at_builtin; refine wpList_append_cv rfl (.tmp 8) (.tmp 9) 25 rfl 5 i0 (.int .u8 0) 1 1 Tryz.underlying25 hi hz0 hz1 hz2 rfl (by decide) w.heap.size _ 0 [] rfl ?q1 a xs.length ca (xs.map bv) rfl (by simp) hc0 ?q2 (bv_one xs) ?q3 ?q4 ?q5 ?q6)
  case q1 => exact World.ownsRow_made w #[] 0 (Nat.le_refl _) (Nat.zero_le _) rfl
  case q2 => exact H.out.cv.keptNone (World.grownBy_alloc _ _ _)
  case q3 => unfold maxLen; omega
  case q4 => omega
  case q5 => simp
  case q6 =>
    intro v w1 O1 K1
    have G1 : w.grownBy w1 none := grown_trans_new (World.grownBy_alloc w _ _) K1 (by intro x hx; simp [Value.ownBlock] at hx; omega)
    have O2 : Owns w1 w.heap.size v (mixV n xs 0) := by
      have e : mixV n xs 0 = xs := by simp [mixV]
      rw [e]
      simpa using O1
    clear O1 K1
    obtain ⟨ao, cap, rfl, -⟩ := cv_of_row O2
    rw [mix_len n xs 0 (Nat.zero_le _)] at O2
    rw [mix_len n xs 0 (Nat.zero_le _)]
    have O3 : w1.ownsRow w.heap.size 5 1 (.slice ao xs.length cap) xs.length ((mixV n xs 0).map bv) := by
      have := O2
      unfold Owns at this
      rw [mix_len n xs 0 (Nat.zero_le _)] at this
      exact this
    clear O2
    go_wp2
    go_loopw [6] (fun i wr => ∃ j : Nat, j ≤ xs.length ∧ i = .int .i64 j ∧ wr.ownsRow w.heap.size 5 1 (.slice ao xs.length cap) xs.length ((mixV n xs j).map bv) ∧ w.grownBy wr none) (fun i _ => xs.length - (intOf i).toNat)
    case atStart => exact ⟨0, Nat.zero_le _, rfl, O3, G1⟩
    case round =>
      clear O3 G1
      obtain ⟨j, hj, rfl, O, G⟩ := hrel
      by_cases hlt : j < xs.length
      · have hlt' : (j : Int) < (xs.length : Int) := by omega
        obtain ⟨g, cap', hv, -, -, hg, -⟩ := owns_head O (by omega)
        injection hv with hv1 hv2 hv3
        subst hv1
        clear hv2 hv3
        have bl := (BlkN.ofRow O).1
        have hfr := bl.free j
        have hcell : wr.cell? ⟨g, j, none⟩ = some (.int .u8 (xs[j].toNat : Int)) := by
          have := O.cells (g := g) rfl j (.int .u8 (xs[j].toNat : Int)) (by rw [List.getElem?_map, mix_at n xs j hlt]; rfl)
          rw [Addr.add_lit, Nat.zero_add] at this
          exact this
        have HN : Hid (∀ u : Nat, u < 256 → topB (n - 8 * j) xs[j] = UInt8.ofNat u → (wr.setCell ⟨g, j, none⟩ (.int .u8 (u : Int))).ownsRow w.heap.size 5 1 (.slice (some ⟨g, 0, none⟩) xs.length cap) xs.length ((mixV n xs (j + 1)).map bv)) := fun u hu e => by
          have := (O.stored j (.int .u8 (u : Int))).1
          rw [mix_next n xs j hlt, List.map_set, e]
          have e2 : bv (UInt8.ofNat u) = .int .u8 (u : Int) := by
            unfold bv
            rw [UInt8.toNat_ofNat_of_lt' (by simpa using hu)]
          rw [e2]
          exact this
        have hb := xs[j].toNat_lt
        have HO : Hid (wr.ownsRow w.heap.size 5 1 (.slice (some ⟨g, 0, none⟩) xs.length cap) xs.length ((mixV n xs j).map bv)) := O
        clear bl O
        by_cases h0 : (n : Int) - 8 * (j : Int) ≤ 0
        · have R2 := HN.out 0 (by decide) (by rw [topB, if_pos (by omega)]; rfl)
          have G2 := grown_setCell G ⟨g, j, none⟩ (.int .u8 ((0 : Nat) : Int)) (.inr hg)
          rw [show ((0 : Nat) : Int) = 0 from rfl] at R2 G2
          clear HN
          go_wp2
          go_roundw
          case rel => exact ⟨j + 1, by omega, by go_num, R2, G2⟩
          case measure => simp [intOf]; omega
        · by_cases h8 : (n : Int) - 8 * (j : Int) < 8
          · have hs : (n : Int) - 8 * (j : Int) = 1 ∨ (n : Int) - 8 * (j : Int) = 2 ∨ (n : Int) - 8 * (j : Int) = 3 ∨ (n : Int) - 8 * (j : Int) = 4 ∨ (n : Int) - 8 * (j : Int) = 5 ∨ (n : Int) - 8 * (j : Int) = 6 ∨ (n : Int) - 8 * (j : Int) = 7 := by omega
            have HT : Hid (∀ m : Fin 7, (n : Int) - 8 * (j : Int) = 7 - (m.val : Int) → topB (n - 8 * j) xs[j] = UInt8.ofNat (xs[j].toNat / 2 ^ (m.val + 1) * 2 ^ (m.val + 1))) := fun m hm => by
              rw [topB, if_neg (by omega), if_pos (by omega), show 8 - (n - 8 * j) = m.val + 1 by omega]
            have HB : Hid (∀ m : Fin 7, bits .andNot .u8 (xs[j].toNat : Int) (((2 ^ (m.val + 1) - 1 : Nat)) : Int) = ((xs[j].toNat / 2 ^ (m.val + 1) * 2 ^ (m.val + 1) : Nat) : Int)) := fun m => andNot_top ⟨xs[j].toNat, by omega⟩ m
            generalize xs[j] = x at *
            clear h0 h8
            rcases hs with hL | hL | hL | hL | hL | hL | hL
            · have e := HT.out 6 (by rw [hL]; rfl)
              have hb6 := HB.out 6
              obtain ⟨u, hu, hu8⟩ : ∃ u : Nat, x.toNat / 2 ^ ((6 : Fin 7).val + 1) * 2 ^ ((6 : Fin 7).val + 1) = u ∧ u < 256 := ⟨_, rfl, Nat.lt_of_le_of_lt (Nat.div_mul_le_self _ _) hb⟩
              rw [hu] at e hb6
              have R2 := HN.out u hu8 e
              have G2 := grown_setCell G ⟨g, j, none⟩ (.int .u8 (u : Int)) (.inr hg)
              rw [show (((2 ^ ((6 : Fin 7).val + 1) - 1 : Nat)) : Int) = 127 from rfl] at hb6
              clear HN HT HB hu e
              go_wp2
              go_region
              all_goals
                go_wp2
                go_roundw
                case rel => exact ⟨j + 1, by omega, by go_num, R2.drew, grown_trans G2 (grown_drewN _ 1 none)⟩
                case measure => simp [intOf]; omega
            · have e := HT.out 5 (by rw [hL]; rfl)
              have hb6 := HB.out 5
              obtain ⟨u, hu, hu8⟩ : ∃ u : Nat, x.toNat / 2 ^ ((5 : Fin 7).val + 1) * 2 ^ ((5 : Fin 7).val + 1) = u ∧ u < 256 := ⟨_, rfl, Nat.lt_of_le_of_lt (Nat.div_mul_le_self _ _) hb⟩
              rw [hu] at e hb6
              have R2 := HN.out u hu8 e
              have G2 := grown_setCell G ⟨g, j, none⟩ (.int .u8 (u : Int)) (.inr hg)
              rw [show (((2 ^ ((5 : Fin 7).val + 1) - 1 : Nat)) : Int) = 63 from rfl] at hb6
              clear HN HT HB hu e
              go_wp2
              go_region
              all_goals
                go_wp2
                go_roundw
                case rel => exact ⟨j + 1, by omega, by go_num, R2.drew, grown_trans G2 (grown_drewN _ 1 none)⟩
                case measure => simp [intOf]; omega
            · have e := HT.out 4 (by rw [hL]; rfl)
              have hb6 := HB.out 4
              obtain ⟨u, hu, hu8⟩ : ∃ u : Nat, x.toNat / 2 ^ ((4 : Fin 7).val + 1) * 2 ^ ((4 : Fin 7).val + 1) = u ∧ u < 256 := ⟨_, rfl, Nat.lt_of_le_of_lt (Nat.div_mul_le_self _ _) hb⟩
              rw [hu] at e hb6
              have R2 := HN.out u hu8 e
              have G2 := grown_setCell G ⟨g, j, none⟩ (.int .u8 (u : Int)) (.inr hg)
              rw [show (((2 ^ ((4 : Fin 7).val + 1) - 1 : Nat)) : Int) = 31 from rfl] at hb6
              clear HN HT HB hu e
              go_wp2
              go_region
              all_goals
                go_wp2
                go_roundw
                case rel => exact ⟨j + 1, by omega, by go_num, R2.drew, grown_trans G2 (grown_drewN _ 1 none)⟩
                case measure => simp [intOf]; omega
            · have e := HT.out 3 (by rw [hL]; rfl)
              have hb6 := HB.out 3
              obtain ⟨u, hu, hu8⟩ : ∃ u : Nat, x.toNat / 2 ^ ((3 : Fin 7).val + 1) * 2 ^ ((3 : Fin 7).val + 1) = u ∧ u < 256 := ⟨_, rfl, Nat.lt_of_le_of_lt (Nat.div_mul_le_self _ _) hb⟩
              rw [hu] at e hb6
              have R2 := HN.out u hu8 e
              have G2 := grown_setCell G ⟨g, j, none⟩ (.int .u8 (u : Int)) (.inr hg)
              rw [show (((2 ^ ((3 : Fin 7).val + 1) - 1 : Nat)) : Int) = 15 from rfl] at hb6
              clear HN HT HB hu e
              go_wp2
              go_region
              all_goals
                go_wp2
                go_roundw
                case rel => exact ⟨j + 1, by omega, by go_num, R2.drew, grown_trans G2 (grown_drewN _ 1 none)⟩
                case measure => simp [intOf]; omega
            · have e := HT.out 2 (by rw [hL]; rfl)
              have hb6 := HB.out 2
              obtain ⟨u, hu, hu8⟩ : ∃ u : Nat, x.toNat / 2 ^ ((2 : Fin 7).val + 1) * 2 ^ ((2 : Fin 7).val + 1) = u ∧ u < 256 := ⟨_, rfl, Nat.lt_of_le_of_lt (Nat.div_mul_le_self _ _) hb⟩
              rw [hu] at e hb6
              have R2 := HN.out u hu8 e
              have G2 := grown_setCell G ⟨g, j, none⟩ (.int .u8 (u : Int)) (.inr hg)
              rw [show (((2 ^ ((2 : Fin 7).val + 1) - 1 : Nat)) : Int) = 7 from rfl] at hb6
              clear HN HT HB hu e
              go_wp2
              go_region
              all_goals
                go_wp2
                go_roundw
                case rel => exact ⟨j + 1, by omega, by go_num, R2.drew, grown_trans G2 (grown_drewN _ 1 none)⟩
                case measure => simp [intOf]; omega
            · have e := HT.out 1 (by rw [hL]; rfl)
              have hb6 := HB.out 1
              obtain ⟨u, hu, hu8⟩ : ∃ u : Nat, x.toNat / 2 ^ ((1 : Fin 7).val + 1) * 2 ^ ((1 : Fin 7).val + 1) = u ∧ u < 256 := ⟨_, rfl, Nat.lt_of_le_of_lt (Nat.div_mul_le_self _ _) hb⟩
              rw [hu] at e hb6
              have R2 := HN.out u hu8 e
              have G2 := grown_setCell G ⟨g, j, none⟩ (.int .u8 (u : Int)) (.inr hg)
              rw [show (((2 ^ ((1 : Fin 7).val + 1) - 1 : Nat)) : Int) = 3 from rfl] at hb6
              clear HN HT HB hu e
              go_wp2
              go_region
              all_goals
                go_wp2
                go_roundw
                case rel => exact ⟨j + 1, by omega, by go_num, R2.drew, grown_trans G2 (grown_drewN _ 1 none)⟩
                case measure => simp [intOf]; omega
            · have e := HT.out 0 (by rw [hL]; rfl)
              have hb6 := HB.out 0
              obtain ⟨u, hu, hu8⟩ : ∃ u : Nat, x.toNat / 2 ^ ((0 : Fin 7).val + 1) * 2 ^ ((0 : Fin 7).val + 1) = u ∧ u < 256 := ⟨_, rfl, Nat.lt_of_le_of_lt (Nat.div_mul_le_self _ _) hb⟩
              rw [hu] at e hb6
              have R2 := HN.out u hu8 e
              have G2 := grown_setCell G ⟨g, j, none⟩ (.int .u8 (u : Int)) (.inr hg)
              rw [show (((2 ^ ((0 : Fin 7).val + 1) - 1 : Nat)) : Int) = 1 from rfl] at hb6
              clear HN HT HB hu e
              go_wp2
              go_region
              all_goals
                go_wp2
                go_roundw
                case rel => exact ⟨j + 1, by omega, by go_num, R2.drew, grown_trans G2 (grown_drewN _ 1 none)⟩
                case measure => simp [intOf]; omega
          · have e : topB (n - 8 * j) xs[j] = xs[j] := by
              rw [topB, if_neg (by omega), if_neg (by omega)]
            have R2 : wr.ownsRow w.heap.size 5 1 (.slice (some ⟨g, 0, none⟩) xs.length cap) xs.length ((mixV n xs (j + 1)).map bv) := by
              rw [mix_next n xs j hlt, e, set_same _ j _ (mix_at n xs j hlt)]
              exact HO.out
            clear HN e HO
            go_wp2
            go_roundw
            case rel => exact ⟨j + 1, by omega, by go_num, R2, G⟩
            case measure => simp [intOf]; omega
      · obtain rfl : j = xs.length := by omega
        have HE : Hid (mixV n xs xs.length = maskV n xs) := by
          show _ = _
          unfold mixV
          rw [List.take_of_length_le (by rw [mask_len]; omega), List.drop_length, List.append_nil]
        go_wp2
        go_ret
        refine ⟨_, rfl, ?_, G⟩
        unfold Owns
        rw [mask_len, ← HE.out]
        exact O

set_option maxHeartbeats 1000000 in
theorem refbsame_any (a b : Option Addr) (ca cb : Nat) (xs ys : List UInt8) (w : World) (ha : Cells w a xs) (hb : Cells w b ys) (hl : xs.length = ys.length) (hm : xs.length ≤ 1048576) :
    Calls Tryz.prog 176 #[.slice a xs.length ca, .slice b ys.length cb] w fun e w' => e = .returned (.bool (decide (xs = ys))) ∧ ∃ n, w' = w.drewN n := by
  have HL : Hid (xs.length = ys.length) := hl
  clear hl
  go_enter Tryz.func176, Tryz.ntmps176
  go_wp2
  go_loopw [5] (fun i wr => ∃ k : Nat, k ≤ xs.length ∧ i = .int .i64 k ∧ Hid (xs.take k = ys.take k) ∧ ∃ n, wr = w.drewN n) (fun i _ => xs.length - (intOf i).toNat)
  case atStart => exact ⟨0, Nat.zero_le _, rfl, rfl, 0, rfl⟩
  case round =>
    obtain ⟨k, hk, rfl, HT, n, rfl⟩ := hrel
    by_cases hlt : k < xs.length
    · have hly : k < ys.length := by have := HL.out; omega
      obtain ⟨b1, o1, rfl, h1⟩ := ha.addr hlt
      obtain ⟨b2, o2, rfl, h2⟩ := hb.addr hly
      have c1 := h1 k hlt
      have c2 := h2 k hly
      have hl1 : (k : Int) < (xs.length : Int) := by omega
      have hl2 : (k : Int) < (ys.length : Int) := by omega
      have x1 := xs[k].toNat_lt
      have x2 := ys[k].toNat_lt
      clear ha hb h1 h2
      by_cases he : xs[k] = ys[k]
      · have HN : Hid (xs.take (k + 1) = ys.take (k + 1)) := by
          show _ = _
          rw [List.take_succ_eq_append_getElem hlt, List.take_succ_eq_append_getElem hly, HT.out, he]
        have hne : ((xs[k].toNat : Int) != (ys[k].toNat : Int)) = false := by rw [he]; simp
        clear HT he
        generalize xs[k].toNat = p at *
        generalize ys[k].toNat = q at *
        go_wp2
        go_quiet (fail)
        go_wp2
        go_roundw
        case rel => exact ⟨k + 1, by omega, by go_num, HN, _, by rfl⟩
        case measure => simp [intOf]; omega
      · have HN : Hid (decide (xs = ys) = false) := by
          show _ = _
          rw [decide_eq_false_iff_not]
          intro e
          apply he
          subst e
          rfl
        have hne : ((xs[k].toNat : Int) != (ys[k].toNat : Int)) = true := by
          rw [bne_iff_ne]
          intro e
          exact he (UInt8.toNat_inj.1 (by omega))
        clear HT he
        generalize xs[k].toNat = p at *
        generalize ys[k].toNat = q at *
        go_wp2
        go_quiet (fail)
        go_wp2
        go_ret
        exact ⟨ret_bool HN.out.symm, n + nq, by simp [World.drewN, Nat.add_assoc]⟩
    · obtain rfl : k = xs.length := by omega
      have HN : Hid (decide (xs = ys) = true) := by
        show _ = _
        rw [decide_eq_true_iff]
        have := HT.out
        rw [List.take_length, HL.out, List.take_length] at this
        exact this
      go_wp2
      go_ret
      exact ⟨ret_bool HN.out.symm, n, rfl⟩

/-- P6.3. -/
def netE (n : Nat) (bits : Int) : Int := if n ≠ 4 ∧ n ≠ 16 then 60 else if bits < 0 ∨ 8 * (n : Int) < bits then 61 else 0
def netV (xs : List UInt8) (bits : Int) : List UInt8 := if netE xs.length bits = 0 then maskV bits.toNat xs else []
/-- P6.4. -/
def inE (xs ys : List UInt8) (bits : Int) : Int := if ys.length ≠ xs.length then 60 else if netE xs.length bits = 0 then (if maskV bits.toNat ys = ys then 0 else 62) else netE xs.length bits
def inV (xs ys : List UInt8) (bits : Int) : Bool := decide (inE xs ys bits = 0) && decide (maskV bits.toNat xs = ys)

theorem netE_ok {n : Nat} {bits : Int} (h : netE n bits = 0) : (n = 4 ∨ n = 16) ∧ 0 ≤ bits ∧ bits ≤ 8 * (n : Int) := by
  unfold netE at h
  split at h
  · simp at h
  · split at h
    · simp at h
    · omega

set_option maxHeartbeats 2000000 in
theorem refin_any (a : Option Addr) (ca : Nat) (xs : List UInt8) (b : Option Addr) (cb : Nat) (ys : List UInt8) (bits : Int) (w : World) (ha : Cells w a xs) (hc0 : a = none → ca = 0) (hx : xs.length ≤ 140737488355328) (hb : Cells w b ys) (hd0 : b = none → cb = 0) :
    Calls Tryz.prog 150 #[.slice a xs.length ca, .slice b ys.length cb, .int .i64 bits] w fun e w' => e = .returned (.tuple #[.bool (inV xs ys bits), .int .i64 (inE xs ys bits)]) ∧ w.grownBy w' none := by
  by_cases h4 : xs.length ≠ 4 ∧ xs.length ≠ 16
  · have e : inE xs ys bits = 60 := by
      rw [inE]
      split
      · rfl
      · have e : netE xs.length bits = 60 := by rw [netE, if_pos h4]
        rw [e, if_neg (by decide)]
    have e2 : inV xs ys bits = false := by rw [inV, e]; rfl
    rw [e, e2]
    have b1 : ((xs.length : Int) != 4) = true := by rw [bne_iff_ne]; omega
    have b2 : ((xs.length : Int) != 16) = true := by rw [bne_iff_ne]; omega
    clear ha hb e e2
    go_enter Tryz.func150, Tryz.ntmps150
    go_wp2
    go_ret2
    exact ⟨rfl, World.grownBy.refl _ _⟩
  · have hlen : xs.length = 4 ∨ xs.length = 16 := by omega
    have hbx : ((xs.length : Int) != 4) = false ∨ (((xs.length : Int) != 4) = true ∧ ((xs.length : Int) != 16) = false) := by
      rcases hlen with h | h
      · left; rw [h]; rfl
      · right; rw [h]; exact ⟨rfl, rfl⟩
    have hl16 : xs.length ≤ 16 := by omega
    by_cases hne : ys.length = xs.length
    case neg =>
      have e : inE xs ys bits = 60 := by rw [inE, if_pos hne]
      have e2 : inV xs ys bits = false := by rw [inV, e]; rfl
      rw [e, e2]
      have hy3 : ((ys.length : Int) != (xs.length : Int)) = true := by rw [bne_iff_ne]; omega
      clear ha hb e e2 h4 hlen hne
      rcases hbx with hb1 | ⟨hb1, hb2⟩
      all_goals
        go_enter Tryz.func150, Tryz.ntmps150
        go_wp2
        go_ret2
        exact ⟨rfl, World.grownBy.refl _ _⟩
    case pos =>
      have HNE : Hid (ys.length = xs.length) := hne
      have hy3 : ((ys.length : Int) != (xs.length : Int)) = false := by rw [hne]; simp
      by_cases hbad : bits < 0 ∨ 8 * (xs.length : Int) < bits
      · have en : netE xs.length bits = 61 := by rw [netE, if_neg h4, if_pos hbad]
        have e : inE xs ys bits = 61 := by rw [inE, if_neg (fun h => h hne), en, if_neg (by decide)]
        have e2 : inV xs ys bits = false := by rw [inV, e]; rfl
        rw [e, e2]
        have hbb : bits < 0 ∨ (¬ bits < 0 ∧ 8 * (xs.length : Int) < bits) := by omega
        clear ha hb e e2 en h4 hlen hbad hne
        rcases hbx with hb1 | ⟨hb1, hb2⟩
        all_goals
          rcases hbb with hq | ⟨hq, hq2⟩
          all_goals
            go_enter Tryz.func150, Tryz.ntmps150
            go_wp2
            go_ret2
            exact ⟨rfl, World.grownBy.refl _ _⟩
      · have en : netE xs.length bits = 0 := by rw [netE, if_neg h4, if_neg hbad]
        have hE : inE xs ys bits = if maskV bits.toNat ys = ys then 0 else 62 := by rw [inE, if_neg (fun h => h hne), if_pos en]
        have hq : ¬ bits < 0 := by omega
        have hq2 : ¬ 8 * (xs.length : Int) < bits := by omega
        obtain ⟨n, rfl⟩ := Int.eq_ofNat_of_zero_le (show 0 ≤ bits by omega)
        rw [Int.toNat_natCast] at hE
        have HB : Hid (Cells w b ys) := hb
        have HA : Hid (Cells w a xs) := ha
        have CM := fun W h => refmask_any b cb ys n W h hd0 (by omega) (by omega)
        have CM2 := fun W h => refmask_any a ca xs n W h hc0 (by omega) (by omega)
        have HCM : Hid (∀ (W : World), Cells W b ys → Calls Tryz.prog 177 #[.slice b ys.length cb, .int .i64 (n : Int)] W fun e w' => ∃ v, e = .returned v ∧ Owns w' W.heap.size v (maskV n ys) ∧ W.grownBy w' none) := CM
        have HCM2 : Hid (∀ (W : World), Cells W a xs → Calls Tryz.prog 177 #[.slice a xs.length ca, .int .i64 (n : Int)] W fun e w' => ∃ v, e = .returned v ∧ Owns w' W.heap.size v (maskV n xs) ∧ W.grownBy w' none) := CM2
        have HML : Hid ((maskV n ys).length = ys.length ∧ (maskV n xs).length = ys.length) := ⟨mask_len _ _, by rw [mask_len]; exact hne.symm⟩
        clear CM CM2 ha hb h4 hlen hbad hne en
        by_cases hm : maskV n ys = ys
        · have e : inE xs ys (n : Int) = 0 := by rw [hE, if_pos hm]
          have e2 : inV xs ys (n : Int) = decide (maskV n xs = ys) := by rw [inV, e, Int.toNat_natCast]; simp
          rw [e, e2]
          have HM : Hid (decide (maskV n ys = ys) = true) := decide_eq_true hm
          clear e e2 hE hm
          generalize maskV n xs = mx at *
          generalize maskV n ys = my at *
          rcases hbx with hb1 | ⟨hb1, hb2⟩
          all_goals
            go_enter Tryz.func150, Tryz.ntmps150
            go_wp2_with fail
            refine (HCM.out _ HB.out).mono ?_
            rintro e w1 ⟨v, rfl, O, G⟩
            obtain ⟨ao, cap, rfl, hc, -⟩ := O.rd
            go_wp2_with fail
            refine (refbsame_any ao b cap cb my ys _ hc (HB.out.keptNone G) HML.out.1 (by have := HML.out.1; have := HNE.out; omega)).mono ?_
            rintro e w2 ⟨rfl, n1, rfl⟩
            rw [HM.out]
            have G2 := grown_trans G (grown_drewN w1 n1 none)
            clear hc O G
            generalize w1.drewN n1 = w3 at *
            go_wp2_with fail
            refine (HCM2.out _ (HA.out.keptNone G2)).mono ?_
            rintro e w4 ⟨v4, rfl, O4, G4⟩
            obtain ⟨ao4, cap4, rfl, hc4, -⟩ := O4.rd
            go_wp2_with fail
            refine (refbsame_any ao4 b cap4 cb mx ys _ hc4 (HB.out.keptNone (grown_trans G2 G4)) HML.out.2 (by have := HML.out.2; have := HNE.out; omega)).mono ?_
            rintro e w5 ⟨rfl, n2, rfl⟩
            go_wp2
            go_ret2
            exact ⟨rfl, grown_trans (grown_trans G2 G4) (grown_drewN w4 n2 none)⟩
        · have e : inE xs ys (n : Int) = 62 := by rw [hE, if_neg hm]
          have e2 : inV xs ys (n : Int) = false := by rw [inV, e]; rfl
          rw [e, e2]
          have HM : Hid (decide (maskV n ys = ys) = false) := decide_eq_false hm
          clear e e2 hE hm
          generalize maskV n ys = my at *
          rcases hbx with hb1 | ⟨hb1, hb2⟩
          all_goals
            go_enter Tryz.func150, Tryz.ntmps150
            go_wp2_with fail
            refine (HCM.out _ HB.out).mono ?_
            rintro e w1 ⟨v, rfl, O, G⟩
            obtain ⟨ao, cap, rfl, hc, -⟩ := O.rd
            go_wp2_with fail
            refine (refbsame_any ao b cap cb my ys _ hc (HB.out.keptNone G) HML.out.1 (by have := HML.out.1; have := HNE.out; omega)).mono ?_
            rintro e w2 ⟨rfl, n1, rfl⟩
            rw [HM.out]
            go_wp2
            go_ret2
            exact ⟨rfl, grown_trans G (grown_drewN w1 n1 none)⟩

end Go.Proofs.YtkipmkkikcnejaaGreat

namespace Go.Proofs.YtkipmkkikcnejaaGreat
open Go.RowKit
set_option maxRecDepth 100000

def jumpB (c : Int) : Bool := c == 21 || c == 29 || c == 37 || c == 45 || c == 53 || c == 61 || c == 69 || c == 77
def operB (c : Int) : Bool := c == 4 || c == 12 || c == 20 || c == 28 || c == 36 || c == 44 || c == 52 || c == 60 || c == 68 || c == 76 || c == 84 || c == 92 || c == 100 || c == 108 || c == 116 || c == 124 || c == 148 || c == 156 || c == 164 || c == 172
def loadB (c : Int) : Bool := c == 32 || c == 40 || c == 48 || c == 64 || c == 72 || c == 80 || c == 177
def plainB (c : Int) : Bool := (c == 0 || c == 32 || c == 40 || c == 48 || c == 64 || c == 72 || c == 80 || c == 96 || c == 128) || (c == 1 || c == 97 || c == 129 || c == 177 || c == 2 || c == 3 || c == 132 || c == 6 || c == 22 || c == 7 || c == 135 || c == 5)
def knownB (c : Int) : Bool := plainB c || (jumpB c || operB c)

/-- Its bit 8. -/
def bit8 (c : Int) : Bool := bits .and .u16 c 8 != 0
def byxB (c : Int) : Bool := (jumpB c || operB c) && bit8 c

/-- What Class says. -/
def classV (c : Int) : Int := if knownB c = true then c % 8 else -1

theorem and7 (c : Int) (h0 : 0 ≤ c) (h1 : c ≤ 65535) : bits .and .u16 c 7 = c % 8 := by
  obtain ⟨n, rfl⟩ := Int.eq_ofNat_of_zero_le h0
  have h := u16_and_nat n 7 (by omega) (by omega)
  rw [show n &&& 7 = n % 8 from Nat.and_two_pow_sub_one_eq_mod n 3] at h
  rw [show (7 : Int) = ((7 : Nat) : Int) by rfl, h]
  omega

/-- What Uses says, answer by answer. -/
def noKB (c : Int) : Bool := c == 128 || c == 129 || c == 132 || c == 22 || c == 7 || c == 135
def usesK (c : Int) : Bool := knownB c && (!byxB c && !noKB c)
def usesJ (c : Int) : Bool := knownB c && jumpB c
def usesF (c : Int) : Bool := knownB c && (loadB c || c == 60 || c == 156)

theorem cret_three {a b c x y z : Bool} (h1 : a = x) (h2 : b = y) (h3 : c = z) : Ending.returned (.tuple #[.bool a, .bool b, .bool c]) = .returned (.tuple #[.bool x, .bool y, .bool z]) := by rw [h1, h2, h3]

end Go.Proofs.YtkipmkkikcnejaaGreat
