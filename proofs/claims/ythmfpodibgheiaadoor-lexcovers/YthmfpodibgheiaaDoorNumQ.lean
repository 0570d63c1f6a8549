/-
  The document's own Number; rows of texts.
-/
import Derived.Test.YthmfpodibgheiaaDoorNum
import Derived.Test.YthmfpodibgheiaaDoorICopy
namespace Go.Proofs.YthmfpodibgheiaaDoor
open Go.RowKit
set_option maxRecDepth 100000

/-- The letters of a text. -/
def sl (s : ByteArray) : List UInt8 := s.data.toList

theorem sl_len (s : ByteArray) : (sl s).length = s.size := by simp [sl]
theorem sl_str (xs : List UInt8) : sl ⟨xs.toArray⟩ = xs := rfl
theorem str_sl (s : ByteArray) : Value.string s = str (sl s) := by simp [sl, str]
theorem sl_drop (s : ByteArray) (k : Nat) (hk : k < s.size) : (sl s).drop k = s[k] :: (sl s).drop (k + 1) := by
  rw [List.drop_eq_getElem_cons (by rw [sl_len]; exact hk)]
  rfl

theorem ret_num {a b : Int} {x y : Bool} (h : a = b) (h' : x = y) : Ending.returned (.tuple #[.int .u64 a, .bool x]) = .returned (.tuple #[.int .u64 b, .bool y]) := by rw [h, h']

set_option maxHeartbeats 1000000 in
theorem refnumber_any (s : ByteArray) (most : Nat) (w : World) (hs : s.size ≤ 9223372036854775807) (hm : most ≤ 1000000000000000000) :
    Calls Tryd.prog 35 #[.string s, .int .u64 most] w fun e w' => e = .returned (.tuple #[.int .u64 (((numberV most (sl s)).getD 0 : Nat) : Int), .bool (numberV most (sl s)).isSome]) ∧ w = w' := by
  by_cases h0 : s.size = 0
  · have e : numberV most (sl s) = none := by
      have : sl s = [] := List.eq_nil_of_length_eq_zero (by rw [sl_len]; exact h0)
      simp [numberV, this]
    rw [e]
    go_enter Tryd.func35, Tryd.ntmps35
    go_wp2
    all_goals (go_ret2; exact ⟨rfl, rfl⟩)
  · obtain ⟨b, r, hbr⟩ : ∃ b r, sl s = b :: r := by
      cases h : sl s with
      | nil => have := sl_len s; rw [h] at this; simp at this; omega
      | cons b r => exact ⟨b, r, rfl⟩
    have hb0 : s[0]'(by omega) = b := by
      have := sl_drop s 0 (by omega)
      rw [hbr] at this
      simpa using this.symm
    have hnb : (s.size == 0) = false := by simp [h0]
    by_cases hlead : 1 < s.size ∧ b = 48
    · have e : numberV most (sl s) = none := by
        rw [numberV, if_pos]
        rw [hbr]
        right
        have := sl_len s
        rw [hbr] at this
        exact ⟨by omega, by rw [hlead.2]; rfl⟩
      rw [e]
      obtain ⟨h1, rfl⟩ := hlead
      have h1' : (1 : Int) < (s.size : Int) := by omega
      go_enter Tryd.func35, Tryd.ntmps35
      go_wp2
      all_goals (go_ret2; exact ⟨rfl, rfl⟩)
    · have e : numberV most (sl s) = numFrom most 0 (sl s) := by
        rw [numberV, if_neg]
        rw [hbr]
        have := sl_len s
        rw [hbr] at this
        simp only [reduceCtorEq, List.head?_cons, Option.some.injEq, false_or]
        intro ⟨x, y⟩
        exact hlead ⟨by omega, y⟩
      rw [e]
      have HE : Hid (numFrom most 0 (sl s) = numFrom most 0 (sl s)) := rfl
      generalize hans : numFrom most 0 (sl s) = ans at *
      have HA : Hid (numFrom most 0 (sl s) = ans) := hans
      clear e hans HE
      have hz : ((s.size : Int) == 0) = false := by rw [beq_eq_false_iff_ne]; omega
      have hcase : (¬ (1 : Int) < (s.size : Int)) ∨ ((1 : Int) < (s.size : Int) ∧ ((b.toNat : Int) == 48) = false) := by
        by_cases h1 : 1 < s.size
        · refine .inr ⟨by omega, ?_⟩
          rw [beq_eq_false_iff_ne]
          intro hb
          refine hlead ⟨h1, UInt8.toNat_inj.1 ?_⟩
          simp
          omega
        · exact .inl (by omega)
      clear hlead hbr
      rcases hcase with hca | ⟨hca, hcb⟩
      all_goals
        go_enter Tryd.func35, Tryd.ntmps35
        go_wp2
        try clear hcb
        clear hca hb0 hz hnb
        go_loop [6, 7] (fun x i => ∃ k v : Nat, k ≤ s.size ∧ v ≤ most ∧ i = .int .i64 k ∧ x = .int .u64 v ∧ numFrom most v ((sl s).drop k) = ans) (fun _ i => s.size - (intOf i).toNat)
        case atStart => exact ⟨0, 0, Nat.zero_le _, Nat.zero_le _, rfl, rfl, HA.out⟩
        case round =>
          obtain ⟨k, v, hk, hv, rfl, rfl, hi⟩ := hrel
          have HI : Hid (numFrom most v ((sl s).drop k) = ans) := hi
          clear hi
          by_cases hlt : k < s.size
          · have hki : (k : Int) < (s.size : Int) := by omega
            have HD := sl_drop s k hlt
            have HS : Hid ((sl s).drop k = s[k] :: (sl s).drop (k + 1)) := HD
            clear HD
            have hb := s[k].toNat_lt
            by_cases hd : isDig s[k] = true
            · have hd1 : 48 ≤ s[k].toNat := by simp [isDig] at hd; omega
              have hd2 : s[k].toNat ≤ 57 := by simp [isDig] at hd; omega
              by_cases hbig : most < 10 * v + (s[k].toNat - 48)
              · have hans : ans = none := by rw [← HI.out, HS.out, numFrom]; simp [hd, hbig]
                rw [hans]
                go_wp2
                go_ret2
                exact ⟨rfl, rfl⟩
              · have hnext : numFrom most (10 * v + (s[k].toNat - 48)) ((sl s).drop (k + 1)) = ans := by rw [← HI.out, HS.out, numFrom]; simp [hd, hbig]
                have HN : Hid (numFrom most (10 * v + (s[k].toNat - 48)) ((sl s).drop (k + 1)) = ans) := hnext
                clear hnext
                go_wp2
                go_round
                case rel => exact ⟨k + 1, 10 * v + (s[k].toNat - 48), by omega, by omega, by go_num, by rw [show ((10 * v + (s[k].toNat - 48) : Nat) : Int) = 10 * (v : Int) + ((s[k].toNat : Int) - 48) by omega], HN.out⟩
                case measure => simp [intOf]; omega
            · have hans : ans = none := by rw [← HI.out, HS.out, numFrom]; simp [hd]
              have hd' : s[k].toNat < 48 ∨ 57 < s[k].toNat := by simp [isDig] at hd; omega
              rw [hans]
              rcases hd' with hd' | hd'
              all_goals
                go_wp2
                all_goals (first | (exfalso; omega) | (go_ret2; exact ⟨rfl, rfl⟩))
          · obtain rfl : k = s.size := by omega
            have hans : ans = some v := by
              rw [← HI.out, List.drop_eq_nil_of_le (by rw [sl_len]; omega)]; rfl
            rw [hans]
            go_wp2
            go_ret2
            exact ⟨rfl, rfl⟩

theorem sl_extract (s : ByteArray) (i k : Nat) : sl (s.extract i k) = ((sl s).drop i).take (k - i) := by
  simp [sl, ByteArray.data_extract, Array.toList_extract, List.extract]

theorem numFrom_le {most : Nat} : ∀ (v : Nat) (d : List UInt8) (n : Nat), v ≤ most → numFrom most v d = some n → n ≤ most
  | v, [], n, hv, h => by simp [numFrom] at h; omega
  | v, c :: d, n, hv, h => by
    rw [numFrom] at h
    split at h
    · split at h
      · cases h
      · exact numFrom_le _ d n (by omega) h
    · cases h

theorem numberV_le {most n : Nat} {d : List UInt8} (h : numberV most d = some n) : n ≤ most := by
  unfold numberV at h
  split at h
  · cases h
  · exact numFrom_le 0 d n (Nat.zero_le _) h

theorem sl_at (s : ByteArray) (j : Nat) (hj : j < s.size) : (sl s)[j]? = some s[j] := by
  rw [List.getElem?_eq_getElem (by rw [sl_len]; exact hj)]
  rfl
theorem take_grow (s : ByteArray) (g j : Nat) (hgj : g ≤ j) (hj : j < s.size) : ((sl s).drop g).take (j + 1 - g) = ((sl s).drop g).take (j - g) ++ [s[j]] := by
  rw [show j + 1 - g = (j - g) + 1 by omega, List.take_add_one, List.getElem?_drop, show g + (j - g) = j by omega, sl_at s j hj]
  rfl

theorem info9 : (Tryd.prog.info? 9).map (fun i => (i.zero, i.size, i.bytes)) = some (some (.string ⟨#[]⟩), 1, 16) := by kernel_rfl

abbrev SOwns (w : World) (base : Nat) (v : Value) (ls : List (List UInt8)) : Prop := w.ownsRow base 9 1 v ls.length (ls.map str)

end Go.Proofs.YthmfpodibgheiaaDoor
