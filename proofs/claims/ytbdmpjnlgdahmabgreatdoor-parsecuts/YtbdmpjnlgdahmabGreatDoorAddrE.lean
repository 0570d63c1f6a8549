/-
  Package addr: the numbers of a text (octet, group), and groups laid into bytes.
-/
import Derived.Test.YtbdmpjnlgdahmabGreatDoorLotP20
import Derived.Test.YtbdmpjnlgdahmabGreatDoorLotP30
import Derived.Test.YtbdmpjnlgdahmabGreatDoorLotP4
namespace Go.Proofs.YtbdmpjnlgdahmabGreatDoor
open Go.RowKit
set_option maxRecDepth 100000

theorem num_mono {m : Nat} : ∀ (v : Nat) (d : List UInt8) (n : Nat), numFrom m v d = some n → v ≤ n
  | v, [], n, h => by simp [numFrom] at h; omega
  | v, c :: d, n, h => by
    rw [numFrom] at h
    split at h
    · split at h
      · cases h
      · have := num_mono _ d n h; omega
    · cases h
/-- A number that is read up to b, then held against a. -/
theorem num_cut {a b : Nat} (hab : a ≤ b) : ∀ (d : List UInt8) (v : Nat), v ≤ a → numFrom a v d = (numFrom b v d).bind fun u => if a < u then none else some u
  | [], v, hv => by simp [numFrom]; omega
  | c :: d, v, hv => by
    rw [numFrom, numFrom]
    split
    · by_cases h1 : a < 10 * v + (c.toNat - 48)
      · rw [if_pos h1]
        split
        · rfl
        · cases hn : numFrom b (10 * v + (c.toNat - 48)) d with
          | none => rfl
          | some u =>
            have := num_mono _ d u hn
            simp only [Option.bind_some]
            rw [if_pos (by omega)]
      · rw [if_neg h1, if_neg (by omega)]
        exact num_cut hab d _ (by omega)
    · rfl

/-- What octet tells. -/
def OctPost (s : ByteArray) (e : Ending) : Prop := ∃ n : Nat, e = .returned (.tuple #[.int .u8 (n : Int), .bool (numberV 255 (sl s)).isSome]) ∧ n < 256 ∧ ∀ u, numberV 255 (sl s) = some u → n = u

theorem oct_none {s : ByteArray} {e : Ending} (h : numberV 255 (sl s) = none) (he : e = .returned (.tuple #[.int .u8 0, .bool false])) : OctPost s e :=
  ⟨0, by rw [h]; exact he, by decide, fun u hu => by rw [h] at hu; cases hu⟩

set_option maxHeartbeats 2000000 in
theorem octet_any (s : ByteArray) (w : World) :
    Calls Tryz.prog 91 #[.string s] w fun e w' => OctPost s e ∧ w = w' := by
  have hl := sl_len s
  by_cases h0 : s.size = 0
  · have hn : numberV 255 (sl s) = none := by
      have : sl s = [] := List.eq_nil_of_length_eq_zero (by rw [sl_len]; exact h0)
      simp [numberV, this]
    have HN : Hid (numberV 255 (sl s) = none) := hn
    have hq : (s.size : Int) < 1 := by omega
    clear hn
    go_enter Tryz.func91, Tryz.ntmps91
    go_wp2
    go_ret2
    exact ⟨oct_none HN.out rfl, rfl⟩
  · have hq : ¬ (s.size : Int) < 1 := by omega
    by_cases h3 : 3 < s.size
    · have hq3 : (3 : Int) < (s.size : Int) := by omega
      have hn : numberV 255 (sl s) = none := by
        rw [numberV]
        split
        · rfl
        · rename_i hh
          obtain ⟨a, b, c, d, r, hs⟩ : ∃ a b c d r, sl s = a :: b :: c :: d :: r := by
            match hm : sl s, hl with
            | a :: b :: c :: d :: r, _ => exact ⟨a, b, c, d, r, rfl⟩
            | [], hl => simp at hl; omega
            | [a], hl => simp at hl; omega
            | [a, b], hl => simp at hl; omega
            | [a, b, c], hl => simp at hl; omega
          rw [hs]
          simp only [hs, List.head?_cons, Option.some.injEq, List.length_cons] at hh
          have ha : a ≠ 48 := fun e => hh (.inr ⟨by omega, e⟩)
          simp only [numFrom]
          split
          · rename_i hd
            have h49 : 49 ≤ a.toNat := by
              have h48 : a.toNat ≠ 48 := fun e => ha (UInt8.toNat_inj.1 e)
              simp [isDig] at hd
              omega
            split
            · rfl
            · split
              · split
                · rfl
                · split
                  · split
                    · rfl
                    · split
                      · rw [if_pos (by omega)]
                      · rfl
                  · rfl
              · rfl
          · rfl
      have HN : Hid (numberV 255 (sl s) = none) := hn
      clear hn
      go_enter Tryz.func91, Tryz.ntmps91
      go_wp2
      go_ret2
      exact ⟨oct_none HN.out rfl, rfl⟩
    · have hq3 : ¬ (3 : Int) < (s.size : Int) := by omega
      obtain ⟨b, r, hbr⟩ : ∃ b r, sl s = b :: r := by
        cases h : sl s with
        | nil => rw [h] at hl; simp at hl; omega
        | cons b r => exact ⟨b, r, rfl⟩
      have hb0 : s[0]'(by omega) = b := by
        have := sl_drop s 0 (by omega)
        rw [hbr] at this
        simpa using this.symm
      by_cases hlead : 1 < s.size ∧ b = 48
      · have hn : numberV 255 (sl s) = none := by
          rw [numberV, if_pos]
          rw [hbr]
          right
          rw [hbr] at hl
          exact ⟨by omega, by rw [hlead.2]; rfl⟩
        have HN : Hid (numberV 255 (sl s) = none) := hn
        clear hn
        obtain ⟨h1, rfl⟩ := hlead
        have h1' : (1 : Int) < (s.size : Int) := by omega
        go_enter Tryz.func91, Tryz.ntmps91
        go_wp2
        go_ret2
        exact ⟨oct_none HN.out rfl, rfl⟩
      · have e : numberV 255 (sl s) = numFrom 255 0 (sl s) := by
          rw [numberV, if_neg]
          rw [hbr]
          rw [hbr] at hl
          simp only [reduceCtorEq, List.head?_cons, Option.some.injEq, false_or]
          intro ⟨x, y⟩
          exact hlead ⟨by omega, y⟩
        have e2 := num_cut (a := 255) (b := 999) (by decide) (sl s) 0 (by decide)
        have HE : Hid (numberV 255 (sl s) = (numFrom 999 0 (sl s)).bind fun u => if 255 < u then none else some u) := e.trans e2
        have hcase : ((b.toNat : Int) == 48) = false ∨ (((b.toNat : Int) == 48) = true ∧ ¬ (1 : Int) < (s.size : Int)) := by
          by_cases hb : b.toNat = 48
          · refine .inr ⟨by rw [hb]; rfl, fun h1 => hlead ⟨by omega, UInt8.toNat_inj.1 hb⟩⟩
          · refine .inl ?_
            rw [beq_eq_false_iff_ne]
            omega
        clear hlead hbr e e2
        rcases hcase with hcb | ⟨hcb, hca⟩
        all_goals
          go_enter Tryz.func91, Tryz.ntmps91
          go_wp2
          try clear hca
          clear hcb hb0
          go_loop [4, 26] (fun x i => ∃ k v : Nat, k ≤ s.size ∧ v < 10 ^ k ∧ i = .int .i64 k ∧ x = .int .i64 v ∧ Hid (numFrom 999 v ((sl s).drop k) = numFrom 999 0 (sl s))) (fun _ i => s.size - (intOf i).toNat)
          case atStart => exact ⟨0, 0, Nat.zero_le _, by decide, rfl, rfl, rfl⟩
          case round =>
            obtain ⟨k, v, hk, hv, rfl, rfl, HI⟩ := hrel
            by_cases hlt : k < s.size
            · have hki : (k : Int) < (s.size : Int) := by omega
              have HS : Hid ((sl s).drop k = s[k] :: (sl s).drop (k + 1)) := sl_drop s k hlt
              have hb := s[k].toNat_lt
              have hv99 : v ≤ 99 := by
                have : k = 0 ∨ k = 1 ∨ k = 2 := by omega
                rcases this with rfl | rfl | rfl <;> omega
              by_cases hd : isDig s[k] = true
              · have hd1 : 48 ≤ s[k].toNat := by simp [isDig] at hd; omega
                have hd2 : s[k].toNat ≤ 57 := by simp [isDig] at hd; omega
                have HN : Hid (numFrom 999 (10 * v + (s[k].toNat - 48)) ((sl s).drop (k + 1)) = numFrom 999 0 (sl s)) := by
                  show _ = _
                  rw [← HI.out, HS.out, numFrom, if_pos hd, if_neg (by omega)]
                have hv2 : 10 * v + (s[k].toNat - 48) < 10 ^ (k + 1) := by rw [Nat.pow_succ]; omega
                go_wp2
                go_round
                case rel => exact ⟨k + 1, 10 * v + (s[k].toNat - 48), by omega, hv2, by go_num, by rw [show ((10 * v + (s[k].toNat - 48) : Nat) : Int) = 10 * (v : Int) + ((s[k].toNat : Int) - 48) by omega], HN⟩
                case measure => simp [intOf]; omega
              · have HN : Hid (numberV 255 (sl s) = none) := by
                  show _ = none
                  rw [HE.out, ← HI.out, HS.out, numFrom, if_neg hd]
                  rfl
                have hd' : s[k].toNat < 48 ∨ 57 < s[k].toNat := by simp [isDig] at hd; omega
                rcases hd' with hd' | hd'
                all_goals
                  go_wp2
                  all_goals (first | (exfalso; omega) | (go_ret2; exact ⟨oct_none HN.out rfl, rfl⟩))
            · obtain rfl : k = s.size := by omega
              have HN : Hid (numberV 255 (sl s) = if 255 < v then none else some v) := by
                show _ = _
                rw [HE.out, ← HI.out, List.drop_eq_nil_of_le (by rw [sl_len]; omega)]
                rfl
              have hv999 : v ≤ 999 := by
                have : s.size = 1 ∨ s.size = 2 ∨ s.size = 3 := by omega
                rcases this with h | h | h <;> rw [h] at hv <;> omega
              by_cases h255 : v ≤ 255
              · have h255' : (v : Int) ≤ 255 := by omega
                go_wp2
                go_ret2
                exact ⟨⟨v, by rw [HN.out, if_neg (by omega)]; rfl, by omega, fun u hu => by rw [HN.out, if_neg (by omega)] at hu; exact Option.some.inj hu⟩, rfl⟩
              · have h255' : ¬ (v : Int) ≤ 255 := by omega
                have hw : IntKind.u8.wrap (v : Int) = ((v % 256 : Nat) : Int) := by rw [IntKind.wrap_u8]; omega
                go_wp2
                go_ret2
                exact ⟨⟨v % 256, by rw [HN.out, if_pos (by omega)]; first | rfl | (rw [← hw]; rfl), by omega, fun u hu => by rw [HN.out, if_pos (by omega)] at hu; cases hu⟩, rfl⟩

end Go.Proofs.YtbdmpjnlgdahmabGreatDoor
