/-
  The document's own Number, and the numbers in a text.
-/
import Derived.Test.YtcapmbeabfhjoaaDoorText
import Derived.Test.YtcapmbeabfhjoaaDoorICopy
namespace Go.Proofs.YtcapmbeabfhjoaaDoor
open Go.RowKit
set_option maxRecDepth 100000

/-- The letters of a text. -/
def sl (s : ByteArray) : List UInt8 := s.data.toList

theorem sl_len (s : ByteArray) : (sl s).length = s.size := by simp [sl]
theorem sl_str (xs : List UInt8) : sl ⟨xs.toArray⟩ = xs := rfl
theorem str_sl (s : ByteArray) : Value.string s = str (sl s) := by simp [sl, str]
theorem sl_drop (s : ByteArray) (k : Nat) (hk : k < s.size) : (sl s).drop k = s[k] :: (sl s).drop (k + 1) := by
  rw [List.drop_eq_getElem_cons (by rw [sl_len]; exact hk)]
  rfl

theorem ret_num {a b : Int} {x y : Bool} (h : a = b) (h' : x = y) : Ending.returned (.tuple #[.int .u64 a, .bool x]) = .returned (.tuple #[.int .u64 b, .bool y]) := by rw [h, h']

set_option maxHeartbeats 1000000 in
theorem refnumber_any (s : ByteArray) (most : Nat) (w : World) (hs : s.size ≤ 9223372036854775807) (hm : most ≤ 1000000000000000000) :
    Calls Tryd.prog 45 #[.string s, .int .u64 most] w fun e w' => e = .returned (.tuple #[.int .u64 (((numberV most (sl s)).getD 0 : Nat) : Int), .bool (numberV most (sl s)).isSome]) ∧ w = w' := by
  by_cases h0 : s.size = 0
  · have e : numberV most (sl s) = none := by
      have : sl s = [] := List.eq_nil_of_length_eq_zero (by rw [sl_len]; exact h0)
      simp [numberV, this]
    rw [e]
    go_enter Tryd.func45, Tryd.ntmps45
    go_wp2
    all_goals (go_ret2; exact ⟨rfl, rfl⟩)
  · obtain ⟨b, r, hbr⟩ : ∃ b r, sl s = b :: r := by
      cases h : sl s with
      | nil => have := sl_len s; rw [h] at this; simp at this; omega
      | cons b r => exact ⟨b, r, rfl⟩
    have hb0 : s[0]'(by omega) = b := by
      have := sl_drop s 0 (by omega)
      rw [hbr] at this
      simpa using this.symm
    have hnb : (s.size == 0) = false := by simp [h0]
    by_cases hlead : 1 < s.size ∧ b = 48
    · have e : numberV most (sl s) = none := by
        rw [numberV, if_pos]
        rw [hbr]
        right
        have := sl_len s
        rw [hbr] at this
        exact ⟨by omega, by rw [hlead.2]; rfl⟩
      rw [e]
      obtain ⟨h1, rfl⟩ := hlead
      have h1' : (1 : Int) < (s.size : Int) := by omega
      go_enter Tryd.func45, Tryd.ntmps45
      go_wp2
      all_goals (go_ret2; exact ⟨rfl, rfl⟩)
    · have e : numberV most (sl s) = numFrom most 0 (sl s) := by
        rw [numberV, if_neg]
        rw [hbr]
        have := sl_len s
        rw [hbr] at this
        simp only [reduceCtorEq, List.head?_cons, Option.some.injEq, false_or]
        intro ⟨x, y⟩
        exact hlead ⟨by omega, y⟩
      rw [e]
      have HE : Hid (numFrom most 0 (sl s) = numFrom most 0 (sl s)) := rfl
      generalize hans : numFrom most 0 (sl s) = ans at *
      have HA : Hid (numFrom most 0 (sl s) = ans) := hans
      clear e hans HE
      have hz : ((s.size : Int) == 0) = false := by rw [beq_eq_false_iff_ne]; omega
      have hcase : (¬ (1 : Int) < (s.size : Int)) ∨ ((1 : Int) < (s.size : Int) ∧ ((b.toNat : Int) == 48) = false) := by
        by_cases h1 : 1 < s.size
        · refine .inr ⟨by omega, ?_⟩
          rw [beq_eq_false_iff_ne]
          intro hb
          refine hlead ⟨h1, UInt8.toNat_inj.1 ?_⟩
          simp
          omega
        · exact .inl (by omega)
      clear hlead hbr
      rcases hcase with hca | ⟨hca, hcb⟩
      all_goals
        go_enter Tryd.func45, Tryd.ntmps45
        go_wp2
        try clear hcb
        clear hca hb0 hz hnb
        go_loop [6, 7] (fun x i => ∃ k v : Nat, k ≤ s.size ∧ v ≤ most ∧ i = .int .i64 k ∧ x = .int .u64 v ∧ numFrom most v ((sl s).drop k) = ans) (fun _ i => s.size - (intOf i).toNat)
        case atStart => exact ⟨0, 0, Nat.zero_le _, Nat.zero_le _, rfl, rfl, HA.out⟩
        case round =>
          obtain ⟨k, v, hk, hv, rfl, rfl, hi⟩ := hrel
          have HI : Hid (numFrom most v ((sl s).drop k) = ans) := hi
          clear hi
          by_cases hlt : k < s.size
          · have hki : (k : Int) < (s.size : Int) := by omega
            have HD := sl_drop s k hlt
            have HS : Hid ((sl s).drop k = s[k] :: (sl s).drop (k + 1)) := HD
            clear HD
            have hb := s[k].toNat_lt
            by_cases hd : isDig s[k] = true
            · have hd1 : 48 ≤ s[k].toNat := by simp [isDig] at hd; omega
              have hd2 : s[k].toNat ≤ 57 := by simp [isDig] at hd; omega
              by_cases hbig : most < 10 * v + (s[k].toNat - 48)
              · have hans : ans = none := by rw [← HI.out, HS.out, numFrom]; simp [hd, hbig]
                rw [hans]
                go_wp2
                go_ret2
                exact ⟨rfl, rfl⟩
              · have hnext : numFrom most (10 * v + (s[k].toNat - 48)) ((sl s).drop (k + 1)) = ans := by rw [← HI.out, HS.out, numFrom]; simp [hd, hbig]
                have HN : Hid (numFrom most (10 * v + (s[k].toNat - 48)) ((sl s).drop (k + 1)) = ans) := hnext
                clear hnext
                go_wp2
                go_round
                case rel => exact ⟨k + 1, 10 * v + (s[k].toNat - 48), by omega, by omega, by go_num, by rw [show ((10 * v + (s[k].toNat - 48) : Nat) : Int) = 10 * (v : Int) + ((s[k].toNat : Int) - 48) by omega], HN.out⟩
                case measure => simp [intOf]; omega
            · have hans : ans = none := by rw [← HI.out, HS.out, numFrom]; simp [hd]
              have hd' : s[k].toNat < 48 ∨ 57 < s[k].toNat := by simp [isDig] at hd; omega
              rw [hans]
              rcases hd' with hd' | hd'
              all_goals
                go_wp2
                all_goals (first | (exfalso; omega) | (go_ret2; exact ⟨rfl, rfl⟩))
          · obtain rfl : k = s.size := by omega
            have hans : ans = some v := by
              rw [← HI.out, List.drop_eq_nil_of_le (by rw [sl_len]; omega)]; rfl
            rw [hans]
            go_wp2
            go_ret2
            exact ⟨rfl, rfl⟩

/-- A number as a cell. -/
def nv (n : Nat) : Value := .int .u32 (n : Int)
theorem info23 : (Tryd.prog.info? 23).map (fun i => (i.zero, i.size, i.bytes)) = some (some (.int .u32 0), 1, 4) := by kernel_rfl

abbrev NOwns (w : World) (base : Nat) (v : Value) (ns : List Nat) : Prop := w.ownsRow base 23 1 v ns.length (ns.map nv)

theorem numFrom_le {most : Nat} : ∀ (v : Nat) (d : List UInt8) (n : Nat), v ≤ most → numFrom most v d = some n → n ≤ most
  | v, [], n, hv, h => by simp [numFrom] at h; omega
  | v, c :: d, n, hv, h => by
    rw [numFrom] at h
    split at h
    · split at h
      · cases h
      · exact numFrom_le _ d n (by omega) h
    · cases h

theorem numberV_le {most n : Nat} {d : List UInt8} (h : numberV most d = some n) : n ≤ most := by
  unfold numberV at h
  split at h
  · cases h
  · exact numFrom_le 0 d n (Nat.zero_le _) h

theorem sl_extract (s : ByteArray) (i k : Nat) : sl (s.extract i k) = ((sl s).drop i).take (k - i) := by
  simp [sl, ByteArray.data_extract, Array.toList_extract, List.extract]

theorem digs_split (a r : List UInt8) (h : a.all isDig = true) (hr : opens r) : digs (a ++ r) = a := digs_app a r (fun c hc => by simpa using List.all_eq_true.1 h c hc) hr

set_option maxHeartbeats 2000000 in
theorem refnumbers_any (s : ByteArray) (w : World) (hs : s.size ≤ 1099511627776) :
    Calls Tryd.prog 36 #[.string s] w fun e w' => ∃ v, e = .returned v ∧ NOwns w' w.heap.size v (numsR (sl s)) ∧ w.grownBy w' none := by
  obtain ⟨i0, hi, hz0, hz1, hz2⟩ := info_parts info23
  go_enter Tryd.func36, Tryd.ntmps36
  go_wp2
  go_loopw [3, 4] (fun o i wr => ∃ (j : Nat) (ns : List Nat), j ≤ s.size + 1 ∧ i = .int .i64 j ∧ ns.length ≤ j ∧ ns ++ numsR ((sl s).drop j) = numsR (sl s) ∧ NOwns wr w.heap.size o ns ∧ w.grownBy wr none) (fun _ i _ => s.size + 1 - (intOf i).toNat)
  case atStart => exact ⟨0, [], Nat.zero_le _, rfl, Nat.zero_le _, rfl, World.ownsRow_nil _ _ _ _, World.grownBy.refl _ _⟩
  case round =>
    obtain ⟨j, ns, hj, rfl, hnl, hns, O, G⟩ := hrel
    have HN : Hid (ns ++ numsR ((sl s).drop j) = numsR (sl s)) := hns
    clear hns
    by_cases hlt : j < s.size
    · have hji : (j : Int) < (s.size : Int) := by omega
      have HS : Hid ((sl s).drop j = s[j] :: (sl s).drop (j + 1)) := sl_drop s j hlt
      have hb := s[j].toNat_lt
      by_cases hd : isDig s[j] = true
      · have hd1 : 48 ≤ s[j].toNat := by simp [isDig] at hd; omega
        have hd2 : s[j].toNat ≤ 57 := by simp [isDig] at hd; omega
        have hd1' : ¬ ((s[j].toNat : Int) < 48) := by omega
        have hd2' : ¬ (57 < (s[j].toNat : Int)) := by omega
        go_wp2
        clear hd1' hd2' hd1 hd2
        go_loop [5] (fun k => ∃ (m : Nat) (a : List UInt8), j ≤ m ∧ m ≤ s.size ∧ k = .int .i64 m ∧ a.length = m - j ∧ a.all isDig = true ∧ (sl s).drop j = a ++ (sl s).drop m) (fun k => s.size - (intOf k).toNat)
        case atStart => exact ⟨j, [], Nat.le_refl _, by omega, rfl, by simp, rfl, rfl⟩
        case round =>
          obtain ⟨m, a, hm1, hm2, rfl, hal, had, hsp⟩ := hrel
          have HA : Hid (a.length = m - j ∧ a.all isDig = true ∧ (sl s).drop j = a ++ (sl s).drop m) := ⟨hal, had, hsp⟩
          clear hal had hsp
          by_cases hml : m < s.size
          · have hmi : (m : Int) < (s.size : Int) := by omega
            have HM : Hid ((sl s).drop m = s[m] :: (sl s).drop (m + 1)) := sl_drop s m hml
            have hbm := s[m].toNat_lt
            by_cases hdm : isDig s[m] = true
            · have e1 : 48 ≤ (s[m].toNat : Int) := by simp [isDig] at hdm; omega
              have e2 : (s[m].toNat : Int) ≤ 57 := by simp [isDig] at hdm; omega
              go_wp2
              go_round
              case rel =>
                refine ⟨m + 1, a ++ [s[m]], by omega, by omega, by go_num, ?_, ?_, ?_⟩
                · have := HA.out.1; simp; omega
                · have := HA.out.2.1; simp [this, hdm]
                · rw [HA.out.2.2, HM.out]; simp
              case measure => simp [intOf]; omega
            · have hd' : s[m].toNat < 48 ∨ 57 < s[m].toNat := by simp [isDig] at hdm; omega
              have hop : Hid (opens ((sl s).drop m)) := by
                show opens ((sl s).drop m)
                rw [HM.out]
                exact opens_cons (by simpa using hdm)
              rcases hd' with hd' | hd'
              · have f1 : ¬ (48 ≤ (s[m].toNat : Int)) := by omega
                have hdg : digs (s[j] :: (sl s).drop (j + 1)) = a := by rw [← HS.out, HA.out.2.2]; exact digs_split a _ HA.out.2.1 hop.out
                have HDG : Hid (digs (s[j] :: (sl s).drop (j + 1)) = a) := hdg
                have hex : sl (s.extract j m) = a := by rw [sl_extract, HA.out.2.2, ← HA.out.1]; simp
                have HEX : Hid (sl (s.extract j m) = a) := hex
                have hes : (s.extract j m).size ≤ 9223372036854775807 := by rw [← sl_len, hex]; have := HA.out.1; omega
                clear hdg hex
                have hjm : (j : Int) ≤ (m : Int) := by omega
                have hms : (m : Int) ≤ (s.size : Int) := by omega
                go_wp2_with fail
                refine (refnumber_any (s.extract j m) 4294967295 _ hes (by omega)).mono ?_
                rintro e w1 ⟨rfl, rfl⟩
                rw [HEX.out]
                cases hv : numberV 4294967295 a with
                | none =>
                  have he : numsR (sl s) = ns := by rw [← HN.out, HS.out, numsR_bad _ hd (by rw [HDG.out]; exact hv)]; simp
                  go_wp2
                  go_ret
                  exact ⟨_, rfl, by rw [he]; exact O, G⟩
                | some v =>
                  have hvl := numberV_le hv
                  have he : (ns ++ [v]) ++ numsR ((sl s).drop (m + 1)) = numsR (sl s) := by
                    rw [← HN.out, HS.out, numsR_num _ hd (v := v) (by rw [HDG.out]; exact hv), HDG.out, ← HS.out, List.drop_drop, show j + (a.length + 1) = m + 1 by have := HA.out.1; omega]
                    simp
                  have HE : Hid ((ns ++ [v]) ++ numsR ((sl s).drop (m + 1)) = numsR (sl s)) := he
                  clear he HDG HEX hes HA
                  go_wp2_with (at_builtin; refine wpList_append_cv rfl (.tmp 54) (.tmp 57) 61 rfl 23 i0 (.int .u32 0) 1 4 Tryd.underlying61 hi hz0 hz1 hz2 rfl (by decide) w.heap.size u3 ns.length (ns.map nv) rfl ?q1 (some ⟨wr.heap.size, 0, none⟩) 1 1 [nv v] rfl rfl (by simp) ?q2 (by simp [nv, Value.oneCell']) ?q3 ?q4 ?q5 ?q6)
                  case q1 => exact O.alloc _
                  case q2 => exact cv_lit wr _ _
                  case q3 => unfold maxLen; omega
                  case q4 => omega
                  case q5 => have := G.size; simp; omega
                  case q6 =>
                    intro y2 w2 O2 K2
                    have G2 : w.grownBy w2 none := grown_trans_new (grown_trans G (World.grownBy_alloc _ _ _)) K2 (fun z hz => (O.lt z hz).1)
                    have O3 : NOwns w2 w.heap.size y2 (ns ++ [v]) := by
                      unfold NOwns
                      rw [List.length_append, List.map_append]
                      exact O2
                    clear O2 K2 O G
                    go_wp2
                    go_roundw
                    case rel => exact ⟨m + 1, ns ++ [v], by omega, by go_num, by simp; omega, HE.out, O3, G2⟩
                    case measure => simp [intOf]; omega
              · have f1 : 48 ≤ (s[m].toNat : Int) := by omega
                have f2 : ¬ ((s[m].toNat : Int) ≤ 57) := by omega
                have hdg : digs (s[j] :: (sl s).drop (j + 1)) = a := by rw [← HS.out, HA.out.2.2]; exact digs_split a _ HA.out.2.1 hop.out
                have HDG : Hid (digs (s[j] :: (sl s).drop (j + 1)) = a) := hdg
                have hex : sl (s.extract j m) = a := by rw [sl_extract, HA.out.2.2, ← HA.out.1]; simp
                have HEX : Hid (sl (s.extract j m) = a) := hex
                have hes : (s.extract j m).size ≤ 9223372036854775807 := by rw [← sl_len, hex]; have := HA.out.1; omega
                clear hdg hex
                have hjm : (j : Int) ≤ (m : Int) := by omega
                have hms : (m : Int) ≤ (s.size : Int) := by omega
                go_wp2_with fail
                refine (refnumber_any (s.extract j m) 4294967295 _ hes (by omega)).mono ?_
                rintro e w1 ⟨rfl, rfl⟩
                rw [HEX.out]
                cases hv : numberV 4294967295 a with
                | none =>
                  have he : numsR (sl s) = ns := by rw [← HN.out, HS.out, numsR_bad _ hd (by rw [HDG.out]; exact hv)]; simp
                  go_wp2
                  go_ret
                  exact ⟨_, rfl, by rw [he]; exact O, G⟩
                | some v =>
                  have hvl := numberV_le hv
                  have he : (ns ++ [v]) ++ numsR ((sl s).drop (m + 1)) = numsR (sl s) := by
                    rw [← HN.out, HS.out, numsR_num _ hd (v := v) (by rw [HDG.out]; exact hv), HDG.out, ← HS.out, List.drop_drop, show j + (a.length + 1) = m + 1 by have := HA.out.1; omega]
                    simp
                  have HE : Hid ((ns ++ [v]) ++ numsR ((sl s).drop (m + 1)) = numsR (sl s)) := he
                  clear he HDG HEX hes HA
                  go_wp2_with (at_builtin; refine wpList_append_cv rfl (.tmp 54) (.tmp 57) 61 rfl 23 i0 (.int .u32 0) 1 4 Tryd.underlying61 hi hz0 hz1 hz2 rfl (by decide) w.heap.size u3 ns.length (ns.map nv) rfl ?p1 (some ⟨wr.heap.size, 0, none⟩) 1 1 [nv v] rfl rfl (by simp) ?p2 (by simp [nv, Value.oneCell']) ?p3 ?p4 ?p5 ?p6)
                  case p1 => exact O.alloc _
                  case p2 => exact cv_lit wr _ _
                  case p3 => unfold maxLen; omega
                  case p4 => omega
                  case p5 => have := G.size; simp; omega
                  case p6 =>
                    intro y2 w2 O2 K2
                    have G2 : w.grownBy w2 none := grown_trans_new (grown_trans G (World.grownBy_alloc _ _ _)) K2 (fun z hz => (O.lt z hz).1)
                    have O3 : NOwns w2 w.heap.size y2 (ns ++ [v]) := by
                      unfold NOwns
                      rw [List.length_append, List.map_append]
                      exact O2
                    clear O2 K2 O G
                    go_wp2
                    go_roundw
                    case rel => exact ⟨m + 1, ns ++ [v], by omega, by go_num, by simp; omega, HE.out, O3, G2⟩
                    case measure => simp [intOf]; omega
          · obtain rfl : m = s.size := by omega
            have hop : Hid (opens ((sl s).drop s.size)) := by
              show opens ((sl s).drop s.size)
              rw [List.drop_eq_nil_of_le (by rw [sl_len]; omega)]
              exact opens_nil
            have hdg : digs (s[j] :: (sl s).drop (j + 1)) = a := by rw [← HS.out, HA.out.2.2]; exact digs_split a _ HA.out.2.1 hop.out
            have HDG : Hid (digs (s[j] :: (sl s).drop (j + 1)) = a) := hdg
            have hex : sl (s.extract j s.size) = a := by rw [sl_extract, HA.out.2.2, ← HA.out.1]; simp
            have HEX : Hid (sl (s.extract j s.size) = a) := hex
            have hes : (s.extract j s.size).size ≤ 9223372036854775807 := by rw [← sl_len, hex]; have := HA.out.1; omega
            clear hdg hex
            have hjm : (j : Int) ≤ (s.size : Int) := by omega
            have hms : (s.size : Int) ≤ (s.size : Int) := by omega
            go_wp2_with fail
            refine (refnumber_any (s.extract j s.size) 4294967295 _ hes (by omega)).mono ?_
            rintro e w1 ⟨rfl, rfl⟩
            rw [HEX.out]
            cases hv : numberV 4294967295 a with
            | none =>
              have he : numsR (sl s) = ns := by rw [← HN.out, HS.out, numsR_bad _ hd (by rw [HDG.out]; exact hv)]; simp
              go_wp2
              go_ret
              exact ⟨_, rfl, by rw [he]; exact O, G⟩
            | some v =>
              have hvl := numberV_le hv
              have he : (ns ++ [v]) ++ numsR ((sl s).drop (s.size + 1)) = numsR (sl s) := by
                rw [← HN.out, HS.out, numsR_num _ hd (v := v) (by rw [HDG.out]; exact hv), HDG.out, ← HS.out, List.drop_drop, show j + (a.length + 1) = s.size + 1 by have := HA.out.1; omega]
                simp
              have HE : Hid ((ns ++ [v]) ++ numsR ((sl s).drop (s.size + 1)) = numsR (sl s)) := he
              clear he HDG HEX hes HA
              go_wp2_with (at_builtin; refine wpList_append_cv rfl (.tmp 54) (.tmp 57) 61 rfl 23 i0 (.int .u32 0) 1 4 Tryd.underlying61 hi hz0 hz1 hz2 rfl (by decide) w.heap.size u3 ns.length (ns.map nv) rfl ?r1 (some ⟨wr.heap.size, 0, none⟩) 1 1 [nv v] rfl rfl (by simp) ?r2 (by simp [nv, Value.oneCell']) ?r3 ?r4 ?r5 ?r6)
              case r1 => exact O.alloc _
              case r2 => exact cv_lit wr _ _
              case r3 => unfold maxLen; omega
              case r4 => omega
              case r5 => have := G.size; simp; omega
              case r6 =>
                intro y2 w2 O2 K2
                have G2 : w.grownBy w2 none := grown_trans_new (grown_trans G (World.grownBy_alloc _ _ _)) K2 (fun z hz => (O.lt z hz).1)
                have O3 : NOwns w2 w.heap.size y2 (ns ++ [v]) := by
                  unfold NOwns
                  rw [List.length_append, List.map_append]
                  exact O2
                clear O2 K2 O G
                go_wp2
                go_roundw
                case rel => exact ⟨s.size + 1, ns ++ [v], by omega, by go_num, by simp; omega, HE.out, O3, G2⟩
                case measure => simp [intOf]; omega
      · have hd' : s[j].toNat < 48 ∨ 57 < s[j].toNat := by simp [isDig] at hd; omega
        have HE : Hid (ns ++ numsR ((sl s).drop (j + 1)) = numsR (sl s)) := by
          show ns ++ numsR ((sl s).drop (j + 1)) = numsR (sl s)
          rw [← HN.out, HS.out, numsR_skip _ (by simpa using hd)]
        rcases hd' with hd' | hd'
        · have f1 : (s[j].toNat : Int) < 48 := by omega
          go_wp2
          go_roundw
          case rel => exact ⟨j + 1, ns, by omega, by go_num, by omega, HE.out, O, G⟩
          case measure => simp [intOf]; omega
        · have f1 : ¬ ((s[j].toNat : Int) < 48) := by omega
          have f2 : 57 < (s[j].toNat : Int) := by omega
          go_wp2
          go_roundw
          case rel => exact ⟨j + 1, ns, by omega, by go_num, by omega, HE.out, O, G⟩
          case measure => simp [intOf]; omega
    · have he : numsR (sl s) = ns := by
        rw [← HN.out, List.drop_eq_nil_of_le (by rw [sl_len]; omega), numsR_nil, List.append_nil]
      go_wp2
      go_ret
      exact ⟨_, rfl, by rw [he]; exact O, G⟩

end Go.Proofs.YtcapmbeabfhjoaaDoor
