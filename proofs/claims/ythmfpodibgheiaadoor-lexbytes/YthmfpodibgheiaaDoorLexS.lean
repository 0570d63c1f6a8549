/-
  The document's own run, count and Number of lex.
-/
import Derived.Test.YthmfpodibgheiaaDoorLexR
namespace Go.Proofs.YthmfpodibgheiaaDoor
open Go.RowKit
set_option maxRecDepth 100000

theorem sl_get (s : ByteArray) (k : Nat) (hk : k < s.size) : (sl s)[k]? = some s[k] := by
  have := sl_drop s k hk
  have h2 : ((sl s).drop k)[0]? = some s[k] := by rw [this]; rfl
  simpa using h2

set_option maxHeartbeats 1000000 in
theorem refrun_any (s : ByteArray) (at' k : Nat) (hk : k = 1 ∨ k = 2 ∨ k = 3) (ha : at' ≤ s.size) (hs : s.size ≤ 140737488355328) (w : World) :
    Calls Tryd.prog 23 #[.string s, .int .i64 (at' : Int), .int .i64 (k : Int)] w fun e w' => e = .returned (str (((sl s).drop at').takeWhile (kindB k))) ∧ w = w' := by
  have HIN : Hid (∀ (c : UInt8) (W : World), Calls Tryd.prog 33 #[.int .u8 (c.toNat : Int), .int .i64 (k : Int)] W fun e w' => e = .returned (.bool (kindB k c)) ∧ W = w') := fun c W => refin_any c k hk W
  generalize kindB k = p at *
  obtain ⟨ans, hans⟩ : ∃ ans, ((sl s).drop at').takeWhile p = ans := ⟨_, rfl⟩
  have HA : Hid (((sl s).drop at').takeWhile p = ans) := hans
  rw [hans]
  clear hans hk
  go_enter Tryd.func23, Tryd.ntmps23
  go_wp2
  go_loopw [7] (fun i wr => ∃ j : Nat, at' ≤ j ∧ j ≤ s.size ∧ i = .int .i64 j ∧ Hid (((sl s).drop at').take (j - at') ++ ((sl s).drop j).takeWhile p = ans) ∧ wr = w) (fun i _ => s.size - (intOf i).toNat)
  case atStart => exact ⟨at', Nat.le_refl _, ha, rfl, by show _ = ans; rw [Nat.sub_self, List.take_zero, List.nil_append]; exact HA.out, rfl⟩
  case round =>
    obtain ⟨j, h1, h2, rfl, HJ, rfl⟩ := hrel
    have z1 : (0 : Int) ≤ (at' : Int) := by omega
    have z2 : (at' : Int) ≤ (j : Int) := by omega
    have z3 : (j : Int) ≤ (s.size : Int) := by omega
    by_cases hlt : j < s.size
    · have hji : (j : Int) < (s.size : Int) := by omega
      have HD : Hid ((sl s).drop j = s[j] :: (sl s).drop (j + 1)) := sl_drop s j hlt
      have CI := HIN.out s[j] wr
      cases hp : p s[j] with
      | true =>
        rw [hp] at CI
        have HN : Hid (((sl s).drop at').take (j + 1 - at') ++ ((sl s).drop (j + 1)).takeWhile p = ans) := by
          show _ = ans
          rw [← HJ.out, HD.out, List.takeWhile_cons_of_pos hp, show j + 1 - at' = (j - at') + 1 by omega]
          have hg : ((sl s).drop at')[j - at']? = some s[j] := by
            rw [List.getElem?_drop, show at' + (j - at') = j by omega]
            exact sl_get s j hlt
          rw [List.take_add_one, hg, Option.toList_some, List.append_assoc]
          rfl
        clear HJ HD
        go_wp2_with fail
        refine CI.mono ?_
        rintro e w1 ⟨rfl, rfl⟩
        clear CI
        go_wp2
        go_roundw
        case rel => exact ⟨j + 1, by omega, by omega, by go_num, HN, by first | rfl | trivial⟩
        case measure => simp [intOf]; omega
      | false =>
        rw [hp] at CI
        have hE : sl (s.extract at' j) = ans := by
          rw [sl_extract, ← HJ.out, HD.out, List.takeWhile_cons_of_neg (by rw [hp]; simp), List.append_nil]
        have HE : Hid (Value.string (s.extract at' j) = str ans) := by show Value.string (s.extract at' j) = str ans; rw [str_sl, hE]
        clear HJ HD hE
        go_wp2_with fail
        refine CI.mono ?_
        rintro e w1 ⟨rfl, rfl⟩
        clear CI
        go_wp2
        go_ret
        exact ⟨by rw [HE.out]; rfl, rfl⟩
    · obtain rfl : j = s.size := by omega
      have hji : ¬ (s.size : Int) < (s.size : Int) := by omega
      have hE : sl (s.extract at' s.size) = ans := by
        rw [sl_extract, ← HJ.out, List.drop_eq_nil_of_le (i := s.size) (by rw [sl_len]; exact Nat.le_refl _)]
        simp
      have HE : Hid (Value.string (s.extract at' s.size) = str ans) := by show Value.string (s.extract at' s.size) = str ans; rw [str_sl, hE]
      clear HJ hE
      go_wp2
      go_ret
      exact ⟨by rw [HE.out]; rfl, rfl⟩

set_option maxHeartbeats 1000000 in
theorem refcount_any (s : ByteArray) (c : UInt8) (hs : s.size ≤ 140737488355328) (w : World) :
    Calls Tryd.prog 24 #[.string s, .int .u8 (c.toNat : Int)] w fun e w' => e = .returned (.int .i64 ((sl s).count c : Int)) ∧ w = w' := by
  obtain ⟨N, hN⟩ : ∃ N, (sl s).count c = N := ⟨_, rfl⟩
  rw [hN]
  have HN : Hid ((sl s).count c = N) := hN
  clear hN
  go_enter Tryd.func24, Tryd.ntmps24
  go_wp2
  go_loop [5, 6] (fun x i => ∃ j v : Nat, j ≤ s.size ∧ v ≤ j ∧ i = .int .i64 j ∧ x = .int .i64 v ∧ Hid (v + ((sl s).drop j).count c = N)) (fun _ i => s.size - (intOf i).toNat)
  case atStart => exact ⟨0, 0, Nat.zero_le _, Nat.zero_le _, rfl, rfl, by show _ = N; rw [Nat.zero_add]; exact HN.out⟩
  case round =>
    obtain ⟨j, v, h1, h2, rfl, rfl, HJ⟩ := hrel
    by_cases hlt : j < s.size
    · have hji : (j : Int) < (s.size : Int) := by omega
      have HD : Hid ((sl s).drop j = s[j] :: (sl s).drop (j + 1)) := sl_drop s j hlt
      by_cases hc : s[j] = c
      · have hcc : ((s[j].toNat : Int) == (c.toNat : Int)) = true := by rw [hc]; simp
        have HX : Hid (v + 1 + ((sl s).drop (j + 1)).count c = N) := by
          show _ = N
          rw [← HJ.out, HD.out, hc, List.count_cons_self]
          omega
        clear HJ HD hc
        go_wp2
        go_round
        case rel => exact ⟨j + 1, v + 1, by omega, by omega, by go_num, by go_num, HX⟩
        case measure => simp [intOf]; omega
      · have hcc : ((s[j].toNat : Int) == (c.toNat : Int)) = false := by
          rw [beq_eq_false_iff_ne]
          intro e
          exact hc (UInt8.toNat_inj.1 (by omega))
        have HX : Hid (v + ((sl s).drop (j + 1)).count c = N) := by
          show _ = N
          rw [← HJ.out, HD.out, List.count_cons_of_ne (by simpa using hc)]
        clear HJ HD hc
        go_wp2
        go_round
        case rel => exact ⟨j + 1, v, by omega, by omega, by go_num, rfl, HX⟩
        case measure => simp [intOf]; omega
    · obtain rfl : j = s.size := by omega
      have hv : v = N := by
        have := HJ.out
        rw [List.drop_eq_nil_of_le (by rw [sl_len]; exact Nat.le_refl _)] at this
        simpa using this
      subst hv
      clear HJ HN
      go_wp2
      go_ret
      exact ⟨rfl, rfl⟩

set_option maxHeartbeats 2000000 in
theorem refnum_any (s : ByteArray) (hs : s.size ≤ 140737488355328) (w : World) :
    Calls Tryd.prog 26 #[.string s] w fun e w' => e = .returned (.tuple #[.int .u32 (((numV (sl s)).getD 0 : Nat) : Int), .bool (numV (sl s)).isSome]) ∧ w = w' := by
  have hgd : ∀ k (hk : k < s.size), (sl s).getD k 0 = s[k] := fun k hk => by rw [List.getD_eq_getElem?_getD, sl_get s k hk]; rfl
  by_cases hx : 2 < s.size ∧ (sl s).getD 0 0 = 48 ∧ (sl s).getD 1 0 = 120
  · obtain ⟨h2, h0, h1⟩ := hx
    have e0 : numV (sl s) = hexFrom 0 ((sl s).drop 2) := by rw [numV, if_pos ⟨by rw [sl_len]; exact h2, h0, h1⟩]
    rw [hgd 0 (by omega)] at h0
    rw [hgd 1 (by omega)] at h1
    obtain ⟨ans, hans⟩ : ∃ ans, hexFrom 0 ((sl s).drop 2) = ans := ⟨_, rfl⟩
    have HA : Hid (hexFrom 0 ((sl s).drop 2) = ans) := hans
    rw [e0, hans]
    have h2' : (2 : Int) < (s.size : Int) := by omega
    have c0 : s[0].toNat = 48 := by rw [h0]; rfl
    have c1 : s[1].toNat = 120 := by rw [h1]; rfl
    clear e0 hans hgd h0 h1
    go_enter Tryd.func26, Tryd.ntmps26
    go_wp2
    clear c0 c1
    go_loopw [4, 5] (fun x i wr => ∃ k v : Nat, 2 ≤ k ∧ k ≤ s.size ∧ v ≤ 4294967295 ∧ i = .int .i64 k ∧ x = .int .u64 v ∧ Hid (hexFrom v ((sl s).drop k) = ans) ∧ w = wr) (fun _ i _ => s.size - (intOf i).toNat)
    case atStart => exact ⟨2, 0, Nat.le_refl _, by omega, Nat.zero_le _, rfl, rfl, HA, rfl⟩
    case round =>
      obtain ⟨k, v, hk2, hk, hv, rfl, rfl, HI, rfl⟩ := hrel
      by_cases hlt : k < s.size
      · have hki : (k : Int) < (s.size : Int) := by omega
        have HD : Hid ((sl s).drop k = s[k] :: (sl s).drop (k + 1)) := sl_drop s k hlt
        have CD := refdigit_any s[k].toNat w s[k].toNat_lt
        cases hd : digOk s[k].toNat with
        | false =>
          rw [hd, if_neg (by simp)] at CD
          have hans : ans = none := by rw [← HI.out, HD.out, hexFrom, if_neg (by rw [hd]; simp)]
          subst hans
          clear HI HD
          go_wp2_with fail
          refine CD.mono ?_
          rintro e w1 ⟨rfl, rfl⟩
          clear CD
          go_wp2
          go_ret2
          exact ⟨rfl, rfl⟩
        | true =>
          rw [hd, if_pos rfl] at CD
          have hdl := digV_lt s[k].toNat
          by_cases hbig : 4294967295 < 16 * v + digV s[k].toNat
          · have hans : ans = none := by rw [← HI.out, HD.out, hexFrom, if_pos hd, if_pos hbig]
            subst hans
            generalize digV s[k].toNat = dv at *
            have hw0 : IntKind.u64.wrap (dv : Int) = (dv : Int) := by rw [IntKind.wrap_u64]; omega
            have hw1 : IntKind.u64.wrap (16 * (v : Int)) = 16 * (v : Int) := by rw [IntKind.wrap_u64]; omega
            have hw2 : IntKind.u64.wrap (16 * (v : Int) + (dv : Int)) = 16 * (v : Int) + (dv : Int) := by rw [IntKind.wrap_u64]; omega
            have hb' : (4294967295 : Int) < 16 * (v : Int) + (dv : Int) := by omega
            have hd0 : ¬ (dv : Int) < 0 := by omega
            clear HI HD
            go_wp2_with fail
            refine CD.mono ?_
            rintro e w1 ⟨rfl, rfl⟩
            clear CD
            go_wp2
            go_ret2
            exact ⟨rfl, rfl⟩
          · have HN : Hid (hexFrom (16 * v + digV s[k].toNat) ((sl s).drop (k + 1)) = ans) := by
              show _ = ans
              rw [← HI.out, HD.out, hexFrom, if_pos hd, if_neg hbig]
            generalize digV s[k].toNat = dv at *
            have hw0 : IntKind.u64.wrap (dv : Int) = (dv : Int) := by rw [IntKind.wrap_u64]; omega
            have hw1 : IntKind.u64.wrap (16 * (v : Int)) = 16 * (v : Int) := by rw [IntKind.wrap_u64]; omega
            have hw2 : IntKind.u64.wrap (16 * (v : Int) + (dv : Int)) = 16 * (v : Int) + (dv : Int) := by rw [IntKind.wrap_u64]; omega
            have hb' : ¬ (4294967295 : Int) < 16 * (v : Int) + (dv : Int) := by omega
            have hd0 : ¬ (dv : Int) < 0 := by omega
            clear HI HD
            go_wp2_with fail
            refine CD.mono ?_
            rintro e w1 ⟨rfl, rfl⟩
            clear CD
            go_wp2
            go_roundw
            case rel => exact ⟨k + 1, 16 * v + dv, by omega, by omega, by omega, by go_num, by rw [show ((16 * v + dv : Nat) : Int) = 16 * (v : Int) + (dv : Int) by omega], HN, by first | rfl | trivial⟩
            case measure => simp [intOf]; omega
      · obtain rfl : k = s.size := by omega
        have hans : ans = some v := by
          rw [← HI.out, List.drop_eq_nil_of_le (by rw [sl_len]; exact Nat.le_refl _)]
          rfl
        subst hans
        have hw : IntKind.u32.wrap (v : Int) = (v : Int) := by rw [IntKind.wrap_u32]; omega
        clear HI HA
        go_wp2
        go_ret2
        exact ⟨rfl, rfl⟩
  · have e0 : numV (sl s) = numberV 4294967295 (sl s) := by
      rw [numV, if_neg]
      rw [sl_len]
      exact hx
    have CN := refnumber_any s 4294967295 w (by omega) (by omega)
    rw [← e0] at CN
    clear e0
    have hle : ((numV (sl s)).getD 0) ≤ 4294967295 := by
      cases h : numV (sl s) with
      | none => simp
      | some n => exact numV_le h
    generalize (numV (sl s)).getD 0 = n at *
    generalize (numV (sl s)).isSome = b at *
    have hw : IntKind.u32.wrap (n : Int) = (n : Int) := by rw [IntKind.wrap_u32]; omega
    by_cases h2 : 2 < s.size
    · have h2' : (2 : Int) < (s.size : Int) := by omega
      by_cases h0 : (sl s).getD 0 0 = 48
      · have h1 : ¬ (sl s).getD 1 0 = 120 := fun e => hx ⟨h2, h0, e⟩
        rw [hgd 0 (by omega)] at h0
        rw [hgd 1 (by omega)] at h1
        have c0 : s[0].toNat = 48 := by rw [h0]; rfl
        have c1 : ((s[1].toNat : Int) == 120) = false := by
          rw [beq_eq_false_iff_ne]
          intro e
          exact h1 (UInt8.toNat_inj.1 (by simpa using (by omega : s[1].toNat = 120)))
        clear h0 h1 hx hgd
        go_enter Tryd.func26, Tryd.ntmps26
        go_wp2_with fail
        refine CN.mono ?_
        rintro e w1 ⟨rfl, rfl⟩
        clear CN
        go_wp2
        go_ret2
        exact ⟨rfl, rfl⟩
      · rw [hgd 0 (by omega)] at h0
        have c0 : ((s[0].toNat : Int) == 48) = false := by
          rw [beq_eq_false_iff_ne]
          intro e
          exact h0 (UInt8.toNat_inj.1 (by simpa using (by omega : s[0].toNat = 48)))
        clear h0 hx hgd
        go_enter Tryd.func26, Tryd.ntmps26
        go_wp2_with fail
        refine CN.mono ?_
        rintro e w1 ⟨rfl, rfl⟩
        clear CN
        go_wp2
        go_ret2
        exact ⟨rfl, rfl⟩
    · have h2' : ¬ (2 : Int) < (s.size : Int) := by omega
      clear hx hgd
      go_enter Tryd.func26, Tryd.ntmps26
      go_wp2_with fail
      refine CN.mono ?_
      rintro e w1 ⟨rfl, rfl⟩
      clear CN
      go_wp2
      go_ret2
      exact ⟨rfl, rfl⟩

end Go.Proofs.YthmfpodibgheiaaDoor
