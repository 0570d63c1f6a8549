/-
  Package lex as landed: next.
-/
import Derived.Test.YtbdmpjnlgdahmaaGreatDoorLkN
namespace Go.Proofs.YtbdmpjnlgdahmaaGreatDoor
open Go.RowKit
set_option maxRecDepth 100000

theorem tok_six {s : List UInt8} (h : 2 ≤ (s.takeWhile sixB).count 58) : tokV s = .ok (4, s.takeWhile sixB, 0) := by rw [tokV, if_pos h]
theorem tok_quad {s : List UInt8} (h : ¬ 2 ≤ (s.takeWhile sixB).count 58) (hd : s.head?.any isDig = true) (hq : (s.takeWhile quadB).contains 46 = true) : tokV s = .ok (3, s.takeWhile quadB, 0) := by
  rw [tokV, if_neg h, if_pos hd, if_pos (by simpa using hq)]
theorem tok_numb {s : List UInt8} (h : ¬ 2 ≤ (s.takeWhile sixB).count 58) (hd : s.head?.any isDig = true) (hq : (s.takeWhile quadB).contains 46 = false) : tokV s = nmV (s.takeWhile wordB) := by
  rw [tokV, if_neg h, if_pos hd, if_neg (by simpa using hq)]
  unfold nmV
  rfl
theorem tok_word {s : List UInt8} (h : ¬ 2 ≤ (s.takeWhile sixB).count 58) (hd : s.head?.any isDig = false) (hl : s.head?.any letB = true) : tokV s = .ok (2, s.takeWhile wordB, 0) := by
  rw [tokV, if_neg h, if_neg (by rw [hd]; simp), if_pos hl]
theorem tok_sign {s : List UInt8} (h : ¬ 2 ≤ (s.takeWhile sixB).count 58) (hd : s.head?.any isDig = false) (hl : s.head?.any letB = false) : tokV s = if signV s = [] then .error 101 else .ok (5, signV s, 0) := by
  rw [tokV, if_neg h, if_neg (by rw [hd]; simp), if_neg (by rw [hl]; simp)]

set_option maxRecDepth 100000 in
set_option maxHeartbeats 8000000 in
theorem next_any (s : ByteArray) (hs : s.size ≤ 140737488355328) (hne : 0 < s.size) (w : World) (T : Tab w) :
    Calls Tryz.prog 33 #[.string s] w fun e w' => e = .returned (.tuple #[.agg (tokA 0 (tokV (sl s))), .int .i64 (tokE (tokV (sl s)))]) ∧ w.grownBy w' none := by
  have RA := VAt.alloc w 42 (tkA 0 0 [] 0)
  have G0 := World.grownBy_alloc w (.cells (tkA 0 0 [] 0) 42) none
  have HT : Hid (Tab w) := T
  have h0 : (sl s).head? = some s[0] := by
    have := sl_drop s 0 hne
    rw [List.drop_zero] at this
    rw [this]
    rfl
  have hcons : sl s = s[0] :: (sl s).drop 1 := by
    have := sl_drop s 0 hne
    rw [List.drop_zero] at this
    exact this
  have C6 : Hid (∀ W : World, Calls Tryz.prog 49 #[.string s] W fun e w' => e = .returned (str (sixV (sl s))) ∧ W.grownBy w' none) := fun W => six_any s hs W
  have C4 : Hid (∀ W : World, Calls Tryz.prog 50 #[.string s] W fun e w' => e = .returned (str (quadV (sl s))) ∧ W.grownBy w' none) := fun W => quad_any s hs W
  have CW : Hid (∀ W : World, Calls Tryz.prog 52 #[.string s] W fun e w' => e = .returned (str ((sl s).takeWhile wordB)) ∧ W = w') := fun W => name_any s hs W
  have CK : Hid (∀ W : World, Calls Tryz.prog 32 #[.int .u8 (s[0].toNat : Int)] W fun e w' => e = .returned (.int .i64 (kindN s[0].toNat : Int)) ∧ W = w') := fun W => kind_any _ W
  have CG : Hid (∀ W : World, Tab W → Calls Tryz.prog 53 #[.string s] W fun e w' => e = .returned (str (signV (sl s))) ∧ W.grownBy w' none) := fun W TW => sign_any s hs W TW
  have hk := kind_is s[0]
  have hni : (0 : Int) < (s.size : Int) := by omega
  clear T
  by_cases h6 : 2 ≤ ((sl s).takeWhile sixB).count 58
  · have HX : Hid _ := tok_six h6
    have e6 : sixV (sl s) = (sl s).takeWhile sixB := by rw [sixV, if_pos h6]
    rw [e6] at C6
    have hnn : ((sl s).takeWhile sixB).isEmpty = false := by
      cases hh : (sl s).takeWhile sixB with
      | nil => rw [hh] at h6; exact absurd h6 (by decide)
      | cons a b => rfl
    clear h6 e6 h0 hcons C4 CW CK CG hk HT
    obtain ⟨S6, hS⟩ : ∃ S, (sl s).takeWhile sixB = S := ⟨_, rfl⟩
    rw [hS] at C6 HX hnn
    clear hS
    go_enter Tryz.func33, Tryz.ntmps33
    go_upto_region 1 with fail
    rw [show (w.alloc (.cells #[.int .i64 0, .int .i64 0, .string ⟨#[]⟩, .int .u32 0] 42)) = w.alloc (.cells (tkA 0 0 [] 0) 42) from rfl]
    generalize w.alloc (.cells (tkA 0 0 [] 0) 42) = w1 at *
    obtain ⟨R, hR⟩ : ∃ R, w.heap.size = R := ⟨_, rfl⟩
    have HR : Hid (w.heap.size ≤ R) := by show w.heap.size ≤ R; omega
    rw [hR] at RA ⊢
    clear hR
    go_wp2_with fail
    refine (C6.out _).mono ?_
    rintro e w2 ⟨rfl, K2⟩
    have RA2 := RA.kept K2
    have G2 := grown_trans G0 K2
    clear C6 RA G0 K2
    go_wp2_with (refine wpList_store_row rfl 42 (.tmp 2) (.tmp 12) rfl R (tkA 4 0 S6 0) rfl rfl 42 _ RA2 size42 rfl (by simp [tkA, Value.oneCell']) ?_)
    refine bodyPost_ret (ret_row rfl _ _ R (tkA 4 0 S6 0) _ rfl (RA2.setRow _) Tryz.underlying42 rfl size42) rfl ?_
    exact ⟨by rw [HX.out]; rfl, vgrown_setRow G2 _ _ (.inr HR.out)⟩
  · have e6 : sixV (sl s) = [] := by rw [sixV, if_neg h6]
    rw [e6] at C6
    clear e6
    cases hd : isDig s[0] with
    | true =>
      have hd' : (sl s).head?.any isDig = true := by rw [h0]; exact hd
      have hk2 : kindN s[0].toNat = 2 := by have := hk.2.2.2.2.2.2.1; rw [hd] at this; exact of_decide_eq_true this.symm
      rw [hk2] at CK
      clear hk2 hk
      cases hq : ((sl s).takeWhile quadB).contains 46 with
      | true =>
        have HX : Hid _ := tok_quad h6 hd' hq
        have e4 : quadV (sl s) = (sl s).takeWhile quadB := by rw [quadV, if_pos hq]
        rw [e4] at C4
        have hnn : ((sl s).takeWhile quadB).isEmpty = false := by
          cases hh : (sl s).takeWhile quadB with
          | nil => rw [hh] at hq; exact absurd hq (by decide)
          | cons a b => rfl
        clear h6 e4 h0 hcons CW CG HT hd hd' hq
        obtain ⟨S4, hS⟩ : ∃ S, (sl s).takeWhile quadB = S := ⟨_, rfl⟩
        rw [hS] at C4 HX hnn
        clear hS
        go_enter Tryz.func33, Tryz.ntmps33
        go_upto_region 1 with fail
        rw [show (w.alloc (.cells #[.int .i64 0, .int .i64 0, .string ⟨#[]⟩, .int .u32 0] 42)) = w.alloc (.cells (tkA 0 0 [] 0) 42) from rfl]
        generalize w.alloc (.cells (tkA 0 0 [] 0) 42) = w1 at *
        obtain ⟨R, hR⟩ : ∃ R, w.heap.size = R := ⟨_, rfl⟩
        have HR : Hid (w.heap.size ≤ R) := by show w.heap.size ≤ R; omega
        rw [hR] at RA ⊢
        clear hR
        go_wp2_with fail
        refine (C6.out _).mono ?_
        rintro e w2 ⟨rfl, K2⟩
        have RA2 := RA.kept K2
        have G2 := grown_trans G0 K2
        clear C6 RA G0 K2
        go_wp2_with fail
        refine (CK.out _).mono ?_
        rintro e w3 ⟨rfl, rfl⟩
        clear CK
        go_wp2_with fail
        refine (C4.out _).mono ?_
        rintro e w4 ⟨rfl, K4⟩
        have RA4 := RA2.kept K4
        have G4 := grown_trans G2 K4
        clear C4 RA2 G2 K4
        go_wp2_with (refine wpList_store_row rfl 42 (.tmp 2) (.tmp 23) rfl R (tkA 3 0 S4 0) rfl rfl 42 _ RA4 size42 rfl (by simp [tkA, Value.oneCell']) ?_)
        refine bodyPost_ret (ret_row rfl _ _ R (tkA 3 0 S4 0) _ rfl (RA4.setRow _) Tryz.underlying42 rfl size42) rfl ?_
        exact ⟨by rw [HX.out]; rfl, vgrown_setRow G4 _ _ (.inr HR.out)⟩
      | false =>
        have hX := tok_numb h6 hd' hq
        have e4 : quadV (sl s) = [] := by rw [quadV, if_neg (by rw [hq]; simp)]
        rw [e4] at C4
        have hwd : wordB s[0] = true := by rw [wordB, hd]; rfl
        have hW0 : 0 < ((sl s).takeWhile wordB).length := by
          rw [hcons, List.takeWhile_cons_of_pos hwd]
          simp
        have hWl : ((sl s).takeWhile wordB).length ≤ 140737488355328 := by
          have := takeWhile_len wordB (sl s)
          rw [sl_len] at this
          omega
        have hWw : ∀ c ∈ (sl s).takeWhile wordB, wordB c = true := fun c hc => takeWhile_mem wordB _ hc
        clear h6 e4 h0 hcons CG hd hd' hq hwd
        obtain ⟨SW, hS⟩ : ∃ S, (sl s).takeWhile wordB = S := ⟨_, rfl⟩
        rw [hS] at CW hX hW0 hWl hWw
        clear hS
        have CN : Hid (∀ W : World, Tab W → Calls Tryz.prog 51 #[str SW] W fun e w' => e = .returned (.tuple #[.agg (tokA 0 (nmV SW)), .int .i64 (tokE (nmV SW))]) ∧ W.grownBy w' none) := fun W TW => by
          have hz : (⟨SW.toArray⟩ : ByteArray).size = SW.length := by rw [← sl_len, sl_str]
          exact number_any ⟨SW.toArray⟩ (by rw [hz]; exact hWl) (by rw [hz]; exact hW0) (by rw [sl_str]; exact hWw) W TW
        clear hW0 hWl hWw
        cases hm : nmV SW with
        | error er =>
          rw [hm] at CN hX
          simp only [tokA, tokE] at CN
          have HX : Hid _ := hX
          clear hm hX
          go_enter Tryz.func33, Tryz.ntmps33
          go_upto_region 1 with fail
          rw [show (w.alloc (.cells #[.int .i64 0, .int .i64 0, .string ⟨#[]⟩, .int .u32 0] 42)) = w.alloc (.cells (tkA 0 0 [] 0) 42) from rfl]
          generalize w.alloc (.cells (tkA 0 0 [] 0) 42) = w1 at *
          obtain ⟨R, hR⟩ : ∃ R, w.heap.size = R := ⟨_, rfl⟩
          have HR : Hid (w.heap.size ≤ R) := by show w.heap.size ≤ R; omega
          rw [hR] at RA ⊢
          clear hR
          go_wp2_with fail
          refine (C6.out _).mono ?_
          rintro e w2 ⟨rfl, K2⟩
          have RA2 := RA.kept K2
          have G2 := grown_trans G0 K2
          clear C6 RA G0 K2
          go_wp2_with fail
          refine (CK.out _).mono ?_
          rintro e w3 ⟨rfl, rfl⟩
          clear CK
          go_wp2_with fail
          refine (C4.out _).mono ?_
          rintro e w4 ⟨rfl, K4⟩
          have RA4 := RA2.kept K4
          have G4 := grown_trans G2 K4
          clear C4 RA2 G2 K4
          go_wp2_with fail
          refine (CW.out _).mono ?_
          rintro e w5 ⟨rfl, rfl⟩
          clear CW
          have CN5 := CN.out _ (HT.out.grown G4)
          clear CN HT
          go_wp2_with fail
          refine CN5.mono ?_
          rintro e w6 ⟨rfl, K6⟩
          have RA6 := RA4.kept K6
          have G6 := grown_trans G4 K6
          clear CN5 RA4 G4 K6
          go_wp2_with (refine wpList_store_row rfl 42 (.tmp 2) (.tmp 27) rfl R (tkA 0 0 [] 0) rfl rfl 42 _ RA6 size42 rfl (by simp [tkA, Value.oneCell']) ?_)
          refine bodyPost_ret (ret_row rfl _ _ R (tkA 0 0 [] 0) _ rfl (RA6.setRow _) Tryz.underlying42 rfl size42) rfl ?_
          exact ⟨by rw [HX.out]; rfl, vgrown_setRow G6 _ _ (.inr HR.out)⟩
        | ok y =>
          obtain ⟨q, t, n⟩ := y
          rw [hm] at CN hX
          simp only [tokA, tokE] at CN
          have HX : Hid _ := hX
          clear hm hX
          go_enter Tryz.func33, Tryz.ntmps33
          go_upto_region 1 with fail
          rw [show (w.alloc (.cells #[.int .i64 0, .int .i64 0, .string ⟨#[]⟩, .int .u32 0] 42)) = w.alloc (.cells (tkA 0 0 [] 0) 42) from rfl]
          generalize w.alloc (.cells (tkA 0 0 [] 0) 42) = w1 at *
          obtain ⟨R, hR⟩ : ∃ R, w.heap.size = R := ⟨_, rfl⟩
          have HR : Hid (w.heap.size ≤ R) := by show w.heap.size ≤ R; omega
          rw [hR] at RA ⊢
          clear hR
          go_wp2_with fail
          refine (C6.out _).mono ?_
          rintro e w2 ⟨rfl, K2⟩
          have RA2 := RA.kept K2
          have G2 := grown_trans G0 K2
          clear C6 RA G0 K2
          go_wp2_with fail
          refine (CK.out _).mono ?_
          rintro e w3 ⟨rfl, rfl⟩
          clear CK
          go_wp2_with fail
          refine (C4.out _).mono ?_
          rintro e w4 ⟨rfl, K4⟩
          have RA4 := RA2.kept K4
          have G4 := grown_trans G2 K4
          clear C4 RA2 G2 K4
          go_wp2_with fail
          refine (CW.out _).mono ?_
          rintro e w5 ⟨rfl, rfl⟩
          clear CW
          have CN5 := CN.out _ (HT.out.grown G4)
          clear CN HT
          go_wp2_with fail
          refine CN5.mono ?_
          rintro e w6 ⟨rfl, K6⟩
          have RA6 := RA4.kept K6
          have G6 := grown_trans G4 K6
          clear CN5 RA4 G4 K6
          go_wp2_with (refine wpList_store_row rfl 42 (.tmp 2) (.tmp 27) rfl R (tkA q 0 t n) rfl rfl 42 _ RA6 size42 rfl (by simp [tkA, Value.oneCell']) ?_)
          refine bodyPost_ret (ret_row rfl _ _ R (tkA q 0 t n) _ rfl (RA6.setRow _) Tryz.underlying42 rfl size42) rfl ?_
          exact ⟨by rw [HX.out]; rfl, vgrown_setRow G6 _ _ (.inr HR.out)⟩
    | false =>
      have hd' : (sl s).head?.any isDig = false := by rw [h0]; exact hd
      cases hl : letB s[0] with
      | true =>
        have hl' : (sl s).head?.any letB = true := by rw [h0]; exact hl
        have HX : Hid _ := tok_word h6 hd' hl'
        have hk3 : kindN s[0].toNat = 3 ∨ kindN s[0].toNat = 4 := by have := hk.2.2.2.2.2.2.2; rw [hl] at this; exact of_decide_eq_true this.symm
        clear h6 h0 hcons C4 CG hk HT hd hd' hl hl'
        obtain ⟨SW, hS⟩ : ∃ S, (sl s).takeWhile wordB = S := ⟨_, rfl⟩
        rw [hS] at CW HX
        clear hS
        rcases hk3 with hk3 | hk3
        all_goals
          rw [hk3] at CK
          clear hk3
          go_enter Tryz.func33, Tryz.ntmps33
          go_upto_region 1 with fail
          rw [show (w.alloc (.cells #[.int .i64 0, .int .i64 0, .string ⟨#[]⟩, .int .u32 0] 42)) = w.alloc (.cells (tkA 0 0 [] 0) 42) from rfl]
          generalize w.alloc (.cells (tkA 0 0 [] 0) 42) = w1 at *
          obtain ⟨R, hR⟩ : ∃ R, w.heap.size = R := ⟨_, rfl⟩
          have HR : Hid (w.heap.size ≤ R) := by show w.heap.size ≤ R; omega
          rw [hR] at RA ⊢
          clear hR
          go_wp2_with fail
          refine (C6.out _).mono ?_
          rintro e w2 ⟨rfl, K2⟩
          have RA2 := RA.kept K2
          have G2 := grown_trans G0 K2
          clear C6 RA G0 K2
          go_wp2_with fail
          refine (CK.out _).mono ?_
          rintro e w3 ⟨rfl, rfl⟩
          clear CK
          go_wp2_with fail
          refine (CW.out _).mono ?_
          rintro e w5 ⟨rfl, rfl⟩
          clear CW
          go_wp2_with (refine wpList_store_row rfl 42 (.tmp 2) (.tmp 34) rfl R (tkA 2 0 SW 0) rfl rfl 42 _ RA2 size42 rfl (by simp [tkA, Value.oneCell']) ?_)
          refine bodyPost_ret (ret_row rfl _ _ R (tkA 2 0 SW 0) _ rfl (RA2.setRow _) Tryz.underlying42 rfl size42) rfl ?_
          exact ⟨by rw [HX.out]; rfl, vgrown_setRow G2 _ _ (.inr HR.out)⟩
      | false =>
        have hl' : (sl s).head?.any letB = false := by rw [h0]; exact hl
        have hX := tok_sign h6 hd' hl'
        have hk2 : kindN s[0].toNat ≠ 2 := by have := hk.2.2.2.2.2.2.1; rw [hd] at this; exact of_decide_eq_false this.symm
        have hk3 : ¬ (kindN s[0].toNat = 3 ∨ kindN s[0].toNat = 4) := by have := hk.2.2.2.2.2.2.2; rw [hl] at this; exact of_decide_eq_false this.symm
        clear h6 h0 hcons C4 CW hk hd hd' hl hl'
        obtain ⟨SG, hS⟩ : ∃ S, signV (sl s) = S := ⟨_, rfl⟩
        rw [hS] at CG hX
        clear hS
        generalize kindN s[0].toNat = kk at *
        have k2 : ((kk : Int) == 2) = false := by rw [beq_eq_false_iff_ne]; omega
        have k3 : ((kk : Int) == 3) = false := by rw [beq_eq_false_iff_ne]; omega
        have k4 : ((kk : Int) == 4) = false := by rw [beq_eq_false_iff_ne]; omega
        clear hk2 hk3
        by_cases hg : SG = []
        · subst hg
          rw [if_pos rfl] at hX
          have HX : Hid _ := hX
          clear hX
          go_enter Tryz.func33, Tryz.ntmps33
          go_upto_region 1 with fail
          rw [show (w.alloc (.cells #[.int .i64 0, .int .i64 0, .string ⟨#[]⟩, .int .u32 0] 42)) = w.alloc (.cells (tkA 0 0 [] 0) 42) from rfl]
          generalize w.alloc (.cells (tkA 0 0 [] 0) 42) = w1 at *
          obtain ⟨R, hR⟩ : ∃ R, w.heap.size = R := ⟨_, rfl⟩
          have HR : Hid (w.heap.size ≤ R) := by show w.heap.size ≤ R; omega
          rw [hR] at RA ⊢
          clear hR
          go_wp2_with fail
          refine (C6.out _).mono ?_
          rintro e w2 ⟨rfl, K2⟩
          have RA2 := RA.kept K2
          have G2 := grown_trans G0 K2
          clear C6 RA G0 K2
          go_wp2_with fail
          refine (CK.out _).mono ?_
          rintro e w3 ⟨rfl, rfl⟩
          clear CK
          have CG3 := CG.out _ (HT.out.grown G2)
          clear CG HT
          go_wp2_with fail
          refine CG3.mono ?_
          rintro e w5 ⟨rfl, K5⟩
          have RA5 := RA2.kept K5
          have G5 := grown_trans G2 K5
          clear CG3 RA2 G2 K5
          go_wp2_with (refine wpList_store_row rfl 42 (.tmp 2) (.tmp 41) rfl R (tkA 0 0 [] 0) rfl rfl 42 _ RA5 size42 rfl (by simp [tkA, Value.oneCell']) ?_)
          refine bodyPost_ret (ret_row rfl _ _ R (tkA 0 0 [] 0) _ rfl (RA5.setRow _) Tryz.underlying42 rfl size42) rfl ?_
          exact ⟨by rw [HX.out]; rfl, vgrown_setRow G5 _ _ (.inr HR.out)⟩
        · have hgf : SG.isEmpty = false := by simpa using hg
          rw [if_neg hg] at hX
          have HX : Hid _ := hX
          clear hX hg
          go_enter Tryz.func33, Tryz.ntmps33
          go_upto_region 1 with fail
          rw [show (w.alloc (.cells #[.int .i64 0, .int .i64 0, .string ⟨#[]⟩, .int .u32 0] 42)) = w.alloc (.cells (tkA 0 0 [] 0) 42) from rfl]
          generalize w.alloc (.cells (tkA 0 0 [] 0) 42) = w1 at *
          obtain ⟨R, hR⟩ : ∃ R, w.heap.size = R := ⟨_, rfl⟩
          have HR : Hid (w.heap.size ≤ R) := by show w.heap.size ≤ R; omega
          rw [hR] at RA ⊢
          clear hR
          go_wp2_with fail
          refine (C6.out _).mono ?_
          rintro e w2 ⟨rfl, K2⟩
          have RA2 := RA.kept K2
          have G2 := grown_trans G0 K2
          clear C6 RA G0 K2
          go_wp2_with fail
          refine (CK.out _).mono ?_
          rintro e w3 ⟨rfl, rfl⟩
          clear CK
          have CG3 := CG.out _ (HT.out.grown G2)
          clear CG HT
          go_wp2_with fail
          refine CG3.mono ?_
          rintro e w5 ⟨rfl, K5⟩
          have RA5 := RA2.kept K5
          have G5 := grown_trans G2 K5
          clear CG3 RA2 G2 K5
          go_wp2_with (refine wpList_store_row rfl 42 (.tmp 2) (.tmp 40) rfl R (tkA 5 0 SG 0) rfl rfl 42 _ RA5 size42 rfl (by simp [tkA, Value.oneCell']) ?_)
          refine bodyPost_ret (ret_row rfl _ _ R (tkA 5 0 SG 0) _ rfl (RA5.setRow _) Tryz.underlying42 rfl size42) rfl ?_
          exact ⟨by rw [HX.out]; rfl, vgrown_setRow G5 _ _ (.inr HR.out)⟩

end Go.Proofs.YtbdmpjnlgdahmaaGreatDoor
