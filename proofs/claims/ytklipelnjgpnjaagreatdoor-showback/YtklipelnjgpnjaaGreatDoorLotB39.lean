import Derived.Test.YtklipelnjgpnjaaGreatDoorLotB38
import Derived.Deep.DeepCutAuto
import Derived.Test.YtklipelnjgpnjaaGreatDoorLotB19
import Derived.Test.YtklipelnjgpnjaaGreatDoorLotB6
import Derived.Test.YtklipelnjgpnjaaGreatDoorLotB12
import Derived.Test.YtklipelnjgpnjaaGreatDoorLotB3
import Derived.Test.YtklipelnjgpnjaaGreatDoorLotB5
set_option maxHeartbeats 64000000
set_option maxRecDepth 100000
namespace Go.Proofs.YtklipelnjgpnjaaGreatDoor
open Go.RowKit
theorem b0d {s : List UInt8} (h : 2 ≤ (s.takeWhile k6).count 58) : k8 s = .ok (4, s.takeWhile k6, 0) := by rw [k8, if_pos h]
theorem b0b {s : List UInt8} (h : ¬ 2 ≤ (s.takeWhile k6).count 58) (hd : s.head?.any D8 = true) (hq : (s.takeWhile t8).contains 46 = true) : k8 s = .ok (3, s.takeWhile t8, 0) := by
 rw [k8, if_neg h, if_pos hd, if_pos (by simpa using hq)]
theorem b08 {s : List UInt8} (h : ¬ 2 ≤ (s.takeWhile k6).count 58) (hd : s.head?.any D8 = true) (hq : (s.takeWhile t8).contains 46 = false) : k8 s = nmV (s.takeWhile l0) := by
 rw [k8, if_neg h, if_pos hd, if_neg (by simpa using hq)]
 unfold nmV
 rfl
theorem b0e {s : List UInt8} (h : ¬ 2 ≤ (s.takeWhile k6).count 58) (hd : s.head?.any D8 = false) (hl : s.head?.any a0j = true) : k8 s = .ok (2, s.takeWhile l0, 0) := by
 rw [k8, if_neg h, if_neg (by rw [hd]; simp), if_pos hl]
theorem b0c {s : List UInt8} (h : ¬ 2 ≤ (s.takeWhile k6).count 58) (hd : s.head?.any D8 = false) (hl : s.head?.any a0j = false) : k8 s = if L6 s = [] then .error 101 else .ok (5, L6 s, 0) := by
 rw [k8, if_neg h, if_neg (by rw [hd]; simp), if_neg (by rw [hl]; simp)]
theorem aH9 (s : ByteArray) (hs : s.size ≤ 140737488355328) (hne : 0 < s.size) (w : World) (T : Tab w) :
  Calls Tryz.prog 84 #[.string s] w fun e w' => e = .returned (.tuple #[.agg (a2R 0 (k8 (sl s))), .int .i64 (a2S (k8 (sl s)))]) ∧ w.grownBy w' none := by
 have RA := VAt.alloc w 99 (tkA 0 0 [] 0)
 have G0 := World.grownBy_alloc w (.cells (tkA 0 0 [] 0) 99) none
 have HT : Hid (Tab w) := T
 have h0 : (sl s).head? = some s[0] := by
  have := a0v s 0 hne
  rw [List.drop_zero] at this
  rw [this]
  rfl
 have hcons : sl s = s[0] :: (sl s).drop 1 := by
  have := a0v s 0 hne
  rw [List.drop_zero] at this
  exact this
 have C6 : Hid (∀ W : World, Calls Tryz.prog 118 #[.string s] W fun e w' => e = .returned (str (a2N (sl s))) ∧ W.grownBy w' none) := fun W => aW8 s hs W
 have C4 : Hid (∀ W : World, Calls Tryz.prog 119 #[.string s] W fun e w' => e = .returned (str (a2J (sl s))) ∧ W.grownBy w' none) := fun W => aQ6 s hs W
 have CW : Hid (∀ W : World, Calls Tryz.prog 121 #[.string s] W fun e w' => e = .returned (str ((sl s).takeWhile l0)) ∧ W = w') := fun W => aF7 s hs W
 have CK : Hid (∀ W : World, Calls Tryz.prog 83 #[.int .u8 (s[0].toNat : Int)] W fun e w' => e = .returned (.int .i64 (x0 s[0].toNat : Int)) ∧ W = w') := fun W => a3U _ W
 have CG : Hid (∀ W : World, Tab W → Calls Tryz.prog 122 #[.string s] W fun e w' => e = .returned (str (L6 (sl s))) ∧ W.grownBy w' none) := fun W TW => aW3 s hs W TW
 have hk := a1L s[0]
 have hni : (0 : Int) < (s.size : Int) := by omega
 clear T
 by_cases h6 : 2 ≤ ((sl s).takeWhile k6).count 58
 ·have HX : Hid _ := b0d h6
  have e6 : a2N (sl s) = (sl s).takeWhile k6 := by rw [a2N, if_pos h6]
  rw [e6] at C6
  have hnn : ((sl s).takeWhile k6).isEmpty = false := by
   cases hh : (sl s).takeWhile k6 with
   | nil => rw [hh] at h6; exact absurd h6 (by decide)
   | cons a b => rfl
  clear h6 e6 h0 hcons C4 CW CK CG hk HT
  obtain ⟨S6, hS⟩ : ∃ S, (sl s).takeWhile k6 = S := ⟨_, rfl⟩
  rw [hS] at C6 HX hnn
  clear hS
  go_enter Tryz.func84, Tryz.ntmps84
  go_upto_region 1 with fail
  rw [show (w.alloc (.cells #[.int .i64 0, .int .i64 0, .string ⟨#[]⟩, .int .u32 0] 99)) = w.alloc (.cells (tkA 0 0 [] 0) 99) from rfl]
  generalize w.alloc (.cells (tkA 0 0 [] 0) 99) = w1 at *
  obtain ⟨R, hR⟩ : ∃ R, w.heap.size = R := ⟨_, rfl⟩
  have HR : Hid (w.heap.size ≤ R) := by show w.heap.size ≤ R; omega
  rw [hR] at RA ⊢
  clear hR
  go_wp2_with fail
  refine (C6.out _).mono ?_
  rintro e w2 ⟨rfl, K2⟩
  have RA2 := RA.kept K2
  have G2 := d3 G0 K2
  clear C6 RA G0 K2
  go_wp2_with (refine wpList_store_row rfl 99 (.tmp 2) (.tmp 12) rfl R (tkA 4 0 S6 0) rfl rfl 99 _ RA2 M2 rfl (by simp [tkA, Value.oneCell']) ?_)
  refine bodyPost_ret (a09 rfl _ _ R (tkA 4 0 S6 0) _ rfl (RA2.setRow _) Tryz.underlying99 rfl M2) rfl ?_
  exact ⟨by rw [HX.out]; rfl, D7 G2 _ _ (.inr HR.out)⟩
 ·have e6 : a2N (sl s) = [] := by rw [a2N, if_neg h6]
  rw [e6] at C6
  clear e6
  cases hd : D8 s[0] with
  | true =>
   have hd' : (sl s).head?.any D8 = true := by rw [h0]; exact hd
   have hk2 : x0 s[0].toNat = 2 := by have := hk.2.2.2.2.2.2.1; rw [hd] at this; exact of_decide_eq_true this.symm
   rw [hk2] at CK
   clear hk2 hk
   cases hq : ((sl s).takeWhile t8).contains 46 with
   | true =>
    have HX : Hid _ := b0b h6 hd' hq
    have e4 : a2J (sl s) = (sl s).takeWhile t8 := by rw [a2J, if_pos hq]
    rw [e4] at C4
    have hnn : ((sl s).takeWhile t8).isEmpty = false := by
     cases hh : (sl s).takeWhile t8 with
     | nil => rw [hh] at hq; exact absurd hq (by decide)
     | cons a b => rfl
    clear h6 e4 h0 hcons CW CG HT hd hd' hq
    obtain ⟨S4, hS⟩ : ∃ S, (sl s).takeWhile t8 = S := ⟨_, rfl⟩
    rw [hS] at C4 HX hnn
    clear hS
    go_enter Tryz.func84, Tryz.ntmps84
    go_upto_region 1 with fail
    rw [show (w.alloc (.cells #[.int .i64 0, .int .i64 0, .string ⟨#[]⟩, .int .u32 0] 99)) = w.alloc (.cells (tkA 0 0 [] 0) 99) from rfl]
    generalize w.alloc (.cells (tkA 0 0 [] 0) 99) = w1 at *
    obtain ⟨R, hR⟩ : ∃ R, w.heap.size = R := ⟨_, rfl⟩
    have HR : Hid (w.heap.size ≤ R) := by show w.heap.size ≤ R; omega
    rw [hR] at RA ⊢
    clear hR
    go_wp2_with fail
    refine (C6.out _).mono ?_
    rintro e w2 ⟨rfl, K2⟩
    have RA2 := RA.kept K2
    have G2 := d3 G0 K2
    clear C6 RA G0 K2
    go_wp2_with fail
    refine (CK.out _).mono ?_
    rintro e w3 ⟨rfl, rfl⟩
    clear CK
    go_wp2_with fail
    refine (C4.out _).mono ?_
    rintro e w4 ⟨rfl, K4⟩
    have RA4 := RA2.kept K4
    have G4 := d3 G2 K4
    clear C4 RA2 G2 K4
    go_wp2_with (refine wpList_store_row rfl 99 (.tmp 2) (.tmp 23) rfl R (tkA 3 0 S4 0) rfl rfl 99 _ RA4 M2 rfl (by simp [tkA, Value.oneCell']) ?_)
    refine bodyPost_ret (a09 rfl _ _ R (tkA 3 0 S4 0) _ rfl (RA4.setRow _) Tryz.underlying99 rfl M2) rfl ?_
    exact ⟨by rw [HX.out]; rfl, D7 G4 _ _ (.inr HR.out)⟩
   | false =>
    have hX := b08 h6 hd' hq
    have e4 : a2J (sl s) = [] := by rw [a2J, if_neg (by rw [hq]; simp)]
    rw [e4] at C4
    have hwd : l0 s[0] = true := by rw [l0, hd]; rfl
    have hW0 : 0 < ((sl s).takeWhile l0).length := by
     rw [hcons, List.takeWhile_cons_of_pos hwd]
     simp
    have hWl : ((sl s).takeWhile l0).length ≤ 140737488355328 := by
     have := a2Q l0 (sl s)
     rw [q7] at this
     omega
    have hWw : ∀ c ∈ (sl s).takeWhile l0, l0 c = true := fun c hc => a3A l0 _ hc
    clear h6 e4 h0 hcons CG hd hd' hq hwd
    obtain ⟨SW, hS⟩ : ∃ S, (sl s).takeWhile l0 = S := ⟨_, rfl⟩
    rw [hS] at CW hX hW0 hWl hWw
    clear hS
    have CN : Hid (∀ W : World, Tab W → Calls Tryz.prog 120 #[str SW] W fun e w' => e = .returned (.tuple #[.agg (a2R 0 (nmV SW)), .int .i64 (a2S (nmV SW))]) ∧ W.grownBy w' none) := fun W TW => by
     have hz : (⟨SW.toArray⟩ : ByteArray).size = SW.length := by rw [← q7, a2h]
     exact aJ8 ⟨SW.toArray⟩ (by rw [hz]; exact hWl) (by rw [hz]; exact hW0) (by rw [a2h]; exact hWw) W TW
    clear hW0 hWl hWw
    cases hm : nmV SW with
    | error er =>
     rw [hm] at CN hX
     simp only [a2R, a2S] at CN
     have HX : Hid _ := hX
     clear hm hX
     go_enter Tryz.func84, Tryz.ntmps84
     go_upto_region 1 with fail
     rw [show (w.alloc (.cells #[.int .i64 0, .int .i64 0, .string ⟨#[]⟩, .int .u32 0] 99)) = w.alloc (.cells (tkA 0 0 [] 0) 99) from rfl]
     generalize w.alloc (.cells (tkA 0 0 [] 0) 99) = w1 at *
     obtain ⟨R, hR⟩ : ∃ R, w.heap.size = R := ⟨_, rfl⟩
     have HR : Hid (w.heap.size ≤ R) := by show w.heap.size ≤ R; omega
     rw [hR] at RA ⊢
     clear hR
     go_wp2_with fail
     refine (C6.out _).mono ?_
     rintro e w2 ⟨rfl, K2⟩
     have RA2 := RA.kept K2
     have G2 := d3 G0 K2
     clear C6 RA G0 K2
     go_wp2_with fail
     refine (CK.out _).mono ?_
     rintro e w3 ⟨rfl, rfl⟩
     clear CK
     go_wp2_with fail
     refine (C4.out _).mono ?_
     rintro e w4 ⟨rfl, K4⟩
     have RA4 := RA2.kept K4
     have G4 := d3 G2 K4
     clear C4 RA2 G2 K4
     go_wp2_with fail
     refine (CW.out _).mono ?_
     rintro e w5 ⟨rfl, rfl⟩
     clear CW
     have CN5 := CN.out _ (HT.out.grown G4)
     clear CN HT
     go_wp2_with fail
     refine CN5.mono ?_
     rintro e w6 ⟨rfl, K6⟩
     have RA6 := RA4.kept K6
     have G6 := d3 G4 K6
     clear CN5 RA4 G4 K6
     go_wp2_with (refine wpList_store_row rfl 99 (.tmp 2) (.tmp 27) rfl R (tkA 0 0 [] 0) rfl rfl 99 _ RA6 M2 rfl (by simp [tkA, Value.oneCell']) ?_)
     refine bodyPost_ret (a09 rfl _ _ R (tkA 0 0 [] 0) _ rfl (RA6.setRow _) Tryz.underlying99 rfl M2) rfl ?_
     exact ⟨by rw [HX.out]; rfl, D7 G6 _ _ (.inr HR.out)⟩
    | ok y =>
     obtain ⟨q, t, n⟩ := y
     rw [hm] at CN hX
     simp only [a2R, a2S] at CN
     have HX : Hid _ := hX
     clear hm hX
     go_enter Tryz.func84, Tryz.ntmps84
     go_upto_region 1 with fail
     rw [show (w.alloc (.cells #[.int .i64 0, .int .i64 0, .string ⟨#[]⟩, .int .u32 0] 99)) = w.alloc (.cells (tkA 0 0 [] 0) 99) from rfl]
     generalize w.alloc (.cells (tkA 0 0 [] 0) 99) = w1 at *
     obtain ⟨R, hR⟩ : ∃ R, w.heap.size = R := ⟨_, rfl⟩
     have HR : Hid (w.heap.size ≤ R) := by show w.heap.size ≤ R; omega
     rw [hR] at RA ⊢
     clear hR
     go_wp2_with fail
     refine (C6.out _).mono ?_
     rintro e w2 ⟨rfl, K2⟩
     have RA2 := RA.kept K2
     have G2 := d3 G0 K2
     clear C6 RA G0 K2
     go_wp2_with fail
     refine (CK.out _).mono ?_
     rintro e w3 ⟨rfl, rfl⟩
     clear CK
     go_wp2_with fail
     refine (C4.out _).mono ?_
     rintro e w4 ⟨rfl, K4⟩
     have RA4 := RA2.kept K4
     have G4 := d3 G2 K4
     clear C4 RA2 G2 K4
     go_wp2_with fail
     refine (CW.out _).mono ?_
     rintro e w5 ⟨rfl, rfl⟩
     clear CW
     have CN5 := CN.out _ (HT.out.grown G4)
     clear CN HT
     go_wp2_with fail
     refine CN5.mono ?_
     rintro e w6 ⟨rfl, K6⟩
     have RA6 := RA4.kept K6
     have G6 := d3 G4 K6
     clear CN5 RA4 G4 K6
     go_wp2_with (refine wpList_store_row rfl 99 (.tmp 2) (.tmp 27) rfl R (tkA q 0 t n) rfl rfl 99 _ RA6 M2 rfl (by simp [tkA, Value.oneCell']) ?_)
     refine bodyPost_ret (a09 rfl _ _ R (tkA q 0 t n) _ rfl (RA6.setRow _) Tryz.underlying99 rfl M2) rfl ?_
     exact ⟨by rw [HX.out]; rfl, D7 G6 _ _ (.inr HR.out)⟩
  | false =>
   have hd' : (sl s).head?.any D8 = false := by rw [h0]; exact hd
   cases hl : a0j s[0] with
   | true =>
    have hl' : (sl s).head?.any a0j = true := by rw [h0]; exact hl
    have HX : Hid _ := b0e h6 hd' hl'
    have hk3 : x0 s[0].toNat = 3 ∨ x0 s[0].toNat = 4 := by have := hk.2.2.2.2.2.2.2; rw [hl] at this; exact of_decide_eq_true this.symm
    clear h6 h0 hcons C4 CG hk HT hd hd' hl hl'
    obtain ⟨SW, hS⟩ : ∃ S, (sl s).takeWhile l0 = S := ⟨_, rfl⟩
    rw [hS] at CW HX
    clear hS
    rcases hk3 with hk3 | hk3
    all_goals
     rw [hk3] at CK
     clear hk3
     go_enter Tryz.func84, Tryz.ntmps84
     go_upto_region 1 with fail
     rw [show (w.alloc (.cells #[.int .i64 0, .int .i64 0, .string ⟨#[]⟩, .int .u32 0] 99)) = w.alloc (.cells (tkA 0 0 [] 0) 99) from rfl]
     generalize w.alloc (.cells (tkA 0 0 [] 0) 99) = w1 at *
     obtain ⟨R, hR⟩ : ∃ R, w.heap.size = R := ⟨_, rfl⟩
     have HR : Hid (w.heap.size ≤ R) := by show w.heap.size ≤ R; omega
     rw [hR] at RA ⊢
     clear hR
     go_wp2_with fail
     refine (C6.out _).mono ?_
     rintro e w2 ⟨rfl, K2⟩
     have RA2 := RA.kept K2
     have G2 := d3 G0 K2
     clear C6 RA G0 K2
     go_wp2_with fail
     refine (CK.out _).mono ?_
     rintro e w3 ⟨rfl, rfl⟩
     clear CK
     go_wp2_with fail
     refine (CW.out _).mono ?_
     rintro e w5 ⟨rfl, rfl⟩
     clear CW
     go_wp2_with (refine wpList_store_row rfl 99 (.tmp 2) (.tmp 34) rfl R (tkA 2 0 SW 0) rfl rfl 99 _ RA2 M2 rfl (by simp [tkA, Value.oneCell']) ?_)
     refine bodyPost_ret (a09 rfl _ _ R (tkA 2 0 SW 0) _ rfl (RA2.setRow _) Tryz.underlying99 rfl M2) rfl ?_
     exact ⟨by rw [HX.out]; rfl, D7 G2 _ _ (.inr HR.out)⟩
   | false =>
    have hl' : (sl s).head?.any a0j = false := by rw [h0]; exact hl
    have hX := b0c h6 hd' hl'
    have hk2 : x0 s[0].toNat ≠ 2 := by have := hk.2.2.2.2.2.2.1; rw [hd] at this; exact of_decide_eq_false this.symm
    have hk3 : ¬ (x0 s[0].toNat = 3 ∨ x0 s[0].toNat = 4) := by have := hk.2.2.2.2.2.2.2; rw [hl] at this; exact of_decide_eq_false this.symm
    clear h6 h0 hcons C4 CW hk hd hd' hl hl'
    obtain ⟨SG, hS⟩ : ∃ S, L6 (sl s) = S := ⟨_, rfl⟩
    rw [hS] at CG hX
    clear hS
    generalize x0 s[0].toNat = kk at *
    have k2 : ((kk : Int) == 2) = false := by rw [beq_eq_false_iff_ne]; omega
    have k3 : ((kk : Int) == 3) = false := by rw [beq_eq_false_iff_ne]; omega
    have k4 : ((kk : Int) == 4) = false := by rw [beq_eq_false_iff_ne]; omega
    clear hk2 hk3
    by_cases hg : SG = []
    ·subst hg
     rw [if_pos rfl] at hX
     have HX : Hid _ := hX
     clear hX
     go_enter Tryz.func84, Tryz.ntmps84
     go_upto_region 1 with fail
     rw [show (w.alloc (.cells #[.int .i64 0, .int .i64 0, .string ⟨#[]⟩, .int .u32 0] 99)) = w.alloc (.cells (tkA 0 0 [] 0) 99) from rfl]
     generalize w.alloc (.cells (tkA 0 0 [] 0) 99) = w1 at *
     obtain ⟨R, hR⟩ : ∃ R, w.heap.size = R := ⟨_, rfl⟩
     have HR : Hid (w.heap.size ≤ R) := by show w.heap.size ≤ R; omega
     rw [hR] at RA ⊢
     clear hR
     go_wp2_with fail
     refine (C6.out _).mono ?_
     rintro e w2 ⟨rfl, K2⟩
     have RA2 := RA.kept K2
     have G2 := d3 G0 K2
     clear C6 RA G0 K2
     go_wp2_with fail
     refine (CK.out _).mono ?_
     rintro e w3 ⟨rfl, rfl⟩
     clear CK
     have CG3 := CG.out _ (HT.out.grown G2)
     clear CG HT
     go_wp2_with fail
     refine CG3.mono ?_
     rintro e w5 ⟨rfl, K5⟩
     have RA5 := RA2.kept K5
     have G5 := d3 G2 K5
     clear CG3 RA2 G2 K5
     go_wp2_with (refine wpList_store_row rfl 99 (.tmp 2) (.tmp 41) rfl R (tkA 0 0 [] 0) rfl rfl 99 _ RA5 M2 rfl (by simp [tkA, Value.oneCell']) ?_)
     refine bodyPost_ret (a09 rfl _ _ R (tkA 0 0 [] 0) _ rfl (RA5.setRow _) Tryz.underlying99 rfl M2) rfl ?_
     exact ⟨by rw [HX.out]; rfl, D7 G5 _ _ (.inr HR.out)⟩
    ·have hgf : SG.isEmpty = false := by simpa using hg
     rw [if_neg hg] at hX
     have HX : Hid _ := hX
     clear hX hg
     go_enter Tryz.func84, Tryz.ntmps84
     go_upto_region 1 with fail
     rw [show (w.alloc (.cells #[.int .i64 0, .int .i64 0, .string ⟨#[]⟩, .int .u32 0] 99)) = w.alloc (.cells (tkA 0 0 [] 0) 99) from rfl]
     generalize w.alloc (.cells (tkA 0 0 [] 0) 99) = w1 at *
     obtain ⟨R, hR⟩ : ∃ R, w.heap.size = R := ⟨_, rfl⟩
     have HR : Hid (w.heap.size ≤ R) := by show w.heap.size ≤ R; omega
     rw [hR] at RA ⊢
     clear hR
     go_wp2_with fail
     refine (C6.out _).mono ?_
     rintro e w2 ⟨rfl, K2⟩
     have RA2 := RA.kept K2
     have G2 := d3 G0 K2
     clear C6 RA G0 K2
     go_wp2_with fail
     refine (CK.out _).mono ?_
     rintro e w3 ⟨rfl, rfl⟩
     clear CK
     have CG3 := CG.out _ (HT.out.grown G2)
     clear CG HT
     go_wp2_with fail
     refine CG3.mono ?_
     rintro e w5 ⟨rfl, K5⟩
     have RA5 := RA2.kept K5
     have G5 := d3 G2 K5
     clear CG3 RA2 G2 K5
     go_wp2_with (refine wpList_store_row rfl 99 (.tmp 2) (.tmp 40) rfl R (tkA 5 0 SG 0) rfl rfl 99 _ RA5 M2 rfl (by simp [tkA, Value.oneCell']) ?_)
     refine bodyPost_ret (a09 rfl _ _ R (tkA 5 0 SG 0) _ rfl (RA5.setRow _) Tryz.underlying99 rfl M2) rfl ?_
     exact ⟨by rw [HX.out]; rfl, D7 G5 _ _ (.inr HR.out)⟩
theorem ar4 (s : List UInt8) (p : UInt8 → Bool) : s = s.takeWhile p ++ s.drop (s.takeWhile p).length := by
 have h := a4f p s
 generalize (s.takeWhile p).length = n at h
 rw [h, List.take_append_drop]
theorem ar3 (s : List UInt8) (p : UInt8 → Bool) (c : UInt8) (r : List UInt8) (h : s.drop (s.takeWhile p).length = c :: r) : p c = false := by
 induction s with
 | nil => simp at h
 | cons a s ih =>
  by_cases ha : p a = true
  ·rw [List.takeWhile_cons_of_pos ha] at h
   exact ih (by simpa using h)
  ·rw [List.takeWhile_cons_of_neg ha] at h
   simp at h
   rw [← h.1]
   simpa using ha
theorem aC3 (s : ByteArray) (hs : s.size ≤ 140737488355328) (w : World) (T : Tab w) :
  Calls Tryz.prog 31 #[.string s] w fun e w' => ∃ v, e = .returned (.tuple #[v, .int .i64 (a6B (a03 (sl s)) : Int), .int .i64 (a6z (a03 (sl s)))]) ∧ a01 w' w.heap.size v (a9e (a03 (sl s))) ∧ w.grownBy w' none := by
 by_cases hl : 65536 < s.size
 ·have e0 : a03 (sl s) = .error (0, 100) := by rw [a03, if_pos (by rw [q7]; exact hl)]
  rw [e0]
  have hl' : (65536 : Int) < (s.size : Int) := by omega
  clear e0 T
  go_enter Tryz.func31, Tryz.ntmps31
  go_wp2
  go_ret3
  exact ⟨_, rfl, World.ownsRow_nil _ _ _ _, World.grownBy.refl _ _⟩
 have e0 : a03 (sl s) = N8 0 (sl s) := by rw [a03, if_neg (by rw [q7]; exact hl)]
 have hl' : ¬ (65536 : Int) < (s.size : Int) := by omega
 have hl2 : s.size ≤ 65536 := by omega
 obtain ⟨ans, hans⟩ : ∃ ans, a03 (sl s) = ans := ⟨_, rfl⟩
 have HA : Hid (N8 0 (sl s) = ans) := by show N8 0 (sl s) = ans; rw [← e0]; exact hans
 rw [hans]
 have HT : Hid (Tab w) := T
 clear e0 hans hl T
 obtain ⟨i0, hi, hz0, hz1, hz2⟩ := info_parts ax8
 go_enter Tryz.func31, Tryz.ntmps31
 go_upto_region 5 with fail
 go_loopw [5, 6] (fun u x wr => ∃ (j : Nat) (us : List Tk), j ≤ s.size ∧ us.length ≤ j ∧ x = .int .i64 j ∧ Hid (a2r us (N8 j ((sl s).drop j)) = ans) ∧ a01 wr w.heap.size u us ∧ w.grownBy wr none) (fun _ x _ => s.size - (intOf x).toNat)
 case atStart => exact ⟨0, [], Nat.zero_le _, Nat.zero_le _, rfl, by show a2r [] (N8 0 ((sl s).drop 0)) = ans; rw [List.drop_zero, HA.out]; cases ans <;> rfl, World.ownsRow_nil _ _ _ _, World.grownBy.refl _ _⟩
 case round =>
  clear HA
  obtain ⟨j, us, hj, hu, rfl, HI, OU, G⟩ := hrel
  have z0 : (0 : Int) ≤ (j : Int) := by omega
  have hji : (j : Int) ≤ (s.size : Int) := by omega
  have hex : ∀ k, sl (s.extract k s.size) = (sl s).drop k := fun k => by
   rw [a2P]
   exact List.take_of_length_le (by rw [List.length_drop, q7]; exact Nat.le_refl _)
  have hxs : ∀ k, (s.extract k s.size).size ≤ 140737488355328 := fun k => by rw [← q7, hex, List.length_drop, q7]; omega
  have CB := aT2 (s.extract j s.size) (hxs j) wr
  rw [hex j] at CB
  have hsplit := ar4 ((sl s).drop j) I8
  have hnot := ar3 ((sl s).drop j) I8
  have hbl : (((sl s).drop j).takeWhile I8).length ≤ s.size - j := by
   have := a2Q I8 ((sl s).drop j)
   rw [List.length_drop, q7] at this
   exact this
  have hskip := aC0 j (((sl s).drop j).takeWhile I8) (((sl s).drop j).drop (((sl s).drop j).takeWhile I8).length) (fun b hb => a3A I8 _ hb)
  rw [← hsplit, List.drop_drop] at hskip
  simp only [List.drop_drop] at hnot
  clear hsplit
  obtain ⟨B, hB⟩ : ∃ B, ((sl s).drop j).takeWhile I8 = B := ⟨_, rfl⟩
  rw [hB] at CB hbl hskip hnot
  have hBs : ((⟨B.toArray⟩ : ByteArray).size : Int) = (B.length : Int) := by rw [← q7, a2h]
  obtain ⟨k, hk⟩ : ∃ k, j + B.length = k := ⟨_, rfl⟩
  have hw : IntKind.i64.wrap ((j : Int) + (B.length : Int)) = (k : Int) := by rw [IntKind.wrap_i64]; omega
  rw [hk] at hskip hnot
  have HI2 : Hid (a2r us (N8 k ((sl s).drop k)) = ans) := by show a2r us _ = ans; rw [← hskip]; exact HI.out
  have hks : k ≤ s.size := by omega
  have hku : us.length ≤ k := by omega
  have hjk : j ≤ k := by omega
  have HNB : Hid (∀ c r, (sl s).drop k = c :: r → I8 c = false) := hnot
  have z1 : (0 : Int) ≤ (k : Int) := by omega
  have hksi : (k : Int) ≤ (s.size : Int) := by omega
  clear HI hskip hnot hB hbl hk hu hj
  by_cases hlt : k < s.size
  ·have hne : ((k : Int) == (s.size : Int)) = false := by rw [beq_eq_false_iff_ne]; omega
   have HD : Hid ((sl s).drop k = s[k] :: (sl s).drop (k + 1)) := a0v s k hlt
   have hb : I8 s[k] = false := HNB.out _ _ HD.out
   have hpos : 0 < (s.extract k s.size).size := by rw [← q7, hex, List.length_drop, q7]; omega
   have CT := aH9 (s.extract k s.size) (hxs k) hpos wr (HT.out.grown G)
   rw [hex k] at CT
   clear hpos hxs hex HNB
   cases ht : k8 ((sl s).drop k) with
   | error er =>
    rw [ht] at CT
    simp only [a2R, a2S, tkA] at CT
    have hz := af2 ht
    have hans : ans = .error (k, er) := by
     rw [← HI2.out, HD.out, a3V k hb (by rw [← HD.out]; exact ht)]
     rfl
    subst hans
    have HG : Hid (w.grownBy wr none) := G
    clear HI2 HD OU G ht
    go_wp2_with fail
    refine CB.mono ?_
    rintro e w1 ⟨rfl, rfl⟩
    clear CB
    go_wp2_with fail
    refine CT.mono ?_
    rintro e w1 ⟨rfl, K1⟩
    have G1 := d3 HG.out K1
    clear CT K1
    go_wp2
    go_ret3
    exact ⟨_, rfl, World.ownsRow_nil _ _ _ _, d3 G1 (World.grownBy_alloc _ _ _)⟩
   | ok y =>
    obtain ⟨q, t, n⟩ := y
    rw [ht] at CT
    simp only [a2R, a2S, tkA] at CT
    have hok := Z9 ht
    have htl : 1 ≤ t.length := List.length_pos_iff.2 hok.1
    have htl2 : k + t.length ≤ s.size := by
     have := hok.2.2.1
     rw [List.length_drop, q7] at this
     omega
    have HN : Hid (a2r (us ++ [⟨q, k, t, n⟩]) (N8 (k + t.length) ((sl s).drop (k + t.length))) = ans) := by
     show a2r _ _ = ans
     have e1 := a3f k hb (by rw [← HD.out]; exact ht)
     rw [← HD.out, List.drop_drop] at e1
     rw [← HI2.out, e1]
     cases N8 (k + t.length) ((sl s).drop (k + t.length)) with
     | error e => rfl
     | ok ts => simp [a2r]
    have HG : Hid (w.grownBy wr none) := G
    have HOU : Hid (a01 wr w.heap.size u5 us) := OU
    clear HI2 HD OU G ht hok
    go_wp2_with fail
    refine CB.mono ?_
    rintro e w1 ⟨rfl, rfl⟩
    clear CB
    go_wp2_with fail
    refine CT.mono ?_
    rintro e w2 ⟨rfl, K2⟩
    clear CT
    go_upto_region 12 with fail
    have VA := VAt.alloc w2 99 #[.int .i64 (q : Int), .int .i64 (k : Int), str t, .int .u32 (n : Int)]
    have K3 := d3 K2 (World.grownBy_alloc w2 (.cells #[.int .i64 (q : Int), .int .i64 (k : Int), str t, .int .u32 (n : Int)] 99) none)
    have HV : Hid (∀ y, u5.ownBlock = some y → y < w2.heap.size) := fun y hy => by
     have := (World.ownsRow.lt HOU.out y hy).2
     have := K2.size
     omega
    have O3 : a01 (w2.alloc (.cells #[.int .i64 (q : Int), .int .i64 (k : Int), str t, .int .u32 (n : Int)] 99)) w.heap.size u5 us := E7 HOU.out K3
    have G3 := d3 HG.out K3
    have HVL : Hid (w.heap.size ≤ w2.heap.size) := (d3 HG.out K2).size
    generalize w2.alloc (.cells #[.int .i64 (q : Int), .int .i64 (k : Int), str t, .int .u32 (n : Int)] 99) = w3 at *
    generalize w2.heap.size = V at *
    have HSZ : Hid ((Tryz.prog.info? 99).map (·.size) = some (#[.int .i64 (q : Int), .int .i64 (k : Int), str t, .int .u32 (n : Int)] : Array Value).size) := M2
    clear K2 K3 HOU HG
    have KA := World.grownBy_alloc w3 (.cells #[.int .i64 (q : Int), .int .i64 (k : Int), str t, .int .u32 (n : Int)] 99) none
    have HO4 : Hid (a01 (w3.alloc (.cells #[.int .i64 (q : Int), .int .i64 (k : Int), str t, .int .u32 (n : Int)] 99)) w.heap.size u5 us ∧ VAt (w3.alloc (.cells #[.int .i64 (q : Int), .int .i64 (k : Int), str t, .int .u32 (n : Int)] 99)) V 99 #[.int .i64 (q : Int), .int .i64 (k : Int), str t, .int .u32 (n : Int)] ∧ w.grownBy (w3.alloc (.cells #[.int .i64 (q : Int), .int .i64 (k : Int), str t, .int .u32 (n : Int)] 99)) none) := ⟨E7 O3 KA, VA.kept KA, d3 G3 KA⟩
    have HCB : Hid (CV (w3.alloc (.cells #[.int .i64 (q : Int), .int .i64 (k : Int), str t, .int .u32 (n : Int)] 99)) (some ⟨w3.heap.size, 0, none⟩) [.int .i64 (q : Int), .int .i64 (k : Int), str t, .int .u32 (n : Int)]) := s0 w3 _ _
    clear O3 G3 KA
    go_wp2_with (first
     | refine wpList_load_row rfl 99 (.tmp 7) rfl V rfl 99 _ (0, 0) _ VA Tryz.underlying99 rfl HSZ.out ?_
     | (at_builtin; refine a18 rfl (.tmp 41) (.tmp 43) 61 rfl 99 i0 _ 4 40 Tryz.underlying61 hi hz0 hz1 hz2 rfl (by decide) w.heap.size u5 us.length (a0o us) rfl ?r1 (some ⟨w3.heap.size, 0, none⟩) 1 1 [.int .i64 (q : Int), .int .i64 (k : Int), str t, .int .u32 (n : Int)] rfl rfl (by simp) ?r2 (by simp [Value.oneCell']) ?r3 ?r4 ?r5 ?r6))
    case r1 => exact HO4.out.1
    case r2 => exact HCB.out
    case r3 => unfold maxLen; omega
    case r4 => omega
    case r5 => exact HO4.out.2.2.size
    case r6 =>
     intro v5 w5 O5 K5
     have V5 := HO4.out.2.1.grown K5 (fun e => by have := HV.out V e; omega)
     have G5 := Z3 HO4.out.2.2 K5 (fun x hx => (World.ownsRow.lt HO4.out.1 x hx).1)
     have HO5 : Hid (a01 w5 w.heap.size v5 (us ++ [⟨q, k, t, n⟩]) ∧ w.grownBy w5 none) := ⟨by
      show w5.ownsRow w.heap.size 99 4 v5 (us ++ [(⟨q, k, t, n⟩ : Tk)]).length (a0o (us ++ [(⟨q, k, t, n⟩ : Tk)]))
      rw [List.length_append, a8H]
      exact O5, G5⟩
     have c2 : w5.cell? ⟨V, 2, none⟩ = some (str t) := V5.cell 2
     have hw2 : IntKind.i64.wrap ((k : Int) + (t.length : Int)) = ((k + t.length : Nat) : Int) := by rw [IntKind.wrap_i64]; omega
     have hts : ((⟨t.toArray⟩ : ByteArray).size : Int) = (t.length : Int) := by rw [← q7, a2h]
     clear VA HO4 HCB O5 K5 V5 G5
     go_wp2
     go_roundw
     case rel => exact ⟨k + t.length, us ++ [⟨q, k, t, n⟩], htl2, by rw [List.length_append, List.length_singleton]; omega, by go_num, HN, HO5.out.1, HO5.out.2⟩
     case measure => simp [intOf]; omega
  ·obtain rfl : k = s.size := by omega
   have hne : ((s.size : Int) == (s.size : Int)) = true := by simp
   have hans : ans = .ok (us ++ [⟨0, s.size, [], 0⟩]) := by
    rw [← HI2.out, List.drop_eq_nil_of_le (by rw [q7]; exact Nat.le_refl _), a3W]
    rfl
   subst hans
   have KA := World.grownBy_alloc wr (.cells #[.int .i64 0, .int .i64 (s.size : Int), str [], .int .u32 0] 99) none
   have HO4 : Hid (a01 (wr.alloc (.cells #[.int .i64 0, .int .i64 (s.size : Int), str [], .int .u32 0] 99)) w.heap.size u5 us ∧ w.grownBy (wr.alloc (.cells #[.int .i64 0, .int .i64 (s.size : Int), str [], .int .u32 0] 99)) none) := ⟨E7 OU KA, d3 G KA⟩
   have HCB : Hid (CV (wr.alloc (.cells #[.int .i64 0, .int .i64 (s.size : Int), str [], .int .u32 0] 99)) (some ⟨wr.heap.size, 0, none⟩) [.int .i64 0, .int .i64 (s.size : Int), str [], .int .u32 0]) := s0 wr _ _
   clear HI2 OU G KA hxs hex HNB
   go_wp2_with fail
   refine CB.mono ?_
   rintro e w1 ⟨rfl, rfl⟩
   clear CB
   go_wp2_with (at_builtin; refine a18 rfl (.tmp 23) (.tmp 26) 61 rfl 99 i0 _ 4 40 Tryz.underlying61 hi hz0 hz1 hz2 rfl (by decide) w.heap.size u5 us.length (a0o us) rfl ?r1 (some ⟨wr.heap.size, 0, none⟩) 1 1 [.int .i64 0, .int .i64 (s.size : Int), str [], .int .u32 0] rfl rfl (by simp) ?r2 (by simp [Value.oneCell']) ?r3 ?r4 ?r5 ?r6)
   case r1 => exact HO4.out.1
   case r2 => exact HCB.out
   case r3 => unfold maxLen; omega
   case r4 => omega
   case r5 => have := HO4.out.2.size; simpa using this
   case r6 =>
    intro v5 w5 O5 K5
    have G5 := Z3 HO4.out.2 K5 (fun x hx => (World.ownsRow.lt HO4.out.1 x hx).1)
    have HO5 : Hid (a01 w5 w.heap.size v5 (us ++ [⟨0, s.size, [], 0⟩]) ∧ w.grownBy w5 none) := ⟨by
     show w5.ownsRow w.heap.size 99 4 v5 (us ++ [(⟨0, s.size, [], 0⟩ : Tk)]).length (a0o (us ++ [(⟨0, s.size, [], 0⟩ : Tk)]))
     rw [List.length_append, a8H]
     exact O5, G5⟩
    clear HO4 HCB O5 K5 G5
    go_wp2
    go_ret3
    exact ⟨_, rfl, HO5.out.1, HO5.out.2⟩
theorem a01.toks {w : World} {base : Nat} {v : Value} {xs : List Tk} (h : a01 w base v xs) (hx : 0 < xs.length) : ∃ g cap, v = .slice (some ⟨g, 0, none⟩) xs.length cap ∧ ∀ i (hi : i < xs.length), w.cell? ⟨g, i * 4, none⟩ = some (.int .i64 (xs[i].kind : Int)) ∧ w.cell? ⟨g, i * 4 + 1, none⟩ = some (.int .i64 (xs[i].pos : Int)) ∧
   w.cell? ⟨g, i * 4 + 2, none⟩ = some (str xs[i].text) ∧ w.cell? ⟨g, i * 4 + 3, none⟩ = some (.int .u32 (xs[i].num : Int)) := by
 obtain ⟨g, cap, hv, -⟩ := a9F h hx
 obtain ⟨ao, cap', hv', C, -⟩ := T0 h
 rw [hv] at hv'
 simp only [Value.slice.injEq, true_and] at hv'
 obtain ⟨rfl, rfl⟩ := hv'
 refine ⟨g, cap, hv, fun i hi => ?_⟩
 obtain ⟨b, off, e, hc⟩ := C.toks hi
 simp only [Option.some.injEq, Addr.mk.injEq] at e
 obtain ⟨rfl, rfl, -⟩ := e
 have := hc i hi
 simpa using this
theorem a6D : ∀ (k p : Nat) (s : List UInt8) (ts : List Tk), s.length ≤ k → N8 p s = .ok ts → ts.length ≤ s.length + 1
 | k, p, [], ts, _, h => by
  rw [a3W] at h
  cases h
  simp
 | 0, p, c :: r, ts, hk, h => by simp at hk
 | k + 1, p, c :: r, ts, hk, h => by
  simp only [List.length_cons] at hk
  cases hb : I8 c with
  | true =>
   rw [a3e p r hb] at h
   have := a6D k (p + 1) r ts (by omega) h
   simp only [List.length_cons]
   omega
  | false =>
   cases ht : k8 (c :: r) with
   | error e => rw [a3V p hb ht] at h; cases h
   | ok x =>
    obtain ⟨q, t, n⟩ := x
    rw [a3f p hb ht] at h
    have hl := List.length_pos_iff.2 (Z9 ht).1
    have hle := (Z9 ht).2.2.1
    split at h
    ·cases h
    ·rename_i ts' h'
     cases h
     have := a6D k (p + t.length) ((c :: r).drop t.length) ts' (by rw [List.length_drop, List.length_cons]; omega) h'
     rw [List.length_drop] at this
     simp only [List.length_cons] at *
     omega
theorem a01.items {w : World} {base : Nat} {v : Value} {xs : List Tk} (h : a01 w base v xs) : ∃ ao ca, v = .slice ao xs.length ca ∧ CV w ao (a0o xs) ∧ xs.length ≤ ca ∧ (ao = none → ca = 0) := by
 obtain ⟨ao, cap, hv, C, h1, -, h2, -⟩ := T0 h
 exact ⟨ao, cap, hv, C, h1, h2⟩
theorem a6E : ∀ (k p : Nat) (s : List UInt8) (ts : List Tk), s.length ≤ k → N8 p s = .ok ts → ∀ t ∈ ts, t.text.length ≤ s.length ∧ t.pos ≤ p + s.length ∧ t.kind ≤ 5 ∧ t.num ≤ 4294967295
 | k, p, [], ts, _, h, t, ht => by
  rw [a3W] at h
  cases h
  simp only [List.mem_singleton] at ht
  subst ht
  simp
 | 0, p, c :: r, ts, hk, h, t, ht => by simp at hk
 | k + 1, p, c :: r, ts, hk, h, t, ht => by
  simp only [List.length_cons] at hk
  cases hb : I8 c with
  | true =>
   rw [a3e p r hb] at h
   have := a6E k (p + 1) r ts (by omega) h t ht
   simp only [List.length_cons]
   omega
  | false =>
   cases hx : k8 (c :: r) with
   | error e => rw [a3V p hb hx] at h; cases h
   | ok x =>
    obtain ⟨q, u, n⟩ := x
    rw [a3f p hb hx] at h
    have hok := Z9 hx
    have hl := List.length_pos_iff.2 hok.1
    have hle := hok.2.2.1
    split at h
    ·cases h
    ·rename_i ts' h'
     cases h
     rcases List.mem_cons.1 ht with rfl | ht
     ·exact ⟨hle, by simp only; omega, by simp only; omega, hok.2.2.2.2.2⟩
     ·have := a6E k (p + u.length) ((c :: r).drop u.length) ts' (by rw [List.length_drop, List.length_cons]; omega) h' t ht
      rw [List.length_drop] at this
      simp only [List.length_cons] at *
      omega
theorem aC2 {s : List UInt8} {ts : List Tk} (h : a03 s = .ok ts) : s.length ≤ 65536 ∧ ∃ us, ts = us ++ [⟨0, s.length, [], 0⟩] ∧ us.length ≤ 65536 ∧ ∀ t ∈ us, t.text ≠ [] ∧ k8 t.text = .ok (t.kind, t.text, t.num) ∧ t.text.length ≤ 65536 ∧ t.pos ≤ 65536 ∧ t.kind ≤ 5 ∧ t.num ≤ 4294967295 := by
 unfold a03 at h
 split at h
 ·cases h
 ·rename_i hl
  obtain ⟨us, e, hu⟩ := a6C _ 0 s ts (Nat.le_refl _) h
  have hf := a6D _ 0 s ts (Nat.le_refl _) h
  have ht := a6E _ 0 s ts (Nat.le_refl _) h
  rw [Nat.zero_add] at e
  refine ⟨by omega, us, e, ?_, fun t hm => ?_⟩
  ·rw [e, List.length_append, List.length_singleton] at hf
   omega
  ·obtain ⟨a, b⟩ := hu t hm
   obtain ⟨c, d, e', f⟩ := ht t (by rw [e]; exact List.mem_append_left _ hm)
   exact ⟨a, b, by omega, by omega, e', f⟩
theorem aB9 {s : List UInt8} {x : Nat × Int} (h : a03 s = .error x) : (x.2 != 0) = true := by
 unfold a03 at h
 split at h
 ·cases h; rfl
 ·exact go _ 0 s (Nat.le_refl _) x h
where
 go : ∀ (k p : Nat) (s : List UInt8), s.length ≤ k → ∀ x, N8 p s = .error x → (x.2 != 0) = true
  | k, p, [], _, x, h => by rw [a3W] at h; cases h
  | 0, p, c :: r, hk, x, h => by simp at hk
  | k + 1, p, c :: r, hk, x, h => by
   simp only [List.length_cons] at hk
   cases hb : I8 c with
   | true =>
    rw [a3e p r hb] at h
    exact go k (p + 1) r (by omega) x h
   | false =>
    cases hx : k8 (c :: r) with
    | error e =>
     rw [a3V p hb hx] at h
     cases h
     exact af2 hx
    | ok y =>
     obtain ⟨q, u, n⟩ := y
     rw [a3f p hb hx] at h
     have hl := List.length_pos_iff.2 (Z9 hx).1
     split at h
     ·rename_i e h'
      cases h
      exact go k (p + u.length) ((c :: r).drop u.length) (by rw [List.length_drop, List.length_cons]; omega) _ h'
     ·cases h
def TkG (t : Tk) : Prop := ((t.kind = 0 ∧ t.text = []) ∨ k8 t.text = .ok (t.kind, t.text, t.num)) ∧ t.text.length ≤ 65536 ∧ t.pos ≤ 65536 ∧ t.num ≤ 4294967295 ∧ t.kind ≤ 5
def R0 (x : List UInt8) : Prop := x ≠ [] ∧ ∃ q, (q = 5 ∨ q = 2) ∧ k8 x = .ok (q, x, 0)
def a0g (ts : List Tk) : Prop := a2l ts ∧ ∀ t ∈ ts, TkG t
theorem a0g.hd {ts : List Tk} (h : a0g ts) : TkG (hdT ts) := h.2 _ h.1.mem
theorem a0g.tail {ts : List Tk} (h : a0g ts) (hk : (hdT ts).kind ≠ 0) : a0g ts.tail := ⟨h.1.tail hk, fun t ht => h.2 t (List.mem_of_mem_tail ht)⟩
theorem a0g.ne {ts : List Tk} (h : a0g ts) : ts ≠ [] := fun e => by
 obtain ⟨us, x, hx, -⟩ := h.1
 rw [e] at hx
 cases us <;> cases hx
theorem aC1 {s : List UInt8} {ts : List Tk} (h : a03 s = .ok ts) : a0g ts ∧ ts.length ≤ 65537 := by
 obtain ⟨hl, us, rfl, hu, ht⟩ := aC2 h
 have hk : ∀ t ∈ us, t.kind ≠ 0 := fun t hm => by
  have := (Z9 (ht t hm).2.1).2.2.2.1
  omega
 refine ⟨⟨⟨us, _, rfl, rfl, hk⟩, fun t hm => ?_⟩, by rw [List.length_append, List.length_singleton]; omega⟩
 rcases List.mem_append.1 hm with hm | hm
 ·obtain ⟨-, h2, h3, h4, h5, h6⟩ := ht t hm
  exact ⟨.inr h2, h3, h4, h6, h5⟩
 ·rw [List.mem_singleton] at hm
  subst hm
  exact ⟨.inl ⟨rfl, rfl⟩, by simp, hl, by simp, by simp⟩
theorem a11 {ts : List Tk} {x : List UInt8} (h : TkG (hdT ts)) (hx : R0 x) : isB ts x = decide ((hdT ts).text = x) := by
 unfold isB
 by_cases e : (hdT ts).text = x
 ·rw [decide_eq_true e]
  obtain ⟨hne, q, hq, ht⟩ := hx
  rcases h.1 with ⟨-, h0⟩ | h1
  ·exact absurd (e.symm.trans h0) hne
  ·rw [e, ht] at h1
   have hk : (hdT ts).kind = q := (congrArg Prod.fst (Except.ok.inj h1)).symm
   rw [hk, e]
   rcases hq with rfl | rfl <;> simp
 ·rw [decide_eq_false e]
  simp [e]
theorem a3N {ts : List Tk} {x : List UInt8} {q : Nat} (h : TkG (hdT ts)) (hne : x ≠ []) (hx : k8 x = .ok (q, x, 0)) (e : (hdT ts).text = x) : (hdT ts).kind = q := by
 rcases h.1 with ⟨-, h0⟩ | h1
 ·exact absurd (e.symm.trans h0) hne
 ·rw [e, hx] at h1
  exact (congrArg Prod.fst (Except.ok.inj h1)).symm
def a1s : List (List UInt8) := [a1D, a1C, a1E, E0, L3, J0, U0, U9, J5, I3]
theorem a4h : ∀ x ∈ a1s, x ≠ [] ∧ k8 x = .ok (2, x, 0) ∧ E4 x = 0 := by
 intro x hx
 simp only [a1s, List.mem_cons, List.not_mem_nil, or_false] at hx
 rcases hx with rfl | rfl | rfl | rfl | rfl | rfl | rfl | rfl | rfl | rfl <;> exact ⟨by decide, by kernel_rfl, by decide⟩
def a50 : List (List UInt8) := [[112, 112, 112], [105, 112], [105, 112, 54], [116, 99, 112], [117, 100, 112], [105, 99, 109, 112], [105, 99, 109, 112, 54], [108, 99, 112], [112, 97, 112], [99, 104, 97, 112], [105, 112, 99, 112], [105, 112, 54, 99, 112], [109, 112]]
theorem b07 : ∀ x ∈ a50, x ≠ [] ∧ k8 x = .ok (2, x, 0) := by
 intro x hx
 simp only [a50, List.mem_cons, List.not_mem_nil, or_false] at hx
 rcases hx with rfl | rfl | rfl | rfl | rfl | rfl | rfl | rfl | rfl | rfl | rfl | rfl | rfl <;> exact ⟨by decide, by kernel_rfl⟩
theorem aG0 {x : List UInt8} (h : E4 x ≠ 0) : x ∈ a50 := by
 unfold E4 at h
 simp only [a50, List.mem_cons, List.not_mem_nil, or_false]
 by_cases e1 : x = [112, 112, 112]; · simp [e1]
 by_cases e2 : x = [105, 112]; · simp [e2]
 by_cases e3 : x = [105, 112, 54]; · simp [e3]
 by_cases e4 : x = [116, 99, 112]; · simp [e4]
 by_cases e5 : x = [117, 100, 112]; · simp [e5]
 by_cases e6 : x = [105, 99, 109, 112]; · simp [e6]
 by_cases e7 : x = [105, 99, 109, 112, 54]; · simp [e7]
 by_cases e8 : x = [108, 99, 112]; · simp [e8]
 by_cases e9 : x = [112, 97, 112]; · simp [e9]
 by_cases e10 : x = [99, 104, 97, 112]; · simp [e10]
 by_cases e11 : x = [105, 112, 99, 112]; · simp [e11]
 by_cases e12 : x = [105, 112, 54, 99, 112]; · simp [e12]
 by_cases e13 : x = [109, 112]; · simp [e13]
 simp [e1, e2, e3, e4, e5, e6, e7, e8, e9, e10, e11, e12, e13] at h
theorem aN6 {rec : Nat → List Tk → Out} {nest : Nat} {ts : List Tk} (h : (hdT ts).kind = 1) : D4 rec nest ts = .ok ([({ ndK 1 with n := (hdT ts).num }, (hdT ts).pos)], ts.tail) := by rw [D4, if_pos h]
theorem aN9 {rec : Nat → List Tk → Out} {nest : Nat} {ts : List Tk} (hG : TkG (hdT ts)) (h : (hdT ts).text = [40]) : D4 rec nest ts = B5 nest ts (d7 (rec (nest + 1) ts.tail) fun p => d7 (p9 [41] p.2) fun r => .ok (p.1, r)) := by
 have hk : (hdT ts).kind = 5 := a3N hG (by decide) (by kernel_rfl) h
 have hb : isB ts [40] = true := by rw [isB, hk, h]; rfl
 rw [D4, if_neg (by omega), if_pos hb]
theorem aO9 {rec : Nat → List Tk → Out} {nest : Nat} {ts : List Tk} (hG : TkG (hdT ts)) (h : (hdT ts).text ∈ a1s) : D4 rec nest ts = a00 ts := by
 obtain ⟨h0, h1, h2⟩ := a4h _ h
 have hk : (hdT ts).kind = 2 := a3N hG h0 h1 rfl
 have hb : ¬ isB ts [40] = true := fun e => by
  have := a3c e
  rw [this] at h
  simp [a1s, a1D, a1C, a1E, E0, L3, J0, U0, U9, J5, I3] at h
 rw [D4, if_neg (by omega), if_neg hb, if_neg (by omega), if_neg (by rw [h2]; simp)]
theorem a9Q {rec : Nat → List Tk → Out} {nest : Nat} {ts : List Tk} (hG : TkG (hdT ts)) (h : E4 (hdT ts).text ≠ 0) : D4 rec nest ts = S7 rec nest (E4 (hdT ts).text) (hdT ts).pos ts.tail ∧ (hdT ts).kind = 2 := by
 obtain ⟨h0, h1⟩ := b07 _ (aG0 h)
 have hk : (hdT ts).kind = 2 := a3N hG h0 h1 rfl
 have hb : ¬ isB ts [40] = true := fun e => by
  have := a3c e
  rw [this] at h
  exact h (by decide)
 refine ⟨?_, hk⟩
 rw [D4, if_neg (by omega), if_neg hb, if_neg (by omega), if_pos h]
theorem aN5 {rec : Nat → List Tk → Out} {nest : Nat} {ts : List Tk} (h1 : (hdT ts).kind ≠ 1) (h2 : (hdT ts).text ≠ [40]) (h3 : (hdT ts).text ∉ a1s) (h4 : E4 (hdT ts).text = 0) : D4 rec nest ts = S5 ts 111 := by
 have hb : ¬ isB ts [40] = true := fun e => h2 (a3c e)
 rw [D4, if_neg h1, if_neg hb]
 by_cases hk : (hdT ts).kind ≠ 2
 ·rw [if_pos hk]
 ·rw [if_neg hk, if_neg (by rw [h4]; simp)]
  simp only [a1s, List.mem_cons, List.not_mem_nil, or_false, not_or] at h3
  obtain ⟨a, b, c, d, e, f, g, h, i, j⟩ := h3
  rw [a00, if_neg a, if_neg b, if_neg c, if_neg d, if_neg (by simp [e, f, g, h, i, j])]
structure PC where
 w0 : World
 g : Nat
 tv : Value
 all : List Tk
def d5 (g : Nat) (vt vp : Value) (x : Nat) : Prop := x = g ∨ vt.ownBlock = some x ∨ vp.ownBlock = some x
def plc (p : Nd × Nat) : Int := (p.2 : Int)
structure PS (c : PC) (w : World) (i : Nat) (vt vp : Value) (ts : List Tk) (nest bud : Nat) (ns : List (Nd × Nat)) : Prop where
 tab : j7 c.w0
 grown : c.w0.grownBy w none
 blk : VAt w c.g 70 #[c.tv, .int .i64 (i : Int), .int .i64 (nest : Int), vt, vp]
 new : c.w0.heap.size ≤ c.g
 toks : a01 w c.w0.heap.size c.tv c.all
 drop : c.all.drop i = ts
 good : a0g ts
 len : c.all.length ≤ 65537
 nest_le : nest ≤ 200
 bud_le : ns.length + ts.length + bud ≤ 65537
 tree : a5N w c.w0.heap.size vt (ns.map Prod.fst)
 places : a5R w c.w0.heap.size vp (ns.map plc)

section
variable {c : PC} {w w' : World} {i nest bud : Nat} {vt vp : Value} {ts : List Tk} {ns : List (Nd × Nat)}
theorem PS.lt (h : PS c w i vt vp ts nest bud ns) {x : Nat} (hx : d5 c.g vt vp x) : x < w.heap.size := by
 rcases hx with rfl | hx | hx
 ·exact h.blk.lt
 ·exact (h.tree.lt x hx).2
 ·exact (h.places.lt x hx).2
theorem PS.ge (h : PS c w i vt vp ts nest bud ns) {x : Nat} (hx : d5 c.g vt vp x) : c.w0.heap.size ≤ x := by
 rcases hx with rfl | hx | hx
 ·exact h.new
 ·exact (h.tree.lt x hx).1
 ·exact (h.places.lt x hx).1
theorem PS.ne_tree (h : PS c w i vt vp ts nest bud ns) : ¬ vt.ownBlock = some c.g := a1m h.tree h.blk (by decide)
theorem PS.ne_places (h : PS c w i vt vp ts nest bud ns) : ¬ vp.ownBlock = some c.g := a1m h.places h.blk (by decide)
theorem PS.keep (h : PS c w i vt vp ts nest bud ns) (G : w.grownBy w' none) : PS c w' i vt vp ts nest bud ns :=
 { h with grown := d3 h.grown G, blk := h.blk.kept G, toks := E7 h.toks G, tree := E7 h.tree G, places := E7 h.places G }
theorem PS.less (h : PS c w i vt vp ts nest bud ns) {b : Nat} (hb : b ≤ bud) : PS c w i vt vp ts nest b ns := { h with bud_le := by have := h.bud_le; omega }
theorem PS.tabw (h : PS c w i vt vp ts nest bud ns) : j7 w := h.tab.grown h.grown
theorem PS.gb (h : PS c w i vt vp ts nest bud ns) (G : GB w w' (d5 c.g vt vp)) : c.w0.grownBy w' none :=
 ⟨G.os.trans h.grown.os, G.tape.trans h.grown.tape, G.output.trans h.grown.output, Nat.le_trans h.grown.size G.size, fun k hk _ =>
  (G.block k (Nat.lt_of_lt_of_le hk h.grown.size) (fun hf => by have := h.ge hf; omega)).trans (h.grown.block k hk (by simp))⟩
theorem PS.idx (h : PS c w i vt vp ts nest bud ns) : ∃ hi : i < c.all.length, c.all[i] = hdT ts ∧ c.all.drop (i + 1) = ts.tail := by
 have hne := h.good.ne
 have hd := h.drop
 have hi : i < c.all.length := by
  by_cases hh : i < c.all.length
  ·exact hh
  ·rw [List.drop_eq_nil_of_le (by omega)] at hd
   exact absurd hd.symm hne
 rw [List.drop_eq_getElem_cons hi] at hd
 refine ⟨hi, ?_, ?_⟩
 ·rw [← hd]; rfl
 ·rw [← hd]; rfl
theorem ab1 (W : World) (g j k : Nat) (v : Value) (h : k ≠ g) : (W.setCell ⟨g, j, none⟩ v).heap[k]? = W.heap[k]? := Below.heap_setCell _ _ _ _ h
theorem U4 (W : World) (g j : Nat) (v : Value) : W.grownBy (W.setCell ⟨g, j, none⟩ v) (some g) := T2 (World.grownBy.refl W (some g)) _ _ (.inl rfl)
theorem PS.store (h : PS c w i vt vp ts nest bud ns) (j : Nat) (v : Value) {i' nest' : Nat} {ts' : List Tk} {bud' : Nat} (hc : (#[c.tv, .int .i64 (i : Int), .int .i64 (nest : Int), vt, vp] : Array Value).setIfInBounds j v = #[c.tv, .int .i64 (i' : Int), .int .i64 (nest' : Int), vt, vp])
  (h1 : c.all.drop i' = ts') (h2 : a0g ts') (h3 : nest' ≤ 200) (h4 : ns.length + ts'.length + bud' ≤ 65537) : PS c (w.setCell ⟨c.g, j, none⟩ v) i' vt vp ts' nest' bud' ns := by
 have G := U4 w c.g j v
 exact { h with
  grown := Z3 h.grown G (fun x hx => by cases hx; exact h.new)
  blk := by have := h.blk.set j v; rw [hc] at this; exact this
  toks := a0A h.toks G (a1m h.toks h.blk (by decide))
  drop := h1, good := h2, nest_le := h3, bud_le := h4
  tree := a0A h.tree G h.ne_tree
  places := a0A h.places G h.ne_places }
def Ret (c : PC) (w : World) (vt vp : Value) (ts' : List Tk) (nest' bud' : Nat) (ns' : List (Nd × Nat)) (w' : World) : Prop :=
 ∃ i' vt' vp', PS c w' i' vt' vp' ts' nest' bud' ns' ∧ GB w w' (d5 c.g vt vp) ∧ ∀ x, x < w.heap.size → d5 c.g vt' vp' x → d5 c.g vt vp x
theorem Ret.same (h : PS c w' i vt vp ts nest bud ns) (G : GB w w' (d5 c.g vt vp)) : Ret c w vt vp ts nest bud ns w' := ⟨i, vt, vp, h, G, fun _ _ k => k⟩
theorem Ret.of {w1 : World} {vt1 vp1 : Value} (G : GB w w1 (d5 c.g vt vp)) (hf : ∀ x, x < w.heap.size → d5 c.g vt1 vp1 x → d5 c.g vt vp x) (R : Ret c w1 vt1 vp1 ts nest bud ns w') : Ret c w vt vp ts nest bud ns w' := by
 obtain ⟨i', vt', vp', h, G', hf'⟩ := R
 exact ⟨i', vt', vp', h, G.trans G' hf, fun x hx k => hf x hx (hf' x (Nat.lt_of_lt_of_le hx G.size) k)⟩
theorem Ret.less (R : Ret c w vt vp ts nest bud ns w') {b : Nat} (hb : b ≤ bud) : Ret c w vt vp ts nest b ns w' := by
 obtain ⟨i', vt', vp', h, r⟩ := R
 exact ⟨i', vt', vp', h.less hb, r⟩
theorem PS.take (h : PS c w i vt vp ts nest bud ns) (hk : (hdT ts).kind ≠ 0) : PS c (w.setCell ⟨c.g, 1, none⟩ (.int .i64 ((i + 1 : Nat) : Int))) (i + 1) vt vp ts.tail nest (bud + 1) ns := by
 obtain ⟨hi, h1, h2⟩ := h.idx
 refine h.store 1 _ rfl h2 (h.good.tail hk) h.nest_le ?_
 have := h.bud_le
 have := List.length_pos_iff.2 h.good.ne
 rw [List.length_tail]
 omega
theorem PS.away {R : Nat} (h : PS c w i vt vp ts nest bud ns) (K : w.grownBy w' (some R)) (hf : ¬ d5 c.g vt vp R) (ht : ¬ c.tv.ownBlock = some R) (h0 : c.w0.heap.size ≤ R) : PS c w' i vt vp ts nest bud ns :=
 { h with
  grown := Z3 h.grown K (fun x hx => by cases hx; exact h0)
  blk := h.blk.grown K (fun e => by cases e; exact hf (.inl rfl))
  toks := a0A h.toks K ht
  tree := a0A h.tree K (fun e => hf (.inr (.inl e)))
  places := a0A h.places K (fun e => hf (.inr (.inr e))) }
theorem PS.toks_lt (h : PS c w i vt vp ts nest bud ns) {x : Nat} (hx : c.tv.ownBlock = some x) : x < w.heap.size := (h.toks.lt x hx).2
theorem Ret.fin {W W' : World} {R i0 nest0 bud0 i1 : Nat} {ts0 : List Tk} {ns0 : List (Nd × Nat)} {vt1 vp1 : Value} (h0 : PS c w i0 vt vp ts0 nest0 bud0 ns0) (G : GB w W (d5 c.g vt vp)) (hf : ∀ x, x < w.heap.size → d5 c.g vt1 vp1 x → d5 c.g vt vp x) (P : PS c W i1 vt1 vp1 ts nest bud ns) (K : W.grownBy W' (some R)) (hR : w.heap.size ≤ R) (hfR : ¬ d5 c.g vt1 vp1 R) : Ret c w vt vp ts nest bud ns W' := by
 refine ⟨i1, vt1, vp1, P.away K hfR (fun e => by have := h0.toks_lt e; omega) (Nat.le_trans h0.grown.size hR), G.trans (GB.of K (S := fun x => x = R) (fun x hx => by cases hx; rfl)) (fun x hx e => by omega), hf⟩
theorem PS.awayG {S : Nat → Prop} (h : PS c w i vt vp ts nest bud ns) (K : GB w w' S) (hS : ∀ x, S x → ¬ d5 c.g vt vp x ∧ ¬ c.tv.ownBlock = some x ∧ c.w0.heap.size ≤ x) : PS c w' i vt vp ts nest bud ns :=
 { h with
  grown := ⟨K.os.trans h.grown.os, K.tape.trans h.grown.tape, K.output.trans h.grown.output, Nat.le_trans h.grown.size K.size, fun k hk _ => (K.block k (Nat.lt_of_lt_of_le hk h.grown.size) (fun hs => by have := (hS k hs).2.2; omega)).trans (h.grown.block k hk (by simp))⟩
  blk := K.vat h.blk (fun hs => (hS _ hs).1 (.inl rfl))
  toks := K.owns h.toks (fun x hx hs => (hS x hs).2.1 hx)
  tree := K.owns h.tree (fun x hx hs => (hS x hs).1 (.inr (.inl hx)))
  places := K.owns h.places (fun x hx hs => (hS x hs).1 (.inr (.inr hx))) }
theorem Ret.finG {S : Nat → Prop} {W W' : World} {i0 nest0 bud0 i1 : Nat} {ts0 : List Tk} {ns0 : List (Nd × Nat)} {vt1 vp1 : Value} (h0 : PS c w i0 vt vp ts0 nest0 bud0 ns0) (G : GB w W (d5 c.g vt vp)) (hf : ∀ x, x < w.heap.size → d5 c.g vt1 vp1 x → d5 c.g vt vp x) (P : PS c W i1 vt1 vp1 ts nest bud ns) (K : GB W W' S) (hS : ∀ x, S x → w.heap.size ≤ x ∧ ¬ d5 c.g vt1 vp1 x) : Ret c w vt vp ts nest bud ns W' :=
 ⟨i1, vt1, vp1, P.awayG K (fun x hx => ⟨(hS x hx).2, fun e => by have := (h0.toks.lt x e).2; have := (hS x hx).1; omega, Nat.le_trans h0.grown.size (hS x hx).1⟩), G.trans K (fun x hx hs => by have := (hS x hs).1; omega), hf⟩
theorem PS.not_foot (h : PS c w i vt vp ts nest bud ns) {R : Nat} (hR : w.heap.size ≤ R) : ¬ d5 c.g vt vp R := fun e => by have := h.lt e; omega
theorem GB.set (W : World) (vt vp : Value) (g j : Nat) (v : Value) : GB W (W.setCell ⟨g, j, none⟩ v) (d5 g vt vp) := GB.of (U4 W g j v) (fun x hx => by cases hx; exact .inl rfl)
end
structure HS (c : PC) (w : World) (i : Nat) (vt vp : Value) (nest : Nat) (xs : List Nd) (zs : List Int) : Prop where
 grown : c.w0.grownBy w none
 blk : VAt w c.g 70 #[c.tv, .int .i64 (i : Int), .int .i64 (nest : Int), vt, vp]
 new : c.w0.heap.size ≤ c.g
 toks : a01 w c.w0.heap.size c.tv c.all
 tree : a5N w c.w0.heap.size vt xs
 places : a5R w c.w0.heap.size vp zs
section
variable {c : PC} {w w' : World} {i nest bud : Nat} {vt vp : Value} {ts : List Tk} {ns : List (Nd × Nat)} {xs : List Nd} {zs : List Int}
theorem PS.hs (h : PS c w i vt vp ts nest bud ns) : HS c w i vt vp nest (ns.map Prod.fst) (ns.map plc) := ⟨h.grown, h.blk, h.new, h.toks, h.tree, h.places⟩
theorem HS.keep (h : HS c w i vt vp nest xs zs) (G : w.grownBy w' none) : HS c w' i vt vp nest xs zs := ⟨d3 h.grown G, h.blk.kept G, h.new, E7 h.toks G, E7 h.tree G, E7 h.places G⟩
theorem a5e {w w' : World} {base e size n base' e' size' n' : Nat} {v v' : Value} {vs vs' : List Value} (h : w.ownsRow base e size v n vs) (O : w.ownsRow base' e' size' v' n' vs') (he : e ≠ e') (K : w.grownBy w' v'.ownBlock) : w'.ownsRow base e size v n vs := by
 refine h.kept K ?_
 by_cases hv : v.ownBlock = none
 ·exact .inl hv
 ·right
  intro e
  obtain ⟨x, hx⟩ := Option.ne_none_iff_exists'.1 hv
  exact aK8 h O he hx (e ▸ hx)
theorem a4B {w w' : World} {base e size n g t : Nat} {v : Value} {vs : List Value} {cs : Array Value} (A : VAt w g t cs) (O : w.ownsRow base e size v n vs) (he : e ≠ t) (K : w.grownBy w' v.ownBlock) : VAt w' g t cs := A.grown K (a1m O A he)
theorem HS.put_tree (h : HS c w i vt vp nest xs zs) {x : Nd} {v4 : Value} {w4 : World} (O : w4.ownsRow c.w0.heap.size 43 24 v4 (xs.length + 1) (a0K xs ++ x.cells)) (K : w.grownBy w4 vt.ownBlock) (B : v4.ownBlock = vt.ownBlock ∨ v4.ownBlock = some w.heap.size) :
  HS c (w4.setCell ⟨c.g, 3, none⟩ v4) i v4 vp nest (xs ++ [x]) zs ∧ GB w (w4.setCell ⟨c.g, 3, none⟩ v4) (d5 c.g vt vp) ∧ ∀ y, y < w.heap.size → d5 c.g v4 vp y → d5 c.g vt vp y := by
 have A := a4B h.blk h.tree (by decide) K
 have T := a5e h.toks h.tree (by decide) K
 have P := a5e h.places h.tree (by decide) K
 have G := U4 w4 c.g 3 v4
 have g4 : c.w0.grownBy w4 none := Z3 h.grown K (fun y hy => (h.tree.lt y hy).1)
 refine ⟨⟨Z3 g4 G (fun y hy => by cases hy; exact h.new), A.set 3 v4, h.new, a0A T G (a1m T A (by decide)), ?_, a0A P G (a1m P A (by decide))⟩, ?_, ?_⟩
 ·have := a0A O G (a1m O A (by decide))
  show World.ownsRow _ _ _ _ _ _ _
  rw [List.length_append, at7, at9]
  exact this
 ·exact (GB.of K (S := d5 c.g vt vp) (fun y hy => .inr (.inl hy))).trans (GB.set w4 vt vp c.g 3 v4) (fun _ _ h => h)
 ·rintro y hy (rfl | e | e)
  ·exact .inl rfl
  ·rcases B with B | B
   ·exact .inr (.inl (B ▸ e))
   ·rw [B] at e
    cases e
    omega
  ·exact .inr (.inr e)
theorem HS.put_places (h : HS c w i vt vp nest xs zs) {z : Int} {v4 : Value} {w4 : World} (O : w4.ownsRow c.w0.heap.size 3 1 v4 (zs.length + 1) (zs.map iv ++ [.int .i64 z])) (K : w.grownBy w4 vp.ownBlock) (B : v4.ownBlock = vp.ownBlock ∨ v4.ownBlock = some w.heap.size) :
  HS c (w4.setCell ⟨c.g, 4, none⟩ v4) i vt v4 nest xs (zs ++ [z]) ∧ GB w (w4.setCell ⟨c.g, 4, none⟩ v4) (d5 c.g vt vp) ∧ ∀ y, y < w.heap.size → d5 c.g vt v4 y → d5 c.g vt vp y := by
 have A := a4B h.blk h.places (by decide) K
 have T := a5e h.toks h.places (by decide) K
 have P := a5e h.tree h.places (by decide) K
 have G := U4 w4 c.g 4 v4
 have g4 : c.w0.grownBy w4 none := Z3 h.grown K (fun y hy => (h.places.lt y hy).1)
 refine ⟨⟨Z3 g4 G (fun y hy => by cases hy; exact h.new), A.set 4 v4, h.new, a0A T G (a1m T A (by decide)), a0A P G (a1m P A (by decide)), ?_⟩, ?_, ?_⟩
 ·have := a0A O G (a1m O A (by decide))
  show World.ownsRow _ _ _ _ _ _ _
  rw [List.length_append, List.map_append]
  exact this
 ·exact (GB.of K (S := d5 c.g vt vp) (fun y hy => .inr (.inr hy))).trans (GB.set w4 vt vp c.g 4 v4) (fun _ _ h => h)
 ·rintro y hy (rfl | e | e)
  ·exact .inl rfl
  ·exact .inr (.inl e)
  ·rcases B with B | B
   ·exact .inr (.inr (B ▸ e))
   ·rw [B] at e
    cases e
    omega
theorem PS.of_hs {bud' : Nat} {ns' : List (Nd × Nat)} {w1 : World} {vt1 vp1 : Value} (h0 : PS c w i vt vp ts nest bud ns) (h : HS c w1 i vt1 vp1 nest (ns'.map Prod.fst) (ns'.map plc)) (hb : ns'.length + ts.length + bud' ≤ 65537) : PS c w1 i vt1 vp1 ts nest bud' ns' :=
 { h0 with grown := h.grown, blk := h.blk, new := h.new, toks := h.toks, tree := h.tree, places := h.places, bud_le := hb }
end
def a0e (er : Er) : List PanicEntry := [{ v := .iface 65 (.agg #[.int .i64 (er.1 : Int), .int .i64 er.2]), recovered := false }]
def o8 (c : PC) (w : World) (vt vp : Value) (nest bud : Nat) (ns : List (Nd × Nat)) (r : Out) (e : Ending) (w' : World) : Prop := match r with
 | .ok (ms, ts') => e = .returned (.tuple #[]) ∧ Ret c w vt vp ts' nest bud (ns ++ ms) w'
 | .error er => e = .panicked (a0e er) ∧ GB w w' (d5 c.g vt vp)
def a0f {α : Type} (c : PC) (w : World) (vt vp : Value) (nest bud : Nat) (ns : List (Nd × Nat)) (val : α → Value) (r : Except Er (α × List Tk)) (e : Ending) (w' : World) : Prop := match r with
 | .ok (v, ts') => e = .returned (val v) ∧ Ret c w vt vp ts' nest bud ns w'
 | .error er => e = .panicked (a0e er) ∧ GB w w' (d5 c.g vt vp)

end Go.Proofs.YtklipelnjgpnjaaGreatDoor
