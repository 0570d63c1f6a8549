import Derived.Test.YtklipelnjgpnjaaGreatDoorLotP28
import Derived.Test.YtklipelnjgpnjaaGreatDoorLotP29
import Derived.Test.YtklipelnjgpnjaaGreatDoorLotP12
import Derived.Test.YtklipelnjgpnjaaGreatDoorLotP17
import Derived.Test.YtklipelnjgpnjaaGreatDoorLotP10
import Derived.BigQuiet
import Derived.Test.YtklipelnjgpnjaaGreatDoorLotP9
import Derived.Test.YtklipelnjgpnjaaGreatDoorLotP8
import Derived.Deep.DeepCutAuto
import Derived.Deep.CutBlock
namespace Go.Proofs.YtklipelnjgpnjaaGreatDoor
open Go.RowKit
set_option maxRecDepth 100000
theorem bare_any (x : Ng) (w : World) : Calls Tryz.prog 176 #[.agg x.cells.toArray] w fun e w' => e = .returned (.tuple #[.agg (bareG x).cells.toArray, .bool (mayG x)]) ∧ w.grownBy w' none := by
 have h : (x.kind = 1 ∨ x.kind = 3 ∨ x.kind = 4 ∨ x.kind = 6 ∨ x.kind = 10 ∨ x.kind = 11 ∨ x.kind = 12 ∨ x.kind = 13) ∨ x.kind = 14 ∨ x.kind = 15 ∨ (x.kind = 16 ∨ ¬ (x.kind = 1 ∨ x.kind = 3 ∨ x.kind = 4 ∨ x.kind = 6 ∨ (10 ≤ x.kind ∧ x.kind ≤ 16))) := by omega
 rcases h with h | h | h | h
 ·exact bare_a x w h
 ·exact bare_b x w h
 ·exact bare_c x w h
 ·exact bare_d x w h
set_option maxRecDepth 100000 in
set_option maxHeartbeats 8000000 in
theorem form12_any (x : Ng) (w : World) : Calls Tryz.prog 155 #[.agg x.cells.toArray] w fun e w' => e = .returned (.bool (decide (0 ≤ arI x.kind) && formG x)) ∧ w.grownBy w' none := by
 have HBX := box_ng x
 have HCB : Hid (∀ W : World, Calls Tryz.prog 176 #[.agg x.cells.toArray] W fun e w' => e = .returned (.tuple #[.agg (bareG x).cells.toArray, .bool (mayG x)]) ∧ W.grownBy w' none) := bare_any x
 have HZ : Hid ((Tryz.prog.info? 43).map (·.size) = some x.cells.toArray.size) := ng_size x
 have HY : Hid ((Tryz.prog.info? 43).map (·.size) = some (bareG x).cells.toArray.size ∧ 24 = (bareG x).cells.toArray.size ∧ (bareG x).cells.toArray.all (·.oneCell') = true) := ⟨ng_size _, rfl, ng_all _⟩
 have HEQ : ∀ W : World, (Op.equalIn 10000 43 (.agg (bareG x).cells.toArray) (.agg #[.int .i64 x.kind, .int .i64 0, .int .u32 0, .int .u32 0, .int .i64 0, .int .i64 0, .int .i64 0, .int .u8 0, .int .u8 0, .int .u8 0, .int .u8 0, .int .u8 0, .int .u8 0, .int .u8 0, .int .u8 0, .int .u8 0, .int .u8 0, .int .u8 0, .int .u8 0, .int .u8 0, .int .u8 0, .int .u8 0, .int .u8 0, .int .i64 0])).run Tryz.prog W = .ok (sameG (bareG x) (tykindN x.kind)) W := ng_cmp (bareG x) (tykindN x.kind)
 have CA := arity12_any x.kind
 have h3 := World.grownBy_alloc w (.cells x.cells.toArray 43) none
 have V := NB.alloc w x
 have c0 := V.kind
 have HE : Hid ((decide (0 ≤ arI x.kind) && formG x) = (decide (0 ≤ arI x.kind) && (mayG x && sameG (bareG x) (tykindN x.kind)))) := by
  unfold Hid formG
  rw [bare_form, Bool.and_comm (sameG x (useG x))]
 obtain ⟨sb, hsb⟩ : ∃ sb, sameG (bareG x) (tykindN x.kind) = sb := ⟨_, rfl⟩
 obtain ⟨mb, hmb⟩ : ∃ mb, mayG x = mb := ⟨_, rfl⟩
 obtain ⟨A, hA⟩ : ∃ A, arI x.kind = A := ⟨_, rfl⟩
 obtain ⟨Y, hY⟩ : ∃ Y, (bareG x).cells.toArray = Y := ⟨_, rfl⟩
 obtain ⟨X, hX⟩ : ∃ X, x.cells.toArray = X := ⟨_, rfl⟩
 rw [HE.out]
 rw [hsb, hY] at HEQ
 rw [hsb, hmb, hA]
 rw [hA] at CA
 obtain ⟨dA, hdA⟩ : ∃ dA, decide (0 ≤ A) = dA := ⟨_, rfl⟩
 rw [hdA]
 rw [hmb, hY, hX] at HCB
 rw [hY] at HY
 rw [hX] at HBX HZ h3 ⊢
 clear HE hsb hmb hA hY
 go_enter Tryz.func155, Tryz.ntmps155
 go_upto_region 1 with fail
 clear V c0
 have V1 : VAt (w.alloc (.cells X 43)) w.heap.size 43 X := VAt.alloc _ _ _
 have c0 : (w.alloc (.cells X 43)).cell? ⟨w.heap.size, 0, none⟩ = some (.int .i64 x.kind) := by rw [← hX]; exact (NB.alloc w x).kind
 generalize w.alloc (.cells X 43) = w1 at *
 generalize w.heap.size = B at *
 obtain ⟨kk, hkk⟩ : ∃ kk, x.kind = kk := ⟨_, rfl⟩
 rw [hkk] at *
 clear HBX hX hkk
 go_wp2_with (refine wpList_load_row rfl 43 (.tmp 1) rfl B rfl 43 X (0, 0) _ V1 Tryz.underlying43 rfl HZ.out ?_)
 refine (HCB.out _).mono ?_
 rintro e w2 ⟨rfl, K2⟩
 have HG2 : Hid (w.grownBy (w2.alloc (.cells Y 43)) none) := grown_trans (grown_trans h3 K2) (World.grownBy_alloc w2 _ none)
 have V2 : VAt (w2.alloc (.cells Y 43)) w2.heap.size 43 Y := VAt.alloc _ _ _
 have c1 := (grown_trans K2 (World.grownBy_alloc w2 (.cells Y 43) none)).cell c0 (by simp)
 go_upto_region 2 with (refine wpList_store_row rfl 43 (.tmp 3) (.tmp 8) rfl w2.heap.size Y rfl rfl 43 _ (heap_alloc_new w2 _) HY.out.1 HY.out.2.1 HY.out.2.2 ?_)
 rw [World.setRow_alloc_new]
 clear V1 K2 h3 c0
 generalize w2.alloc (.cells Y 43) = w3 at *
 generalize w2.heap.size = D at *
 go_wp2_with fail
 refine (CA _).mono ?_
 rintro e w4 ⟨rfl, rfl⟩
 clear CA
 cases dA with
 | false =>
  have hdB : decide (A ≥ 0) = false := hdA
  go_wp2
  go_ret
  exact ⟨rfl, HG2.out⟩
 | true =>
  have hdB : decide (A ≥ 0) = true := hdA
  cases mb with
  | false =>
   go_wp2
   go_ret
   exact ⟨rfl, HG2.out⟩
  | true =>
   go_wp2_with (refine wpList_load_rowG rfl 43 (.tmp 3) rfl D rfl 43 Y (0, 0) _ V2 Tryz.underlying43 rfl HY.out.1 ?_)
   go_ret
   exact ⟨rfl, HG2.out⟩
set_option maxRecDepth 100000 in
set_option maxHeartbeats 16000000 in
theorem ranges12_any (x : Ng) (w : World) (h15 : x.kind = 15 → x.of = 2 ∨ x.of = 3) : Calls Tryz.prog 159 #[.agg x.cells.toArray] w fun e w' => e = .returned (.int .i64 (rangeE x)) ∧ w.grownBy w' none := by
 have HBX := box_ng x
 have h3 := World.grownBy_alloc w (.cells x.cells.toArray 43) none
 have V := NB.alloc w x
 obtain ⟨E, hE⟩ : ∃ E : Int, rangeE x = E := ⟨_, rfl⟩
 rw [hE]
 have HE : Hid (rangeE x = E) := hE
 obtain ⟨X, hX⟩ : ∃ X, x.cells.toArray = X := ⟨_, rfl⟩
 rw [hX] at HBX ⊢
 clear hE
 go_enter Tryz.func159, Tryz.ntmps159
 go_upto_region 1 with fail
 rw [← hX] at *
 generalize w.alloc (.cells x.cells.toArray 43) = w1 at *
 generalize w.heap.size = B at *
 have c0 := V.kind
 have c2 := V.n
 have c3 := V.m
 have c4 := V.size
 have c5 := V.of
 have c23 := V.bits
 have HAR : Hid (w1.rangeAt B 7 ((adgs x).map bv)) := V.addr
 obtain ⟨kk, hkk⟩ : ∃ kk, x.kind = kk := ⟨_, rfl⟩
 have HK : Hid (x.kind = kk) := hkk
 rw [hkk] at c0 h15
 have HG1 : Hid (w.grownBy w1 none) := h3
 clear HBX hX X V hkk h3
 have hc : kk = 3 ∨ kk = 12 ∨ kk = 13 ∨ kk = 16 ∨ kk = 15 ∨ ¬ (kk = 3 ∨ kk = 12 ∨ kk = 13 ∨ kk = 15 ∨ kk = 16) := by omega
 rcases hc with rfl | rfl | rfl | rfl | rfl | hn
 ·obtain ⟨ss, hss⟩ : ∃ ss, x.size = ss := ⟨_, rfl⟩
  rw [hss] at c4
  have HS : Hid (x.size = ss) := hss
  clear hss h15 c2 c3 c5 c23 HAR
  have hs : ss = 1 ∨ ss = 2 ∨ ss = 4 ∨ ¬ (ss = 1 ∨ ss = 2 ∨ ss = 4) := by omega
  rcases hs with rfl | rfl | rfl | hs
  ·obtain rfl : E = 0 := by rw [← HE.out]; unfold rangeE; rw [HK.out]; rw [HS.out]; rfl
   go_upto_region 8 with fail
   go_quiet (fail)
   go_wp2
   go_ret
   exact ⟨rfl, grown_trans HG1.out (grown_drewN _ _ none)⟩
  ·obtain rfl : E = 0 := by rw [← HE.out]; unfold rangeE; rw [HK.out]; rw [HS.out]; rfl
   go_upto_region 8 with fail
   go_quiet (fail)
   go_wp2
   go_ret
   exact ⟨rfl, grown_trans HG1.out (grown_drewN _ _ none)⟩
  ·obtain rfl : E = 0 := by rw [← HE.out]; unfold rangeE; rw [HK.out]; rw [HS.out]; rfl
   go_upto_region 8 with fail
   go_quiet (fail)
   go_wp2
   go_ret
   exact ⟨rfl, grown_trans HG1.out (grown_drewN _ _ none)⟩
  ·obtain rfl : E = 124 := by rw [← HE.out]; unfold rangeE; rw [HK.out, HS.out, if_pos rfl, if_neg hs]
   have t1 : (ss != 1) = true := by rw [bne_iff_ne]; omega
   have t2 : (ss != 2) = true := by rw [bne_iff_ne]; omega
   have t4 : (ss != 4) = true := by rw [bne_iff_ne]; omega
   clear hs
   go_wp2
   go_ret
   exact ⟨rfl, HG1.out⟩
 ·clear h15 c3 c4 c5 c23 HAR
  by_cases hq : x.n ≤ 65535
  ·obtain rfl : E = 0 := by rw [← HE.out]; unfold rangeE; rw [HK.out]; rw [if_neg (by omega), if_pos rfl]; rw [if_pos hq]
   have t : decide ((65535 : Int) < (x.n : Int)) = false := decide_eq_false (by omega)
   clear hq HE
   generalize (x.n : Int) = nn at *
   go_upto_region 8 with fail
   go_quiet (fail)
   go_wp2
   go_ret
   exact ⟨rfl, grown_trans HG1.out (grown_drewN _ _ none)⟩
  ·obtain rfl : E = 124 := by rw [← HE.out]; unfold rangeE; rw [HK.out]; rw [if_neg (by omega), if_pos rfl]; rw [if_neg hq]
   have t : (65535 : Int) < (x.n : Int) := by omega
   clear hq HE
   generalize (x.n : Int) = nn at *
   go_wp2
   go_ret
   exact ⟨rfl, HG1.out⟩
 ·clear h15 c3 c4 c5 c23 HAR
  by_cases hq : x.n ≤ 255
  ·obtain rfl : E = 0 := by rw [← HE.out]; unfold rangeE; rw [HK.out]; rw [if_neg (by omega), if_neg (by omega), if_pos rfl]; rw [if_pos hq]
   have t : decide ((255 : Int) < (x.n : Int)) = false := decide_eq_false (by omega)
   clear hq HE
   generalize (x.n : Int) = nn at *
   go_upto_region 8 with fail
   go_quiet (fail)
   go_wp2
   go_ret
   exact ⟨rfl, grown_trans HG1.out (grown_drewN _ _ none)⟩
  ·obtain rfl : E = 124 := by rw [← HE.out]; unfold rangeE; rw [HK.out]; rw [if_neg (by omega), if_neg (by omega), if_pos rfl]; rw [if_neg hq]
   have t : (255 : Int) < (x.n : Int) := by omega
   clear hq HE
   generalize (x.n : Int) = nn at *
   go_wp2
   go_ret
   exact ⟨rfl, HG1.out⟩
 ·clear h15 c4 c5 c23 HAR
  by_cases hq : x.m ≤ 65535
  ·have t : decide ((65535 : Int) < (x.m : Int)) = false := decide_eq_false (by omega)
   by_cases hr : x.n ≤ x.m
   ·obtain rfl : E = 0 := by rw [← HE.out]; unfold rangeE; rw [HK.out]; rw [if_neg (by omega), if_neg (by omega), if_neg (by omega), if_pos rfl]; rw [if_pos ⟨hr, hq⟩]
    have t2 : decide ((x.m : Int) < (x.n : Int)) = false := decide_eq_false (by omega)
    clear hq hr HE
    generalize (x.n : Int) = nn at *
    generalize (x.m : Int) = mm at *
    go_upto_region 8 with fail
    go_quiet (fail)
    go_wp2
    go_ret
    exact ⟨rfl, grown_trans HG1.out (grown_drewN _ _ none)⟩
   ·obtain rfl : E = 124 := by rw [← HE.out]; unfold rangeE; rw [HK.out]; rw [if_neg (by omega), if_neg (by omega), if_neg (by omega), if_pos rfl]; rw [if_neg (by omega)]
    have t2 : (x.m : Int) < (x.n : Int) := by omega
    clear hq hr HE
    generalize (x.n : Int) = nn at *
    generalize (x.m : Int) = mm at *
    go_wp2
    go_ret
    exact ⟨rfl, HG1.out⟩
  ·obtain rfl : E = 124 := by rw [← HE.out]; unfold rangeE; rw [HK.out]; rw [if_neg (by omega), if_neg (by omega), if_neg (by omega), if_pos rfl]; rw [if_neg (by omega)]
   have t : (65535 : Int) < (x.m : Int) := by omega
   clear hq HE
   generalize (x.n : Int) = nn at *
   generalize (x.m : Int) = mm at *
   go_wp2
   go_ret
   exact ⟨rfl, HG1.out⟩
 ·have hof := h15 rfl
  have HL : Hid ((if x.of = 3 then (16 : Int) else 4) = ((addrG x).length : Int) ∧ ((addrG x).length = 4 ∨ (addrG x).length = 16) ∧ (addrG x = (adgs x).take (addrG x).length)) := by
   unfold Hid addrG
   rcases hof with h | h
   ·rw [h]; exact ⟨rfl, .inl rfl, rfl⟩
   ·rw [h]; exact ⟨rfl, .inr rfl, rfl⟩
  have CL := long12_any x.of
  rw [HL.out.1] at CL
  obtain ⟨L, hL⟩ : ∃ L, (addrG x).length = L := ⟨_, rfl⟩
  have hL2 := HL.out.2.1
  rw [hL] at CL hL2
  have HLL : Hid ((addrG x).length = L) := hL
  have HEE : Hid (E = if ¬ (0 ≤ x.bits ∧ x.bits ≤ 8 * (L : Int)) then 124 else if maskV x.bits.toNat (addrG x) = addrG x then 0 else 125) := by
   show E = _
   rw [← HE.out, ← hL]
   unfold rangeE
   rw [HK.out]
   rw [if_neg (by omega), if_neg (by omega), if_neg (by omega), if_neg (by omega), if_pos rfl]
  obtain ⟨oo, hoo⟩ : ∃ oo, x.of = oo := ⟨_, rfl⟩
  rw [hoo] at CL c5
  obtain ⟨bb, hbb⟩ : ∃ bb, x.bits = bb := ⟨_, rfl⟩
  rw [hbb] at HEE c23
  have w8 : IntKind.i64.wrap (8 * (L : Int)) = 8 * (L : Int) := by rw [IntKind.wrap_i64]; omega
  have CB := between_any bb 0 (8 * (L : Int))
  have HCL : Hid (∀ W : World, _) := CL
  clear h15 hof hoo hbb hL c2 c3 c4 HE
  go_upto_region 8 with fail
  by_cases hr : 0 ≤ bb ∧ bb ≤ 8 * (L : Int)
  ·have hin : inG bb 0 (8 * (L : Int)) = true := by unfold inG; rw [decide_eq_true hr.1, decide_eq_true hr.2]; rfl
   rw [hin] at CB
   clear hin
   go_quiet ((first | (go_at_call 179; exact Calls.quiet_of_same (CL _)) | (go_at_call 178; exact Calls.quiet_of_same (CB _))))
   obtain ⟨nb, rfl⟩ : ∃ nb : Nat, bb = nb := Int.eq_ofNat_of_zero_le hr.1
   have hnb : nb ≤ 128 := by have := hr.2; omega
   have HEF : Hid (E = if maskV nb (addrG x) = addrG x then 0 else 125) := by
    show E = _
    rw [HEE.out, if_neg (fun h => h hr), Int.toNat_natCast]
   have HA2 : Hid (∀ W, w1.grownBy W none → Cells W (some ⟨B, 7, none⟩) (addrG x)) := fun W GW => by
    have h : Cells w1 (some ⟨B, 7, none⟩) (addrG x) := by
     rcases hL2 with h | h
     ·rw [HL.out.2.2, HLL.out, h]; exact range_take (range_cells HAR.out)
     ·rw [HL.out.2.2, HLL.out, h]; exact range_take (range_cells HAR.out)
    exact h.keptNone GW
   have G2 := grown_drewN w1 nq none
   have d0 := G2.cell c0 (by simp)
   have d5 := G2.cell c5 (by simp)
   have d23 := G2.cell c23 (by simp)
   clear hr HEE CB HAR c0 c5 c23
   generalize w1.drewN nq = w2 at *
   have CM := refmask_any (some ⟨B, 7, none⟩) 16 (addrG x) nb w2 (HA2.out _ G2) (fun e => by cases e) (by rw [HLL.out]; omega) hnb
   rw [HLL.out] at CM
   have hl16 : (L : Int) ≤ 16 := by omega
   have hl17 : ¬ 16 < L := by omega
   go_wp2_with fail
   refine (HCL.out _).mono ?_
   rintro e w3 ⟨rfl, rfl⟩
   clear CL HCL
   go_wp2_with fail
   refine CM.mono ?_
   rintro e w4 ⟨v4, rfl, O4, K4⟩
   have HML : Hid ((maskV nb (addrG x)).length = L) := by show List.length _ = L; rw [mask_len, HLL.out]
   obtain ⟨a4, c4, hv4, C4, -⟩ := O4.rd
   rw [HML.out] at hv4
   subst hv4
   have HA4 : Hid (Cells w4 (some ⟨B, 7, none⟩) (addrG x) ∧ Cells w4 a4 (maskV nb (addrG x))) := ⟨HA2.out _ (grown_trans G2 K4), C4⟩
   have HG4 : Hid (w.grownBy w4 none) := grown_trans HG1.out (grown_trans G2 K4)
   clear CM O4 C4 K4 G2 d0 d5 d23
   generalize addrG x = al at *
   generalize maskV nb al = ml at *
   go_wp2
   go_loopw [5] (fun i wr => ∃ k : Nat, k ≤ L ∧ i = .int .i64 k ∧ Hid (∀ j (h1 : j < al.length) (h2 : j < ml.length), j < k → al[j] = ml[j]) ∧ ∃ n, wr = w4.drewN n) (fun i _ => L - (intOf i).toNat)
   case atStart => exact ⟨0, Nat.zero_le _, rfl, fun j _ _ h => absurd h (Nat.not_lt_zero j), 0, rfl⟩
   case round =>
    obtain ⟨k, hk, rfl, H1, n, rfl⟩ := hrel
    by_cases hlt : k < L
    ·have hk1 : k < al.length := by rw [HLL.out]; exact hlt
     have hk2 : k < ml.length := by rw [HML.out]; exact hlt
     obtain ⟨g4, o4, rfl, -⟩ := HA4.out.2.addr hk2
     obtain ⟨g5, o5, e5, h5⟩ := HA4.out.2.addr hk2
     simp only [Option.some.injEq, Addr.mk.injEq] at e5
     obtain ⟨rfl, rfl, -⟩ := e5
     obtain ⟨g6, o6, e6, h6⟩ := HA4.out.1.addr hk1
     simp only [Option.some.injEq, Addr.mk.injEq] at e6
     obtain ⟨rfl, rfl, -⟩ := e6
     have e1 := h6 k hk1
     have e2 := h5 k hk2
     have hl : (k : Int) < (L : Int) := by omega
     have z0 : (0 : Int) ≤ (k : Int) := by omega
     have w3' : IntKind.i64.wrap ((k : Int) + 1) = (k : Int) + 1 := by rw [IntKind.wrap_i64]; omega
     clear h5 h6
     by_cases hq : al[k] = ml[k]
     ·have n0 : (((al[k].toNat : Nat) : Int) != ((ml[k].toNat : Nat) : Int)) = false := by rw [hq]; simp
      have H2 : Hid (∀ j (h1 : j < al.length) (h2 : j < ml.length), j < k + 1 → al[j] = ml[j]) := fun j h1 h2 h3 => by
       by_cases e : j = k
       ·subst e; exact hq
       ·exact H1.out j h1 h2 (by omega)
      generalize ((al[k].toNat : Nat) : Int) = y1 at *
      generalize ((ml[k].toNat : Nat) : Int) = y2 at *
      clear hq H1
      go_upto_region 16 with fail
      go_quiet (fail)
      go_wp2
      go_roundw
      case rel => exact ⟨k + 1, by omega, by go_num, H2, _, rfl⟩
      case measure => simp [intOf]; omega
     ·have n0 : (((al[k].toNat : Nat) : Int) != ((ml[k].toNat : Nat) : Int)) = true := by
       rw [bne_iff_ne]
       intro e
       exact hq (UInt8.toNat_inj.1 (by omega))
      obtain rfl : E = 125 := by
       rw [HEF.out, if_neg]
       intro e
       exact hq (by simp only [e])
      generalize ((al[k].toNat : Nat) : Int) = y1 at *
      generalize ((ml[k].toNat : Nat) : Int) = y2 at *
      clear hq H1
      go_upto_region 16 with fail
      go_quiet (fail)
      go_wp2
      go_ret
      exact ⟨rfl, grown_trans HG4.out (grown_trans (grown_drewN _ _ none) (grown_drewN _ _ none))⟩
    ·obtain rfl : k = L := by omega
     have hl' : ¬ (k : Int) < (k : Int) := by omega
     obtain rfl : E = 0 := by
      rw [HEF.out, if_pos]
      refine (List.ext_getElem (by rw [HLL.out, HML.out]) fun i h1 h2 => ?_).symm
      exact H1.out i h1 h2 (by rw [HLL.out] at h1; exact h1)
     clear H1 HEF
     go_wp2
     go_ret
     exact ⟨rfl, grown_trans HG4.out (grown_drewN _ _ none)⟩
  ·have hin : inG bb 0 (8 * (L : Int)) = false := by unfold inG; rw [← Bool.decide_and, decide_eq_false_iff_not]; exact hr
   rw [hin] at CB
   obtain rfl : E = 124 := by rw [HEE.out, if_pos hr]
   clear hin HEE hr
   go_quiet ((first | (go_at_call 179; exact Calls.quiet_of_same (CL _)) | (go_at_call 178; exact Calls.quiet_of_same (CB _))))
   go_wp2
   go_ret
   exact ⟨rfl, grown_trans HG1.out (grown_drewN _ _ none)⟩
 ·have t3 : (kk == 3) = false := by rw [beq_eq_false_iff_ne]; omega
  have t12 : (kk == 12) = false := by rw [beq_eq_false_iff_ne]; omega
  have t13 : (kk == 13) = false := by rw [beq_eq_false_iff_ne]; omega
  have t15 : (kk == 15) = false := by rw [beq_eq_false_iff_ne]; omega
  have t16 : (kk == 16) = false := by rw [beq_eq_false_iff_ne]; omega
  obtain rfl : E = 0 := by
   rw [← HE.out]
   unfold rangeE
   rw [HK.out]
   repeat rw [if_neg (by omega)]
  clear hn h15 c2 c3 c4 c5 c23 HAR
  go_upto_region 8 with fail
  go_quiet (fail)
  go_wp2
  go_ret
  exact ⟨rfl, grown_trans HG1.out (grown_drewN _ _ none)⟩
set_option maxHeartbeats 4000000 in
theorem refarith_any (op : Int) (a b : Nat) (ha : a ≤ 4294967295) (hb : b ≤ 4294967295) (ho : 1 ≤ op ∧ op ≤ 10) (hz : divG op = true → b ≠ 0) (w : World) :
  Calls Tryz.prog 158 #[.int .i64 op, .int .u32 (a : Int), .int .u32 (b : Int)] w fun e w' => e = .returned (.tuple #[.int .u32 (arithG op a b : Int), .bool true]) ∧ w = w' := by
 have h : op = 1 ∨ op = 2 ∨ op = 3 ∨ op = 4 ∨ op = 5 ∨ op = 6 ∨ op = 7 ∨ op = 8 ∨ op = 9 ∨ op = 10 := by omega
 clear ho
 rcases h with rfl | rfl | rfl | rfl | rfl | rfl | rfl | rfl | rfl | rfl
 ·have CO := operate_any 4 a b w ha hb
  have hd : bits .andNot .u16 4 8 = 4 := by decide
  have he : operV 4 a b = (arithG 1 a b, 0) := by simp [operV, arithG]
  rw [hd, he] at CO
  obtain ⟨v, hv⟩ : ∃ v, arithG 1 a b = v := ⟨_, rfl⟩
  rw [hv] at CO ⊢
  clear hd he hv hz
  go_enter Tryz.func158, Tryz.ntmps158
  go_wp2_with fail
  refine CO.mono ?_
  rintro e w1 ⟨rfl, rfl⟩
  go_wp2
  go_ret2
  exact ⟨rfl, rfl⟩
 ·have CO := operate_any 20 a b w ha hb
  have hd : bits .andNot .u16 20 8 = 20 := by decide
  have he : operV 20 a b = (arithG 2 a b, 0) := by simp [operV, arithG]
  rw [hd, he] at CO
  obtain ⟨v, hv⟩ : ∃ v, arithG 2 a b = v := ⟨_, rfl⟩
  rw [hv] at CO ⊢
  clear hd he hv hz
  go_enter Tryz.func158, Tryz.ntmps158
  go_wp2_with fail
  refine CO.mono ?_
  rintro e w1 ⟨rfl, rfl⟩
  go_wp2
  go_ret2
  exact ⟨rfl, rfl⟩
 ·have CO := operate_any 36 a b w ha hb
  have hd : bits .andNot .u16 36 8 = 36 := by decide
  have he : operV 36 a b = (arithG 3 a b, 0) := by simp [operV, arithG]
  rw [hd, he] at CO
  obtain ⟨v, hv⟩ : ∃ v, arithG 3 a b = v := ⟨_, rfl⟩
  rw [hv] at CO ⊢
  clear hd he hv hz
  go_enter Tryz.func158, Tryz.ntmps158
  go_wp2_with fail
  refine CO.mono ?_
  rintro e w1 ⟨rfl, rfl⟩
  go_wp2
  go_ret2
  exact ⟨rfl, rfl⟩
 ·have CO := operate_any 52 a b w ha hb
  have hd : bits .andNot .u16 52 8 = 52 := by decide
  have hb0 : (b == 0) = false := by rw [beq_eq_false_iff_ne]; exact hz rfl
  have he : operV 52 a b = (arithG 4 a b, 0) := by simp [operV, arithG, hb0]
  rw [hd, he] at CO
  obtain ⟨v, hv⟩ : ∃ v, arithG 4 a b = v := ⟨_, rfl⟩
  rw [hv] at CO ⊢
  clear hd he hv hz hb0
  go_enter Tryz.func158, Tryz.ntmps158
  go_wp2_with fail
  refine CO.mono ?_
  rintro e w1 ⟨rfl, rfl⟩
  go_wp2
  go_ret2
  exact ⟨rfl, rfl⟩
 ·have CO := operate_any 148 a b w ha hb
  have hd : bits .andNot .u16 148 8 = 148 := by decide
  have hb0 : (b == 0) = false := by rw [beq_eq_false_iff_ne]; exact hz rfl
  have he : operV 148 a b = (arithG 5 a b, 0) := by simp [operV, arithG, hb0]
  rw [hd, he] at CO
  obtain ⟨v, hv⟩ : ∃ v, arithG 5 a b = v := ⟨_, rfl⟩
  rw [hv] at CO ⊢
  clear hd he hv hz hb0
  go_enter Tryz.func158, Tryz.ntmps158
  go_wp2_with fail
  refine CO.mono ?_
  rintro e w1 ⟨rfl, rfl⟩
  go_wp2
  go_ret2
  exact ⟨rfl, rfl⟩
 ·have CO := operate_any 84 a b w ha hb
  have hd : bits .andNot .u16 84 8 = 84 := by decide
  have he : operV 84 a b = (arithG 6 a b, 0) := by simp [operV, arithG]
  rw [hd, he] at CO
  obtain ⟨v, hv⟩ : ∃ v, arithG 6 a b = v := ⟨_, rfl⟩
  rw [hv] at CO ⊢
  clear hd he hv hz
  go_enter Tryz.func158, Tryz.ntmps158
  go_wp2_with fail
  refine CO.mono ?_
  rintro e w1 ⟨rfl, rfl⟩
  go_wp2
  go_ret2
  exact ⟨rfl, rfl⟩
 ·have CO := operate_any 68 a b w ha hb
  have hd : bits .andNot .u16 68 8 = 68 := by decide
  have he : operV 68 a b = (arithG 7 a b, 0) := by simp [operV, arithG]
  rw [hd, he] at CO
  obtain ⟨v, hv⟩ : ∃ v, arithG 7 a b = v := ⟨_, rfl⟩
  rw [hv] at CO ⊢
  clear hd he hv hz
  go_enter Tryz.func158, Tryz.ntmps158
  go_wp2_with fail
  refine CO.mono ?_
  rintro e w1 ⟨rfl, rfl⟩
  go_wp2
  go_ret2
  exact ⟨rfl, rfl⟩
 ·have CO := operate_any 164 a b w ha hb
  have hd : bits .andNot .u16 164 8 = 164 := by decide
  have he : operV 164 a b = (arithG 8 a b, 0) := by simp [operV, arithG]
  rw [hd, he] at CO
  obtain ⟨v, hv⟩ : ∃ v, arithG 8 a b = v := ⟨_, rfl⟩
  rw [hv] at CO ⊢
  clear hd he hv hz
  go_enter Tryz.func158, Tryz.ntmps158
  go_wp2_with fail
  refine CO.mono ?_
  rintro e w1 ⟨rfl, rfl⟩
  go_wp2
  go_ret2
  exact ⟨rfl, rfl⟩
 ·have CO := operate_any 100 a b w ha hb
  have hd : bits .andNot .u16 100 8 = 100 := by decide
  have he : operV 100 a b = (arithG 9 a b, 0) := by simp [operV, arithG]
  rw [hd, he] at CO
  obtain ⟨v, hv⟩ : ∃ v, arithG 9 a b = v := ⟨_, rfl⟩
  rw [hv] at CO ⊢
  clear hd he hv hz
  go_enter Tryz.func158, Tryz.ntmps158
  go_wp2_with fail
  refine CO.mono ?_
  rintro e w1 ⟨rfl, rfl⟩
  go_wp2
  go_ret2
  exact ⟨rfl, rfl⟩
 ·have CO := operate_any 116 a b w ha hb
  have hd : bits .andNot .u16 116 8 = 116 := by decide
  have he : operV 116 a b = (arithG 10 a b, 0) := by simp [operV, arithG]
  rw [hd, he] at CO
  obtain ⟨v, hv⟩ : ∃ v, arithG 10 a b = v := ⟨_, rfl⟩
  rw [hv] at CO ⊢
  clear hd he hv hz
  go_enter Tryz.func158, Tryz.ntmps158
  go_wp2_with fail
  refine CO.mono ?_
  rintro e w1 ⟨rfl, rfl⟩
  go_wp2
  go_ret2
  exact ⟨rfl, rfl⟩
theorem step_store_rowT {P : Program} {ops : Array Oper} {o : Oper} {a : Act} {w : World} {K : Act → World → Prop} {Q : Exit → Act → World → Prop} {E : Prop}
  (hgd : o.guard = none) (ty : TypeId) (x y : Operand) (ho : o.op = .store ty x y) (g : Nat) (cells : Array Value) (hx : a.eval x = .pointer (some ⟨g, 0, none⟩)) (hy : a.eval y = .agg cells) (t : TypeId) (old : Array Value) (A : VAt w g t old)
  (hi : (P.info? ty).map (·.size) = some cells.size) (hold : old.size = cells.size) (h1 : cells.all (·.oneCell') = true) (hK : K (a.put o.dst undef) (w.setRow g cells)) :
  if Region.wanted o (yielded ops a.tmps) = true then Oper.wp P o a w K Q else E := by
 have hw : Region.wanted o (yielded ops a.tmps) = true := by simp [Region.wanted, hgd]
 rw [if_pos hw]
 exact wp_store_row ty x y ho g cells hx hy t old A hi hold h1 hK
theorem pq_size (p : Pt) : (Tryz.prog.info? 112).map (·.size) = some (pqC p).toArray.size := by kernel_rfl
theorem pq_all (p : Pt) : (pqC p).toArray.all (·.oneCell') = true := by simp [pqC, Value.oneCell']
def fixq (q : Pt) : Pt := if q.fixed = true then q else ⟨q.truth, false, 0⟩
theorem vat_setRow {W : World} {g t k : Nat} {cs xs : Array Value} (h : VAt W g t cs) (hk : g ≠ k) : VAt (W.setRow k xs) g t cs := by
 unfold VAt at *
 rw [vheap_setRow_ne _ _ _ _ hk]
 exact h
structure NW (w W : World) (B : Nat) (x : Ng) : Prop where
 nb : NB W B x
 res : VAt W (B + 1) 112 (pqC pt0).toArray
 up : w.grownBy W none
 base : w.heap.size ≤ B
theorem NW.kept {w W W' : World} {B : Nat} {x : Ng} (h : NW w W B x) (K : W.grownBy W' none) : NW w W' B x := ⟨h.nb.kept K, h.res.kept K, grown_trans h.up K, h.base⟩
theorem NW.alloc (w : World) (x : Ng) : NW w ((w.alloc (.cells x.cells.toArray 43)).alloc (.cells (pqC pt0).toArray 112)) w.heap.size x := by
 have K := World.grownBy_alloc (w.alloc (.cells x.cells.toArray 43)) (.cells (pqC pt0).toArray 112) none
 have h := VAt.alloc (w.alloc (.cells x.cells.toArray 43)) 112 (pqC pt0).toArray
 rw [show (w.alloc (.cells x.cells.toArray 43)).heap.size = w.heap.size + 1 by simp] at h
 exact ⟨(NB.alloc w x).kept K, h, grown_trans (World.grownBy_alloc w _ none) K, Nat.le_refl _⟩
structure NO (w W : World) (B O : Nat) (x : Ng) (q : Pt) : Prop where
 nw : NW w W B x
 out : VAt W O 112 (pqC q).toArray
 lo : B + 1 < O
theorem vat_other {W : World} {g t k i : Nat} {cs : Array Value} (h : VAt W g t cs) (u : Value) (hk : g ≠ k) : VAt (W.setCell ⟨k, i, none⟩ u) g t cs := by
 unfold VAt at *
 simp only [World.setCell, Array.getElem?_modify, if_neg (Ne.symm hk)]
 exact h
theorem NO.set {w W : World} {B O : Nat} {x : Ng} {q r : Pt} (h : NO w W B O x q) (j : Nat) (v : Value) (e : (pqC q).toArray.setIfInBounds j v = (pqC r).toArray) : NO w (W.setCell ⟨O, j, none⟩ v) B O x r := by
 have hlo := h.lo
 refine ⟨⟨nb_other h.nw.nb (by omega), vat_other h.nw.res v (by omega), grown_setCell h.nw.up _ _ (.inr (by have := h.nw.base; show w.heap.size ≤ O; omega)), h.nw.base⟩, ?_, hlo⟩
 have := VAt.set h.out j v
 rw [e] at this
 exact this
theorem NO.kept {w W W' : World} {B O : Nat} {x : Ng} {q : Pt} (h : NO w W B O x q) (K : W.grownBy W' none) : NO w W' B O x q := ⟨h.nw.kept K, h.out.kept K, h.lo⟩
theorem part_cell {w W : World} {b off : Nat} {ps : List Pt} (C : CV w (some ⟨b, off, none⟩) (flat3 pqC ps)) (G : w.grownBy W none) {i : Nat} (hi : i < ps.length) : W.cell? ⟨b, off + i * 3 + 1, none⟩ = some (.bool ps[i].fixed) ∧ W.cell? ⟨b, off + i * 3 + 2, none⟩ = some (.int .u32 (ps[i].val : Int)) := by
 obtain ⟨b', o', e', hc⟩ := CV.pts pqC_len (C.keptNone G) hi
 simp only [Option.some.injEq, Addr.mk.injEq] at e'
 obtain ⟨rfl, rfl, -⟩ := e'
 exact ⟨hc i hi 1 _ rfl, hc i hi 2 _ rfl⟩
theorem NW.put {w W : World} {B : Nat} {x : Ng} (h : NW w W B x) (q : Pt) : VAt (((W.setCell ⟨B + 1, 0, none⟩ (.bool q.truth)).setCell ⟨B + 1, 1, none⟩ (.bool q.fixed)).setCell ⟨B + 1, 2, none⟩ (.int .u32 (q.val : Int))) (B + 1) 112 (pqC q).toArray ∧ w.grownBy (((W.setCell ⟨B + 1, 0, none⟩ (.bool q.truth)).setCell ⟨B + 1, 1, none⟩ (.bool q.fixed)).setCell ⟨B + 1, 2, none⟩ (.int .u32 (q.val : Int))) none := by
 have hb := h.base
 exact ⟨VAt.set (VAt.set (VAt.set h.res 0 (.bool q.truth)) 1 (.bool q.fixed)) 2 (.int .u32 (q.val : Int)), grown_setCell (grown_setCell (grown_setCell h.up _ _ (.inr (by show w.heap.size ≤ B + 1; omega))) _ _ (.inr (by show w.heap.size ≤ B + 1; omega))) _ _ (.inr (by show w.heap.size ≤ B + 1; omega))⟩
theorem NO.make {w W : World} {B : Nat} {x : Ng} (h : NW w W B x) (t : Bool) : NO w (W.alloc (.cells #[.bool t, .bool false, .int .u32 0] 112)) B W.heap.size x ⟨t, false, 0⟩ := by
 have hlt : B + 1 < W.heap.size := by
  have := h.res
  unfold VAt at this
  exact (Array.getElem?_eq_some_iff.1 this).1
 exact ⟨h.kept (World.grownBy_alloc _ _ _), VAt.alloc W _ _, hlt⟩
theorem fault_kind {x : Ng} {ps : List Pt} {wt : Bool} (hf : formG x = true) (hw : wantsG x.kind = wt) {k : Nat} (hk : k < ps.length) (hp : ps[k].truth ≠ wt) : faultG x ps = if wt = true then 121 else 122 := by
 have hkE : kindE x.kind ps = if wt = true then 121 else 122 := by
  unfold kindE
  rw [hw, if_neg]
  intro h
  exact hp (by simpa using List.all_eq_true.1 h ps[k] (List.getElem_mem hk))
 unfold faultG
 rw [hf, hkE]
 cases wt <;> rfl
theorem fault_rest {x : Ng} {ps : List Pt} {wt : Bool} (hf : formG x = true) (hw : wantsG x.kind = wt) (h : ∀ j (_ : j < ps.length), ps[j].truth = wt) : faultG x ps = if zeroE x ps = true then 123 else rangeE x := by
 have hkE : kindE x.kind ps = 0 := by
  unfold kindE
  rw [hw, if_pos]
  refine List.all_eq_true.2 fun p hp => ?_
  obtain ⟨j, hj, rfl⟩ := List.getElem_of_mem hp
  simpa using h j hj
 unfold faultG
 rw [hf, hkE, if_neg (by simp), if_neg (by simp)]
def nodeR (x : Ng) (ps : List Pt) (e : Ending) : Prop := ∃ q : Pt, e = .returned (.tuple #[.agg (pqC q).toArray, .int .i64 (faultG x ps)]) ∧ (faultG x ps = 0 → q = joinG x ps)
def NodeOk (x : Ng) : Prop := ∀ (ps : List Pt) (ao : Option Addr) (cap : Nat) (w : World), CV w ao (flat3 pqC ps) → arG x.kind = some ps.length → x.n ≤ 4294967295 → (∀ p ∈ ps, p.val ≤ 4294967295) → Calls Tryz.prog 126 #[.agg x.cells.toArray, .slice ao ps.length cap] w fun e w' => nodeR x ps e ∧ w.grownBy w' none

end Go.Proofs.YtklipelnjgpnjaaGreatDoor
