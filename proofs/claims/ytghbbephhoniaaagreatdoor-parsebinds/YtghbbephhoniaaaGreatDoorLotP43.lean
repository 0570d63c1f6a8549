import Derived.Test.YtghbbephhoniaaaGreatDoorLotP42
import Derived.Deep.RegionHeld3
import Derived.Laws.CopyOwn
import Derived.Test.YtghbbephhoniaaaGreatDoorLotP5
namespace Go.Proofs.YtghbbephhoniaaaGreatDoor
open Go.RowKit
set_option maxRecDepth 100000
theorem bytesG_app (a b : List Nat) : bytesG (a ++ b) = bytesG a ++ bytesG b := by simp [bytesG]
theorem bytesG_zero (n : Nat) : bytesG (List.replicate n 0) = List.replicate (2 * n) 0 := by
 induction n with
 | zero => rfl
 | succ n ih =>
  rw [List.replicate_succ, show (0 :: List.replicate n 0) = [0] ++ List.replicate n 0 from rfl, bytesG_app, ih, show 2 * (n + 1) = 2 * n + 1 + 1 by omega, List.replicate_succ, List.replicate_succ]
  rfl
def leftA (l : List Nat) : List UInt8 := bytesG l ++ List.replicate (16 - 2 * l.length) 0
theorem splice_left (l : List Nat) : splice ((List.replicate 16 (0 : UInt8)).map bv) 0 ((bytesG l).map bv) = (leftA l).map bv := by
 unfold splice leftA
 rw [List.take_zero, List.nil_append, Nat.zero_add, List.length_map, bytesG_len, ← List.map_drop, List.drop_replicate, List.map_append]
theorem splice_right (l r : List Nat) (h : l.length + r.length ≤ 8) : splice ((leftA l).map bv) (2 * (8 - r.length)) ((bytesG r).map bv) = (bytesG (l ++ List.replicate (8 - l.length - r.length) 0 ++ r)).map bv := by
 unfold splice leftA
 have e1 : (bytesG l ++ List.replicate (16 - 2 * l.length) (0 : UInt8)).take (2 * (8 - r.length)) = bytesG l ++ List.replicate (2 * (8 - l.length - r.length)) 0 := by
  rw [List.take_append, bytesG_len, List.take_of_length_le (by rw [bytesG_len]; omega), List.take_replicate]
  congr 2
  omega
 have e2 : (bytesG l ++ List.replicate (16 - 2 * l.length) (0 : UInt8)).drop (2 * (8 - r.length) + 2 * r.length) = [] := by
  apply List.drop_eq_nil_of_le
  rw [List.length_append, bytesG_len, List.length_replicate]
  omega
 rw [List.length_map, bytesG_len, ← List.map_take, ← List.map_drop, e1, e2, bytesG_app, bytesG_app, bytesG_zero]
 simp
theorem parse6_two (s x y : List UInt8) (m : Bool) (h : (m = false ∧ gapV s = none ∧ x = s ∧ y = []) ∨ (m = true ∧ ∃ k, gapV s = some k ∧ x = s.take k ∧ y = s.drop (k + 2))) :
  parse6V s = (groupsV x).bind fun l => (groupsV y).bind fun r => if l.length + r.length ≤ 8 ∧ m = decide (l.length + r.length < 8) then some (bytesG (l ++ List.replicate (8 - l.length - r.length) 0 ++ r)) else none := by
 rcases h with ⟨rfl, hg, hx, rfl⟩ | ⟨rfl, k, hg, rfl, rfl⟩
 ·subst hx
  rw [parse6_halves x x [] (by rw [hg]; exact ⟨rfl, rfl⟩), hg]
  cases hl : groupsV x with
  | none => rfl
  | some l =>
   have hl8 := groups_len hl
   show (if (l.length == 8) = true then _ else _) = (if l.length + 0 ≤ 8 ∧ false = decide (l.length + 0 < 8) then _ else _)
   by_cases h8 : l.length = 8
   ·rw [if_pos (by simpa using h8), if_pos ⟨by omega, by rw [h8]; rfl⟩]
   ·rw [if_neg (by simpa using h8), if_neg (fun e => by have := e.2; simp at this; omega)]
 ·rw [parse6_halves s _ _ (by rw [hg]; exact ⟨rfl, rfl⟩), hg]
  cases groupsV (s.take k) with
  | none => rfl
  | some l =>
   cases groupsV (s.drop (k + 2)) with
   | none => rfl
   | some r =>
    show (if decide (l.length + r.length ≤ 7) = true then _ else _) = (if l.length + r.length ≤ 8 ∧ true = decide (l.length + r.length < 8) then _ else _)
    by_cases h7 : l.length + r.length ≤ 7
    ·rw [if_pos (by simpa using h7), if_pos ⟨by omega, by simp; omega⟩]
    ·rw [if_neg (by simpa using h7), if_neg (fun e => by have := e.2; simp at this; omega)]
theorem copy_src {w : World} {ao : Option Addr} {xs : List UInt8} (h : Cells w ao xs) (hp : 0 < (xs.map bv).length) : ∃ ad, ao = some ad ∧ ∀ j v, (xs.map bv)[j]? = some v → w.cell? (ad.add j) = some v := by
 rw [List.length_map] at hp
 cases ao with
 | none => have := h.1 rfl; subst this; simp at hp
 | some ad =>
  refine ⟨ad, rfl, fun j v hv => ?_⟩
  obtain ⟨hj, e⟩ := List.getElem?_eq_some_iff.1 hv
  rw [List.length_map] at hj
  rw [h.2 ad rfl j hj, ← e, List.getElem_map]
set_option maxRecDepth 100000 in
set_option maxHeartbeats 4000000 in
theorem parse6_any (s : ByteArray) (w : World) (hs : s.size ≤ 1048576) (T : TabA w) :
  Calls Tryz.prog 125 #[.string s] w fun e w' => e = .returned (.tuple #[arrV 16 (parse6V (sl s)), .int .i64 (errV (parse6V (sl s)))]) ∧ w.grownBy w' none := by
 have HS := sl_len s
 have HT : Hid (TabA w) := T
 have h3 := T.size
 clear T
 have hsz5 : (Tryz.prog.info? 5).map (·.size) = some 1 := by kernel_rfl
 rw [str_sl s]
 obtain ⟨S, hS⟩ : ∃ S, sl s = S := ⟨_, rfl⟩
 rw [hS] at HS ⊢
 clear hS
 have A0 := AAt.alloc w 26 (List.replicate 16 0)
 have G0 := World.grownBy_alloc w (.cells ((List.replicate 16 (0 : UInt8)).map bv).toArray 26) none
 rw [show ((List.replicate 16 (0 : UInt8)).map bv).toArray = #[.int .u8 0, .int .u8 0, .int .u8 0, .int .u8 0, .int .u8 0, .int .u8 0, .int .u8 0, .int .u8 0, .int .u8 0, .int .u8 0, .int .u8 0, .int .u8 0, .int .u8 0, .int .u8 0, .int .u8 0, .int .u8 0] from rfl] at A0 G0
 have CC := cut2_any S _ (by omega) (HT.out.grown G0)
 go_enter Tryz.func125, Tryz.ntmps125
 go_wp2_with fail
 refine CC.mono ?_
 rintro e w1 ⟨⟨x, y, m, rfl, hm⟩, k, rfl⟩
 have HPT : Hid (parse6V S = (groupsV x).bind fun l => (groupsV y).bind fun r => if l.length + r.length ≤ 8 ∧ m = decide (l.length + r.length < 8) then some (bytesG (l ++ List.replicate (8 - l.length - r.length) 0 ++ r)) else none) := parse6_two S x y m hm
 have hxl : x.length ≤ 1048576 := by
  rcases hm with ⟨-, -, rfl, -⟩ | ⟨-, q, -, rfl, -⟩
  ·omega
  ·rw [List.length_take]; omega
 have hyl : y.length ≤ 1048576 := by
  rcases hm with ⟨-, -, -, rfl⟩ | ⟨-, q, -, -, rfl⟩
  ·simp
  ·rw [List.length_drop]; omega
 have A1 := A0.grown (grown_drewN _ k none) (by simp)
 have G1 := grown_trans G0 (grown_drewN _ k none)
 clear A0 G0 CC hm
 obtain ⟨R, hR, hRw⟩ : ∃ R, w.heap.size = R ∧ w.heap.size ≤ R := ⟨_, rfl, Nat.le_refl _⟩
 rw [hR] at A1
 rw [show (Value.pointer (some ⟨w.heap.size, 0, none⟩)) = .pointer (some ⟨R, 0, none⟩) by rw [hR]]
 generalize (w.alloc (.cells #[.int .u8 0, .int .u8 0, .int .u8 0, .int .u8 0, .int .u8 0, .int .u8 0, .int .u8 0, .int .u8 0, .int .u8 0, .int .u8 0, .int .u8 0, .int .u8 0, .int .u8 0, .int .u8 0, .int .u8 0, .int .u8 0] 26)).drewN k = wk at *
 have CX : Hid (∀ W : World, TabA W → Calls Tryz.prog 130 #[str x] W fun e w' => ∃ v, e = .returned (.tuple #[v, .bool (groupsV x).isSome]) ∧ UOwns w' W.heap.size v ((groupsV x).getD []) ∧ W.grownBy w' none) := fun W t => groups_any ⟨x.toArray⟩ W (by rw [← sl_len]; exact hxl) t
 have CY : Hid (∀ W : World, TabA W → Calls Tryz.prog 130 #[str y] W fun e w' => ∃ v, e = .returned (.tuple #[v, .bool (groupsV y).isSome]) ∧ UOwns w' W.heap.size v ((groupsV y).getD []) ∧ W.grownBy w' none) := fun W t => groups_any ⟨y.toArray⟩ W (by rw [← sl_len]; exact hyl) t
 have HLX : Hid (((groupsV x).getD []).length ≤ 8 ∧ ∀ g ∈ (groupsV x).getD [], g < 65536) := by
  show _ ∧ _
  cases h : groupsV x with
  | none => exact ⟨by simp, fun g hg => absurd hg (by simp)⟩
  | some l => exact ⟨groups_len h, groups_lt h⟩
 have HLY : Hid (((groupsV y).getD []).length ≤ 8 ∧ ∀ g ∈ (groupsV y).getD [], g < 65536) := by
  show _ ∧ _
  cases h : groupsV y with
  | none => exact ⟨by simp, fun g hg => absurd hg (by simp)⟩
  | some l => exact ⟨groups_len h, groups_lt h⟩
 go_wp2_with fail
 refine (CX.out _ (HT.out.grown G1)).mono ?_
 rintro e w2 ⟨vx, rfl, OX, GX⟩
 go_wp2_with fail
 refine (CY.out _ (HT.out.grown (grown_trans G1 GX))).mono ?_
 rintro e w3 ⟨vy, rfl, OY, GY⟩
 have A3 := (A1.grown GX (by simp)).grown GY (by simp)
 have G3 := grown_trans G1 (grown_trans GX GY)
 obtain ⟨ax, cx, rfl, CVX, -, -, -, -⟩ := cv_of_row (owns_keptNone OX GY)
 obtain ⟨ay, cy, rfl, CVY, -, -, -, -⟩ := cv_of_row OY
 have HCX : Hid (CV w3 ax (((groupsV x).getD []).map hv16)) := CVX
 have HCY : Hid (CV w3 ay (((groupsV y).getD []).map hv16)) := CVY
 clear CX CY OX OY GX GY CVX CVY A1 G1 hR
 obtain ⟨l, hl⟩ : ∃ l, (groupsV x).getD [] = l := ⟨_, rfl⟩
 obtain ⟨r, hr⟩ : ∃ r, (groupsV y).getD [] = r := ⟨_, rfl⟩
 rw [hl] at HCX HLX
 rw [hr] at HCY HLY
 rw [hl, hr]
 have hl8 := HLX.out.1
 have hr8 := HLY.out.1
 have w1 : IntKind.i64.wrap (8 - (l.length : Int)) = 8 - (l.length : Int) := by rw [IntKind.wrap_i64]; omega
 have w2' : IntKind.i64.wrap (8 - (l.length : Int) - (r.length : Int)) = 8 - (l.length : Int) - (r.length : Int) := by rw [IntKind.wrap_i64]; omega
 cases hX : groupsV x with
 | none =>
  have HN : Hid (parse6V S = none) := by show _ = _; rw [HPT.out, hX]; rfl
  rw [show (none : Option (List Nat)).isSome = false from rfl]
  clear HCX HCY hX hl hr HPT
  go_wp2_with (refine wpList_store_row rfl 26 (.tmp 2) (.tmp 51) rfl R ((List.replicate 16 (0 : UInt8)).map bv).toArray rfl rfl 26 _ A3 size26 rfl (bv_all _) ?_)
  refine bodyPost_ret (ret_arr rfl _ _ R (List.replicate 16 0) 16 5 rfl (A3.setRow (List.replicate 16 0)) Tryz.underlying26 size26) rfl ?_
  exact ⟨by rw [HN.out]; rfl, grown_setRow G3 _ _ (.inr hRw)⟩
 | some l' =>
  obtain rfl : l' = l := by rw [hX] at hl; exact hl
  rw [show (some l' : Option (List Nat)).isSome = true from rfl]
  cases hY : groupsV y with
  | none =>
   have HN : Hid (parse6V S = none) := by show _ = _; rw [HPT.out, hX, hY]; rfl
   rw [show (none : Option (List Nat)).isSome = false from rfl]
   clear HCX HCY hX hY hl hr HPT
   go_wp2_with (refine wpList_store_row rfl 26 (.tmp 2) (.tmp 51) rfl R ((List.replicate 16 (0 : UInt8)).map bv).toArray rfl rfl 26 _ A3 size26 rfl (bv_all _) ?_)
   refine bodyPost_ret (ret_arr rfl _ _ R (List.replicate 16 0) 16 5 rfl (A3.setRow (List.replicate 16 0)) Tryz.underlying26 size26) rfl ?_
   exact ⟨by rw [HN.out]; rfl, grown_setRow G3 _ _ (.inr hRw)⟩
  | some r' =>
   obtain rfl : r' = r := by rw [hY] at hr; exact hr
   rw [show (some r' : Option (List Nat)).isSome = true from rfl]
   have HPT2 : Hid (parse6V S = if l'.length + r'.length ≤ 8 ∧ m = decide (l'.length + r'.length < 8) then some (bytesG (l' ++ List.replicate (8 - l'.length - r'.length) 0 ++ r')) else none) := by show _ = _; rw [HPT.out, hX, hY]; rfl
   clear hX hY hl hr HPT
   by_cases h8 : l'.length + r'.length ≤ 8
   case neg =>
    have HN : Hid (parse6V S = none) := by show _ = _; rw [HPT2.out, if_neg (fun e => h8 e.1)]
    have c1 : 8 - (l'.length : Int) - (r'.length : Int) < 0 := by omega
    clear HCX HCY HPT2
    go_wp2_with (refine wpList_store_row rfl 26 (.tmp 2) (.tmp 51) rfl R ((List.replicate 16 (0 : UInt8)).map bv).toArray rfl rfl 26 _ A3 size26 rfl (bv_all _) ?_)
    refine bodyPost_ret (ret_arr rfl _ _ R (List.replicate 16 0) 16 5 rfl (A3.setRow (List.replicate 16 0)) Tryz.underlying26 size26) rfl ?_
    exact ⟨by rw [HN.out]; rfl, grown_setRow G3 _ _ (.inr hRw)⟩
   case pos =>
    have c1 : ¬ 8 - (l'.length : Int) - (r'.length : Int) < 0 := by omega
    by_cases hmm : m = decide (l'.length + r'.length < 8)
    case neg =>
     have HN : Hid (parse6V S = none) := by show _ = _; rw [HPT2.out, if_neg (fun e => hmm e.2)]
     have HMM : Hid (m ≠ decide (l'.length + r'.length < 8)) := hmm
     clear HCX HCY HPT2 hmm
     by_cases h7 : l'.length + r'.length < 8
     ·have c2 : (0 : Int) < 8 - (l'.length : Int) - (r'.length : Int) := by omega
      obtain rfl : m = false := by have := HMM.out; rw [decide_eq_true h7] at this; cases m <;> simp_all
      go_wp2_with (refine wpList_store_row rfl 26 (.tmp 2) (.tmp 51) rfl R ((List.replicate 16 (0 : UInt8)).map bv).toArray rfl rfl 26 _ A3 size26 rfl (bv_all _) ?_)
      refine bodyPost_ret (ret_arr rfl _ _ R (List.replicate 16 0) 16 5 rfl (A3.setRow (List.replicate 16 0)) Tryz.underlying26 size26) rfl ?_
      exact ⟨by rw [HN.out]; rfl, grown_setRow G3 _ _ (.inr hRw)⟩
     ·have c2 : ¬ (0 : Int) < 8 - (l'.length : Int) - (r'.length : Int) := by omega
      have c4 : decide ((r'.length : Int) < 8 - (l'.length : Int)) = false := decide_eq_false (by omega)
      obtain rfl : m = true := by have := HMM.out; rw [decide_eq_false h7] at this; cases m <;> simp_all
      go_wp2_with (refine wpList_store_row rfl 26 (.tmp 2) (.tmp 51) rfl R ((List.replicate 16 (0 : UInt8)).map bv).toArray rfl rfl 26 _ A3 size26 rfl (bv_all _) ?_)
      refine bodyPost_ret (ret_arr rfl _ _ R (List.replicate 16 0) 16 5 rfl (A3.setRow (List.replicate 16 0)) Tryz.underlying26 size26) rfl ?_
      exact ⟨by rw [HN.out]; rfl, grown_setRow G3 _ _ (.inr hRw)⟩
    case pos =>
     have HN : Hid (parse6V S = some (bytesG (l' ++ List.replicate (8 - l'.length - r'.length) 0 ++ r'))) := by show _ = _; rw [HPT2.out, if_pos ⟨h8, hmm⟩]
     clear HPT2
     by_cases h7 : l'.length + r'.length < 8
     ·have c2 : (0 : Int) < 8 - (l'.length : Int) - (r'.length : Int) := by omega
      have c4 : decide ((r'.length : Int) < 8 - (l'.length : Int)) = true := decide_eq_true (by omega)
      obtain rfl : m = true := by rw [hmm]; exact decide_eq_true h7
      clear hmm
      go_upto_region 8 with fail
      have AQ := AAt.alloc w3 26 (List.replicate 16 0)
      have KQ := World.grownBy_alloc w3 (.cells ((List.replicate 16 (0 : UInt8)).map bv).toArray 26) none
      rw [show ((List.replicate 16 (0 : UInt8)).map bv).toArray = #[.int .u8 0, .int .u8 0, .int .u8 0, .int .u8 0, .int .u8 0, .int .u8 0, .int .u8 0, .int .u8 0, .int .u8 0, .int .u8 0, .int .u8 0, .int .u8 0, .int .u8 0, .int .u8 0, .int .u8 0, .int .u8 0] from rfl] at AQ KQ
      have RQ := A3.grown KQ (by simp)
      have GQ := grown_trans G3 KQ
      have hRA := A3.lt
      have hsq : w.heap.size ≤ w3.heap.size := G3.size
      have CXQ := HCX.out.keptNone KQ
      have CYQ := HCY.out.keptNone KQ
      have uX : ∀ ad, ay = some ad → r'.map hv16 ≠ [] → ad.block < w3.heap.size := fun ad had hne => by
       have hp : 0 < (r'.map hv16).length := List.length_pos_iff.2 hne
       have := block_lt_of_cell (HCY.out.2 ad had 0 hp)
       rw [show (ad.add 0).block = ad.block by unfold Addr.add; split <;> rfl] at this
       exact this
      obtain ⟨A, hA⟩ : ∃ A, w3.heap.size = A := ⟨_, rfl⟩
      have hq1 : A + 1 = (w3.alloc (.cells #[.int .u8 0, .int .u8 0, .int .u8 0, .int .u8 0, .int .u8 0, .int .u8 0, .int .u8 0, .int .u8 0, .int .u8 0, .int .u8 0, .int .u8 0, .int .u8 0, .int .u8 0, .int .u8 0, .int .u8 0, .int .u8 0] 26)).heap.size := by rw [World.size_alloc, hA]
      rw [hA] at AQ hRA hsq uX ⊢
      clear A3 G3 KQ HCX HCY hA
      generalize w3.alloc (.cells #[.int .u8 0, .int .u8 0, .int .u8 0, .int .u8 0, .int .u8 0, .int .u8 0, .int .u8 0, .int .u8 0, .int .u8 0, .int .u8 0, .int .u8 0, .int .u8 0, .int .u8 0, .int .u8 0, .int .u8 0, .int .u8 0] 26) = wq at *
      have HB1 : Hid (∀ W : World, wq.grownBy W none → Below A wq W) := fun W G => (Below.refl _ _).grown G (by omega) (by simp)
      have hld := grown_drewN wq 1 none
      have CLX : Calls Tryz.prog 131 #[.slice ax l'.length cx] wq.drew fun e w' => ∃ v, e = .returned v ∧ Owns w' wq.drew.heap.size v (bytesG l') ∧ wq.drew.grownBy w' none := laid_any ax cx l' wq.drew (CXQ.keptNone hld) HLX.out.2 hl8
      have hlb := bytesG_len l'
      go_region_held3 (fun _ => True) (trivial) (first | (go_at_call 131; refine CLX.mono ?_; rintro e w5 ⟨v5, rfl, O5, G5⟩; obtain ⟨a5, c5, rfl, C5, -⟩ := O5.rd; dsimp only) | (refine step_copy_splice rfl (.tmp 52) (.tmp 54) 88 88 rfl 5 Tryz.underlying88 hsz5 (some ⟨A, 0, none⟩) a5 16 16 (bytesG l').length c5 (by simp [Act.eval]) (by simp [Act.eval]) A 0 ((List.replicate 16 (0 : UInt8)).map bv) 26 (AQ.grown (grown_trans hld G5) (by simp)) ((bytesG l').map bv) (by rw [List.length_map]; exact (Nat.min_eq_left (by omega)).symm) (fun hp => ⟨rfl, copy_src C5 hp⟩) (by rw [List.length_map, List.length_map, List.length_replicate]; omega) (bv_one _) A wq (HB1.out _ (grown_trans hld G5)) (Nat.le_refl _) ?_; intro w6 hg6 hb6))
      have A6 : AAt w6 A 26 (leftA l') := by unfold AAt; rw [hg6.out, splice_left]
      have R6 : AAt w6 R 26 (List.replicate 16 0) := by unfold AAt at RQ ⊢; rw [hb6.block R hRA]; exact RQ
      have C6 : CV w6 ay (r'.map hv16) := CYQ.same fun ad had hne _ => hb6.block ad.block (uX ad had hne)
      have B6 : Below w.heap.size w w6 := (below_of GQ).trans (hb6.mono hsq)
      have hs6 : A + 1 ≤ w6.heap.size := by have := hb6.size; omega
      clear hg6 hb6 AQ RQ GQ CXQ CYQ uX HB1 hld CLX G5 O5 C5 hq1 hlb w1 w2'
      obtain ⟨q, hq⟩ : ∃ q, 8 - r'.length = q := ⟨_, rfl⟩
      obtain ⟨z, hz⟩ : ∃ z, 2 * q = z := ⟨_, rfl⟩
      have v1 : IntKind.i64.wrap (8 - (r'.length : Int)) = (q : Int) := by rw [IntKind.wrap_i64]; omega
      have v2 : IntKind.i64.wrap (2 * (q : Int)) = (z : Int) := by rw [IntKind.wrap_i64]; omega
      have z0 : (0 : Int) ≤ (z : Int) := by omega
      have z16 : (z : Int) ≤ 16 := by omega
      have HZ : Hid (z = 2 * (8 - r'.length)) := by show _ = _; omega
      have hrb := bytesG_len r'
      have hz2 : (bytesG r').length = 16 - z := by omega
      have HB2 : Hid (∀ W : World, w6.grownBy W none → Below A w6 W) := fun W G => (Below.refl _ _).grown G (by omega) (by simp)
      have hld6 := grown_drewN w6 1 none
      have HPOS : Hid (0 < ((bytesG r').map bv).length → (some (if 16 = z then ⟨A, 0, none⟩ else ⟨A, z, none⟩) : Option Addr) = some ⟨A, z, none⟩) := fun hp => by
       rw [List.length_map] at hp
       rw [if_neg (by omega)]
      have HFIT : Hid (z + ((bytesG r').map bv).length ≤ ((leftA l').map bv).length) := by
       show _ ≤ _
       rw [List.length_map, List.length_map, leftA, List.length_append, bytesG_len, bytesG_len, List.length_replicate]
       have := HZ.out
       omega
      have HN2 : Hid (((bytesG r').map bv).length = Nat.min (bytesG r').length (16 - z)) := by
       show _ = _
       rw [List.length_map, hz2]
       exact (Nat.min_self _).symm
      have CLY : Calls Tryz.prog 131 #[.slice ay r'.length cy] w6.drew fun e w' => ∃ v, e = .returned v ∧ Owns w' w6.drew.heap.size v (bytesG r') ∧ w6.drew.grownBy w' none := laid_any ay cy r' w6.drew (C6.keptNone hld6) HLY.out.2 hr8
      clear hq hz hrb hz2 C6
      go_wp2_with fail
      go_region_held3 (fun _ => True) (trivial) (first | (go_at_call 131; refine CLY.mono ?_; rintro e w7 ⟨v7, rfl, O7, G7⟩; obtain ⟨a7, c7, rfl, C7, -⟩ := O7.rd; dsimp only) | (refine step_copy_splice rfl (.tmp 60) (.tmp 62) 88 88 rfl 5 Tryz.underlying88 hsz5 (some (if 16 = z then ⟨A, 0, none⟩ else ⟨A, z, none⟩)) a7 (16 - z) (16 - z) (bytesG r').length c7 (by simp [Act.eval]) (by simp [Act.eval]) A z ((leftA l').map bv) 26 (A6.grown (grown_trans hld6 G7) (by simp)) ((bytesG r').map bv) HN2.out (fun hp => ⟨HPOS.out hp, copy_src C7 hp⟩) HFIT.out (bv_one _) A w6 (HB2.out _ (grown_trans hld6 G7)) (Nat.le_refl _) ?_; intro w8 hg8 hb8))
      have HFL : Hid ((bytesG (l' ++ List.replicate (8 - l'.length - r'.length) 0 ++ r')).length = 16) := by
       show _ = _
       rw [bytesG_len, List.length_append, List.length_append, List.length_replicate]
       omega
      have A8 : AAt w8 A 26 (bytesG (l' ++ List.replicate (8 - l'.length - r'.length) 0 ++ r')) := by
       unfold AAt
       rw [hg8.out, HZ.out, splice_right l' r' h8]
      have R8 : AAt w8 R 26 (List.replicate 16 0) := by unfold AAt at R6 ⊢; rw [hb8.block R hRA]; exact R6
      have B8 : Below w.heap.size w w8 := B6.trans (hb8.mono hsq)
      have HZ1 : Hid ((Tryz.prog.info? 26).map (·.size) = some ((bytesG (l' ++ List.replicate (8 - l'.length - r'.length) 0 ++ r')).map bv).toArray.size ∧ ((List.replicate 16 (0 : UInt8)).map bv).toArray.size = ((bytesG (l' ++ List.replicate (8 - l'.length - r'.length) 0 ++ r')).map bv).toArray.size ∧ (Tryz.prog.info? 26).map (·.size) = some (bytesG (l' ++ List.replicate (8 - l'.length - r'.length) 0 ++ r')).length) := by
       refine ⟨?_, ?_, ?_⟩
       ·rw [bv_size, HFL.out]; exact size26
       ·rw [bv_size, bv_size, HFL.out]; rfl
       ·rw [HFL.out]; exact size26
      clear hg8 hb8 A6 R6 B6 HB2 hld6 CLY G7 O7 C7 HFL
      generalize bytesG (l' ++ List.replicate (8 - l'.length - r'.length) 0 ++ r') = fin at *
      go_wp2_with (first | refine wpList_load_row rfl 26 (.tmp 12) rfl A rfl 26 (fin.map bv).toArray (0, 0) _ A8 Tryz.underlying26 rfl HZ1.out.1 ?_ | refine wpList_store_row rfl 26 (.tmp 2) (.tmp 64) rfl R (fin.map bv).toArray rfl rfl 26 _ R8 HZ1.out.1 HZ1.out.2.1 (bv_all _) ?_)
      all_goals
       refine bodyPost_ret (ret_arr rfl _ _ R fin 16 5 rfl (R8.setRow fin) Tryz.underlying26 HZ1.out.2.2) rfl ?_
       exact ⟨by rw [HN.out]; rfl, grown_setRow (grown_of B8) _ _ (.inr hRw)⟩
     ·have c2 : ¬ (0 : Int) < 8 - (l'.length : Int) - (r'.length : Int) := by omega
      have c4 : decide ((r'.length : Int) < 8 - (l'.length : Int)) = false := decide_eq_false (by omega)
      obtain rfl : m = false := by rw [hmm]; exact decide_eq_false h7
      clear hmm
      go_upto_region 8 with fail
      have AQ := AAt.alloc w3 26 (List.replicate 16 0)
      have KQ := World.grownBy_alloc w3 (.cells ((List.replicate 16 (0 : UInt8)).map bv).toArray 26) none
      rw [show ((List.replicate 16 (0 : UInt8)).map bv).toArray = #[.int .u8 0, .int .u8 0, .int .u8 0, .int .u8 0, .int .u8 0, .int .u8 0, .int .u8 0, .int .u8 0, .int .u8 0, .int .u8 0, .int .u8 0, .int .u8 0, .int .u8 0, .int .u8 0, .int .u8 0, .int .u8 0] from rfl] at AQ KQ
      have RQ := A3.grown KQ (by simp)
      have GQ := grown_trans G3 KQ
      have hRA := A3.lt
      have hsq : w.heap.size ≤ w3.heap.size := G3.size
      have CXQ := HCX.out.keptNone KQ
      have CYQ := HCY.out.keptNone KQ
      have uX : ∀ ad, ay = some ad → r'.map hv16 ≠ [] → ad.block < w3.heap.size := fun ad had hne => by
       have hp : 0 < (r'.map hv16).length := List.length_pos_iff.2 hne
       have := block_lt_of_cell (HCY.out.2 ad had 0 hp)
       rw [show (ad.add 0).block = ad.block by unfold Addr.add; split <;> rfl] at this
       exact this
      obtain ⟨A, hA⟩ : ∃ A, w3.heap.size = A := ⟨_, rfl⟩
      have hq1 : A + 1 = (w3.alloc (.cells #[.int .u8 0, .int .u8 0, .int .u8 0, .int .u8 0, .int .u8 0, .int .u8 0, .int .u8 0, .int .u8 0, .int .u8 0, .int .u8 0, .int .u8 0, .int .u8 0, .int .u8 0, .int .u8 0, .int .u8 0, .int .u8 0] 26)).heap.size := by rw [World.size_alloc, hA]
      rw [hA] at AQ hRA hsq uX ⊢
      clear A3 G3 KQ HCX HCY hA
      generalize w3.alloc (.cells #[.int .u8 0, .int .u8 0, .int .u8 0, .int .u8 0, .int .u8 0, .int .u8 0, .int .u8 0, .int .u8 0, .int .u8 0, .int .u8 0, .int .u8 0, .int .u8 0, .int .u8 0, .int .u8 0, .int .u8 0, .int .u8 0] 26) = wq at *
      have HB1 : Hid (∀ W : World, wq.grownBy W none → Below A wq W) := fun W G => (Below.refl _ _).grown G (by omega) (by simp)
      have hld := grown_drewN wq 1 none
      have CLX : Calls Tryz.prog 131 #[.slice ax l'.length cx] wq.drew fun e w' => ∃ v, e = .returned v ∧ Owns w' wq.drew.heap.size v (bytesG l') ∧ wq.drew.grownBy w' none := laid_any ax cx l' wq.drew (CXQ.keptNone hld) HLX.out.2 hl8
      have hlb := bytesG_len l'
      go_region_held3 (fun _ => True) (trivial) (first | (go_at_call 131; refine CLX.mono ?_; rintro e w5 ⟨v5, rfl, O5, G5⟩; obtain ⟨a5, c5, rfl, C5, -⟩ := O5.rd; dsimp only) | (refine step_copy_splice rfl (.tmp 52) (.tmp 54) 88 88 rfl 5 Tryz.underlying88 hsz5 (some ⟨A, 0, none⟩) a5 16 16 (bytesG l').length c5 (by simp [Act.eval]) (by simp [Act.eval]) A 0 ((List.replicate 16 (0 : UInt8)).map bv) 26 (AQ.grown (grown_trans hld G5) (by simp)) ((bytesG l').map bv) (by rw [List.length_map]; exact (Nat.min_eq_left (by omega)).symm) (fun hp => ⟨rfl, copy_src C5 hp⟩) (by rw [List.length_map, List.length_map, List.length_replicate]; omega) (bv_one _) A wq (HB1.out _ (grown_trans hld G5)) (Nat.le_refl _) ?_; intro w6 hg6 hb6))
      have A6 : AAt w6 A 26 (leftA l') := by unfold AAt; rw [hg6.out, splice_left]
      have R6 : AAt w6 R 26 (List.replicate 16 0) := by unfold AAt at RQ ⊢; rw [hb6.block R hRA]; exact RQ
      have C6 : CV w6 ay (r'.map hv16) := CYQ.same fun ad had hne _ => hb6.block ad.block (uX ad had hne)
      have B6 : Below w.heap.size w w6 := (below_of GQ).trans (hb6.mono hsq)
      have hs6 : A + 1 ≤ w6.heap.size := by have := hb6.size; omega
      clear hg6 hb6 AQ RQ GQ CXQ CYQ uX HB1 hld CLX G5 O5 C5 hq1 hlb w1 w2'
      obtain ⟨q, hq⟩ : ∃ q, 8 - r'.length = q := ⟨_, rfl⟩
      obtain ⟨z, hz⟩ : ∃ z, 2 * q = z := ⟨_, rfl⟩
      have v1 : IntKind.i64.wrap (8 - (r'.length : Int)) = (q : Int) := by rw [IntKind.wrap_i64]; omega
      have v2 : IntKind.i64.wrap (2 * (q : Int)) = (z : Int) := by rw [IntKind.wrap_i64]; omega
      have z0 : (0 : Int) ≤ (z : Int) := by omega
      have z16 : (z : Int) ≤ 16 := by omega
      have HZ : Hid (z = 2 * (8 - r'.length)) := by show _ = _; omega
      have hrb := bytesG_len r'
      have hz2 : (bytesG r').length = 16 - z := by omega
      have HB2 : Hid (∀ W : World, w6.grownBy W none → Below A w6 W) := fun W G => (Below.refl _ _).grown G (by omega) (by simp)
      have hld6 := grown_drewN w6 1 none
      have HPOS : Hid (0 < ((bytesG r').map bv).length → (some (if 16 = z then ⟨A, 0, none⟩ else ⟨A, z, none⟩) : Option Addr) = some ⟨A, z, none⟩) := fun hp => by
       rw [List.length_map] at hp
       rw [if_neg (by omega)]
      have HFIT : Hid (z + ((bytesG r').map bv).length ≤ ((leftA l').map bv).length) := by
       show _ ≤ _
       rw [List.length_map, List.length_map, leftA, List.length_append, bytesG_len, bytesG_len, List.length_replicate]
       have := HZ.out
       omega
      have HN2 : Hid (((bytesG r').map bv).length = Nat.min (bytesG r').length (16 - z)) := by
       show _ = _
       rw [List.length_map, hz2]
       exact (Nat.min_self _).symm
      have CLY : Calls Tryz.prog 131 #[.slice ay r'.length cy] w6.drew fun e w' => ∃ v, e = .returned v ∧ Owns w' w6.drew.heap.size v (bytesG r') ∧ w6.drew.grownBy w' none := laid_any ay cy r' w6.drew (C6.keptNone hld6) HLY.out.2 hr8
      clear hq hz hrb hz2 C6
      go_wp2_with fail
      go_region_held3 (fun _ => True) (trivial) (first | (go_at_call 131; refine CLY.mono ?_; rintro e w7 ⟨v7, rfl, O7, G7⟩; obtain ⟨a7, c7, rfl, C7, -⟩ := O7.rd; dsimp only) | (refine step_copy_splice rfl (.tmp 60) (.tmp 62) 88 88 rfl 5 Tryz.underlying88 hsz5 (some (if 16 = z then ⟨A, 0, none⟩ else ⟨A, z, none⟩)) a7 (16 - z) (16 - z) (bytesG r').length c7 (by simp [Act.eval]) (by simp [Act.eval]) A z ((leftA l').map bv) 26 (A6.grown (grown_trans hld6 G7) (by simp)) ((bytesG r').map bv) HN2.out (fun hp => ⟨HPOS.out hp, copy_src C7 hp⟩) HFIT.out (bv_one _) A w6 (HB2.out _ (grown_trans hld6 G7)) (Nat.le_refl _) ?_; intro w8 hg8 hb8))
      have HFL : Hid ((bytesG (l' ++ List.replicate (8 - l'.length - r'.length) 0 ++ r')).length = 16) := by
       show _ = _
       rw [bytesG_len, List.length_append, List.length_append, List.length_replicate]
       omega
      have A8 : AAt w8 A 26 (bytesG (l' ++ List.replicate (8 - l'.length - r'.length) 0 ++ r')) := by
       unfold AAt
       rw [hg8.out, HZ.out, splice_right l' r' h8]
      have R8 : AAt w8 R 26 (List.replicate 16 0) := by unfold AAt at R6 ⊢; rw [hb8.block R hRA]; exact R6
      have B8 : Below w.heap.size w w8 := B6.trans (hb8.mono hsq)
      have HZ1 : Hid ((Tryz.prog.info? 26).map (·.size) = some ((bytesG (l' ++ List.replicate (8 - l'.length - r'.length) 0 ++ r')).map bv).toArray.size ∧ ((List.replicate 16 (0 : UInt8)).map bv).toArray.size = ((bytesG (l' ++ List.replicate (8 - l'.length - r'.length) 0 ++ r')).map bv).toArray.size ∧ (Tryz.prog.info? 26).map (·.size) = some (bytesG (l' ++ List.replicate (8 - l'.length - r'.length) 0 ++ r')).length) := by
       refine ⟨?_, ?_, ?_⟩
       ·rw [bv_size, HFL.out]; exact size26
       ·rw [bv_size, bv_size, HFL.out]; rfl
       ·rw [HFL.out]; exact size26
      clear hg8 hb8 A6 R6 B6 HB2 hld6 CLY G7 O7 C7 HFL
      generalize bytesG (l' ++ List.replicate (8 - l'.length - r'.length) 0 ++ r') = fin at *
      go_wp2_with (first | refine wpList_load_row rfl 26 (.tmp 12) rfl A rfl 26 (fin.map bv).toArray (0, 0) _ A8 Tryz.underlying26 rfl HZ1.out.1 ?_ | refine wpList_store_row rfl 26 (.tmp 2) (.tmp 64) rfl R (fin.map bv).toArray rfl rfl 26 _ R8 HZ1.out.1 HZ1.out.2.1 (bv_all _) ?_)
      all_goals
       refine bodyPost_ret (ret_arr rfl _ _ R fin 16 5 rfl (R8.setRow fin) Tryz.underlying26 HZ1.out.2.2) rfl ?_
       exact ⟨by rw [HN.out]; rfl, grown_setRow (grown_of B8) _ _ (.inr hRw)⟩
theorem parse4_some {s r : List UInt8} (h : parse4V s = some r) : r.length = 4 := by
 unfold parse4V at h
 split at h
 ·rename_i h4
  cases ha : allV (numberV 255) (splitV 46 s) with
  | none => rw [ha] at h; cases h
  | some ns =>
   rw [ha] at h
   simp only [Option.map_some, Option.some.injEq] at h
   subst h
   rw [List.length_map, allV_len ha, h4]
 ·cases h
theorem parse4_len (s : List UInt8) : ((parse4V s).getD (List.replicate 4 0)).length = 4 := by
 cases h : parse4V s with
 | none => rfl
 | some r => exact parse4_some h
theorem parse6_some {s r : List UInt8} (h : parse6V s = some r) : r.length = 16 := by
 unfold parse6V at h
 split at h
 ·cases hx : groupsV s with
  | none => rw [hx] at h; cases h
  | some x =>
   rw [hx] at h
   simp only [Option.bind_some] at h
   split at h
   ·simp only [Option.some.injEq] at h
    subst h
    rw [bytes_len]; omega
   ·cases h
 ·rename_i k _
  cases hx : groupsV (s.take k) with
  | none => rw [hx] at h; cases h
  | some x =>
   cases hy : groupsV (s.drop (k + 2)) with
   | none => rw [hx, hy] at h; cases h
   | some y =>
    rw [hx, hy] at h
    simp only [Option.bind_some] at h
    split at h
    ·simp only [Option.some.injEq] at h
     subst h
     rw [bytes_len, List.length_append, List.length_append, List.length_replicate]; omega
    ·cases h
theorem parse6_len (s : List UInt8) : ((parse6V s).getD (List.replicate 16 0)).length = 16 := by
 cases h : parse6V s with
 | none => rfl
 | some r => exact parse6_some h

end Go.Proofs.YtghbbephhoniaaaGreatDoor
