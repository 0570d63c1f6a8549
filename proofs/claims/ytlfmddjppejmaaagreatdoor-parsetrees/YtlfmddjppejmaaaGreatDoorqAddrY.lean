import Derived.Test.YtlfmddjppejmaaaGreatDoorqLotQ34
import Derived.Test.YtlfmddjppejmaaaGreatDoorqLotQ24
import Derived.Deep.RegionHeld3
import Derived.Laws.CopyOwn
set_option maxHeartbeats 64000000
set_option maxRecDepth 100000
namespace Go.Proofs.YtlfmddjppejmaaaGreatDoor
open Go.RowKit
theorem a2f (a b : List Nat) : j2 (a ++ b) = j2 a ++ j2 b := by simp [j2]
theorem a6y (n : Nat) : j2 (List.replicate n 0) = List.replicate (2 * n) 0 := by
 induction n with
 | zero => rfl
 | succ n ih =>
  rw [List.replicate_succ, show (0 :: List.replicate n 0) = [0] ++ List.replicate n 0 from rfl, a2f, ih, show 2 * (n + 1) = 2 * n + 1 + 1 by omega, List.replicate_succ, List.replicate_succ]
  rfl
def U0 (l : List Nat) : List UInt8 := j2 l ++ List.replicate (16 - 2 * l.length) 0
theorem a5o (l : List Nat) : splice ((List.replicate 16 (0 : UInt8)).map bv) 0 ((j2 l).map bv) = (U0 l).map bv := by
 unfold splice U0
 rw [List.take_zero, List.nil_append, Nat.zero_add, List.length_map, M7, ← List.map_drop, List.drop_replicate, List.map_append]
theorem a5q (l r : List Nat) (h : l.length + r.length ≤ 8) : splice ((U0 l).map bv) (2 * (8 - r.length)) ((j2 r).map bv) = (j2 (l ++ List.replicate (8 - l.length - r.length) 0 ++ r)).map bv := by
 unfold splice U0
 have e1 : (j2 l ++ List.replicate (16 - 2 * l.length) (0 : UInt8)).take (2 * (8 - r.length)) = j2 l ++ List.replicate (2 * (8 - l.length - r.length)) 0 := by
  rw [List.take_append, M7, List.take_of_length_le (by rw [M7]; omega), List.take_replicate]
  congr 2
  omega
 have e2 : (j2 l ++ List.replicate (16 - 2 * l.length) (0 : UInt8)).drop (2 * (8 - r.length) + 2 * r.length) = [] := by
  apply List.drop_eq_nil_of_le
  rw [List.length_append, M7, List.length_replicate]
  omega
 rw [List.length_map, M7, ← List.map_take, ← List.map_drop, e1, e2, a2f, a2f, a6y]
 simp
theorem a8w (s x y : List UInt8) (m : Bool) (h : (m = false ∧ x7 s = none ∧ x = s ∧ y = []) ∨ (m = true ∧ ∃ k, x7 s = some k ∧ x = s.take k ∧ y = s.drop (k + 2))) :
  x3 s = (k6 x).bind fun l => (k6 y).bind fun r => if l.length + r.length ≤ 8 ∧ m = decide (l.length + r.length < 8) then some (j2 (l ++ List.replicate (8 - l.length - r.length) 0 ++ r)) else none := by
 rcases h with ⟨rfl, hg, hx, rfl⟩ | ⟨rfl, k, hg, rfl, rfl⟩
 ·subst hx
  rw [a2Q x x [] (by rw [hg]; exact ⟨rfl, rfl⟩), hg]
  cases hl : k6 x with
  | none => rfl
  | some l =>
   have hl8 := a1f hl
   show (if (l.length == 8) = true then _ else _) = (if l.length + 0 ≤ 8 ∧ false = decide (l.length + 0 < 8) then _ else _)
   by_cases h8 : l.length = 8
   ·rw [if_pos (by simpa using h8), if_pos ⟨by omega, by rw [h8]; rfl⟩]
   ·rw [if_neg (by simpa using h8), if_neg (fun e => by have := e.2; simp at this; omega)]
 ·rw [a2Q s _ _ (by rw [hg]; exact ⟨rfl, rfl⟩), hg]
  cases k6 (s.take k) with
  | none => rfl
  | some l =>
   cases k6 (s.drop (k + 2)) with
   | none => rfl
   | some r =>
    show (if decide (l.length + r.length ≤ 7) = true then _ else _) = (if l.length + r.length ≤ 8 ∧ true = decide (l.length + r.length < 8) then _ else _)
    by_cases h7 : l.length + r.length ≤ 7
    ·rw [if_pos (by simpa using h7), if_pos ⟨by omega, by simp; omega⟩]
    ·rw [if_neg (by simpa using h7), if_neg (fun e => by have := e.2; simp at this; omega)]
theorem a1B {w : World} {ao : Option Addr} {xs : List UInt8} (h : z8 w ao xs) (hp : 0 < (xs.map bv).length) : ∃ ad, ao = some ad ∧ ∀ j v, (xs.map bv)[j]? = some v → w.cell? (ad.add j) = some v := by
 rw [List.length_map] at hp
 cases ao with
 | none => have := h.1 rfl; subst this; simp at hp
 | some ad =>
  refine ⟨ad, rfl, fun j v hv => ?_⟩
  obtain ⟨hj, e⟩ := List.getElem?_eq_some_iff.1 hv
  rw [List.length_map] at hj
  rw [h.2 ad rfl j hj, ← e, List.getElem_map]
theorem a8u (s : ByteArray) (w : World) (hs : s.size ≤ 1048576) (T : x5 w) :
  Calls Tryz.prog 127 #[.string s] w fun e w' => e = .returned (.tuple #[X0 16 (x3 (sl s)), .int .i64 (X1 (x3 (sl s)))]) ∧ w.grownBy w' none := by
 have HS := j0 s
 have HT : Hid (x5 w) := T
 have h3 := T.size
 clear T
 have hsz5 : (Tryz.prog.info? 5).map (·.size) = some 1 := by kernel_rfl
 rw [K0 s]
 obtain ⟨S, hS⟩ : ∃ S, sl s = S := ⟨_, rfl⟩
 rw [hS] at HS ⊢
 clear hS
 have A0 := AAt.alloc w 52 (List.replicate 16 0)
 have G0 := World.grownBy_alloc w (.cells ((List.replicate 16 (0 : UInt8)).map bv).toArray 52) none
 rw [show ((List.replicate 16 (0 : UInt8)).map bv).toArray = #[.int .u8 0, .int .u8 0, .int .u8 0, .int .u8 0, .int .u8 0, .int .u8 0, .int .u8 0, .int .u8 0, .int .u8 0, .int .u8 0, .int .u8 0, .int .u8 0, .int .u8 0, .int .u8 0, .int .u8 0, .int .u8 0] from rfl] at A0 G0
 have CC := a6E S _ (by omega) (HT.out.grown G0)
 go_enter Tryz.func127, Tryz.ntmps127
 go_wp2_with fail
 refine CC.mono ?_
 rintro e w1 ⟨⟨x, y, m, rfl, hm⟩, k, rfl⟩
 have HPT : Hid (x3 S = (k6 x).bind fun l => (k6 y).bind fun r => if l.length + r.length ≤ 8 ∧ m = decide (l.length + r.length < 8) then some (j2 (l ++ List.replicate (8 - l.length - r.length) 0 ++ r)) else none) := a8w S x y m hm
 have hxl : x.length ≤ 1048576 := by
  rcases hm with ⟨-, -, rfl, -⟩ | ⟨-, q, -, rfl, -⟩
  ·omega
  ·rw [List.length_take]; omega
 have hyl : y.length ≤ 1048576 := by
  rcases hm with ⟨-, -, -, rfl⟩ | ⟨-, q, -, -, rfl⟩
  ·simp
  ·rw [List.length_drop]; omega
 have A1 := A0.grown (f8 _ k none) (by simp)
 have G1 := d5 G0 (f8 _ k none)
 clear A0 G0 CC hm
 obtain ⟨R, hR, hRw⟩ : ∃ R, w.heap.size = R ∧ w.heap.size ≤ R := ⟨_, rfl, Nat.le_refl _⟩
 rw [hR] at A1
 rw [show (Value.pointer (some ⟨w.heap.size, 0, none⟩)) = .pointer (some ⟨R, 0, none⟩) by rw [hR]]
 generalize (w.alloc (.cells #[.int .u8 0, .int .u8 0, .int .u8 0, .int .u8 0, .int .u8 0, .int .u8 0, .int .u8 0, .int .u8 0, .int .u8 0, .int .u8 0, .int .u8 0, .int .u8 0, .int .u8 0, .int .u8 0, .int .u8 0, .int .u8 0] 52)).drewN k = wk at *
 have CX : Hid (∀ W : World, x5 W → Calls Tryz.prog 132 #[str x] W fun e w' => ∃ v, e = .returned (.tuple #[v, .bool (k6 x).isSome]) ∧ a2c w' W.heap.size v ((k6 x).getD []) ∧ W.grownBy w' none) := fun W t => a41 ⟨x.toArray⟩ W (by rw [← j0]; exact hxl) t
 have CY : Hid (∀ W : World, x5 W → Calls Tryz.prog 132 #[str y] W fun e w' => ∃ v, e = .returned (.tuple #[v, .bool (k6 y).isSome]) ∧ a2c w' W.heap.size v ((k6 y).getD []) ∧ W.grownBy w' none) := fun W t => a41 ⟨y.toArray⟩ W (by rw [← j0]; exact hyl) t
 have HLX : Hid (((k6 x).getD []).length ≤ 8 ∧ ∀ g ∈ (k6 x).getD [], g < 65536) := by
  show _ ∧ _
  cases h : k6 x with
  | none => exact ⟨by simp, fun g hg => absurd hg (by simp)⟩
  | some l => exact ⟨a1f h, a1H h⟩
 have HLY : Hid (((k6 y).getD []).length ≤ 8 ∧ ∀ g ∈ (k6 y).getD [], g < 65536) := by
  show _ ∧ _
  cases h : k6 y with
  | none => exact ⟨by simp, fun g hg => absurd hg (by simp)⟩
  | some l => exact ⟨a1f h, a1H h⟩
 go_wp2_with fail
 refine (CX.out _ (HT.out.grown G1)).mono ?_
 rintro e w2 ⟨vx, rfl, OX, GX⟩
 go_wp2_with fail
 refine (CY.out _ (HT.out.grown (d5 G1 GX))).mono ?_
 rintro e w3 ⟨vy, rfl, OY, GY⟩
 have A3 := (A1.grown GX (by simp)).grown GY (by simp)
 have G3 := d5 G1 (d5 GX GY)
 obtain ⟨ax, cx, rfl, CVX, -, -, -, -⟩ := L1 (y8 OX GY)
 obtain ⟨ay, cy, rfl, CVY, -, -, -, -⟩ := L1 OY
 have HCX : Hid (CV w3 ax (((k6 x).getD []).map M0)) := CVX
 have HCY : Hid (CV w3 ay (((k6 y).getD []).map M0)) := CVY
 clear CX CY OX OY GX GY CVX CVY A1 G1 hR
 obtain ⟨l, hl⟩ : ∃ l, (k6 x).getD [] = l := ⟨_, rfl⟩
 obtain ⟨r, hr⟩ : ∃ r, (k6 y).getD [] = r := ⟨_, rfl⟩
 rw [hl] at HCX HLX
 rw [hr] at HCY HLY
 rw [hl, hr]
 have hl8 := HLX.out.1
 have hr8 := HLY.out.1
 have w1 : IntKind.i64.wrap (8 - (l.length : Int)) = 8 - (l.length : Int) := by rw [IntKind.wrap_i64]; omega
 have w2' : IntKind.i64.wrap (8 - (l.length : Int) - (r.length : Int)) = 8 - (l.length : Int) - (r.length : Int) := by rw [IntKind.wrap_i64]; omega
 cases hX : k6 x with
 | none =>
  have HN : Hid (x3 S = none) := by show _ = _; rw [HPT.out, hX]; rfl
  rw [show (none : Option (List Nat)).isSome = false from rfl]
  clear HCX HCY hX hl hr HPT
  go_wp2_with (refine wpList_store_row rfl 52 (.tmp 2) (.tmp 51) rfl R ((List.replicate 16 (0 : UInt8)).map bv).toArray rfl rfl 52 _ A3 E7 rfl (I1 _) ?_)
  refine bodyPost_ret (U2 rfl _ _ R (List.replicate 16 0) 16 5 rfl (A3.setRow (List.replicate 16 0)) Tryz.underlying52 E7) rfl ?_
  exact ⟨by rw [HN.out]; rfl, T9 G3 _ _ (.inr hRw)⟩
 | some l' =>
  obtain rfl : l' = l := by rw [hX] at hl; exact hl
  rw [show (some l' : Option (List Nat)).isSome = true from rfl]
  cases hY : k6 y with
  | none =>
   have HN : Hid (x3 S = none) := by show _ = _; rw [HPT.out, hX, hY]; rfl
   rw [show (none : Option (List Nat)).isSome = false from rfl]
   clear HCX HCY hX hY hl hr HPT
   go_wp2_with (refine wpList_store_row rfl 52 (.tmp 2) (.tmp 51) rfl R ((List.replicate 16 (0 : UInt8)).map bv).toArray rfl rfl 52 _ A3 E7 rfl (I1 _) ?_)
   refine bodyPost_ret (U2 rfl _ _ R (List.replicate 16 0) 16 5 rfl (A3.setRow (List.replicate 16 0)) Tryz.underlying52 E7) rfl ?_
   exact ⟨by rw [HN.out]; rfl, T9 G3 _ _ (.inr hRw)⟩
  | some r' =>
   obtain rfl : r' = r := by rw [hY] at hr; exact hr
   rw [show (some r' : Option (List Nat)).isSome = true from rfl]
   have HPT2 : Hid (x3 S = if l'.length + r'.length ≤ 8 ∧ m = decide (l'.length + r'.length < 8) then some (j2 (l' ++ List.replicate (8 - l'.length - r'.length) 0 ++ r')) else none) := by show _ = _; rw [HPT.out, hX, hY]; rfl
   clear hX hY hl hr HPT
   by_cases h8 : l'.length + r'.length ≤ 8
   case neg =>
    have HN : Hid (x3 S = none) := by show _ = _; rw [HPT2.out, if_neg (fun e => h8 e.1)]
    have c1 : 8 - (l'.length : Int) - (r'.length : Int) < 0 := by omega
    clear HCX HCY HPT2
    go_wp2_with (refine wpList_store_row rfl 52 (.tmp 2) (.tmp 51) rfl R ((List.replicate 16 (0 : UInt8)).map bv).toArray rfl rfl 52 _ A3 E7 rfl (I1 _) ?_)
    refine bodyPost_ret (U2 rfl _ _ R (List.replicate 16 0) 16 5 rfl (A3.setRow (List.replicate 16 0)) Tryz.underlying52 E7) rfl ?_
    exact ⟨by rw [HN.out]; rfl, T9 G3 _ _ (.inr hRw)⟩
   case pos =>
    have c1 : ¬ 8 - (l'.length : Int) - (r'.length : Int) < 0 := by omega
    by_cases hmm : m = decide (l'.length + r'.length < 8)
    case neg =>
     have HN : Hid (x3 S = none) := by show _ = _; rw [HPT2.out, if_neg (fun e => hmm e.2)]
     have HMM : Hid (m ≠ decide (l'.length + r'.length < 8)) := hmm
     clear HCX HCY HPT2 hmm
     by_cases h7 : l'.length + r'.length < 8
     ·have c2 : (0 : Int) < 8 - (l'.length : Int) - (r'.length : Int) := by omega
      obtain rfl : m = false := by have := HMM.out; rw [decide_eq_true h7] at this; cases m <;> simp_all
      go_wp2_with (refine wpList_store_row rfl 52 (.tmp 2) (.tmp 51) rfl R ((List.replicate 16 (0 : UInt8)).map bv).toArray rfl rfl 52 _ A3 E7 rfl (I1 _) ?_)
      refine bodyPost_ret (U2 rfl _ _ R (List.replicate 16 0) 16 5 rfl (A3.setRow (List.replicate 16 0)) Tryz.underlying52 E7) rfl ?_
      exact ⟨by rw [HN.out]; rfl, T9 G3 _ _ (.inr hRw)⟩
     ·have c2 : ¬ (0 : Int) < 8 - (l'.length : Int) - (r'.length : Int) := by omega
      have c4 : decide ((r'.length : Int) < 8 - (l'.length : Int)) = false := decide_eq_false (by omega)
      obtain rfl : m = true := by have := HMM.out; rw [decide_eq_false h7] at this; cases m <;> simp_all
      go_wp2_with (refine wpList_store_row rfl 52 (.tmp 2) (.tmp 51) rfl R ((List.replicate 16 (0 : UInt8)).map bv).toArray rfl rfl 52 _ A3 E7 rfl (I1 _) ?_)
      refine bodyPost_ret (U2 rfl _ _ R (List.replicate 16 0) 16 5 rfl (A3.setRow (List.replicate 16 0)) Tryz.underlying52 E7) rfl ?_
      exact ⟨by rw [HN.out]; rfl, T9 G3 _ _ (.inr hRw)⟩
    case pos =>
     have HN : Hid (x3 S = some (j2 (l' ++ List.replicate (8 - l'.length - r'.length) 0 ++ r'))) := by show _ = _; rw [HPT2.out, if_pos ⟨h8, hmm⟩]
     clear HPT2
     by_cases h7 : l'.length + r'.length < 8
     ·have c2 : (0 : Int) < 8 - (l'.length : Int) - (r'.length : Int) := by omega
      have c4 : decide ((r'.length : Int) < 8 - (l'.length : Int)) = true := decide_eq_true (by omega)
      obtain rfl : m = true := by rw [hmm]; exact decide_eq_true h7
      clear hmm
      go_upto_region 8 with fail
      have AQ := AAt.alloc w3 52 (List.replicate 16 0)
      have KQ := World.grownBy_alloc w3 (.cells ((List.replicate 16 (0 : UInt8)).map bv).toArray 52) none
      rw [show ((List.replicate 16 (0 : UInt8)).map bv).toArray = #[.int .u8 0, .int .u8 0, .int .u8 0, .int .u8 0, .int .u8 0, .int .u8 0, .int .u8 0, .int .u8 0, .int .u8 0, .int .u8 0, .int .u8 0, .int .u8 0, .int .u8 0, .int .u8 0, .int .u8 0, .int .u8 0] from rfl] at AQ KQ
      have RQ := A3.grown KQ (by simp)
      have GQ := d5 G3 KQ
      have hRA := A3.lt
      have hsq : w.heap.size ≤ w3.heap.size := G3.size
      have CXQ := HCX.out.keptNone KQ
      have CYQ := HCY.out.keptNone KQ
      have uX : ∀ ad, ay = some ad → r'.map M0 ≠ [] → ad.block < w3.heap.size := fun ad had hne => by
       have hp : 0 < (r'.map M0).length := List.length_pos_iff.2 hne
       have := block_lt_of_cell (HCY.out.2 ad had 0 hp)
       rw [show (ad.add 0).block = ad.block by unfold Addr.add; split <;> rfl] at this
       exact this
      obtain ⟨A, hA⟩ : ∃ A, w3.heap.size = A := ⟨_, rfl⟩
      have hq1 : A + 1 = (w3.alloc (.cells #[.int .u8 0, .int .u8 0, .int .u8 0, .int .u8 0, .int .u8 0, .int .u8 0, .int .u8 0, .int .u8 0, .int .u8 0, .int .u8 0, .int .u8 0, .int .u8 0, .int .u8 0, .int .u8 0, .int .u8 0, .int .u8 0] 52)).heap.size := by rw [World.size_alloc, hA]
      rw [hA] at AQ hRA hsq uX ⊢
      clear A3 G3 KQ HCX HCY hA
      generalize w3.alloc (.cells #[.int .u8 0, .int .u8 0, .int .u8 0, .int .u8 0, .int .u8 0, .int .u8 0, .int .u8 0, .int .u8 0, .int .u8 0, .int .u8 0, .int .u8 0, .int .u8 0, .int .u8 0, .int .u8 0, .int .u8 0, .int .u8 0] 52) = wq at *
      have HB1 : Hid (∀ W : World, wq.grownBy W none → Below A wq W) := fun W G => (Below.refl _ _).grown G (by omega) (by simp)
      have hld := f8 wq 1 none
      have CLX : Calls Tryz.prog 133 #[.slice ax l'.length cx] wq.drew fun e w' => ∃ v, e = .returned v ∧ L8 w' wq.drew.heap.size v (j2 l') ∧ wq.drew.grownBy w' none := a1M ax cx l' wq.drew (CXQ.keptNone hld) HLX.out.2 hl8
      have hlb := M7 l'
      go_region_held3 (fun _ => True) (trivial) (first | (go_at_call 133; refine CLX.mono ?_; rintro e w5 ⟨v5, rfl, O5, G5⟩; obtain ⟨a5, c5, rfl, C5, -⟩ := O5.rd; dsimp only) | (refine step_copy_splice rfl (.tmp 52) (.tmp 54) 105 105 rfl 5 Tryz.underlying105 hsz5 (some ⟨A, 0, none⟩) a5 16 16 (j2 l').length c5 (by simp [Act.eval]) (by simp [Act.eval]) A 0 ((List.replicate 16 (0 : UInt8)).map bv) 52 (AQ.grown (d5 hld G5) (by simp)) ((j2 l').map bv) (by rw [List.length_map]; exact (Nat.min_eq_left (by omega)).symm) (fun hp => ⟨rfl, a1B C5 hp⟩) (by rw [List.length_map, List.length_map, List.length_replicate]; omega) (Y6 _) A wq (HB1.out _ (d5 hld G5)) (Nat.le_refl _) ?_; intro w6 hg6 hb6))
      have A6 : AAt w6 A 52 (U0 l') := by unfold AAt; rw [hg6.out, a5o]
      have R6 : AAt w6 R 52 (List.replicate 16 0) := by unfold AAt at RQ ⊢; rw [hb6.block R hRA]; exact RQ
      have C6 : CV w6 ay (r'.map M0) := CYQ.same fun ad had hne _ => hb6.block ad.block (uX ad had hne)
      have B6 : Below w.heap.size w w6 := (a1z GQ).trans (hb6.mono hsq)
      have hs6 : A + 1 ≤ w6.heap.size := by have := hb6.size; omega
      clear hg6 hb6 AQ RQ GQ CXQ CYQ uX HB1 hld CLX G5 O5 C5 hq1 hlb w1 w2'
      obtain ⟨q, hq⟩ : ∃ q, 8 - r'.length = q := ⟨_, rfl⟩
      obtain ⟨z, hz⟩ : ∃ z, 2 * q = z := ⟨_, rfl⟩
      have v1 : IntKind.i64.wrap (8 - (r'.length : Int)) = (q : Int) := by rw [IntKind.wrap_i64]; omega
      have v2 : IntKind.i64.wrap (2 * (q : Int)) = (z : Int) := by rw [IntKind.wrap_i64]; omega
      have z0 : (0 : Int) ≤ (z : Int) := by omega
      have z16 : (z : Int) ≤ 16 := by omega
      have HZ : Hid (z = 2 * (8 - r'.length)) := by show _ = _; omega
      have hrb := M7 r'
      have hz2 : (j2 r').length = 16 - z := by omega
      have HB2 : Hid (∀ W : World, w6.grownBy W none → Below A w6 W) := fun W G => (Below.refl _ _).grown G (by omega) (by simp)
      have hld6 := f8 w6 1 none
      have HPOS : Hid (0 < ((j2 r').map bv).length → (some (if 16 = z then ⟨A, 0, none⟩ else ⟨A, z, none⟩) : Option Addr) = some ⟨A, z, none⟩) := fun hp => by
       rw [List.length_map] at hp
       rw [if_neg (by omega)]
      have HFIT : Hid (z + ((j2 r').map bv).length ≤ ((U0 l').map bv).length) := by
       show _ ≤ _
       rw [List.length_map, List.length_map, U0, List.length_append, M7, M7, List.length_replicate]
       have := HZ.out
       omega
      have HN2 : Hid (((j2 r').map bv).length = Nat.min (j2 r').length (16 - z)) := by
       show _ = _
       rw [List.length_map, hz2]
       exact (Nat.min_self _).symm
      have CLY : Calls Tryz.prog 133 #[.slice ay r'.length cy] w6.drew fun e w' => ∃ v, e = .returned v ∧ L8 w' w6.drew.heap.size v (j2 r') ∧ w6.drew.grownBy w' none := a1M ay cy r' w6.drew (C6.keptNone hld6) HLY.out.2 hr8
      clear hq hz hrb hz2 C6
      go_wp2_with fail
      go_region_held3 (fun _ => True) (trivial) (first | (go_at_call 133; refine CLY.mono ?_; rintro e w7 ⟨v7, rfl, O7, G7⟩; obtain ⟨a7, c7, rfl, C7, -⟩ := O7.rd; dsimp only) | (refine step_copy_splice rfl (.tmp 60) (.tmp 62) 105 105 rfl 5 Tryz.underlying105 hsz5 (some (if 16 = z then ⟨A, 0, none⟩ else ⟨A, z, none⟩)) a7 (16 - z) (16 - z) (j2 r').length c7 (by simp [Act.eval]) (by simp [Act.eval]) A z ((U0 l').map bv) 52 (A6.grown (d5 hld6 G7) (by simp)) ((j2 r').map bv) HN2.out (fun hp => ⟨HPOS.out hp, a1B C7 hp⟩) HFIT.out (Y6 _) A w6 (HB2.out _ (d5 hld6 G7)) (Nat.le_refl _) ?_; intro w8 hg8 hb8))
      have HFL : Hid ((j2 (l' ++ List.replicate (8 - l'.length - r'.length) 0 ++ r')).length = 16) := by
       show _ = _
       rw [M7, List.length_append, List.length_append, List.length_replicate]
       omega
      have A8 : AAt w8 A 52 (j2 (l' ++ List.replicate (8 - l'.length - r'.length) 0 ++ r')) := by
       unfold AAt
       rw [hg8.out, HZ.out, a5q l' r' h8]
      have R8 : AAt w8 R 52 (List.replicate 16 0) := by unfold AAt at R6 ⊢; rw [hb8.block R hRA]; exact R6
      have B8 : Below w.heap.size w w8 := B6.trans (hb8.mono hsq)
      have HZ1 : Hid ((Tryz.prog.info? 52).map (·.size) = some ((j2 (l' ++ List.replicate (8 - l'.length - r'.length) 0 ++ r')).map bv).toArray.size ∧ ((List.replicate 16 (0 : UInt8)).map bv).toArray.size = ((j2 (l' ++ List.replicate (8 - l'.length - r'.length) 0 ++ r')).map bv).toArray.size ∧ (Tryz.prog.info? 52).map (·.size) = some (j2 (l' ++ List.replicate (8 - l'.length - r'.length) 0 ++ r')).length) := by
       refine ⟨?_, ?_, ?_⟩
       ·rw [A5, HFL.out]; exact E7
       ·rw [A5, A5, HFL.out]; rfl
       ·rw [HFL.out]; exact E7
      clear hg8 hb8 A6 R6 B6 HB2 hld6 CLY G7 O7 C7 HFL
      generalize j2 (l' ++ List.replicate (8 - l'.length - r'.length) 0 ++ r') = fin at *
      go_wp2_with (first | refine wpList_load_row rfl 52 (.tmp 12) rfl A rfl 52 (fin.map bv).toArray (0, 0) _ A8 Tryz.underlying52 rfl HZ1.out.1 ?_ | refine wpList_store_row rfl 52 (.tmp 2) (.tmp 64) rfl R (fin.map bv).toArray rfl rfl 52 _ R8 HZ1.out.1 HZ1.out.2.1 (I1 _) ?_)
      all_goals
       refine bodyPost_ret (U2 rfl _ _ R fin 16 5 rfl (R8.setRow fin) Tryz.underlying52 HZ1.out.2.2) rfl ?_
       exact ⟨by rw [HN.out]; rfl, T9 (a0h B8) _ _ (.inr hRw)⟩
     ·have c2 : ¬ (0 : Int) < 8 - (l'.length : Int) - (r'.length : Int) := by omega
      have c4 : decide ((r'.length : Int) < 8 - (l'.length : Int)) = false := decide_eq_false (by omega)
      obtain rfl : m = false := by rw [hmm]; exact decide_eq_false h7
      clear hmm
      go_upto_region 8 with fail
      have AQ := AAt.alloc w3 52 (List.replicate 16 0)
      have KQ := World.grownBy_alloc w3 (.cells ((List.replicate 16 (0 : UInt8)).map bv).toArray 52) none
      rw [show ((List.replicate 16 (0 : UInt8)).map bv).toArray = #[.int .u8 0, .int .u8 0, .int .u8 0, .int .u8 0, .int .u8 0, .int .u8 0, .int .u8 0, .int .u8 0, .int .u8 0, .int .u8 0, .int .u8 0, .int .u8 0, .int .u8 0, .int .u8 0, .int .u8 0, .int .u8 0] from rfl] at AQ KQ
      have RQ := A3.grown KQ (by simp)
      have GQ := d5 G3 KQ
      have hRA := A3.lt
      have hsq : w.heap.size ≤ w3.heap.size := G3.size
      have CXQ := HCX.out.keptNone KQ
      have CYQ := HCY.out.keptNone KQ
      have uX : ∀ ad, ay = some ad → r'.map M0 ≠ [] → ad.block < w3.heap.size := fun ad had hne => by
       have hp : 0 < (r'.map M0).length := List.length_pos_iff.2 hne
       have := block_lt_of_cell (HCY.out.2 ad had 0 hp)
       rw [show (ad.add 0).block = ad.block by unfold Addr.add; split <;> rfl] at this
       exact this
      obtain ⟨A, hA⟩ : ∃ A, w3.heap.size = A := ⟨_, rfl⟩
      have hq1 : A + 1 = (w3.alloc (.cells #[.int .u8 0, .int .u8 0, .int .u8 0, .int .u8 0, .int .u8 0, .int .u8 0, .int .u8 0, .int .u8 0, .int .u8 0, .int .u8 0, .int .u8 0, .int .u8 0, .int .u8 0, .int .u8 0, .int .u8 0, .int .u8 0] 52)).heap.size := by rw [World.size_alloc, hA]
      rw [hA] at AQ hRA hsq uX ⊢
      clear A3 G3 KQ HCX HCY hA
      generalize w3.alloc (.cells #[.int .u8 0, .int .u8 0, .int .u8 0, .int .u8 0, .int .u8 0, .int .u8 0, .int .u8 0, .int .u8 0, .int .u8 0, .int .u8 0, .int .u8 0, .int .u8 0, .int .u8 0, .int .u8 0, .int .u8 0, .int .u8 0] 52) = wq at *
      have HB1 : Hid (∀ W : World, wq.grownBy W none → Below A wq W) := fun W G => (Below.refl _ _).grown G (by omega) (by simp)
      have hld := f8 wq 1 none
      have CLX : Calls Tryz.prog 133 #[.slice ax l'.length cx] wq.drew fun e w' => ∃ v, e = .returned v ∧ L8 w' wq.drew.heap.size v (j2 l') ∧ wq.drew.grownBy w' none := a1M ax cx l' wq.drew (CXQ.keptNone hld) HLX.out.2 hl8
      have hlb := M7 l'
      go_region_held3 (fun _ => True) (trivial) (first | (go_at_call 133; refine CLX.mono ?_; rintro e w5 ⟨v5, rfl, O5, G5⟩; obtain ⟨a5, c5, rfl, C5, -⟩ := O5.rd; dsimp only) | (refine step_copy_splice rfl (.tmp 52) (.tmp 54) 105 105 rfl 5 Tryz.underlying105 hsz5 (some ⟨A, 0, none⟩) a5 16 16 (j2 l').length c5 (by simp [Act.eval]) (by simp [Act.eval]) A 0 ((List.replicate 16 (0 : UInt8)).map bv) 52 (AQ.grown (d5 hld G5) (by simp)) ((j2 l').map bv) (by rw [List.length_map]; exact (Nat.min_eq_left (by omega)).symm) (fun hp => ⟨rfl, a1B C5 hp⟩) (by rw [List.length_map, List.length_map, List.length_replicate]; omega) (Y6 _) A wq (HB1.out _ (d5 hld G5)) (Nat.le_refl _) ?_; intro w6 hg6 hb6))
      have A6 : AAt w6 A 52 (U0 l') := by unfold AAt; rw [hg6.out, a5o]
      have R6 : AAt w6 R 52 (List.replicate 16 0) := by unfold AAt at RQ ⊢; rw [hb6.block R hRA]; exact RQ
      have C6 : CV w6 ay (r'.map M0) := CYQ.same fun ad had hne _ => hb6.block ad.block (uX ad had hne)
      have B6 : Below w.heap.size w w6 := (a1z GQ).trans (hb6.mono hsq)
      have hs6 : A + 1 ≤ w6.heap.size := by have := hb6.size; omega
      clear hg6 hb6 AQ RQ GQ CXQ CYQ uX HB1 hld CLX G5 O5 C5 hq1 hlb w1 w2'
      obtain ⟨q, hq⟩ : ∃ q, 8 - r'.length = q := ⟨_, rfl⟩
      obtain ⟨z, hz⟩ : ∃ z, 2 * q = z := ⟨_, rfl⟩
      have v1 : IntKind.i64.wrap (8 - (r'.length : Int)) = (q : Int) := by rw [IntKind.wrap_i64]; omega
      have v2 : IntKind.i64.wrap (2 * (q : Int)) = (z : Int) := by rw [IntKind.wrap_i64]; omega
      have z0 : (0 : Int) ≤ (z : Int) := by omega
      have z16 : (z : Int) ≤ 16 := by omega
      have HZ : Hid (z = 2 * (8 - r'.length)) := by show _ = _; omega
      have hrb := M7 r'
      have hz2 : (j2 r').length = 16 - z := by omega
      have HB2 : Hid (∀ W : World, w6.grownBy W none → Below A w6 W) := fun W G => (Below.refl _ _).grown G (by omega) (by simp)
      have hld6 := f8 w6 1 none
      have HPOS : Hid (0 < ((j2 r').map bv).length → (some (if 16 = z then ⟨A, 0, none⟩ else ⟨A, z, none⟩) : Option Addr) = some ⟨A, z, none⟩) := fun hp => by
       rw [List.length_map] at hp
       rw [if_neg (by omega)]
      have HFIT : Hid (z + ((j2 r').map bv).length ≤ ((U0 l').map bv).length) := by
       show _ ≤ _
       rw [List.length_map, List.length_map, U0, List.length_append, M7, M7, List.length_replicate]
       have := HZ.out
       omega
      have HN2 : Hid (((j2 r').map bv).length = Nat.min (j2 r').length (16 - z)) := by
       show _ = _
       rw [List.length_map, hz2]
       exact (Nat.min_self _).symm
      have CLY : Calls Tryz.prog 133 #[.slice ay r'.length cy] w6.drew fun e w' => ∃ v, e = .returned v ∧ L8 w' w6.drew.heap.size v (j2 r') ∧ w6.drew.grownBy w' none := a1M ay cy r' w6.drew (C6.keptNone hld6) HLY.out.2 hr8
      clear hq hz hrb hz2 C6
      go_wp2_with fail
      go_region_held3 (fun _ => True) (trivial) (first | (go_at_call 133; refine CLY.mono ?_; rintro e w7 ⟨v7, rfl, O7, G7⟩; obtain ⟨a7, c7, rfl, C7, -⟩ := O7.rd; dsimp only) | (refine step_copy_splice rfl (.tmp 60) (.tmp 62) 105 105 rfl 5 Tryz.underlying105 hsz5 (some (if 16 = z then ⟨A, 0, none⟩ else ⟨A, z, none⟩)) a7 (16 - z) (16 - z) (j2 r').length c7 (by simp [Act.eval]) (by simp [Act.eval]) A z ((U0 l').map bv) 52 (A6.grown (d5 hld6 G7) (by simp)) ((j2 r').map bv) HN2.out (fun hp => ⟨HPOS.out hp, a1B C7 hp⟩) HFIT.out (Y6 _) A w6 (HB2.out _ (d5 hld6 G7)) (Nat.le_refl _) ?_; intro w8 hg8 hb8))
      have HFL : Hid ((j2 (l' ++ List.replicate (8 - l'.length - r'.length) 0 ++ r')).length = 16) := by
       show _ = _
       rw [M7, List.length_append, List.length_append, List.length_replicate]
       omega
      have A8 : AAt w8 A 52 (j2 (l' ++ List.replicate (8 - l'.length - r'.length) 0 ++ r')) := by
       unfold AAt
       rw [hg8.out, HZ.out, a5q l' r' h8]
      have R8 : AAt w8 R 52 (List.replicate 16 0) := by unfold AAt at R6 ⊢; rw [hb8.block R hRA]; exact R6
      have B8 : Below w.heap.size w w8 := B6.trans (hb8.mono hsq)
      have HZ1 : Hid ((Tryz.prog.info? 52).map (·.size) = some ((j2 (l' ++ List.replicate (8 - l'.length - r'.length) 0 ++ r')).map bv).toArray.size ∧ ((List.replicate 16 (0 : UInt8)).map bv).toArray.size = ((j2 (l' ++ List.replicate (8 - l'.length - r'.length) 0 ++ r')).map bv).toArray.size ∧ (Tryz.prog.info? 52).map (·.size) = some (j2 (l' ++ List.replicate (8 - l'.length - r'.length) 0 ++ r')).length) := by
       refine ⟨?_, ?_, ?_⟩
       ·rw [A5, HFL.out]; exact E7
       ·rw [A5, A5, HFL.out]; rfl
       ·rw [HFL.out]; exact E7
      clear hg8 hb8 A6 R6 B6 HB2 hld6 CLY G7 O7 C7 HFL
      generalize j2 (l' ++ List.replicate (8 - l'.length - r'.length) 0 ++ r') = fin at *
      go_wp2_with (first | refine wpList_load_row rfl 52 (.tmp 12) rfl A rfl 52 (fin.map bv).toArray (0, 0) _ A8 Tryz.underlying52 rfl HZ1.out.1 ?_ | refine wpList_store_row rfl 52 (.tmp 2) (.tmp 64) rfl R (fin.map bv).toArray rfl rfl 52 _ R8 HZ1.out.1 HZ1.out.2.1 (I1 _) ?_)
      all_goals
       refine bodyPost_ret (U2 rfl _ _ R fin 16 5 rfl (R8.setRow fin) Tryz.underlying52 HZ1.out.2.2) rfl ?_
       exact ⟨by rw [HN.out]; rfl, T9 (a0h B8) _ _ (.inr hRw)⟩

end Go.Proofs.YtlfmddjppejmaaaGreatDoor
