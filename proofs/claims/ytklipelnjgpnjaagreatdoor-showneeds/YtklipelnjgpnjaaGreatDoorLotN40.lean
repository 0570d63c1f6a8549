import Derived.Test.YtklipelnjgpnjaaGreatDoorNAb
import Derived.Test.YtklipelnjgpnjaaGreatDoorLotN39
import Derived.Deep.RegionHeld3
import Derived.Laws.CopyOwn
import Derived.Test.YtklipelnjgpnjaaGreatDoorLotN3
set_option maxHeartbeats 64000000
set_option maxRecDepth 100000
namespace Go.Proofs.YtklipelnjgpnjaaGreatDoor
open Go.RowKit
theorem a5n (a b : List Nat) : j3 (a ++ b) = j3 a ++ j3 b := by simp [j3]
theorem al6 (n : Nat) : j3 (List.replicate n 0) = List.replicate (2 * n) 0 := by
 induction n with
 | zero => rfl
 | succ n ih =>
  rw [List.replicate_succ, show (0 :: List.replicate n 0) = [0] ++ List.replicate n 0 from rfl, a5n, ih, show 2 * (n + 1) = 2 * n + 1 + 1 by omega, List.replicate_succ, List.replicate_succ]
  rfl
def a0M (l : List Nat) : List UInt8 := j3 l ++ List.replicate (16 - 2 * l.length) 0
theorem aa4 (l : List Nat) : splice ((List.replicate 16 (0 : UInt8)).map bv) 0 ((j3 l).map bv) = (a0M l).map bv := by
 unfold splice a0M
 rw [List.take_zero, List.nil_append, Nat.zero_add, List.length_map, Z8, ← List.map_drop, List.drop_replicate, List.map_append]
theorem aa5 (l r : List Nat) (h : l.length + r.length ≤ 8) : splice ((a0M l).map bv) (2 * (8 - r.length)) ((j3 r).map bv) = (j3 (l ++ List.replicate (8 - l.length - r.length) 0 ++ r)).map bv := by
 unfold splice a0M
 have e1 : (j3 l ++ List.replicate (16 - 2 * l.length) (0 : UInt8)).take (2 * (8 - r.length)) = j3 l ++ List.replicate (2 * (8 - l.length - r.length)) 0 := by
  rw [List.take_append, Z8, List.take_of_length_le (by rw [Z8]; omega), List.take_replicate]
  congr 2
  omega
 have e2 : (j3 l ++ List.replicate (16 - 2 * l.length) (0 : UInt8)).drop (2 * (8 - r.length) + 2 * r.length) = [] := by
  apply List.drop_eq_nil_of_le
  rw [List.length_append, Z8, List.length_replicate]
  omega
 rw [List.length_map, Z8, ← List.map_take, ← List.map_drop, e1, e2, a5n, a5n, al6]
 simp
theorem aJ2 (s x y : List UInt8) (m : Bool) (h : (m = false ∧ a09 s = none ∧ x = s ∧ y = []) ∨ (m = true ∧ ∃ k, a09 s = some k ∧ x = s.take k ∧ y = s.drop (k + 2))) :
  J7 s = (o5 x).bind fun l => (o5 y).bind fun r => if l.length + r.length ≤ 8 ∧ m = decide (l.length + r.length < 8) then some (j3 (l ++ List.replicate (8 - l.length - r.length) 0 ++ r)) else none := by
 rcases h with ⟨rfl, hg, hx, rfl⟩ | ⟨rfl, k, hg, rfl, rfl⟩
 ·subst hx
  rw [a9o x x [] (by rw [hg]; exact ⟨rfl, rfl⟩), hg]
  cases hl : o5 x with
  | none => rfl
  | some l =>
   have hl8 := a5L hl
   show (if (l.length == 8) = true then _ else _) = (if l.length + 0 ≤ 8 ∧ false = decide (l.length + 0 < 8) then _ else _)
   by_cases h8 : l.length = 8
   ·rw [if_pos (by simpa using h8), if_pos ⟨by omega, by rw [h8]; rfl⟩]
   ·rw [if_neg (by simpa using h8), if_neg (fun e => by have := e.2; simp at this; omega)]
 ·rw [a9o s _ _ (by rw [hg]; exact ⟨rfl, rfl⟩), hg]
  cases o5 (s.take k) with
  | none => rfl
  | some l =>
   cases o5 (s.drop (k + 2)) with
   | none => rfl
   | some r =>
    show (if decide (l.length + r.length ≤ 7) = true then _ else _) = (if l.length + r.length ≤ 8 ∧ true = decide (l.length + r.length < 8) then _ else _)
    by_cases h7 : l.length + r.length ≤ 7
    ·rw [if_pos (by simpa using h7), if_pos ⟨by omega, by simp; omega⟩]
    ·rw [if_neg (by simpa using h7), if_neg (fun e => by have := e.2; simp at this; omega)]
theorem a45 {w : World} {ao : Option Addr} {xs : List UInt8} (h : Cells w ao xs) (hp : 0 < (xs.map bv).length) : ∃ ad, ao = some ad ∧ ∀ j v, (xs.map bv)[j]? = some v → w.cell? (ad.add j) = some v := by
 rw [List.length_map] at hp
 cases ao with
 | none => have := h.1 rfl; subst this; simp at hp
 | some ad =>
  refine ⟨ad, rfl, fun j v hv => ?_⟩
  obtain ⟨hj, e⟩ := List.getElem?_eq_some_iff.1 hv
  rw [List.length_map] at hj
  rw [h.2 ad rfl j hj, ← e, List.getElem_map]
theorem aJ0 (s : ByteArray) (w : World) (hs : s.size ≤ 1048576) (T : j2 w) :
  Calls Tryz.prog 236 #[.string s] w fun e w' => e = .returned (.tuple #[a41 16 (J7 (sl s)), .int .i64 (a48 (J7 (sl s)))]) ∧ w.grownBy w' none := by
 have HS := m8 s
 have HT : Hid (j2 w) := T
 have h3 := T.size
 clear T
 have hsz5 : (Tryz.prog.info? 5).map (·.size) = some 1 := by kernel_rfl
 rw [a0D s]
 obtain ⟨S, hS⟩ : ∃ S, sl s = S := ⟨_, rfl⟩
 rw [hS] at HS ⊢
 clear hS
 have A0 := AAt.alloc w 41 (List.replicate 16 0)
 have G0 := World.grownBy_alloc w (.cells ((List.replicate 16 (0 : UInt8)).map bv).toArray 41) none
 rw [show ((List.replicate 16 (0 : UInt8)).map bv).toArray = #[.int .u8 0, .int .u8 0, .int .u8 0, .int .u8 0, .int .u8 0, .int .u8 0, .int .u8 0, .int .u8 0, .int .u8 0, .int .u8 0, .int .u8 0, .int .u8 0, .int .u8 0, .int .u8 0, .int .u8 0, .int .u8 0] from rfl] at A0 G0
 have CC := an1 S _ (by omega) (HT.out.grown G0)
 go_enter Tryz.func236, Tryz.ntmps236
 go_wp2_with fail
 refine CC.mono ?_
 rintro e w1 ⟨⟨x, y, m, rfl, hm⟩, k, rfl⟩
 have HPT : Hid (J7 S = (o5 x).bind fun l => (o5 y).bind fun r => if l.length + r.length ≤ 8 ∧ m = decide (l.length + r.length < 8) then some (j3 (l ++ List.replicate (8 - l.length - r.length) 0 ++ r)) else none) := aJ2 S x y m hm
 have hxl : x.length ≤ 1048576 := by
  rcases hm with ⟨-, -, rfl, -⟩ | ⟨-, q, -, rfl, -⟩
  ·omega
  ·rw [List.length_take]; omega
 have hyl : y.length ≤ 1048576 := by
  rcases hm with ⟨-, -, -, rfl⟩ | ⟨-, q, -, -, rfl⟩
  ·simp
  ·rw [List.length_drop]; omega
 have A1 := A0.grown (f9 _ k none) (by simp)
 have G1 := d3 G0 (f9 _ k none)
 clear A0 G0 CC hm
 obtain ⟨R, hR, hRw⟩ : ∃ R, w.heap.size = R ∧ w.heap.size ≤ R := ⟨_, rfl, Nat.le_refl _⟩
 rw [hR] at A1
 rw [show (Value.pointer (some ⟨w.heap.size, 0, none⟩)) = .pointer (some ⟨R, 0, none⟩) by rw [hR]]
 generalize (w.alloc (.cells #[.int .u8 0, .int .u8 0, .int .u8 0, .int .u8 0, .int .u8 0, .int .u8 0, .int .u8 0, .int .u8 0, .int .u8 0, .int .u8 0, .int .u8 0, .int .u8 0, .int .u8 0, .int .u8 0, .int .u8 0, .int .u8 0] 41)).drewN k = wk at *
 have CX : Hid (∀ W : World, j2 W → Calls Tryz.prog 241 #[str x] W fun e w' => ∃ v, e = .returned (.tuple #[v, .bool (o5 x).isSome]) ∧ a5g w' W.heap.size v ((o5 x).getD []) ∧ W.grownBy w' none) := fun W t => a8m ⟨x.toArray⟩ W (by rw [← m8]; exact hxl) t
 have CY : Hid (∀ W : World, j2 W → Calls Tryz.prog 241 #[str y] W fun e w' => ∃ v, e = .returned (.tuple #[v, .bool (o5 y).isSome]) ∧ a5g w' W.heap.size v ((o5 y).getD []) ∧ W.grownBy w' none) := fun W t => a8m ⟨y.toArray⟩ W (by rw [← m8]; exact hyl) t
 have HLX : Hid (((o5 x).getD []).length ≤ 8 ∧ ∀ g ∈ (o5 x).getD [], g < 65536) := by
  show _ ∧ _
  cases h : o5 x with
  | none => exact ⟨by simp, fun g hg => absurd hg (by simp)⟩
  | some l => exact ⟨a5L h, a8n h⟩
 have HLY : Hid (((o5 y).getD []).length ≤ 8 ∧ ∀ g ∈ (o5 y).getD [], g < 65536) := by
  show _ ∧ _
  cases h : o5 y with
  | none => exact ⟨by simp, fun g hg => absurd hg (by simp)⟩
  | some l => exact ⟨a5L h, a8n h⟩
 go_wp2_with fail
 refine (CX.out _ (HT.out.grown G1)).mono ?_
 rintro e w2 ⟨vx, rfl, OX, GX⟩
 go_wp2_with fail
 refine (CY.out _ (HT.out.grown (d3 G1 GX))).mono ?_
 rintro e w3 ⟨vy, rfl, OY, GY⟩
 have A3 := (A1.grown GX (by simp)).grown GY (by simp)
 have G3 := d3 G1 (d3 GX GY)
 obtain ⟨ax, cx, rfl, CVX, -, -, -, -⟩ := S5 (x9 OX GY)
 obtain ⟨ay, cy, rfl, CVY, -, -, -, -⟩ := S5 OY
 have HCX : Hid (CV w3 ax (((o5 x).getD []).map V9)) := CVX
 have HCY : Hid (CV w3 ay (((o5 y).getD []).map V9)) := CVY
 clear CX CY OX OY GX GY CVX CVY A1 G1 hR
 obtain ⟨l, hl⟩ : ∃ l, (o5 x).getD [] = l := ⟨_, rfl⟩
 obtain ⟨r, hr⟩ : ∃ r, (o5 y).getD [] = r := ⟨_, rfl⟩
 rw [hl] at HCX HLX
 rw [hr] at HCY HLY
 rw [hl, hr]
 have hl8 := HLX.out.1
 have hr8 := HLY.out.1
 have w1 : IntKind.i64.wrap (8 - (l.length : Int)) = 8 - (l.length : Int) := by rw [IntKind.wrap_i64]; omega
 have w2' : IntKind.i64.wrap (8 - (l.length : Int) - (r.length : Int)) = 8 - (l.length : Int) - (r.length : Int) := by rw [IntKind.wrap_i64]; omega
 cases hX : o5 x with
 | none =>
  have HN : Hid (J7 S = none) := by show _ = _; rw [HPT.out, hX]; rfl
  rw [show (none : Option (List Nat)).isSome = false from rfl]
  clear HCX HCY hX hl hr HPT
  go_wp2_with (refine wpList_store_row rfl 41 (.tmp 2) (.tmp 51) rfl R ((List.replicate 16 (0 : UInt8)).map bv).toArray rfl rfl 41 _ A3 T5 rfl (a0o _) ?_)
  refine bodyPost_ret (a2w rfl _ _ R (List.replicate 16 0) 16 5 rfl (A3.setRow (List.replicate 16 0)) Tryz.underlying41 T5) rfl ?_
  exact ⟨by rw [HN.out]; rfl, a29 G3 _ _ (.inr hRw)⟩
 | some l' =>
  obtain rfl : l' = l := by rw [hX] at hl; exact hl
  rw [show (some l' : Option (List Nat)).isSome = true from rfl]
  cases hY : o5 y with
  | none =>
   have HN : Hid (J7 S = none) := by show _ = _; rw [HPT.out, hX, hY]; rfl
   rw [show (none : Option (List Nat)).isSome = false from rfl]
   clear HCX HCY hX hY hl hr HPT
   go_wp2_with (refine wpList_store_row rfl 41 (.tmp 2) (.tmp 51) rfl R ((List.replicate 16 (0 : UInt8)).map bv).toArray rfl rfl 41 _ A3 T5 rfl (a0o _) ?_)
   refine bodyPost_ret (a2w rfl _ _ R (List.replicate 16 0) 16 5 rfl (A3.setRow (List.replicate 16 0)) Tryz.underlying41 T5) rfl ?_
   exact ⟨by rw [HN.out]; rfl, a29 G3 _ _ (.inr hRw)⟩
  | some r' =>
   obtain rfl : r' = r := by rw [hY] at hr; exact hr
   rw [show (some r' : Option (List Nat)).isSome = true from rfl]
   have HPT2 : Hid (J7 S = if l'.length + r'.length ≤ 8 ∧ m = decide (l'.length + r'.length < 8) then some (j3 (l' ++ List.replicate (8 - l'.length - r'.length) 0 ++ r')) else none) := by show _ = _; rw [HPT.out, hX, hY]; rfl
   clear hX hY hl hr HPT
   by_cases h8 : l'.length + r'.length ≤ 8
   case neg =>
    have HN : Hid (J7 S = none) := by show _ = _; rw [HPT2.out, if_neg (fun e => h8 e.1)]
    have c1 : 8 - (l'.length : Int) - (r'.length : Int) < 0 := by omega
    clear HCX HCY HPT2
    go_wp2_with (refine wpList_store_row rfl 41 (.tmp 2) (.tmp 51) rfl R ((List.replicate 16 (0 : UInt8)).map bv).toArray rfl rfl 41 _ A3 T5 rfl (a0o _) ?_)
    refine bodyPost_ret (a2w rfl _ _ R (List.replicate 16 0) 16 5 rfl (A3.setRow (List.replicate 16 0)) Tryz.underlying41 T5) rfl ?_
    exact ⟨by rw [HN.out]; rfl, a29 G3 _ _ (.inr hRw)⟩
   case pos =>
    have c1 : ¬ 8 - (l'.length : Int) - (r'.length : Int) < 0 := by omega
    by_cases hmm : m = decide (l'.length + r'.length < 8)
    case neg =>
     have HN : Hid (J7 S = none) := by show _ = _; rw [HPT2.out, if_neg (fun e => hmm e.2)]
     have HMM : Hid (m ≠ decide (l'.length + r'.length < 8)) := hmm
     clear HCX HCY HPT2 hmm
     by_cases h7 : l'.length + r'.length < 8
     ·have c2 : (0 : Int) < 8 - (l'.length : Int) - (r'.length : Int) := by omega
      obtain rfl : m = false := by have := HMM.out; rw [decide_eq_true h7] at this; cases m <;> simp_all
      go_wp2_with (refine wpList_store_row rfl 41 (.tmp 2) (.tmp 51) rfl R ((List.replicate 16 (0 : UInt8)).map bv).toArray rfl rfl 41 _ A3 T5 rfl (a0o _) ?_)
      refine bodyPost_ret (a2w rfl _ _ R (List.replicate 16 0) 16 5 rfl (A3.setRow (List.replicate 16 0)) Tryz.underlying41 T5) rfl ?_
      exact ⟨by rw [HN.out]; rfl, a29 G3 _ _ (.inr hRw)⟩
     ·have c2 : ¬ (0 : Int) < 8 - (l'.length : Int) - (r'.length : Int) := by omega
      have c4 : decide ((r'.length : Int) < 8 - (l'.length : Int)) = false := decide_eq_false (by omega)
      obtain rfl : m = true := by have := HMM.out; rw [decide_eq_false h7] at this; cases m <;> simp_all
      go_wp2_with (refine wpList_store_row rfl 41 (.tmp 2) (.tmp 51) rfl R ((List.replicate 16 (0 : UInt8)).map bv).toArray rfl rfl 41 _ A3 T5 rfl (a0o _) ?_)
      refine bodyPost_ret (a2w rfl _ _ R (List.replicate 16 0) 16 5 rfl (A3.setRow (List.replicate 16 0)) Tryz.underlying41 T5) rfl ?_
      exact ⟨by rw [HN.out]; rfl, a29 G3 _ _ (.inr hRw)⟩
    case pos =>
     have HN : Hid (J7 S = some (j3 (l' ++ List.replicate (8 - l'.length - r'.length) 0 ++ r'))) := by show _ = _; rw [HPT2.out, if_pos ⟨h8, hmm⟩]
     clear HPT2
     by_cases h7 : l'.length + r'.length < 8
     ·have c2 : (0 : Int) < 8 - (l'.length : Int) - (r'.length : Int) := by omega
      have c4 : decide ((r'.length : Int) < 8 - (l'.length : Int)) = true := decide_eq_true (by omega)
      obtain rfl : m = true := by rw [hmm]; exact decide_eq_true h7
      clear hmm
      go_upto_region 8 with fail
      have AQ := AAt.alloc w3 41 (List.replicate 16 0)
      have KQ := World.grownBy_alloc w3 (.cells ((List.replicate 16 (0 : UInt8)).map bv).toArray 41) none
      rw [show ((List.replicate 16 (0 : UInt8)).map bv).toArray = #[.int .u8 0, .int .u8 0, .int .u8 0, .int .u8 0, .int .u8 0, .int .u8 0, .int .u8 0, .int .u8 0, .int .u8 0, .int .u8 0, .int .u8 0, .int .u8 0, .int .u8 0, .int .u8 0, .int .u8 0, .int .u8 0] from rfl] at AQ KQ
      have RQ := A3.grown KQ (by simp)
      have GQ := d3 G3 KQ
      have hRA := A3.lt
      have hsq : w.heap.size ≤ w3.heap.size := G3.size
      have CXQ := HCX.out.keptNone KQ
      have CYQ := HCY.out.keptNone KQ
      have uX : ∀ ad, ay = some ad → r'.map V9 ≠ [] → ad.block < w3.heap.size := fun ad had hne => by
       have hp : 0 < (r'.map V9).length := List.length_pos_iff.2 hne
       have := block_lt_of_cell (HCY.out.2 ad had 0 hp)
       rw [show (ad.add 0).block = ad.block by unfold Addr.add; split <;> rfl] at this
       exact this
      obtain ⟨A, hA⟩ : ∃ A, w3.heap.size = A := ⟨_, rfl⟩
      have hq1 : A + 1 = (w3.alloc (.cells #[.int .u8 0, .int .u8 0, .int .u8 0, .int .u8 0, .int .u8 0, .int .u8 0, .int .u8 0, .int .u8 0, .int .u8 0, .int .u8 0, .int .u8 0, .int .u8 0, .int .u8 0, .int .u8 0, .int .u8 0, .int .u8 0] 41)).heap.size := by rw [World.size_alloc, hA]
      rw [hA] at AQ hRA hsq uX ⊢
      clear A3 G3 KQ HCX HCY hA
      generalize w3.alloc (.cells #[.int .u8 0, .int .u8 0, .int .u8 0, .int .u8 0, .int .u8 0, .int .u8 0, .int .u8 0, .int .u8 0, .int .u8 0, .int .u8 0, .int .u8 0, .int .u8 0, .int .u8 0, .int .u8 0, .int .u8 0, .int .u8 0] 41) = wq at *
      have HB1 : Hid (∀ W : World, wq.grownBy W none → Below A wq W) := fun W G => (Below.refl _ _).grown G (by omega) (by simp)
      have hld := f9 wq 1 none
      have CLX : Calls Tryz.prog 242 #[.slice ax l'.length cx] wq.drew fun e w' => ∃ v, e = .returned v ∧ m9 w' wq.drew.heap.size v (j3 l') ∧ wq.drew.grownBy w' none := a4l ax cx l' wq.drew (CXQ.keptNone hld) HLX.out.2 hl8
      have hlb := Z8 l'
      go_region_held3 (fun _ => True) (trivial) (first | (go_at_call 242; refine CLX.mono ?_; rintro e w5 ⟨v5, rfl, O5, G5⟩; obtain ⟨a5, c5, rfl, C5, -⟩ := O5.rd; dsimp only) | (refine step_copy_splice rfl (.tmp 52) (.tmp 54) 115 115 rfl 5 Tryz.underlying115 hsz5 (some ⟨A, 0, none⟩) a5 16 16 (j3 l').length c5 (by simp [Act.eval]) (by simp [Act.eval]) A 0 ((List.replicate 16 (0 : UInt8)).map bv) 41 (AQ.grown (d3 hld G5) (by simp)) ((j3 l').map bv) (by rw [List.length_map]; exact (Nat.min_eq_left (by omega)).symm) (fun hp => ⟨rfl, a45 C5 hp⟩) (by rw [List.length_map, List.length_map, List.length_replicate]; omega) (a0p _) A wq (HB1.out _ (d3 hld G5)) (Nat.le_refl _) ?_; intro w6 hg6 hb6))
      have A6 : AAt w6 A 41 (a0M l') := by unfold AAt; rw [hg6.out, aa4]
      have R6 : AAt w6 R 41 (List.replicate 16 0) := by unfold AAt at RQ ⊢; rw [hb6.block R hRA]; exact RQ
      have C6 : CV w6 ay (r'.map V9) := CYQ.same fun ad had hne _ => hb6.block ad.block (uX ad had hne)
      have B6 : Below w.heap.size w w6 := (a1c GQ).trans (hb6.mono hsq)
      have hs6 : A + 1 ≤ w6.heap.size := by have := hb6.size; omega
      clear hg6 hb6 AQ RQ GQ CXQ CYQ uX HB1 hld CLX G5 O5 C5 hq1 hlb w1 w2'
      obtain ⟨q, hq⟩ : ∃ q, 8 - r'.length = q := ⟨_, rfl⟩
      obtain ⟨z, hz⟩ : ∃ z, 2 * q = z := ⟨_, rfl⟩
      have v1 : IntKind.i64.wrap (8 - (r'.length : Int)) = (q : Int) := by rw [IntKind.wrap_i64]; omega
      have v2 : IntKind.i64.wrap (2 * (q : Int)) = (z : Int) := by rw [IntKind.wrap_i64]; omega
      have z0 : (0 : Int) ≤ (z : Int) := by omega
      have z16 : (z : Int) ≤ 16 := by omega
      have HZ : Hid (z = 2 * (8 - r'.length)) := by show _ = _; omega
      have hrb := Z8 r'
      have hz2 : (j3 r').length = 16 - z := by omega
      have HB2 : Hid (∀ W : World, w6.grownBy W none → Below A w6 W) := fun W G => (Below.refl _ _).grown G (by omega) (by simp)
      have hld6 := f9 w6 1 none
      have HPOS : Hid (0 < ((j3 r').map bv).length → (some (if 16 = z then ⟨A, 0, none⟩ else ⟨A, z, none⟩) : Option Addr) = some ⟨A, z, none⟩) := fun hp => by
       rw [List.length_map] at hp
       rw [if_neg (by omega)]
      have HFIT : Hid (z + ((j3 r').map bv).length ≤ ((a0M l').map bv).length) := by
       show _ ≤ _
       rw [List.length_map, List.length_map, a0M, List.length_append, Z8, Z8, List.length_replicate]
       have := HZ.out
       omega
      have HN2 : Hid (((j3 r').map bv).length = Nat.min (j3 r').length (16 - z)) := by
       show _ = _
       rw [List.length_map, hz2]
       exact (Nat.min_self _).symm
      have CLY : Calls Tryz.prog 242 #[.slice ay r'.length cy] w6.drew fun e w' => ∃ v, e = .returned v ∧ m9 w' w6.drew.heap.size v (j3 r') ∧ w6.drew.grownBy w' none := a4l ay cy r' w6.drew (C6.keptNone hld6) HLY.out.2 hr8
      clear hq hz hrb hz2 C6
      go_wp2_with fail
      go_region_held3 (fun _ => True) (trivial) (first | (go_at_call 242; refine CLY.mono ?_; rintro e w7 ⟨v7, rfl, O7, G7⟩; obtain ⟨a7, c7, rfl, C7, -⟩ := O7.rd; dsimp only) | (refine step_copy_splice rfl (.tmp 60) (.tmp 62) 115 115 rfl 5 Tryz.underlying115 hsz5 (some (if 16 = z then ⟨A, 0, none⟩ else ⟨A, z, none⟩)) a7 (16 - z) (16 - z) (j3 r').length c7 (by simp [Act.eval]) (by simp [Act.eval]) A z ((a0M l').map bv) 41 (A6.grown (d3 hld6 G7) (by simp)) ((j3 r').map bv) HN2.out (fun hp => ⟨HPOS.out hp, a45 C7 hp⟩) HFIT.out (a0p _) A w6 (HB2.out _ (d3 hld6 G7)) (Nat.le_refl _) ?_; intro w8 hg8 hb8))
      have HFL : Hid ((j3 (l' ++ List.replicate (8 - l'.length - r'.length) 0 ++ r')).length = 16) := by
       show _ = _
       rw [Z8, List.length_append, List.length_append, List.length_replicate]
       omega
      have A8 : AAt w8 A 41 (j3 (l' ++ List.replicate (8 - l'.length - r'.length) 0 ++ r')) := by
       unfold AAt
       rw [hg8.out, HZ.out, aa5 l' r' h8]
      have R8 : AAt w8 R 41 (List.replicate 16 0) := by unfold AAt at R6 ⊢; rw [hb8.block R hRA]; exact R6
      have B8 : Below w.heap.size w w8 := B6.trans (hb8.mono hsq)
      have HZ1 : Hid ((Tryz.prog.info? 41).map (·.size) = some ((j3 (l' ++ List.replicate (8 - l'.length - r'.length) 0 ++ r')).map bv).toArray.size ∧ ((List.replicate 16 (0 : UInt8)).map bv).toArray.size = ((j3 (l' ++ List.replicate (8 - l'.length - r'.length) 0 ++ r')).map bv).toArray.size ∧ (Tryz.prog.info? 41).map (·.size) = some (j3 (l' ++ List.replicate (8 - l'.length - r'.length) 0 ++ r')).length) := by
       refine ⟨?_, ?_, ?_⟩
       ·rw [S2, HFL.out]; exact T5
       ·rw [S2, S2, HFL.out]; rfl
       ·rw [HFL.out]; exact T5
      clear hg8 hb8 A6 R6 B6 HB2 hld6 CLY G7 O7 C7 HFL
      generalize j3 (l' ++ List.replicate (8 - l'.length - r'.length) 0 ++ r') = fin at *
      go_wp2_with (first | refine wpList_load_row rfl 41 (.tmp 12) rfl A rfl 41 (fin.map bv).toArray (0, 0) _ A8 Tryz.underlying41 rfl HZ1.out.1 ?_ | refine wpList_store_row rfl 41 (.tmp 2) (.tmp 64) rfl R (fin.map bv).toArray rfl rfl 41 _ R8 HZ1.out.1 HZ1.out.2.1 (a0o _) ?_)
      all_goals
       refine bodyPost_ret (a2w rfl _ _ R fin 16 5 rfl (R8.setRow fin) Tryz.underlying41 HZ1.out.2.2) rfl ?_
       exact ⟨by rw [HN.out]; rfl, a29 (a0t B8) _ _ (.inr hRw)⟩
     ·have c2 : ¬ (0 : Int) < 8 - (l'.length : Int) - (r'.length : Int) := by omega
      have c4 : decide ((r'.length : Int) < 8 - (l'.length : Int)) = false := decide_eq_false (by omega)
      obtain rfl : m = false := by rw [hmm]; exact decide_eq_false h7
      clear hmm
      go_upto_region 8 with fail
      have AQ := AAt.alloc w3 41 (List.replicate 16 0)
      have KQ := World.grownBy_alloc w3 (.cells ((List.replicate 16 (0 : UInt8)).map bv).toArray 41) none
      rw [show ((List.replicate 16 (0 : UInt8)).map bv).toArray = #[.int .u8 0, .int .u8 0, .int .u8 0, .int .u8 0, .int .u8 0, .int .u8 0, .int .u8 0, .int .u8 0, .int .u8 0, .int .u8 0, .int .u8 0, .int .u8 0, .int .u8 0, .int .u8 0, .int .u8 0, .int .u8 0] from rfl] at AQ KQ
      have RQ := A3.grown KQ (by simp)
      have GQ := d3 G3 KQ
      have hRA := A3.lt
      have hsq : w.heap.size ≤ w3.heap.size := G3.size
      have CXQ := HCX.out.keptNone KQ
      have CYQ := HCY.out.keptNone KQ
      have uX : ∀ ad, ay = some ad → r'.map V9 ≠ [] → ad.block < w3.heap.size := fun ad had hne => by
       have hp : 0 < (r'.map V9).length := List.length_pos_iff.2 hne
       have := block_lt_of_cell (HCY.out.2 ad had 0 hp)
       rw [show (ad.add 0).block = ad.block by unfold Addr.add; split <;> rfl] at this
       exact this
      obtain ⟨A, hA⟩ : ∃ A, w3.heap.size = A := ⟨_, rfl⟩
      have hq1 : A + 1 = (w3.alloc (.cells #[.int .u8 0, .int .u8 0, .int .u8 0, .int .u8 0, .int .u8 0, .int .u8 0, .int .u8 0, .int .u8 0, .int .u8 0, .int .u8 0, .int .u8 0, .int .u8 0, .int .u8 0, .int .u8 0, .int .u8 0, .int .u8 0] 41)).heap.size := by rw [World.size_alloc, hA]
      rw [hA] at AQ hRA hsq uX ⊢
      clear A3 G3 KQ HCX HCY hA
      generalize w3.alloc (.cells #[.int .u8 0, .int .u8 0, .int .u8 0, .int .u8 0, .int .u8 0, .int .u8 0, .int .u8 0, .int .u8 0, .int .u8 0, .int .u8 0, .int .u8 0, .int .u8 0, .int .u8 0, .int .u8 0, .int .u8 0, .int .u8 0] 41) = wq at *
      have HB1 : Hid (∀ W : World, wq.grownBy W none → Below A wq W) := fun W G => (Below.refl _ _).grown G (by omega) (by simp)
      have hld := f9 wq 1 none
      have CLX : Calls Tryz.prog 242 #[.slice ax l'.length cx] wq.drew fun e w' => ∃ v, e = .returned v ∧ m9 w' wq.drew.heap.size v (j3 l') ∧ wq.drew.grownBy w' none := a4l ax cx l' wq.drew (CXQ.keptNone hld) HLX.out.2 hl8
      have hlb := Z8 l'
      go_region_held3 (fun _ => True) (trivial) (first | (go_at_call 242; refine CLX.mono ?_; rintro e w5 ⟨v5, rfl, O5, G5⟩; obtain ⟨a5, c5, rfl, C5, -⟩ := O5.rd; dsimp only) | (refine step_copy_splice rfl (.tmp 52) (.tmp 54) 115 115 rfl 5 Tryz.underlying115 hsz5 (some ⟨A, 0, none⟩) a5 16 16 (j3 l').length c5 (by simp [Act.eval]) (by simp [Act.eval]) A 0 ((List.replicate 16 (0 : UInt8)).map bv) 41 (AQ.grown (d3 hld G5) (by simp)) ((j3 l').map bv) (by rw [List.length_map]; exact (Nat.min_eq_left (by omega)).symm) (fun hp => ⟨rfl, a45 C5 hp⟩) (by rw [List.length_map, List.length_map, List.length_replicate]; omega) (a0p _) A wq (HB1.out _ (d3 hld G5)) (Nat.le_refl _) ?_; intro w6 hg6 hb6))
      have A6 : AAt w6 A 41 (a0M l') := by unfold AAt; rw [hg6.out, aa4]
      have R6 : AAt w6 R 41 (List.replicate 16 0) := by unfold AAt at RQ ⊢; rw [hb6.block R hRA]; exact RQ
      have C6 : CV w6 ay (r'.map V9) := CYQ.same fun ad had hne _ => hb6.block ad.block (uX ad had hne)
      have B6 : Below w.heap.size w w6 := (a1c GQ).trans (hb6.mono hsq)
      have hs6 : A + 1 ≤ w6.heap.size := by have := hb6.size; omega
      clear hg6 hb6 AQ RQ GQ CXQ CYQ uX HB1 hld CLX G5 O5 C5 hq1 hlb w1 w2'
      obtain ⟨q, hq⟩ : ∃ q, 8 - r'.length = q := ⟨_, rfl⟩
      obtain ⟨z, hz⟩ : ∃ z, 2 * q = z := ⟨_, rfl⟩
      have v1 : IntKind.i64.wrap (8 - (r'.length : Int)) = (q : Int) := by rw [IntKind.wrap_i64]; omega
      have v2 : IntKind.i64.wrap (2 * (q : Int)) = (z : Int) := by rw [IntKind.wrap_i64]; omega
      have z0 : (0 : Int) ≤ (z : Int) := by omega
      have z16 : (z : Int) ≤ 16 := by omega
      have HZ : Hid (z = 2 * (8 - r'.length)) := by show _ = _; omega
      have hrb := Z8 r'
      have hz2 : (j3 r').length = 16 - z := by omega
      have HB2 : Hid (∀ W : World, w6.grownBy W none → Below A w6 W) := fun W G => (Below.refl _ _).grown G (by omega) (by simp)
      have hld6 := f9 w6 1 none
      have HPOS : Hid (0 < ((j3 r').map bv).length → (some (if 16 = z then ⟨A, 0, none⟩ else ⟨A, z, none⟩) : Option Addr) = some ⟨A, z, none⟩) := fun hp => by
       rw [List.length_map] at hp
       rw [if_neg (by omega)]
      have HFIT : Hid (z + ((j3 r').map bv).length ≤ ((a0M l').map bv).length) := by
       show _ ≤ _
       rw [List.length_map, List.length_map, a0M, List.length_append, Z8, Z8, List.length_replicate]
       have := HZ.out
       omega
      have HN2 : Hid (((j3 r').map bv).length = Nat.min (j3 r').length (16 - z)) := by
       show _ = _
       rw [List.length_map, hz2]
       exact (Nat.min_self _).symm
      have CLY : Calls Tryz.prog 242 #[.slice ay r'.length cy] w6.drew fun e w' => ∃ v, e = .returned v ∧ m9 w' w6.drew.heap.size v (j3 r') ∧ w6.drew.grownBy w' none := a4l ay cy r' w6.drew (C6.keptNone hld6) HLY.out.2 hr8
      clear hq hz hrb hz2 C6
      go_wp2_with fail
      go_region_held3 (fun _ => True) (trivial) (first | (go_at_call 242; refine CLY.mono ?_; rintro e w7 ⟨v7, rfl, O7, G7⟩; obtain ⟨a7, c7, rfl, C7, -⟩ := O7.rd; dsimp only) | (refine step_copy_splice rfl (.tmp 60) (.tmp 62) 115 115 rfl 5 Tryz.underlying115 hsz5 (some (if 16 = z then ⟨A, 0, none⟩ else ⟨A, z, none⟩)) a7 (16 - z) (16 - z) (j3 r').length c7 (by simp [Act.eval]) (by simp [Act.eval]) A z ((a0M l').map bv) 41 (A6.grown (d3 hld6 G7) (by simp)) ((j3 r').map bv) HN2.out (fun hp => ⟨HPOS.out hp, a45 C7 hp⟩) HFIT.out (a0p _) A w6 (HB2.out _ (d3 hld6 G7)) (Nat.le_refl _) ?_; intro w8 hg8 hb8))
      have HFL : Hid ((j3 (l' ++ List.replicate (8 - l'.length - r'.length) 0 ++ r')).length = 16) := by
       show _ = _
       rw [Z8, List.length_append, List.length_append, List.length_replicate]
       omega
      have A8 : AAt w8 A 41 (j3 (l' ++ List.replicate (8 - l'.length - r'.length) 0 ++ r')) := by
       unfold AAt
       rw [hg8.out, HZ.out, aa5 l' r' h8]
      have R8 : AAt w8 R 41 (List.replicate 16 0) := by unfold AAt at R6 ⊢; rw [hb8.block R hRA]; exact R6
      have B8 : Below w.heap.size w w8 := B6.trans (hb8.mono hsq)
      have HZ1 : Hid ((Tryz.prog.info? 41).map (·.size) = some ((j3 (l' ++ List.replicate (8 - l'.length - r'.length) 0 ++ r')).map bv).toArray.size ∧ ((List.replicate 16 (0 : UInt8)).map bv).toArray.size = ((j3 (l' ++ List.replicate (8 - l'.length - r'.length) 0 ++ r')).map bv).toArray.size ∧ (Tryz.prog.info? 41).map (·.size) = some (j3 (l' ++ List.replicate (8 - l'.length - r'.length) 0 ++ r')).length) := by
       refine ⟨?_, ?_, ?_⟩
       ·rw [S2, HFL.out]; exact T5
       ·rw [S2, S2, HFL.out]; rfl
       ·rw [HFL.out]; exact T5
      clear hg8 hb8 A6 R6 B6 HB2 hld6 CLY G7 O7 C7 HFL
      generalize j3 (l' ++ List.replicate (8 - l'.length - r'.length) 0 ++ r') = fin at *
      go_wp2_with (first | refine wpList_load_row rfl 41 (.tmp 12) rfl A rfl 41 (fin.map bv).toArray (0, 0) _ A8 Tryz.underlying41 rfl HZ1.out.1 ?_ | refine wpList_store_row rfl 41 (.tmp 2) (.tmp 64) rfl R (fin.map bv).toArray rfl rfl 41 _ R8 HZ1.out.1 HZ1.out.2.1 (a0o _) ?_)
      all_goals
       refine bodyPost_ret (a2w rfl _ _ R fin 16 5 rfl (R8.setRow fin) Tryz.underlying41 HZ1.out.2.2) rfl ?_
       exact ⟨by rw [HN.out]; rfl, a29 (a0t B8) _ _ (.inr hRw)⟩
theorem a6k {s r : List UInt8} (h : L1 s = some r) : r.length = 4 := by
 unfold L1 at h
 split at h
 ·rename_i h4
  cases ha : T7 (B5 255) (j4 46 s) with
  | none => rw [ha] at h; cases h
  | some ns =>
   rw [ha] at h
   simp only [Option.map_some, Option.some.injEq] at h
   subst h
   rw [List.length_map, a7g ha, h4]
 ·cases h
theorem aI8 (s : List UInt8) : ((L1 s).getD (List.replicate 4 0)).length = 4 := by
 cases h : L1 s with
 | none => rfl
 | some r => exact a6k h
theorem a6l {s r : List UInt8} (h : J7 s = some r) : r.length = 16 := by
 unfold J7 at h
 split at h
 ·cases hx : o5 s with
  | none => rw [hx] at h; cases h
  | some x =>
   rw [hx] at h
   simp only [Option.bind_some] at h
   split at h
   ·simp only [Option.some.injEq] at h
    subst h
    rw [a7I]; omega
   ·cases h
 ·rename_i k _
  cases hx : o5 (s.take k) with
  | none => rw [hx] at h; cases h
  | some x =>
   cases hy : o5 (s.drop (k + 2)) with
   | none => rw [hx, hy] at h; cases h
   | some y =>
    rw [hx, hy] at h
    simp only [Option.bind_some] at h
    split at h
    ·simp only [Option.some.injEq] at h
     subst h
     rw [a7I, List.length_append, List.length_append, List.length_replicate]; omega
    ·cases h
theorem aJ1 (s : List UInt8) : ((J7 s).getD (List.replicate 16 0)).length = 16 := by
 cases h : J7 s with
 | none => rfl
 | some r => exact a6l h

section
variable {c : PC} {w : World} {i nest bud : Nat} {vt vp : Value} {ts : List Tk} {ns : List (Nd × Nat)}
structure PW (c : PC) (w : World) (vt vp : Value) (W : World) (i' : Nat) (vt' vp' : Value) (ts' : List Tk) (nest bud' : Nat) (ns : List (Nd × Nat)) (R V tR tV : Nat) (y x : Array Value) : Prop where
 ps : PS c W i' vt' vp' ts' nest bud' ns
 gb : GB w W (d4 c.g vt vp)
 sh : ∀ x, x < w.heap.size → d4 c.g vt' vp' x → d4 c.g vt vp x
 fV : ¬ d4 c.g vt' vp' V
 fR : ¬ d4 c.g vt' vp' R
 var : VAt W V tV x
 res : VAt W R tR y
 lV : w.heap.size ≤ V
 lR : w.heap.size ≤ R
 ne : R ≠ V
theorem PW.keep {W W2 : World} {i1 bud1 R V : Nat} {vt1 vp1 : Value} {ts1 : List Tk} {tR tV : Nat} {y x : Array Value} (h : PW c w vt vp W i1 vt1 vp1 ts1 nest bud1 ns R V tR tV y x) (G : W.grownBy W2 none) : PW c w vt vp W2 i1 vt1 vp1 ts1 nest bud1 ns R V tR tV y x :=
 { h with ps := h.ps.keep G, gb := h.gb.trans (GB.non (S := d4 c.g vt vp) G) (fun _ _ h => h), var := h.var.kept G, res := h.res.kept G }
theorem PW.less {W : World} {i1 bud1 b R V : Nat} {vt1 vp1 : Value} {ts1 : List Tk} {tR tV : Nat} {y x : Array Value} (h : PW c w vt vp W i1 vt1 vp1 ts1 nest bud1 ns R V tR tV y x) (hb : b ≤ bud1) : PW c w vt vp W i1 vt1 vp1 ts1 nest b ns R V tR tV y x := { h with ps := h.ps.less hb }
theorem PW.step {W W2 : World} {i1 bud1 bud2 R V : Nat} {vt1 vp1 : Value} {ts1 ts2 : List Tk} {tR tV : Nat} {y x : Array Value} (h : PW c w vt vp W i1 vt1 vp1 ts1 nest bud1 ns R V tR tV y x) (r : Ret c W vt1 vp1 ts2 nest bud2 ns W2) : ∃ i2 vt2 vp2, PW c w vt vp W2 i2 vt2 vp2 ts2 nest bud2 ns R V tR tV y x := by
 obtain ⟨i2, vt2, vp2, p, g, f⟩ := r
 exact ⟨i2, vt2, vp2, p, h.gb.trans g h.sh, fun x hx k => h.sh x hx (f x (Nat.lt_of_lt_of_le hx h.gb.size) k), fun e => h.fV (f V h.var.lt e), fun e => h.fR (f R h.res.lt e), g.vat h.var h.fV, g.vat h.res h.fR, h.lV, h.lR, h.ne⟩
theorem PW.err {W W2 : World} {i1 bud1 R V : Nat} {vt1 vp1 : Value} {ts1 : List Tk} {tR tV : Nat} {y x : Array Value} (h : PW c w vt vp W i1 vt1 vp1 ts1 nest bud1 ns R V tR tV y x) (g : GB W W2 (d4 c.g vt1 vp1)) : GB w W2 (d4 c.g vt vp) := h.gb.trans g h.sh
theorem PW.away {i0 nest0 bud0 : Nat} {ts0 : List Tk} {ns0 : List (Nd × Nat)} {S : Nat → Prop} {W W2 : World} {i1 bud1 R V : Nat} {vt1 vp1 : Value} {ts1 : List Tk} {tR tV : Nat} {y x y2 x2 : Array Value} (hw : PS c w i0 vt vp ts0 nest0 bud0 ns0) (h : PW c w vt vp W i1 vt1 vp1 ts1 nest bud1 ns R V tR tV y x) (K : GB W W2 S) (hS : ∀ z, S z → z = V ∨ z = R) (A : VAt W2 V tV x2) (B : VAt W2 R tR y2) : PW c w vt vp W2 i1 vt1 vp1 ts1 nest bud1 ns R V tR tV y2 x2 :=
 { h with
  ps := h.ps.awayG K (fun z hz => by
   have hz2 : w.heap.size ≤ z ∧ ¬ d4 c.g vt1 vp1 z := by
    rcases hS z hz with rfl | rfl
    ·exact ⟨h.lV, h.fV⟩
    ·exact ⟨h.lR, h.fR⟩
   exact ⟨hz2.2, fun e => by have := (hw.toks.lt z e).2; omega, Nat.le_trans hw.grown.size hz2.1⟩)
  gb := h.gb.trans K (fun z hz hs => by have := h.lV; have := h.lR; rcases hS z hs with rfl | rfl <;> omega)
  var := A, res := B }
theorem PW.set {i0 nest0 bud0 : Nat} {ts0 : List Tk} {ns0 : List (Nd × Nat)} {W : World} {i1 bud1 R V : Nat} {vt1 vp1 : Value} {ts1 : List Tk} {tR tV : Nat} {y x : Array Value} (hw : PS c w i0 vt vp ts0 nest0 bud0 ns0) (h : PW c w vt vp W i1 vt1 vp1 ts1 nest bud1 ns R V tR tV y x) (k : Nat) (v : Value) (x2 : Array Value) (e : x.setIfInBounds k v = x2) : PW c w vt vp (W.setCell ⟨V, k, none⟩ v) i1 vt1 vp1 ts1 nest bud1 ns R V tR tV y x2 :=
 PW.away hw h (GB.of (S := fun z => z = V) (S8 W V k v) (fun z hz => by cases hz; rfl)) (fun z hz => .inl hz) (by have := h.var.set k v; rw [e] at this; exact this) (h.res.setOther v h.ne)
theorem PW.setR {i0 nest0 bud0 : Nat} {ts0 : List Tk} {ns0 : List (Nd × Nat)} {W : World} {i1 bud1 R V : Nat} {vt1 vp1 : Value} {ts1 : List Tk} {tR tV : Nat} {y x : Array Value} (hw : PS c w i0 vt vp ts0 nest0 bud0 ns0) (h : PW c w vt vp W i1 vt1 vp1 ts1 nest bud1 ns R V tR tV y x) (y2 : Array Value) : PW c w vt vp (W.setRow R y2) i1 vt1 vp1 ts1 nest bud1 ns R V tR tV y2 x :=
 PW.away hw h (GB.of (S := fun z => z = R) (x5 (World.grownBy.refl W (some R)) R _ (.inl rfl)) (fun z hz => by cases hz; rfl)) (fun z hz => .inr hz) (h.var.other _ (fun e => h.ne e.symm)) (h.res.setRow _)
theorem PW.ret {W : World} {i1 bud1 R V : Nat} {vt1 vp1 : Value} {ts1 : List Tk} {tR tV : Nat} {y x : Array Value} (h : PW c w vt vp W i1 vt1 vp1 ts1 nest bud1 ns R V tR tV y x) : Ret c w vt vp ts1 nest bud1 ns W := ⟨i1, vt1, vp1, h.ps, h.gb, h.sh⟩
theorem PW.setV {i0 nest0 bud0 : Nat} {ts0 : List Tk} {ns0 : List (Nd × Nat)} {W : World} {i1 bud1 R V : Nat} {vt1 vp1 : Value} {ts1 : List Tk} {tR tV : Nat} {y x : Array Value} (hw : PS c w i0 vt vp ts0 nest0 bud0 ns0) (h : PW c w vt vp W i1 vt1 vp1 ts1 nest bud1 ns R V tR tV y x) (x2 : Array Value) : PW c w vt vp (W.setRow V x2) i1 vt1 vp1 ts1 nest bud1 ns R V tR tV y x2 :=
 PW.away hw h (GB.of (S := fun z => z = V) (x5 (World.grownBy.refl W (some V)) V _ (.inl rfl)) (fun z hz => by cases hz; rfl)) (fun z hz => .inl hz) (h.var.setRow _) (h.res.other _ h.ne)
theorem a6I {P : Program} {ops : Array Oper} {o : Oper} {a : Act} {w : World} {K : Act → World → Prop} {Q : Exit → Act → World → Prop} {E : Prop}
  (hgd : o.guard = none) (ty : TypeId) (x y : Operand) (ho : o.op = .store ty x y) (g : Nat) (cells : Array Value) (hx : a.eval x = .pointer (some ⟨g, 0, none⟩)) (hy : a.eval y = .agg cells) (t : TypeId) (old : Array Value) (A : VAt w g t old)
  (hi : (P.info? ty).map (·.size) = some cells.size) (hold : old.size = cells.size) (h1 : cells.all (·.oneCell') = true) (hK : K (a.put o.dst undef) (w.setRow g cells)) :
  if Region.wanted o (yielded ops a.tmps) = true then Oper.wp P o a w K Q else E := by
 have hw : Region.wanted o (yielded ops a.tmps) = true := by simp [Region.wanted, hgd]
 rw [if_pos hw]
 exact wp_store_row ty x y ho g cells hx hy t old A hi hold h1 hK
theorem aV4 (ys : List UInt8) (h : ys.length = 4) : splice (List.replicate 16 (.int .u8 0 : Value)) 0 (ys.map bv) = (ys ++ List.replicate 12 0).map bv := by
 unfold splice
 rw [List.take_zero, List.nil_append, Nat.zero_add, List.length_map, h, List.drop_replicate, List.map_append, List.map_replicate]
 rfl
def a6W : Array Value := #[.int .u8 0, .int .u8 0, .int .u8 0, .int .u8 0, .int .u8 0, .int .u8 0, .int .u8 0, .int .u8 0, .int .u8 0, .int .u8 0, .int .u8 0, .int .u8 0, .int .u8 0, .int .u8 0, .int .u8 0, .int .u8 0]
def adV (p : Nat × List UInt8) : Value := .tuple #[.int .i64 (p.1 : Int), .agg (p.2.map bv).toArray]
theorem a9C {P : Program} {fn : Func} {p u : Tmp} {ty : TypeId} (h : fn.results = #[.tmp u, .cell p ty]) (tmps : Array Value) (w : World) (g : Nat) (cs : Array Value) (d : TypeDesc) (hp : tmps.getD p undef = .pointer (some ⟨g, 0, none⟩)) (A : VAt w g ty cs)
  (hu : P.underlying ty = some d) (hd : (match d with | .struct _ | .array _ _ => true | _ => false) = true) (hi : (P.info? ty).map (·.size) = some cs.size) : (results fn tmps).run P w = .ok (.tuple #[tmps.getD u undef, .agg cs]) w := by
 have hp' : tmps[p]?.getD undef = .pointer (some ⟨g, 0, none⟩) := by simpa using hp
 have h1 := run_loadVar_row (P := P) w g ty ty cs (0, 0) _ A hu hd hi
 simp [results, h, hp', asAddr, h1]
theorem a7b (h : PS c w i vt vp ts nest bud ns) :
  Calls Tryz.prog 231 #[.pointer (some ⟨c.g, 0, none⟩)] w (Z3 c w vt vp nest (bud + 1) ns adV (U6 ts)) := by
 have HP : Hid (PS c w i vt vp ts nest bud ns) := h
 have hG := h.good.hd
 have K1 := World.grownBy_alloc w (.cells a6W 41) none
 have RA := VAt.alloc w 41 a6W
 obtain ⟨ans, hans⟩ : ∃ a, U6 ts = a := ⟨_, rfl⟩
 have HANS : Hid (U6 ts = ans) := hans
 rw [hans]
 clear h hans
 have HF0 := fun k p x n W => (N6 k p x n W).1
 have HF2 := fun k p x n W => (N6 k p x n W).2.2.1
 unfold a6W at *
 go_enter Tryz.func231, Tryz.ntmps231
 go_upto_region 2 with fail
 generalize w.alloc (.cells #[.int .u8 0, .int .u8 0, .int .u8 0, .int .u8 0, .int .u8 0, .int .u8 0, .int .u8 0, .int .u8 0, .int .u8 0, .int .u8 0, .int .u8 0, .int .u8 0, .int .u8 0, .int .u8 0, .int .u8 0, .int .u8 0] 41) = w1 at *
 obtain ⟨R, hR⟩ : ∃ R, w.heap.size = R := ⟨_, rfl⟩
 rw [hR] at RA ⊢
 have HR2 : Hid (w.heap.size ≤ R) := Nat.le_of_eq hR
 have HR1 : Hid (w.heap.size = R) := hR
 clear hR
 have H1 := HP.out.keep K1
 have CN := D7 H1
 unfold tkC at CN
 go_wp2_with fail
 refine CN.mono ?_
 rintro e w2 ⟨rfl, G2⟩
 clear CN
 have H2 := H1.keep G2
 have RA2 := RA.kept G2
 have K2 := d3 K1 G2
 clear H1 RA K1 G2
 obtain ⟨t, ht⟩ : ∃ t, hdT ts = t := ⟨_, rfl⟩
 have HT : Hid (hdT ts = t) := ht
 rw [ht] at hG ⊢
 clear ht
 obtain ⟨tk, tp, tx, tn⟩ := t
 simp only
 have htx : tx.length ≤ 65536 := hG.2.1
 by_cases h3 : tk = 3
 ·have k3 : ((tk : Int) == 3) = true := by rw [h3]; rfl
  have HA2 : Hid ((match L1 tx with | some a => .ok ((2, a ++ List.replicate 12 0), ts.tail) | none => q9 ts 112) = ans ∧ (hdT ts).kind ≠ 0) := by
   refine ⟨?_, by rw [HT.out]; show tk ≠ 0; omega⟩
   rw [← HANS.out, U6, HT.out, if_pos h3]
   rfl
  have VA := VAt.alloc w2 114 #[.int .u8 0, .int .u8 0, .int .u8 0, .int .u8 0]
  have K3 := World.grownBy_alloc w2 (.cells #[.int .u8 0, .int .u8 0, .int .u8 0, .int .u8 0] 114) none
  have HV : Hid (w.heap.size ≤ w2.heap.size ∧ R ≠ w2.heap.size) := ⟨K2.size, fun e => by have := RA2.lt; omega⟩
  have Q3 : PW c w vt vp (w2.alloc (.cells #[.int .u8 0, .int .u8 0, .int .u8 0, .int .u8 0] 114)) i vt vp ts nest bud ns R w2.heap.size 41 114 #[.int .u8 0, .int .u8 0, .int .u8 0, .int .u8 0, .int .u8 0, .int .u8 0, .int .u8 0, .int .u8 0, .int .u8 0, .int .u8 0, .int .u8 0, .int .u8 0, .int .u8 0, .int .u8 0, .int .u8 0, .int .u8 0] #[.int .u8 0, .int .u8 0, .int .u8 0, .int .u8 0] := ⟨H2.keep K3, GB.non (d3 K2 K3), fun _ _ h => h, HP.out.not_foot HV.out.1, HP.out.not_foot HR2.out, VA, RA2.kept K3, HV.out.1, HR2.out, HV.out.2⟩
  clear h3 HANS VA K3 H2 K2 RA2
  go_upto_region 6 with fail
  generalize w2.alloc (.cells #[.int .u8 0, .int .u8 0, .int .u8 0, .int .u8 0] 114) = w3 at *
  generalize w2.heap.size = V at *
  have CN := D7 Q3.ps
  unfold tkC at CN
  rw [HT.out] at CN
  go_wp2_with fail
  refine CN.mono ?_
  rintro e w4 ⟨rfl, G4⟩
  have Q4 := Q3.keep G4
  have C4 := aI7 ⟨tx.toArray⟩ w4 (by rw [← m8, a1U]; omega) Q4.ps.tabw
  rw [a1U] at C4
  clear CN Q3 G4
  unfold a41 a48 at C4
  have hy4 : ((L1 tx).getD (List.replicate 4 0)).length = 4 := aI8 tx
  obtain ⟨ys, hys⟩ : ∃ ys, (L1 tx).getD (List.replicate 4 0) = ys := ⟨_, rfl⟩
  rw [hys] at C4 hy4
  have HYS : Hid ((L1 tx).getD (List.replicate 4 0) = ys) := hys
  clear hys
  obtain ⟨er, her⟩ : ∃ er : Int, (if (L1 tx).isSome = true then (0 : Int) else 60) = er := ⟨_, rfl⟩
  have HER : Hid ((if (L1 tx).isSome = true then (0 : Int) else 60) = er) := her
  rw [her] at C4
  clear her
  go_wp2_with fail
  refine C4.mono ?_
  rintro e w5 ⟨rfl, G5⟩
  have Q5 := Q4.keep G5
  have VA5 := Q5.var
  have HSZ : Hid ((Tryz.prog.info? 114).map (·.size) = some (ys.map bv).toArray.size ∧ (#[.int .u8 0, .int .u8 0, .int .u8 0, .int .u8 0] : Array Value).size = (ys.map bv).toArray.size ∧ (ys.map bv).toArray.all (·.oneCell') = true) := by
   refine ⟨?_, ?_, a0o _⟩
   ·rw [S2, hy4]; exact a3L
   ·rw [S2, hy4]; rfl
  have HQ6 := PW.setV HP.out Q5 (ys.map bv).toArray
  clear C4 Q4 G5 Q5
  go_upto_region 8 with (refine wpList_store_row rfl 114 (.tmp 5) (.tmp 18) rfl V (ys.map bv).toArray rfl rfl 114 _ VA5 HSZ.out.1 HSZ.out.2.1 HSZ.out.2.2 ?_)
  generalize w5.setRow V (ys.map bv).toArray = w6 at *
  clear VA5 HSZ
  have hsz5 : (Tryz.prog.info? 5).map (·.size) = some 1 := by kernel_rfl
  have HR6 : Hid (w6.heap[R]? = some (.cells (List.replicate 16 (.int .u8 0)).toArray 41 (0, 0))) := HQ6.res
  have HC6 : Hid (∀ j v, (ys.map bv)[j]? = some v → w6.cell? ((⟨V, 0, none⟩ : Addr).add j) = some v) := fun j v hj => by
   rw [Addr.add_mid, Nat.zero_add, HQ6.var.cell j]
   simpa using hj
  have HB6 : Hid (Below R w6 w6.drew) := (Below.refl R w6).grown (f9 w6 1 none) (Nat.le_of_lt HQ6.res.lt) (by simp)
  have hl4 : (ys.map bv).length = 4 := by rw [List.length_map]; exact hy4
  go_region_law (refine step_copy_splice rfl (.tmp 20) (.tmp 21) 115 115 rfl 5 Tryz.underlying115 hsz5 (some ⟨R, 0, none⟩) (some ⟨V, 0, none⟩) 16 16 4 4 (by first | rfl | simp [Act.eval]) (by first | rfl | simp [Act.eval]) R 0 (List.replicate 16 (.int .u8 0)) 41 (by exact HR6.out) (ys.map bv) (by rw [hl4]; rfl) (fun _ => ⟨rfl, _, rfl, by exact HC6.out⟩) (by rw [hl4]; simp) (a0p ys) R w6 (by exact HB6.out) (Nat.le_refl _) ?_; intro w7 hg7 hb7)
  have H7 : PS c w7 i vt vp ts nest bud ns := HQ6.ps.awayG (S := fun x => R ≤ x) ⟨hb7.os, hb7.tape, hb7.output, hb7.size, fun k _ hk => hb7.block k (by omega)⟩ (fun x hx => ⟨HP.out.not_foot (Nat.le_trans HR2.out hx), fun e => by have := HP.out.toks_lt e; have := HR2.out; omega, Nat.le_trans HP.out.grown.size (Nat.le_trans HR2.out hx)⟩)
  have G7 : GB w w7 (d4 c.g vt vp) := HQ6.gb.trans (S' := fun x => R ≤ x) ⟨hb7.os, hb7.tape, hb7.output, hb7.size, fun k _ hk => hb7.block k (by omega)⟩ (fun x hx hR => by have := HR1.out; omega)
  have RA7 : VAt w7 R 41 ((ys ++ List.replicate 12 0).map bv).toArray := by
   unfold VAt
   rw [hg7.out, aV4 ys hy4]
  clear hg7 hb7 HQ6 HR6 HC6 HB6 hl4 hsz5
  cases hp : L1 tx with
  | none =>
   have he : (er != 0) = true := by rw [← HER.out, hp]; rfl
   have HA3 : Hid (ans = .error ((hdT ts).pos, 112)) := by
    show ans = _
    rw [← HA2.out.1, hp]
    show q9 ts _ = _
    rw [q9, if_neg HA2.out.2]
   have CG := a4f H7 112
   clear hp HER HYS HA2 RA7
   go_wp2_with fail
   refine CG.mono ?_
   rintro e w8 ⟨rfl, G8⟩
   go_wp2
   refine ⟨rfl, ?_⟩
   rw [HA3.out]
   exact ⟨rfl, G7.trans (GB.non (S := d4 c.g vt vp) G8) (fun _ _ h => h)⟩
  | some a =>
   have he : (er != 0) = false := by rw [← HER.out, hp]; rfl
   have hya : ys = a := by rw [← HYS.out, hp]; rfl
   have HA3 : Hid (ans = .ok ((2, ys ++ List.replicate 12 0), ts.tail)) := by
    show ans = _
    rw [← HA2.out.1, hp, hya]
   have CT := P7 H7 HA2.out.2
   obtain ⟨X, hX⟩ : ∃ X, ys ++ List.replicate 12 0 = X := ⟨_, rfl⟩
   have hXl : X.length = 16 := by rw [← hX, List.length_append, hy4]; rfl
   rw [hX] at RA7 HA3
   clear hp HER HYS HA2 hya hX hy4
   go_wp2_with fail
   refine CT.mono ?_
   rintro e w8 ⟨rfl, i8, vt8, vp8, H8, G8, F8⟩
   have RA8 := G8.vat RA7 (HP.out.not_foot HR2.out)
   have HQ : Hid (PS c w8 i8 vt8 vp8 ts.tail nest (bud + 1) ns ∧ GB w w8 (d4 c.g vt vp) ∧ (∀ x, x < w.heap.size → d4 c.g vt8 vp8 x → d4 c.g vt vp x) ∧ ¬ d4 c.g vt8 vp8 R) := ⟨H8, G7.trans G8 (fun _ _ h => h), fun x hx => F8 x (Nat.lt_of_lt_of_le hx G7.size), fun e => HP.out.not_foot HR2.out (F8 R RA7.lt e)⟩
   clear CT H8 G8 F8 H7 G7 RA7
   have HZ : Hid ((Tryz.prog.info? 41).map (·.size) = some (X.map bv).toArray.size) := by show _ = _; rw [S2, hXl]; exact T5
   go_upto_region 15 with fail
   have RD : VAt w8.drew R 41 (X.map bv).toArray := RA8
   refine wp_region_held_drew (S := fun W => VAt W R 41 (X.map bv).toArray) (by kernel_rfl) RD (fun hHeld => ?_)
   refine wpT (i := 0) (v := .int .i64 2) rfl (Or.inl ⟨by rfl, fun W hW => ?_⟩) hHeld ?_
   ·clear hW
    go_simp
   try simp only [Act.put, a0, a1, a3, a4, a5]
   refine wpT (i := 1) (v := .agg (X.map bv).toArray) rfl (J3 (by rfl) _ _ rfl R rfl 41 (X.map bv).toArray _ (fun W hW => hW) Tryz.underlying41 rfl HZ.out) hHeld ?_
   try simp only [Act.put, a0, a1, a2, a3, a4, a5]
   refine wpT (i := 2) (v := .int .i64 2) rfl (Or.inl ⟨by rfl, fun W hW => ?_⟩) hHeld ?_
   ·clear hW
    go_simp
   try simp only [Act.put, a0, a1, a2, a3, a4, a5]
   refine wpR (rs := [3]) (AllReadyH.cons rfl (fun K hK => ?_) AllReadyH.nil)
   refine a6I (by rfl) 41 (.tmp 3) (.tmp 39) (by rfl) R (X.map bv).toArray (by rfl) (by rfl) 41 _ hHeld HZ.out rfl (a0o _) ?_
   refine hK.out _ _ (RD.setRow _) (fun hHeld => ?_)
   refine wpAnyH_done (by kernel_rfl) ?_ _
   clear hK K hHeld
   go_wp2
   refine bodyPost_ret (a9C rfl _ _ R _ _ rfl (RD.setRow _) Tryz.underlying41 rfl HZ.out) rfl ?_
   rw [HA3.out]
   obtain ⟨H8, G8, F8, fR⟩ := HQ.out
   refine ⟨rfl, Ret.finG HP.out G8 F8 H8 (GB.of (S := fun x => x = R) (x5 (f9 w8 1 (some R)) R (X.map bv).toArray (.inl rfl)) (fun x hx => by cases hx; rfl)) ?_⟩
   rintro x rfl
   exact ⟨HR2.out, fR⟩
 ·have k3 : ((tk : Int) == 3) = false := by rw [beq_eq_false_iff_ne]; omega
  by_cases h4 : tk = 4
  ·have k4 : ((tk : Int) == 4) = true := by rw [h4]; rfl
   have HA2 : Hid ((match J7 tx with | some a => .ok ((3, a), ts.tail) | none => q9 ts 112) = ans ∧ (hdT ts).kind ≠ 0) := by
    refine ⟨?_, by rw [HT.out]; show tk ≠ 0; omega⟩
    rw [← HANS.out, U6, HT.out, if_neg h3, if_pos h4]
    rfl
   have CN := D7 H2
   unfold tkC at CN
   rw [HT.out] at CN
   clear h3 h4 HANS
   go_wp2_with fail
   refine CN.mono ?_
   rintro e w4 ⟨rfl, G4⟩
   have H4 := H2.keep G4
   have RA4 := RA2.kept G4
   have K4 := d3 K2 G4
   have C4 := aJ0 ⟨tx.toArray⟩ w4 (by rw [← m8, a1U]; omega) H4.tabw
   rw [a1U] at C4
   clear CN H2 G4 RA2 K2
   unfold a41 a48 at C4
   have hXl : ((J7 tx).getD (List.replicate 16 0)).length = 16 := aJ1 tx
   obtain ⟨X, hys⟩ : ∃ ys, (J7 tx).getD (List.replicate 16 0) = ys := ⟨_, rfl⟩
   rw [hys] at C4 hXl
   have HYS : Hid ((J7 tx).getD (List.replicate 16 0) = X) := hys
   clear hys
   obtain ⟨er, her⟩ : ∃ er : Int, (if (J7 tx).isSome = true then (0 : Int) else 60) = er := ⟨_, rfl⟩
   have HER : Hid ((if (J7 tx).isSome = true then (0 : Int) else 60) = er) := her
   rw [her] at C4
   clear her
   go_wp2_with fail
   refine C4.mono ?_
   rintro e w5 ⟨rfl, G5⟩
   have H5 := H4.keep G5
   have RA5 := RA4.kept G5
   have K5 := d3 K4 G5
   have HSZ : Hid ((Tryz.prog.info? 41).map (·.size) = some (X.map bv).toArray.size ∧ (#[.int .u8 0, .int .u8 0, .int .u8 0, .int .u8 0, .int .u8 0, .int .u8 0, .int .u8 0, .int .u8 0, .int .u8 0, .int .u8 0, .int .u8 0, .int .u8 0, .int .u8 0, .int .u8 0, .int .u8 0, .int .u8 0] : Array Value).size = (X.map bv).toArray.size ∧ (X.map bv).toArray.all (·.oneCell') = true) := by
    refine ⟨?_, ?_, a0o _⟩
    ·rw [S2, hXl]; exact T5
    ·rw [S2, hXl]; rfl
   have K6 := x5 (World.grownBy.refl w5 (some R)) R (X.map bv).toArray (.inl rfl)
   have H7 := H5.away K6 (HP.out.not_foot HR2.out) (fun e => by have := HP.out.toks_lt e; have := HR2.out; omega) (Nat.le_trans HP.out.grown.size HR2.out)
   have G7 : GB w (w5.setRow R (X.map bv).toArray) (d4 c.g vt vp) := (GB.non K5).trans (GB.of (S := fun x => x = R) K6 (fun x hx => by cases hx; rfl)) (fun x hx e => by have := HR2.out; omega)
   have RA7 := RA5.setRow (X.map bv).toArray
   clear C4 H4 G5 H5 RA4 K4 K5 K6
   go_upto_region 12 with (refine wpList_store_row rfl 41 (.tmp 3) (.tmp 30) rfl R (X.map bv).toArray rfl rfl 41 _ RA5 HSZ.out.1 HSZ.out.2.1 HSZ.out.2.2 ?_)
   generalize w5.setRow R (X.map bv).toArray = w7 at *
   clear RA5 HSZ
   cases hp : J7 tx with
   | none =>
    have he : (er != 0) = true := by rw [← HER.out, hp]; rfl
    have HA3 : Hid (ans = .error ((hdT ts).pos, 112)) := by
     show ans = _
     rw [← HA2.out.1, hp]
     show q9 ts _ = _
     rw [q9, if_neg HA2.out.2]
    have CG := a4f H7 112
    clear hp HER HYS HA2 RA7
    go_wp2_with fail
    refine CG.mono ?_
    rintro e w8 ⟨rfl, G8⟩
    go_wp2
    refine ⟨rfl, ?_⟩
    rw [HA3.out]
    exact ⟨rfl, G7.trans (GB.non (S := d4 c.g vt vp) G8) (fun _ _ h => h)⟩
   | some a =>
    have he : (er != 0) = false := by rw [← HER.out, hp]; rfl
    have hya : X = a := by rw [← HYS.out, hp]; rfl
    have HA3 : Hid (ans = .ok ((3, X), ts.tail)) := by
     show ans = _
     rw [← HA2.out.1, hp, hya]
    have CT := P7 H7 HA2.out.2
    clear hp HER HYS HA2 hya
    go_wp2_with fail
    refine CT.mono ?_
    rintro e w8 ⟨rfl, i8, vt8, vp8, H8, G8, F8⟩
    have RA8 := G8.vat RA7 (HP.out.not_foot HR2.out)
    have HQ : Hid (PS c w8 i8 vt8 vp8 ts.tail nest (bud + 1) ns ∧ GB w w8 (d4 c.g vt vp) ∧ (∀ x, x < w.heap.size → d4 c.g vt8 vp8 x → d4 c.g vt vp x) ∧ ¬ d4 c.g vt8 vp8 R) := ⟨H8, G7.trans G8 (fun _ _ h => h), fun x hx => F8 x (Nat.lt_of_lt_of_le hx G7.size), fun e => HP.out.not_foot HR2.out (F8 R RA7.lt e)⟩
    clear CT H8 G8 F8 H7 G7 RA7
    have HZ : Hid ((Tryz.prog.info? 41).map (·.size) = some (X.map bv).toArray.size) := by show _ = _; rw [S2, hXl]; exact T5
    go_upto_region 15 with fail
    have RD : VAt w8.drew R 41 (X.map bv).toArray := RA8
    refine wp_region_held_drew (S := fun W => VAt W R 41 (X.map bv).toArray) (by kernel_rfl) RD (fun hHeld => ?_)
    refine wpT (i := 0) (v := .int .i64 3) rfl (Or.inl ⟨by rfl, fun W hW => ?_⟩) hHeld ?_
    ·clear hW
     go_simp
    try simp only [Act.put, a0, a1, a3, a4, a5]
    refine wpT (i := 1) (v := .agg (X.map bv).toArray) rfl (J3 (by rfl) _ _ rfl R rfl 41 (X.map bv).toArray _ (fun W hW => hW) Tryz.underlying41 rfl HZ.out) hHeld ?_
    try simp only [Act.put, a0, a1, a2, a3, a4, a5]
    refine wpT (i := 2) (v := .int .i64 3) rfl (Or.inl ⟨by rfl, fun W hW => ?_⟩) hHeld ?_
    ·clear hW
     go_simp
    try simp only [Act.put, a0, a1, a2, a3, a4, a5]
    refine wpR (rs := [3]) (AllReadyH.cons rfl (fun K hK => ?_) AllReadyH.nil)
    refine a6I (by rfl) 41 (.tmp 3) (.tmp 39) (by rfl) R (X.map bv).toArray (by rfl) (by rfl) 41 _ hHeld HZ.out rfl (a0o _) ?_
    refine hK.out _ _ (RD.setRow _) (fun hHeld => ?_)
    refine wpAnyH_done (by kernel_rfl) ?_ _
    clear hK K hHeld
    go_wp2
    refine bodyPost_ret (a9C rfl _ _ R _ _ rfl (RD.setRow _) Tryz.underlying41 rfl HZ.out) rfl ?_
    rw [HA3.out]
    obtain ⟨H8, G8, F8, fR⟩ := HQ.out
    refine ⟨rfl, Ret.finG HP.out G8 F8 H8 (GB.of (S := fun x => x = R) (x5 (f9 w8 1 (some R)) R (X.map bv).toArray (.inl rfl)) (fun x hx => by cases hx; rfl)) ?_⟩
    rintro x rfl
    exact ⟨HR2.out, fR⟩
  ·have k4 : ((tk : Int) == 4) = false := by rw [beq_eq_false_iff_ne]; omega
   have HA3 : Hid (ans = .error (W9 ts)) := by
    show ans = _
    rw [← HANS.out, U6, HT.out, if_neg h3, if_neg h4]
    rfl
   have CG := a3f H2
   clear h3 h4 HANS
   go_wp2_with fail
   refine CG.mono ?_
   rintro e w8 ⟨rfl, G8⟩
   go_wp2
   refine ⟨rfl, ?_⟩
   rw [HA3.out]
   exact ⟨rfl, GB.non (d3 K2 G8)⟩

end
end Go.Proofs.YtklipelnjgpnjaaGreatDoor
