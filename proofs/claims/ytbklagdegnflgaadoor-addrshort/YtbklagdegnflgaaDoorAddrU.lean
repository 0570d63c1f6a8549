/-
  Package addr: Print6.
-/
import Derived.Test.YtbklagdegnflgaaDoorAddrO
import Derived.Test.YtbklagdegnflgaaDoorAddrL
import Derived.Deep.RegionHeld3
namespace Go.Proofs.YtbklagdegnflgaaDoor
open Go.RowKit
set_option maxRecDepth 100000

theorem pairs_take : ∀ (k : Nat) (xs : List UInt8), pairsG (xs.take (2 * k)) = (pairsG xs).take k
  | 0, xs => by simp [pairsG]
  | k + 1, [] => by simp [pairsG]
  | k + 1, [_] => by simp [pairsG, show 2 * (k + 1) = 2 * k + 1 + 1 by omega]
  | k + 1, a :: b :: r => by
    rw [show 2 * (k + 1) = 2 * k + 1 + 1 by omega, List.take_succ_cons, List.take_succ_cons, pairsG, pairsG, List.take_succ_cons, pairs_take k r]
theorem pairs_dropG : ∀ (k : Nat) (xs : List UInt8), pairsG (xs.drop (2 * k)) = (pairsG xs).drop k
  | 0, xs => by simp
  | k + 1, [] => by simp [pairsG]
  | k + 1, [_] => by simp [pairsG, show 2 * (k + 1) = 2 * k + 1 + 1 by omega]
  | k + 1, a :: b :: r => by
    rw [show 2 * (k + 1) = 2 * k + 1 + 1 by omega, List.drop_succ_cons, List.drop_succ_cons, pairsG, List.drop_succ_cons, pairs_dropG k r]

/-- A part of an array, as a slice. -/
theorem aat_part {w : World} {g t : Nat} {xs : List UInt8} (h : AAt w g t xs) (i n : Nat) (hi : i + n ≤ xs.length) : Cells w (some ⟨g, i, none⟩) ((xs.drop i).take n) := by
  refine ⟨fun e => (by cases e), fun ad e k hk => ?_⟩
  cases e
  rw [Addr.add_lit]
  have hk' : k < n := by rw [List.length_take] at hk; omega
  have := h.cell (i := i + k) (by omega)
  rw [this]
  simp [bv]

abbrev BoxP (wb : World) (B : Nat) (u v : Value) (W : World) : Prop := W.cell? ⟨B, 0, none⟩ = some u ∧ W.cell? ⟨B, 1, none⟩ = some v ∧ wb.grownBy W none
theorem boxp_call {wb W W' : World} {B : Nat} {u v : Value} (K : W.grownBy W' none) (h : BoxP wb B u v W) : BoxP wb B u v W' := ⟨K.cell h.1 (by simp), K.cell h.2.1 (by simp), grown_trans h.2.2 K⟩
theorem boxp_drew {wb W : World} {B : Nat} {u v : Value} (h : BoxP wb B u v W) : BoxP wb B u v W.drew := boxp_call (grown_drewN W 1 none) h

set_option maxRecDepth 100000 in
set_option maxHeartbeats 4000000 in
theorem print6_any (xs : List UInt8) (w : World) (h16 : xs.length = 16) (T : Tab w) :
    Calls Tryd.prog 16 #[.agg (xs.map bv).toArray] w fun e w' => e = .returned (str (print6V (pairsG xs))) ∧ w.grownBy w' none := by
  have HT : Hid (Tab w) := T
  have CL : Hid (∀ W : World, Calls Tryd.prog 39 #[.agg (xs.map bv).toArray] W fun e w' => e = .returned (.agg #[.int .i64 (((bestF 0 (pairsG xs) none).getD (0, 0)).1 : Int), .int .i64 (((bestF 0 (pairsG xs) none).getD (0, 0)).2 : Int)]) ∧ W.grownBy w' none) := fun W => longest_any xs W h16
  have HZ : Hid ((Tryd.prog.info? 29).map (·.size) = some (xs.map bv).toArray.size) := by
    show _ = _
    rw [bv_size, h16]; exact size29
  have A0 := AAt.alloc w 29 xs
  have G0 := World.grownBy_alloc w (.cells (xs.map bv).toArray 29) none
  have hh := pairs_half xs
  clear T
  go_enter Tryd.func16, Tryd.ntmps16
  go_wp2_with (refine wpList_load_row rfl 29 (.tmp 1) rfl w.heap.size rfl 29 (xs.map bv).toArray (0, 0) _ A0 Tryd.underlying29 rfl HZ.out ?_)
  refine (CL.out _).mono ?_
  rintro e w1 ⟨rfl, K1⟩
  have A1 := A0.grown K1 (by simp)
  have G1 := grown_trans G0 K1
  clear A0 G0 K1 CL
  have H16 : Hid (xs.length = 16) := h16
  have HH : Hid ((pairsG xs).length = 8) := by show _ = 8; omega
  clear h16 hh HZ
  obtain ⟨A, hA⟩ : ∃ A, w.heap.size = A := ⟨_, rfl⟩
  rw [hA] at A1
  rw [show (Value.pointer (some ⟨w.heap.size, 0, none⟩)) = .pointer (some ⟨A, 0, none⟩) by rw [hA]]
  clear hA
  cases hb : bestF 0 (pairsG xs) none with
  | none =>
    have HP : Hid (print6V (pairsG xs) = joinV 58 ((pairsG xs).map shortV)) := by show _ = _; rw [print6V, hb]
    dsimp only [Option.getD_none]
    clear hb
    have A2 := A1.grown (World.grownBy_alloc w1 (.cells #[.int .i64 0, .int .i64 0] 71) none) (by simp)
    have G2 := grown_trans G1 (World.grownBy_alloc w1 (.cells #[.int .i64 0, .int .i64 0] 71) none)
    have CP := fun W h t => printed_any (some ⟨A, 0, none⟩) 16 xs W h (by have := H16.out; omega) t
    rw [H16.out] at CP
    rw [show ((0 : Nat) : Int) = 0 from rfl]
    go_wp2_with (go_at_call 40; refine (CP _ (aat_cells A2) (HT.out.grown G2)).mono ?_; rintro e w2 ⟨rfl, K2⟩)
    go_ret
    exact ⟨by rw [HP.out]; rfl, grown_trans G2 K2⟩
  | some p =>
    obtain ⟨h1, h2, -⟩ := best_row (pairsG xs) p hb
    obtain ⟨i, n⟩ := p
    simp only at h1 h2
    have h8 : i + n ≤ 8 := by have := HH.out; omega
    have HP : Hid (print6V (pairsG xs) = joinV 58 (((pairsG xs).take i).map shortV) ++ (58 :: 58 :: joinV 58 (((pairsG xs).drop (i + n)).map shortV))) := by show _ = _; rw [print6V, hb]
    dsimp only [Option.getD_some]
    clear hb h2
    have z0 : ((n : Int) == 0) = false := by rw [beq_eq_false_iff_ne]; omega
    have A2 := A1.grown (World.grownBy_alloc w1 (.cells #[.int .i64 (i : Int), .int .i64 (n : Int)] 71) none) (by simp)
    have G2 := grown_trans G1 (World.grownBy_alloc w1 (.cells #[.int .i64 (i : Int), .int .i64 (n : Int)] 71) none)
    have C2 := cv_lit w1 71 [.int .i64 (i : Int), .int .i64 (n : Int)]
    have c0 : (w1.alloc (.cells #[.int .i64 (i : Int), .int .i64 (n : Int)] 71)).cell? ⟨w1.heap.size, 0, none⟩ = some (.int .i64 (i : Int)) := C2.2 _ rfl 0 (by simp)
    have c1 : (w1.alloc (.cells #[.int .i64 (i : Int), .int .i64 (n : Int)] 71)).cell? ⟨w1.heap.size, 1, none⟩ = some (.int .i64 (n : Int)) := C2.2 _ rfl 1 (by simp)
    have hle1 : 2 * (i : Int) ≤ 16 := by omega
    have hle2 : 2 * ((i : Int) + (n : Int)) ≤ 16 := by omega
    go_wp2_with fail
    clear C2 A1 G1
    generalize hwb : w1.alloc (.cells #[.int .i64 (i : Int), .int .i64 (n : Int)] 71) = wb at *
    generalize w1.heap.size = B at *
    clear hwb
    obtain ⟨k, hk⟩ : ∃ k, 2 * i = k := ⟨_, rfl⟩
    obtain ⟨q, hq⟩ : ∃ q, i + n = q := ⟨_, rfl⟩
    obtain ⟨r, hr⟩ : ∃ r, 2 * q = r := ⟨_, rfl⟩
    have hw1 : IntKind.i64.wrap (2 * (i : Int)) = (k : Int) := by rw [IntKind.wrap_i64]; omega
    have hw2 : IntKind.i64.wrap ((i : Int) + (n : Int)) = (q : Int) := by rw [IntKind.wrap_i64]; omega
    have hw3 : IntKind.i64.wrap (2 * (q : Int)) = (r : Int) := by rw [IntKind.wrap_i64]; omega
    have k0 : (0 : Int) ≤ (k : Int) := by omega
    have k16 : (k : Int) ≤ 16 := by omega
    have r0 : (0 : Int) ≤ (r : Int) := by omega
    have r16 : (r : Int) ≤ 16 := by omega
    have HK : Hid (2 * i = k ∧ 2 * (i + n) = r) := ⟨hk, by omega⟩
    clear hk hq hr hle1 hle2
    have B0 : BoxP wb B (.int .i64 (i : Int)) (.int .i64 (n : Int)) wb.drew := boxp_drew ⟨c0, c1, World.grownBy.refl _ _⟩
    have e1 : (xs.drop 0).take k = xs.take (2 * i) := by rw [List.drop_zero, HK.out.1]
    have e2 : (xs.drop r).take (16 - r) = xs.drop (2 * (i + n)) := by rw [HK.out.2, List.take_of_length_le (by rw [List.length_drop]; have := H16.out; omega)]
    have l1 : (xs.take (2 * i)).length = k := by rw [List.length_take]; have := H16.out; have := HK.out.1; omega
    have l2 : (xs.drop (2 * (i + n))).length = 16 - r := by rw [List.length_drop]; have := H16.out; have := HK.out.2; omega
    have CP1 : Hid (∀ W : World, wb.grownBy W none → Calls Tryd.prog 40 #[.slice (some ⟨A, 0, none⟩) k 16] W fun e w' => e = .returned (str (joinV 58 (((pairsG xs).take i).map shortV))) ∧ W.grownBy w' none) := fun W G => by
      have c := aat_part (A2.grown G (by simp)) 0 k (by have := H16.out; omega)
      rw [e1] at c
      have h := printed_any (some ⟨A, 0, none⟩) 16 (xs.take (2 * i)) W c (by omega) (HT.out.grown (grown_trans G2 G))
      rw [l1, pairs_take] at h
      exact h
    have CP2 : Hid (∀ W : World, wb.grownBy W none → Calls Tryd.prog 40 #[.slice (some (if 16 = r then ⟨A, 0, none⟩ else ⟨A, r, none⟩)) (16 - r) (16 - r)] W fun e w' => e = .returned (str (joinV 58 (((pairsG xs).drop (i + n)).map shortV))) ∧ W.grownBy w' none) := fun W G => by
      have c : Cells W (some (if 16 = r then ⟨A, 0, none⟩ else ⟨A, r, none⟩)) (xs.drop (2 * (i + n))) := by
        by_cases hr : 16 = r
        · have hnil : xs.drop (2 * (i + n)) = [] := List.eq_nil_of_length_eq_zero (by omega)
          rw [hnil]
          exact ⟨fun _ => rfl, fun ad _ j hj => absurd hj (by simp)⟩
        · rw [if_neg hr]
          have c := aat_part (A2.grown G (by simp)) r (16 - r) (by have := H16.out; omega)
          rw [e2] at c
          exact c
      have h := printed_any (some (if 16 = r then ⟨A, 0, none⟩ else ⟨A, r, none⟩)) (16 - r) (xs.drop (2 * (i + n))) W c (by omega) (HT.out.grown (grown_trans G2 G))
      rw [l2, pairs_dropG] at h
      exact h
    have HG2 : Hid (w.grownBy wb none) := G2
    clear e1 e2 l1 l2 A2 G2
    have pl : ∀ zs : List Nat, ∀ l ∈ zs.map shortV, l.length ≤ 4 := fun zs l hl => by
      obtain ⟨g, -, rfl⟩ := List.mem_map.1 hl
      exact (short_piece g).2.2.1
    have ht1 : (joinV 58 (((pairsG xs).take i).map shortV)).length ≤ 40 := by
      have := join_len 58 _ 4 (pl ((pairsG xs).take i))
      rw [List.length_map, List.length_take] at this
      have := HH.out
      omega
    have ht2 : (joinV 58 (((pairsG xs).drop (i + n)).map shortV)).length ≤ 40 := by
      have := join_len 58 _ 4 (pl ((pairsG xs).drop (i + n)))
      rw [List.length_map, List.length_drop] at this
      have := HH.out
      omega
    clear pl
    generalize joinV 58 (((pairsG xs).take i).map shortV) = t1 at *
    generalize joinV 58 (((pairsG xs).drop (i + n)).map shortV) = t2 at *
    have hbig1 : ¬ 9223372036854775807 < t1.length + 2 := by omega
    have hbig2 : ¬ 9223372036854775807 < t1.length + 2 + t2.length := by omega
    go_region_held3 (fun W => W.cell? ⟨B, 0, none⟩ = some (.int .i64 (i : Int)) ∧ W.cell? ⟨B, 1, none⟩ = some (.int .i64 (n : Int)) ∧ wb.grownBy W none) (first | exact boxp_call K (by assumption) | (with_reducible assumption) | exact B0) (first | (go_at_call_of 40 (Value.slice (some ⟨A, 0, none⟩) k 16); refine (CP1.out _ (by exact (by assumption : BoxP wb B (.int .i64 (i : Int)) (.int .i64 (n : Int)) _).2.2)).mono ?_; rintro e w' ⟨rfl, K⟩; dsimp only) | (go_at_call 40; refine (CP2.out _ (by exact (by assumption : BoxP wb B (.int .i64 (i : Int)) (.int .i64 (n : Int)) _).2.2)).mono ?_; rintro e w' ⟨rfl, K⟩; dsimp only))
    have KF := (by assumption : BoxP wb B (.int .i64 (i : Int)) (.int .i64 (n : Int)) w')
    have ec : ((⟨t1.toArray⟩ : ByteArray) ++ (⟨#[58, 58]⟩ : ByteArray) ++ (⟨t2.toArray⟩ : ByteArray)) = ⟨(t1 ++ 58 :: 58 :: t2).toArray⟩ := by
      rw [show (⟨#[58, 58]⟩ : ByteArray) = ⟨([58, 58] : List UInt8).toArray⟩ from rfl, cat, cat, List.append_assoc]
      rfl
    have HEC : Hid (((⟨t1.toArray⟩ : ByteArray) ++ (⟨#[58, 58]⟩ : ByteArray) ++ (⟨t2.toArray⟩ : ByteArray)) = ⟨(t1 ++ 58 :: 58 :: t2).toArray⟩) := ec
    clear ec
    go_wp2
    all_goals
      go_ret
      refine ⟨?_, grown_trans HG2.out KF.2.2⟩
      rw [HP.out]
      show Ending.returned (.string ((⟨t1.toArray⟩ : ByteArray) ++ (⟨#[58, 58]⟩ : ByteArray) ++ (⟨t2.toArray⟩ : ByteArray))) = _
      rw [HEC.out]

end Go.Proofs.YtbklagdegnflgaaDoor
