/-
  The document's own Print4.
-/
import Derived.Test.YtbklagdegnflgaaDoorAddrQ
namespace Go.Proofs.YtbklagdegnflgaaDoor
open Go.RowKit
set_option maxRecDepth 100000

set_option maxRecDepth 100000 in
set_option maxHeartbeats 1000000 in
theorem refprint4_any (xs : List UInt8) (w : World) (h4 : xs.length = 4) :
    Calls Tryd.prog 12 #[.agg (xs.map bv).toArray] w fun e w' => e = .returned (str (print4V xs)) ∧ w.grownBy w' none := by
  have H4 : Hid (xs.length = 4) := h4
  clear h4
  go_enter Tryd.func12, Tryd.ntmps12
  go_upto_region 1 with fail
  have A0 := AAt.alloc w 22 xs
  have G0 := World.grownBy_alloc w (.cells (xs.map bv).toArray 22) none
  generalize w.alloc (.cells (xs.map bv).toArray 22) = wa at *
  generalize w.heap.size = A at *
  have HA0 : Hid (AAt wa A 22 xs) := A0
  clear A0
  go_wp2
  go_loopw [3, 4] (fun x i wr => ∃ (j : Nat) (t : List UInt8), j ≤ 4 ∧ i = .int .i64 j ∧ x = str t ∧ t.length ≤ 21 * j ∧ Hid (t = joinV 46 ((xs.take j).map fun x => dec x.toNat)) ∧ wa.grownBy wr none) (fun _ i _ => 4 - (intOf i).toNat)
  case atStart => exact ⟨0, [], Nat.zero_le _, rfl, rfl, Nat.le_refl _, rfl, World.grownBy.refl _ _⟩
  case round =>
    obtain ⟨j, t, hj, rfl, rfl, htl, HT, G⟩ := hrel
    by_cases hlt : j < 4
    · have hlt' : (j : Int) < 4 := by omega
      have hl4 : j < xs.length := by have := H4.out; omega
      have hc := (HA0.out.grown G (by simp)).cell hl4
      have hd := dec_len xs[j].toNat
      have hb := xs[j].toNat_lt
      have HJ : Hid (joinV 46 ((xs.take (j + 1)).map fun x => dec x.toNat) = if (xs.take j).map (fun x => dec x.toNat) = [] then dec xs[j].toNat else joinV 46 ((xs.take j).map fun x => dec x.toNat) ++ (46 :: dec xs[j].toNat)) := by
        show _ = _
        rw [List.take_succ_eq_append_getElem hl4, List.map_append, List.map_cons, List.map_nil, join_snoc]
      have HNil : Hid (((xs.take j).map (fun x => dec x.toNat) = []) ↔ j = 0) := by
        show _ ↔ _
        rw [List.map_eq_nil_iff, List.take_eq_nil_iff]
        constructor
        · rintro (h | h)
          · exact h
          · rw [h] at hl4; simp at hl4
        · exact .inl
      generalize xs[j].toNat = n at *
      by_cases h0 : j = 0
      · subst h0
        have HN : Hid (dec n = joinV 46 ((xs.take (0 + 1)).map fun x => dec x.toNat)) := by
          show dec n = _
          rw [HJ.out, if_pos (HNil.out.2 rfl)]
        have ht0 : t = [] := by rw [HT.out]; rfl
        subst ht0
        clear HJ HNil HT
        rw [show ((0 : Nat) : Int) = 0 from rfl]
        go_wp2_with (go_at_call 33; refine (decimal_any n _ (by omega)).mono ?_; rintro e w' ⟨rfl, K⟩)
        go_roundw
        case rel => exact ⟨1, dec n, by omega, by go_num, by rw [cat]; rfl, by omega, HN, grown_trans G K⟩
        case measure => simp [intOf]
      · have h0' : (0 : Int) < (j : Int) := by omega
        have HN : Hid (t ++ ([46] ++ dec n) = joinV 46 ((xs.take (j + 1)).map fun x => dec x.toNat)) := by
          show _ = _
          rw [HJ.out, if_neg (fun e => h0 (HNil.out.1 e)), ← HT.out]
          rfl
        clear HJ HNil HT
        go_wp2_with (go_at_call 33; refine (decimal_any n _ (by omega)).mono ?_; rintro e w' ⟨rfl, K⟩)
        go_roundw
        case rel => exact ⟨j + 1, t ++ ([46] ++ dec n), by omega, by go_num, by rw [cat, cat, List.append_assoc], by simp; omega, HN, grown_trans G K⟩
        case measure => simp [intOf]; omega
    · obtain rfl : j = 4 := by omega
      have hp : print4V xs = t := by
        rw [HT.out, print4V, List.take_of_length_le (by have := H4.out; omega)]
      have HP : Hid (print4V xs = t) := hp
      clear hp HT
      rw [show ((4 : Nat) : Int) = 4 from rfl]
      go_wp2
      go_ret
      exact ⟨by rw [HP.out]; rfl, grown_trans G0 G⟩

end Go.Proofs.YtbklagdegnflgaaDoor
