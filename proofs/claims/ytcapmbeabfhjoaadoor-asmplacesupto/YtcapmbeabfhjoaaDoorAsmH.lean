/-
  Package asm reads: a form's text made to steps, the walk.
-/
import Derived.Test.YtcapmbeabfhjoaaDoorAsmG
namespace Go.Proofs.YtcapmbeabfhjoaaDoor
open Go.RowKit
set_option maxRecDepth 100000

set_option maxHeartbeats 8000000 in
theorem turn_any (X : ByteArray) (w : World) (hX : X.size ≤ 1000) (hA : Asc (sl X)) :
    Calls Tryd.prog 43 #[.string X] w fun e w' => ∃ v fp, e = .returned v ∧ Does fp v (rowB (sl X)) ∧ Held fp w' ∧ Kin 73 fp ∧ Kin 75 fp ∧ w.grownBy w' none := by
  obtain ⟨i0, hi, hz0, hz1, hz2⟩ := info_parts infoF
  have hmf : ∀ (fn : Fn) (first cap : Array Value) (w : World), (Instr.makeFunc fn first cap).run Tryd.prog w = .ok (.func fn first cap) w := fun _ _ _ _ => rfl
  have H0 : HeadAt (w.alloc (.cells #[.slice none 0 0] 82)) w.heap.size (.slice none 0 0) := heap_alloc_new w _
  have G0 := World.grownBy_alloc w (.cells #[.slice none 0 0] 82) none
  have HX : Hid (Asc (sl X)) := hA
  clear hA
  go_enter Tryd.func43, Tryd.ntmps43
  go_wp2
  go_loopw [0] (fun s wr => ∃ (Y : ByteArray) (v : Value) (ps : List Stp) (fp : Fp), s = .string Y ∧ Hid (∀ r, scanB (sl X) r = (runsP ps r).bind (scanB (sl Y))) ∧ Hid (Asc (sl Y)) ∧ TurnAt w wr v ps fp ∧ ps.length + Y.size ≤ 1000) (fun s _ => (strLen s))
  case atStart => exact ⟨X, _, [], [], rfl, fun r => rfl, HX, ⟨H0, World.ownsRow_nil _ _ _ _, fun q hq => by simp at hq, fun x hx => by simp at hx, fun x hx => by simp at hx, G0⟩, by simpa using hX⟩
  case round =>
    clear H0 G0
    obtain ⟨Y, v, ps, fp, rfl, HS, HY, TA, hn⟩ := hrel
    by_cases h0 : Y.size = 0
    · have hemp : Y.toList.isEmpty = true := by
        rw [toList_sl]
        rw [show sl Y = [] from List.eq_nil_of_length_eq_zero (by rw [sl_len]; exact h0)]
        rfl
      have HE : Hid (∀ r, scanB (sl X) r = runsP ps r) := by
        show ∀ r, scanB (sl X) r = runsP ps r
        intro r
        rw [HS.out r, show sl Y = [] from List.eq_nil_of_length_eq_zero (by rw [sl_len]; exact h0)]
        cases runsP ps r <;> rfl
      clear HS HY
      have HTA : Hid (TurnAt w wr v ps fp) := TA
      clear TA
      go_wp2
      go_ret
      obtain ⟨fq, h1, h2, h3, h4⟩ := turn_does HTA.out HE.out (by omega)
      exact ⟨_, fq, rfl, h1, h2, h3, h4, HTA.out.2.2.2.2.2⟩
    · have hemp : Y.toList.isEmpty = false := by
        rw [toList_sl]
        cases h : sl Y with
        | nil => have := sl_len Y; rw [h] at this; simp at this; omega
        | cons _ _ => rfl
      have C := fun w => Tryd.strings_IndexAny_laid Y ⟨#[67, 84, 70, 75]⟩ w (by omega) (by decide) (fun j b hb => HY.out j b hb) (by intro j b hb; have := List.mem_of_getElem? hb; simp at this; rcases this with rfl | rfl | rfl | rfl <;> decide)
      have hpi : Lib.indexAny Y.data.toList (⟨#[67, 84, 70, 75]⟩ : ByteArray).data.toList = _ := plain_index (sl Y)
      have hpl := plain_le (sl Y)
      have HP : Hid (∀ r, scanB (sl Y) r = (litV ((sl Y).take (plainN (sl Y))) r).bind (scanB ((sl Y).drop (plainN (sl Y))))) := scan_plain (sl Y)
      have HN : Hid (∀ h : plainN (sl Y) < (sl Y).length, letterB (sl Y)[plainN (sl Y)] = true) := plain_next (sl Y)
      rw [hpi] at C
      rw [sl_len] at C hpl
      clear hpi
      generalize plainN (sl Y) = m at *
      by_cases hm : m < Y.size
      · rw [if_pos hm] at C
        by_cases hm0 : 0 < m
        · have hmi : (0 : Int) < (m : Int) := by omega
          have hmi2 : (0 : Int) ≤ (m : Int) := by omega
          have hms : (m : Int) ≤ (Y.size : Int) := by omega
          go_wp2_with fail
          refine (C _).mono ?_
          rintro e w1 ⟨rfl, B1⟩
          have K1 : wr.grownBy w1 none := ⟨B1.os, B1.tape, B1.output, B1.size, fun k hk _ => B1.block k hk⟩
          have TA1 := TA.keep K1
          have H1 := TA1.1
          have O1 := TA1.2.1
          have hc1 := H1.cell
          have hs1 : w.heap.size < w1.heap.size := H1.lt
          have HTA : Hid (TurnAt w w1 v ps fp) := TA1
          clear TA TA1 B1 K1 C
          go_wp2
          go_region_law (first | (refine step_append_cv rfl (.tmp 15) (.tmp 20) 82 rfl 70 i0 _ 1 8 Tryd.underlying82 hi hz0 hz1 hz2 rfl (by decide) (w.heap.size + 1) v ps.length (ps.map fun q => q.1) (by simp [Act.eval]) (by first | exact ((owns_keptNone O1 K2).alloc _).drew | exact (owns_keptNone O1 K2).drew.alloc _ | exact (owns_keptNone O1 K2).alloc _) ⟨w2.heap.size, 0, none⟩ 1 1 [.func (.func n2) #[] lb2] (by simp [Act.eval]) rfl (by exact cv_lit w2 _ _) (by simp [Value.oneCell']) (by unfold maxLen; omega) (by omega) (by have := K2.size; simp at this ⊢; omega) ?_; intro y3 w3 O3 K3; obtain ⟨a3, c3, rfl⟩ := own_slice O3; have H3 : HeadAt w3 w.heap.size v := ((H1.grown K2 (by simp)).grown (World.grownBy_alloc w2 _ none) (by simp)).grown K3 (by intro e; have := (O1.lt _ e).1; omega); have hf3 := H3.free; have hc3 := H3.cell) | (go_simp; go_at_call 49; refine (literal_any _ _).mono ?_; rintro e w2 ⟨fv, rfl, ⟨n2, lb2, rfl, he2, D1⟩, Hn, K2'⟩; have D2 : Hid (Does (txtAt w1.heap.size (Y.extract 0 m)) (.func (.func n2) #[] lb2) (litV (sl (Y.extract 0 m)))) := ⟨n2, lb2, rfl, he2, D1⟩; have HN2 : Hid (Held (txtAt w1.heap.size (Y.extract 0 m)) w2) := Hn; clear D1 he2 Hn; have K2 : w1.grownBy w2 none := (by first | exact K2' | exact grown_trans (grown_drewN _ 1 _) K2'); dsimp only; have hc2 := (H1.grown K2 (by simp)).cell; have hc2b : ∀ o, (w2.alloc o).cell? ⟨w.heap.size, 0, none⟩ = some v := fun o => (World.grownBy_alloc w2 o none).cell hc2 (by simp)))
          all_goals
            have TN : Hid (TurnAt w (w3.setCell ⟨w.heap.size, 0, none⟩ (.slice a3 (ps.length + 1) c3)) (.slice a3 (ps.length + 1) c3) (ps ++ [(.func (.func n2) #[] lb2, litV (sl (Y.extract 0 m)))]) (fp ++ txtAt w1.heap.size (Y.extract 0 m))) := HTA.out.next D2.out HN2.out (txts_at _ _) K2 K3 O3
            clear H3 hc3 hf3 K3 O3 hc2 hc2b K2 K2' D2 HN2 HTA H1 O1 hc1
            have HS2 : Hid (∀ r, scanB (sl X) r = (runsP (ps ++ [(.func (.func n2) #[] lb2, litV (sl (Y.extract 0 m)))]) r).bind (scanB (sl (Y.extract m Y.size)))) := by
              show ∀ r, scanB (sl X) r = (runsP (ps ++ [(.func (.func n2) #[] lb2, litV (sl (Y.extract 0 m)))]) r).bind (scanB (sl (Y.extract m Y.size)))
              intro r
              exact turn_step HS.out HP.out (by rw [sl_extract]; simp) (by rw [sl_extract]; exact List.take_of_length_le (by rw [List.length_drop, sl_len]; omega)) r
            have HY2 : Hid (Asc (sl (Y.extract m Y.size))) := by
              show Asc (sl (Y.extract m Y.size))
              rw [sl_extract, List.take_of_length_le (by rw [List.length_drop, sl_len]; omega)]
              exact HY.out.drop m
            clear HS HY HP HN
            go_wp2
            go_roundw
            case rel => exact ⟨Y.extract m Y.size, _, _, _, rfl, HS2, HY2, TN.out, by simp; omega⟩
            case measure => simp [strLen]; omega
        · obtain rfl : m = 0 := by omega
          have hl0 : letterB (Y[0]'(by omega)) = true := HN.out (by rw [sl_len]; omega)
          have hi0 : (0 : Int) < (Y.size : Int) := by omega
          have hi1 : (1 : Int) ≤ (Y.size : Int) := by omega
          have HQ : Hid (∀ r, scanB (sl Y) r = (numV (Y[0]'(by omega)) r).bind (scanB ((sl Y).drop 1))) := by
            show ∀ r, scanB (sl Y) r = (numV (Y[0]'(by omega)) r).bind (scanB ((sl Y).drop 1))
            intro r
            have e := sl_drop Y 0 (by omega)
            rw [List.drop_zero] at e
            rw [e, scanB, hl0]
            rfl
          have CL := fun w => letter_any (Y[0]'(by omega)) w hl0
          clear HP HN hl0
          go_wp2_with fail
          refine (C _).mono ?_
          rintro e w1 ⟨rfl, B1⟩
          have K1 : wr.grownBy w1 none := ⟨B1.os, B1.tape, B1.output, B1.size, fun k hk _ => B1.block k hk⟩
          have TA1 := TA.keep K1
          have H1 := TA1.1
          have O1 := TA1.2.1
          have hc1 := H1.cell
          have hs1 : w.heap.size < w1.heap.size := H1.lt
          have HTA : Hid (TurnAt w w1 v ps fp) := TA1
          clear TA TA1 B1 K1 C
          go_wp2
          go_region_law (first | (refine step_append_cv rfl (.tmp 25) (.tmp 29) 82 rfl 70 i0 _ 1 8 Tryd.underlying82 hi hz0 hz1 hz2 rfl (by decide) (w.heap.size + 1) v ps.length (ps.map fun q => q.1) (by simp [Act.eval]) (by first | exact (O1.drew).alloc _ | exact (O1.alloc _).drew | exact O1.alloc _) ⟨w1.heap.size, 0, none⟩ 1 1 [.func (.func n2) #[] lb2] (by simp [Act.eval]) rfl (by exact cv_lit w1 _ _) (by simp [Value.oneCell']) (by unfold maxLen; omega) (by omega) (by simp; omega) ?_; intro y3 w3 O3 K3; obtain ⟨a3, c3, rfl⟩ := own_slice O3; have K4 : (w1.alloc (.cells #[.func (.func n2) #[] lb2] 70)).grownBy w3 v.ownBlock := ⟨K3.os, K3.tape, K3.output, K3.size, K3.block⟩; have H3 : HeadAt w3 w.heap.size v := (H1.grown (World.grownBy_alloc w1 _ none) (by simp)).grown K4 (by intro e; have := (O1.lt _ e).1; omega); have hf3 := H3.free; have hc3 := H3.cell) | (go_simp; go_at_call 50; refine (CL _).mono ?_; rintro e w2 ⟨fv, rfl, ⟨n2, lb2, rfl, he2, D1⟩, rfl⟩; have D2 : Hid (Does [] (.func (.func n2) #[] lb2) (numV (Y[0]'(by omega)))) := ⟨n2, lb2, rfl, he2, D1⟩; clear D1 he2; dsimp only; have hc2b : ∀ o, (w1.alloc o).cell? ⟨w.heap.size, 0, none⟩ = some v := fun o => (World.grownBy_alloc w1 o none).cell hc1 (by simp)))
          all_goals
            have TN : Hid (TurnAt w (w3.setCell ⟨w.heap.size, 0, none⟩ (.slice a3 (ps.length + 1) c3)) (.slice a3 (ps.length + 1) c3) (ps ++ [(.func (.func n2) #[] lb2, numV (Y[0]'(by omega)))]) (fp ++ [])) := HTA.out.next D2.out (fun x hx => by simp at hx) (fun x hx => by simp at hx) (World.grownBy.refl _ _) K4 O3
            clear H3 hc3 hf3 K3 K4 O3 hc2b D2 HTA H1 O1 hc1 CL
            have HS2 : Hid (∀ r, scanB (sl X) r = (runsP (ps ++ [(.func (.func n2) #[] lb2, numV (Y[0]'(by omega)))]) r).bind (scanB (sl (Y.extract 1 Y.size)))) := by
              show ∀ r, scanB (sl X) r = (runsP (ps ++ [(.func (.func n2) #[] lb2, numV (Y[0]'(by omega)))]) r).bind (scanB (sl (Y.extract 1 Y.size)))
              intro r
              exact turn_let HS.out HQ.out (by rw [sl_extract]; exact List.take_of_length_le (by rw [List.length_drop, sl_len]; omega)) r
            have HY2 : Hid (Asc (sl (Y.extract 1 Y.size))) := by
              show Asc (sl (Y.extract 1 Y.size))
              rw [sl_extract, List.take_of_length_le (by rw [List.length_drop, sl_len]; omega)]
              exact HY.out.drop 1
            clear HS HY HQ
            go_wp2
            go_roundw
            case rel => exact ⟨Y.extract 1 Y.size, _, _, _, rfl, HS2, HY2, TN.out, by simp; omega⟩
            case measure => simp [strLen]; omega
      · obtain rfl : m = Y.size := by omega
        rw [if_neg hm] at C
        have hmi : (0 : Int) < (Y.size : Int) := by omega
        have hmi2 : (0 : Int) ≤ (Y.size : Int) := by omega
        have hms : (Y.size : Int) ≤ (Y.size : Int) := by omega
        go_wp2_with fail
        refine (C _).mono ?_
        rintro e w1 ⟨rfl, B1⟩
        have K1 : wr.grownBy w1 none := ⟨B1.os, B1.tape, B1.output, B1.size, fun k hk _ => B1.block k hk⟩
        have TA1 := TA.keep K1
        have H1 := TA1.1
        have O1 := TA1.2.1
        have hc1 := H1.cell
        have hs1 : w.heap.size < w1.heap.size := H1.lt
        have HTA : Hid (TurnAt w w1 v ps fp) := TA1
        clear TA TA1 B1 K1 C
        go_wp2
        go_region_law (first | (refine step_append_cv rfl (.tmp 15) (.tmp 20) 82 rfl 70 i0 _ 1 8 Tryd.underlying82 hi hz0 hz1 hz2 rfl (by decide) (w.heap.size + 1) v ps.length (ps.map fun q => q.1) (by simp [Act.eval]) (by first | exact ((owns_keptNone O1 K2).alloc _).drew | exact (owns_keptNone O1 K2).drew.alloc _ | exact (owns_keptNone O1 K2).alloc _) ⟨w2.heap.size, 0, none⟩ 1 1 [.func (.func n2) #[] lb2] (by simp [Act.eval]) rfl (by exact cv_lit w2 _ _) (by simp [Value.oneCell']) (by unfold maxLen; omega) (by omega) (by have := K2.size; simp at this ⊢; omega) ?_; intro y3 w3 O3 K3; obtain ⟨a3, c3, rfl⟩ := own_slice O3; have H3 : HeadAt w3 w.heap.size v := ((H1.grown K2 (by simp)).grown (World.grownBy_alloc w2 _ none) (by simp)).grown K3 (by intro e; have := (O1.lt _ e).1; omega); have hf3 := H3.free; have hc3 := H3.cell) | (go_simp; go_at_call 49; refine (literal_any _ _).mono ?_; rintro e w2 ⟨fv, rfl, ⟨n2, lb2, rfl, he2, D1⟩, Hn, K2'⟩; have D2 : Hid (Does (txtAt w1.heap.size (Y)) (.func (.func n2) #[] lb2) (litV (sl (Y)))) := ⟨n2, lb2, rfl, he2, D1⟩; have HN2 : Hid (Held (txtAt w1.heap.size (Y)) w2) := Hn; clear D1 he2 Hn; have K2 : w1.grownBy w2 none := (by first | exact K2' | exact grown_trans (grown_drewN _ 1 _) K2'); dsimp only; have hc2 := (H1.grown K2 (by simp)).cell; have hc2b : ∀ o, (w2.alloc o).cell? ⟨w.heap.size, 0, none⟩ = some v := fun o => (World.grownBy_alloc w2 o none).cell hc2 (by simp)))
        all_goals
          have TN : Hid (TurnAt w (w3.setCell ⟨w.heap.size, 0, none⟩ (.slice a3 (ps.length + 1) c3)) (.slice a3 (ps.length + 1) c3) (ps ++ [(.func (.func n2) #[] lb2, litV (sl (Y)))]) (fp ++ txtAt w1.heap.size (Y))) := HTA.out.next D2.out HN2.out (txts_at _ _) K2 K3 O3
          clear H3 hc3 hf3 K3 O3 hc2 hc2b K2 K2' D2 HN2 HTA H1 O1 hc1
          have HS2 : Hid (∀ r, scanB (sl X) r = (runsP (ps ++ [(.func (.func n2) #[] lb2, litV (sl (Y)))]) r).bind (scanB (sl (ByteArray.empty)))) := by
            show ∀ r, scanB (sl X) r = (runsP (ps ++ [(.func (.func n2) #[] lb2, litV (sl (Y)))]) r).bind (scanB (sl (ByteArray.empty)))
            intro r
            exact turn_step HS.out HP.out (by rw [List.take_of_length_le (by rw [sl_len]; omega)]) (by rw [List.drop_eq_nil_of_le (by rw [sl_len]; omega)]; rfl) r
          have HY2 : Hid (Asc (sl (ByteArray.empty))) := by
            show Asc (sl (ByteArray.empty))
            intro j b hb
            simp [sl] at hb
          clear HS HY HP HN
          go_wp2
          go_roundw
          case rel => exact ⟨ByteArray.empty, _, _, _, rfl, HS2, HY2, TN.out, by simp; omega⟩
          case measure => simp [strLen]; omega

end Go.Proofs.YtcapmbeabfhjoaaDoor
