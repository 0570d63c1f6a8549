/-
  Package types as landed: Weight, tooHeavy. The document's own chapter 12: weights. The document's own chapter 12: whether a list is a tree.
-/
import Derived.Test.YtgoiblnddfggbaaLotP17
import Derived.Test.YtgoiblnddfggbaaLotP12
namespace Go.Proofs.Ytgoiblnddfggbaa
open Go.RowKit
set_option maxRecDepth 100000

theorem weightG_nil : weightG [] = 0 := rfl
theorem weightG_app (a b : List Ng) : weightG (a ++ b) = weightG a + weightG b := by simp [weightG]
theorem weightG_one (x : Ng) : weightG [x] = weighG x := by simp [weightG]
theorem weightG_le (t : List Ng) : weightG t ≤ 80 * t.length := by
  induction t with
  | nil => simp [weightG]
  | cons x t ih =>
    have := weighG_le x
    rw [show x :: t = [x] ++ t from rfl, weightG_app, weightG_one, List.length_append, List.length_singleton]
    omega
theorem weightG_take (t : List Ng) (k : Nat) (h : k < t.length) : weightG (t.take (k + 1)) = weightG (t.take k) + weighG t[k] := by
  rw [List.take_succ_eq_append_getElem h, weightG_app, weightG_one]
theorem weightG_take_le (t : List Ng) (k : Nat) : weightG (t.take k) ≤ 80 * k := by
  have := weightG_le (t.take k)
  rw [List.length_take] at this
  omega
theorem ng_len (x : Ng) : (Try.prog.info? 46).map (·.size) = some x.cells.length := size46

set_option maxHeartbeats 2000000 in
theorem weight_any (ao : Option Addr) (cap : Nat) (t : List Ng) (w : World) (C : CV w ao (flatG t)) (hm : t.length * 72 ≤ 140737488355328) : Calls Try.prog 13 #[.slice ao t.length cap] w fun e w' => e = .returned (.int .i64 (weightG t : Int)) ∧ w.grownBy w' none := by
  have HC : Hid (CV w ao (flatG t)) := C
  clear C
  go_enter Try.func13, Try.ntmps13
  go_wp2_with fail
  refine (rules_any _).mono ?_
  rintro e w1 ⟨R, rfl, T, K1⟩
  have HT : Hid (TabT R w1) := T
  have HK1 : Hid (w.grownBy w1 none) := K1
  clear T K1
  go_wp2
  go_loopw [4, 10] (fun s i wr => ∃ k : Nat, k ≤ t.length ∧ s = .int .i64 (weightG (t.take k) : Int) ∧ i = .int .i64 k ∧ w1.grownBy wr none) (fun _ i _ => t.length - (intOf i).toNat)
  case atStart => exact ⟨0, Nat.zero_le _, rfl, rfl, World.grownBy.refl _ _⟩
  case round =>
    obtain ⟨k, hk, rfl, rfl, G⟩ := hrel
    by_cases hlt : k < t.length
    · obtain ⟨b, o, rfl, hc⟩ := (HC.out.keptNone (grown_trans HK1.out G)).ngs hlt
      have HR : Hid (wr.rangeAt b (o + k * 24) t[k].cells) := hc k hlt
      have HW : Hid (∀ W : World, TabT R W → Calls Try.prog 25 #[.slice (some ⟨R.g, 0, none⟩) 17 17, .agg t[k].cells.toArray] W fun e w' => e = .returned (.int .i64 (weighG t[k] : Int)) ∧ W.grownBy w' none) := fun W TW => weightOf_any t[k] R W TW
      have HZ : Hid ((Try.prog.info? 46).map (·.size) = some t[k].cells.length ∧ (Try.prog.info? 46).map (·.size) = some t[k].cells.toArray.size ∧ 24 = t[k].cells.toArray.size ∧ t[k].cells.toArray.all (·.oneCell') = true) := ⟨ng_len _, ng_size _, rfl, ng_all _⟩
      have hs := weightG_take t k hlt
      have hb1 := weightG_take_le t k
      have hb2 := weighG_le t[k]
      rw [show ((weightG (t.take k) : Nat) : Int) = ((weightG (t.take k) : Nat) : Int) from rfl]
      have HS : Hid (weightG (t.take (k + 1)) = weightG (t.take k) + weighG t[k]) := hs
      have hwr : IntKind.i64.wrap ((weightG (t.take k) : Int) + (weighG t[k] : Int)) = (weightG (t.take k) : Int) + (weighG t[k] : Int) := by rw [IntKind.wrap_i64]; omega
      generalize weightG (t.take k) = s0 at *
      generalize weighG t[k] = s1 at *
      generalize t[k].cells = cs at *
      have hl : (k : Int) < (t.length : Int) := by omega
      have z0 : (0 : Int) ≤ (k : Int) := by omega
      have w3 : IntKind.i64.wrap ((k : Int) + 1) = (k : Int) + 1 := by rw [IntKind.wrap_i64]; omega
      clear hc hs
      go_upto_region 6 with (first | refine wpList_load_mid rfl 46 (.tmp 12) rfl b (o + k * 24) (by simp [Act.eval]) cs _ HR.out Try.underlying46 rfl HZ.out.1 ?_ | refine wpList_store_row rfl 46 (.tmp 6) (.tmp 13) rfl wr.heap.size cs.toArray rfl rfl 46 _ (heap_alloc_new wr _) HZ.out.2.1 HZ.out.2.2.1 HZ.out.2.2.2 ?_)
      rw [World.setRow_alloc_new]
      have V := VAt.alloc wr 46 cs.toArray
      have G2 := grown_trans G (World.grownBy_alloc wr (.cells cs.toArray 46) none)
      generalize wr.alloc (.cells cs.toArray 46) = w2 at *
      generalize wr.heap.size = B at *
      clear HR G
      go_wp2_with (refine wpList_load_row rfl 46 (.tmp 6) rfl B rfl 46 cs.toArray (0, 0) _ V Try.underlying46 rfl HZ.out.2.1 ?_)
      refine (HW.out _ (HT.out.kept G2)).mono ?_
      rintro e w4 ⟨rfl, K4⟩
      have G4 := grown_trans G2 K4
      clear K4 G2 V HW
      go_wp2
      go_roundw
      case rel => exact ⟨k + 1, by omega, by rw [HS.out]; simp, by go_num, G4⟩
      case measure => simp [intOf]; omega
    · obtain rfl : k = t.length := by omega
      rw [List.take_length]
      go_wp2
      go_ret
      exact ⟨rfl, grown_trans HK1.out G⟩

/-- What tooHeavy tells. -/
def heavyR (o : Option Nat) : Value := match o with
  | some k => .tuple #[.int .i64 (k : Int), .bool true]
  | none => .tuple #[.int .i64 0, .bool false]

set_option maxHeartbeats 2000000 in
theorem heavy_any (ao : Option Addr) (cap : Nat) (t : List Ng) (R : RT) (w : World) (T : TabT R w) (C : CV w ao (flatG t)) (hm : t.length * 72 ≤ 140737488355328) : Calls Try.prog 24 #[.slice (some ⟨R.g, 0, none⟩) 17 17, .slice ao t.length cap] w fun e w' => e = .returned (heavyR (heavyG 0 0 t)) ∧ w.grownBy w' none := by
  have HC : Hid (CV w ao (flatG t)) := C
  have HT : Hid (TabT R w) := T
  clear C T
  obtain ⟨E, hE⟩ : ∃ E, heavyR (heavyG 0 0 t) = E := ⟨_, rfl⟩
  rw [hE]
  have HE : Hid (heavyR (heavyG 0 0 t) = E) := hE
  clear hE
  go_enter Try.func24, Try.ntmps24
  go_wp2
  go_loopw [6, 11] (fun s i wr => ∃ k q : Nat, k ≤ t.length ∧ q ≤ 3000 ∧ s = .int .i64 (q : Int) ∧ i = .int .i64 k ∧ Hid (heavyG 0 0 t = heavyG q k (t.drop k)) ∧ w.grownBy wr none) (fun _ i _ => t.length - (intOf i).toNat)
  case atStart => exact ⟨0, 0, Nat.zero_le _, Nat.zero_le _, rfl, rfl, rfl, World.grownBy.refl _ _⟩
  case round =>
    obtain ⟨k, q, hk, hq, rfl, rfl, HH, G⟩ := hrel
    by_cases hlt : k < t.length
    · obtain ⟨b, o, rfl, hc⟩ := (HC.out.keptNone G).ngs hlt
      have HR : Hid (wr.rangeAt b (o + k * 24) t[k].cells) := hc k hlt
      have HW : Hid (∀ W : World, TabT R W → Calls Try.prog 25 #[.slice (some ⟨R.g, 0, none⟩) 17 17, .agg t[k].cells.toArray] W fun e w' => e = .returned (.int .i64 (weighG t[k] : Int)) ∧ W.grownBy w' none) := fun W TW => weightOf_any t[k] R W TW
      have HZ : Hid ((Try.prog.info? 46).map (·.size) = some t[k].cells.length ∧ (Try.prog.info? 46).map (·.size) = some t[k].cells.toArray.size ∧ 24 = t[k].cells.toArray.size ∧ t[k].cells.toArray.all (·.oneCell') = true) := ⟨ng_len _, ng_size _, rfl, ng_all _⟩
      have hb2 := weighG_le t[k]
      have HN : Hid (heavyG 0 0 t = if 3000 < q + weighG t[k] then some k else heavyG (q + weighG t[k]) (k + 1) (t.drop (k + 1))) := by
        have := HH.out
        rw [List.drop_eq_getElem_cons hlt] at this
        exact this
      have hwr : IntKind.i64.wrap ((q : Int) + (weighG t[k] : Int)) = (q : Int) + (weighG t[k] : Int) := by rw [IntKind.wrap_i64]; omega
      generalize weighG t[k] = s1 at *
      generalize t[k].cells = cs at *
      have hl : (k : Int) < (t.length : Int) := by omega
      have z0 : (0 : Int) ≤ (k : Int) := by omega
      have w3 : IntKind.i64.wrap ((k : Int) + 1) = (k : Int) + 1 := by rw [IntKind.wrap_i64]; omega
      clear hc HH
      go_upto_region 5 with (first | refine wpList_load_mid rfl 46 (.tmp 14) rfl b (o + k * 24) (by simp [Act.eval]) cs _ HR.out Try.underlying46 rfl HZ.out.1 ?_ | refine wpList_store_row rfl 46 (.tmp 8) (.tmp 15) rfl wr.heap.size cs.toArray rfl rfl 46 _ (heap_alloc_new wr _) HZ.out.2.1 HZ.out.2.2.1 HZ.out.2.2.2 ?_)
      rw [World.setRow_alloc_new]
      have V := VAt.alloc wr 46 cs.toArray
      have G2 := grown_trans G (World.grownBy_alloc wr (.cells cs.toArray 46) none)
      generalize wr.alloc (.cells cs.toArray 46) = w2 at *
      generalize wr.heap.size = B at *
      clear HR G
      go_wp2_with (refine wpList_load_row rfl 46 (.tmp 8) rfl B rfl 46 cs.toArray (0, 0) _ V Try.underlying46 rfl HZ.out.2.1 ?_)
      refine (HW.out _ (HT.out.kept G2)).mono ?_
      rintro e w4 ⟨rfl, K4⟩
      have G4 := grown_trans G2 K4
      clear K4 G2 V HW
      by_cases hov : 3000 < q + s1
      · have HF : Hid (heavyG 0 0 t = some k) := by show _ = _; rw [HN.out, if_pos hov]
        have e1 : decide ((3000 : Int) < (q : Int) + (s1 : Int)) = true := decide_eq_true (by omega)
        clear hov HN
        go_wp2
        go_ret2
        exact ⟨by rw [← HE.out, HF.out]; rfl, G4⟩
      · have HF : Hid (heavyG 0 0 t = heavyG (q + s1) (k + 1) (t.drop (k + 1))) := by show _ = _; rw [HN.out, if_neg hov]
        have e1 : decide ((3000 : Int) < (q : Int) + (s1 : Int)) = false := decide_eq_false (by omega)
        have hq2 : q + s1 ≤ 3000 := by omega
        clear hov HN
        go_wp2
        go_roundw
        case rel => exact ⟨k + 1, q + s1, by omega, hq2, by simp, by go_num, HF, G4⟩
        case measure => simp [intOf]; omega
    · have HF : Hid (heavyG 0 0 t = none) := by
        have := HH.out
        rw [List.drop_eq_nil_of_le (by omega)] at this
        exact this
      go_wp2
      go_ret2
      exact ⟨by rw [← HE.out, HF.out]; rfl, G⟩

end Go.Proofs.Ytgoiblnddfggbaa

namespace Go.Proofs.Ytgoiblnddfggbaa
open Go.RowKit
set_option maxRecDepth 100000

set_option maxHeartbeats 8000000 in
theorem weigh12_any (x : Ng) (w : World) : Calls Try.prog 21 #[.agg x.cells.toArray] w fun e w' => e = .returned (.int .i64 (weighG x : Int)) ∧ w.grownBy w' none := by
  have HBX := box_ng x
  have h3 := World.grownBy_alloc w (.cells x.cells.toArray 46) none
  have V := NB.alloc w x
  obtain ⟨E, hE⟩ : ∃ E : Int, (weighG x : Int) = E := ⟨_, rfl⟩
  rw [hE]
  have HE : Hid ((weighG x : Int) = E) := hE
  obtain ⟨X, hX⟩ : ∃ X, x.cells.toArray = X := ⟨_, rfl⟩
  rw [hX] at HBX ⊢
  clear hE
  go_enter Try.func21, Try.ntmps21
  go_upto_region 1 with fail
  rw [← hX] at *
  generalize w.alloc (.cells x.cells.toArray 46) = w1 at *
  generalize w.heap.size = B at *
  have c0 := V.kind
  have c5 := V.of
  obtain ⟨kk, hkk⟩ : ∃ kk, x.kind = kk := ⟨_, rfl⟩
  have HK : Hid (x.kind = kk) := hkk
  obtain ⟨oo, hoo⟩ : ∃ oo, x.of = oo := ⟨_, rfl⟩
  have HO : Hid (x.of = oo) := hoo
  rw [hkk] at c0
  rw [hoo] at c5
  clear HBX hX X V hkk hoo
  have hc : kk = 1 ∨ kk = 2 ∨ kk = 3 ∨ kk = 4 ∨ kk = 5 ∨ kk = 6 ∨ kk = 7 ∨ kk = 8 ∨ kk = 9 ∨ kk = 10 ∨ kk = 11 ∨ kk = 12 ∨ kk = 13 ∨ kk = 14 ∨ kk = 15 ∨ kk = 16 ∨ ¬ (1 ≤ kk ∧ kk ≤ 16) := by omega
  rcases hc with rfl | rfl | rfl | rfl | rfl | rfl | rfl | rfl | rfl | rfl | rfl | rfl | rfl | rfl | rfl | rfl | hn
  · obtain rfl : E = 1 := by rw [← HE.out]; unfold weighG; rw [HK.out]; rfl
    go_wp2
    go_ret
    exact ⟨rfl, h3⟩
  · obtain rfl : E = 2 := by rw [← HE.out]; unfold weighG; rw [HK.out]; rfl
    go_wp2
    go_ret
    exact ⟨rfl, h3⟩
  · obtain rfl : E = 24 := by rw [← HE.out]; unfold weighG; rw [HK.out]; rfl
    go_wp2
    go_ret
    exact ⟨rfl, h3⟩
  · obtain rfl : E = 6 := by rw [← HE.out]; unfold weighG; rw [HK.out]; rfl
    go_wp2
    go_ret
    exact ⟨rfl, h3⟩
  · obtain rfl : E = 2 := by rw [← HE.out]; unfold weighG; rw [HK.out]; rfl
    go_wp2
    go_ret
    exact ⟨rfl, h3⟩
  · obtain rfl : E = 8 := by rw [← HE.out]; unfold weighG; rw [HK.out]; rfl
    go_wp2
    go_ret
    exact ⟨rfl, h3⟩
  · obtain rfl : E = 1 := by rw [← HE.out]; unfold weighG; rw [HK.out]; rfl
    go_wp2
    go_ret
    exact ⟨rfl, h3⟩
  · obtain rfl : E = 1 := by rw [← HE.out]; unfold weighG; rw [HK.out]; rfl
    go_wp2
    go_ret
    exact ⟨rfl, h3⟩
  · obtain rfl : E = 1 := by rw [← HE.out]; unfold weighG; rw [HK.out]; rfl
    go_wp2
    go_ret
    exact ⟨rfl, h3⟩
  · obtain rfl : E = 6 := by rw [← HE.out]; unfold weighG; rw [HK.out]; rfl
    go_wp2
    go_ret
    exact ⟨rfl, h3⟩
  · obtain rfl : E = 12 := by rw [← HE.out]; unfold weighG; rw [HK.out]; rfl
    go_wp2
    go_ret
    exact ⟨rfl, h3⟩
  · obtain rfl : E = 8 := by rw [← HE.out]; unfold weighG; rw [HK.out]; rfl
    go_wp2
    go_ret
    exact ⟨rfl, h3⟩
  · obtain rfl : E = 16 := by rw [← HE.out]; unfold weighG; rw [HK.out]; rfl
    go_wp2
    go_ret
    exact ⟨rfl, h3⟩
  · by_cases h : oo = 3
    · have t3 : (oo == 3) = true := by simpa using h
      obtain rfl : E = 72 := by rw [← HE.out]; unfold weighG; rw [HK.out, HO.out, h]; rfl
      clear h
      go_wp2
      go_ret
      exact ⟨rfl, h3⟩
    · have t3 : (oo == 3) = false := by simpa using h
      obtain rfl : E = 24 := by rw [← HE.out]; unfold weighG; rw [HK.out, HO.out]; simp only [if_neg h]; rfl
      clear h
      go_wp2
      go_ret
      exact ⟨rfl, h3⟩
  · by_cases h : oo = 3
    · have t3 : (oo == 3) = true := by simpa using h
      obtain rfl : E = 80 := by rw [← HE.out]; unfold weighG; rw [HK.out, HO.out, h]; rfl
      clear h
      go_wp2
      go_ret
      exact ⟨rfl, h3⟩
    · have t3 : (oo == 3) = false := by simpa using h
      obtain rfl : E = 32 := by rw [← HE.out]; unfold weighG; rw [HK.out, HO.out]; simp only [if_neg h]; rfl
      clear h
      go_wp2
      go_ret
      exact ⟨rfl, h3⟩
  · obtain rfl : E = 40 := by rw [← HE.out]; unfold weighG; rw [HK.out]; rfl
    go_wp2
    go_ret
    exact ⟨rfl, h3⟩
  · obtain rfl : E = 0 := by
      rw [← HE.out]
      unfold weighG
      rw [HK.out]
      repeat rw [if_neg (by omega)]
      rfl
    have t1 : (kk == 1) = false := by rw [beq_eq_false_iff_ne]; omega
    have t2 : (kk == 2) = false := by rw [beq_eq_false_iff_ne]; omega
    have t3 : (kk == 3) = false := by rw [beq_eq_false_iff_ne]; omega
    have t4 : (kk == 4) = false := by rw [beq_eq_false_iff_ne]; omega
    have t5 : (kk == 5) = false := by rw [beq_eq_false_iff_ne]; omega
    have t6 : (kk == 6) = false := by rw [beq_eq_false_iff_ne]; omega
    have t7 : (kk == 7) = false := by rw [beq_eq_false_iff_ne]; omega
    have t8 : (kk == 8) = false := by rw [beq_eq_false_iff_ne]; omega
    have t9 : (kk == 9) = false := by rw [beq_eq_false_iff_ne]; omega
    have t10 : (kk == 10) = false := by rw [beq_eq_false_iff_ne]; omega
    have t11 : (kk == 11) = false := by rw [beq_eq_false_iff_ne]; omega
    have t12 : (kk == 12) = false := by rw [beq_eq_false_iff_ne]; omega
    have t13 : (kk == 13) = false := by rw [beq_eq_false_iff_ne]; omega
    have t14 : (kk == 14) = false := by rw [beq_eq_false_iff_ne]; omega
    have t15 : (kk == 15) = false := by rw [beq_eq_false_iff_ne]; omega
    have t16 : (kk == 16) = false := by rw [beq_eq_false_iff_ne]; omega
    clear hn
    go_wp2
    go_ret
    exact ⟨rfl, h3⟩

set_option maxHeartbeats 4000000 in
theorem refweight_any (ao : Option Addr) (cap : Nat) (t : List Ng) (w : World) (C : CV w ao (flatG t)) (hm : t.length * 72 ≤ 140737488355328) : Calls Try.prog 14 #[.slice ao t.length cap] w fun e w' => e = .returned (.int .i64 (weightG t : Int)) ∧ w.grownBy w' none := by
  have HC : Hid (CV w ao (flatG t)) := C
  clear C
  go_enter Try.func14, Try.ntmps14
  go_wp2
  go_loopw [3, 4] (fun s i wr => ∃ k : Nat, k ≤ t.length ∧ s = .int .i64 (weightG (t.take k) : Int) ∧ i = .int .i64 k ∧ w.grownBy wr none) (fun _ i _ => t.length - (intOf i).toNat)
  case atStart => exact ⟨0, Nat.zero_le _, rfl, rfl, World.grownBy.refl _ _⟩
  case round =>
    obtain ⟨k, hk, rfl, rfl, G⟩ := hrel
    by_cases hlt : k < t.length
    · obtain ⟨b, o, rfl, hc⟩ := (HC.out.keptNone G).ngs hlt
      have HR : Hid (wr.rangeAt b (o + k * 24) t[k].cells) := hc k hlt
      have HW := weigh12_any t[k] wr
      have HZ : Hid ((Try.prog.info? 46).map (·.size) = some t[k].cells.length) := ng_len _
      have hs := weightG_take t k hlt
      have hb1 := weightG_take_le t k
      have hb2 := weighG_le t[k]
      have HS : Hid (weightG (t.take (k + 1)) = weightG (t.take k) + weighG t[k]) := hs
      have hwr : IntKind.i64.wrap ((weightG (t.take k) : Int) + (weighG t[k] : Int)) = (weightG (t.take k) : Int) + (weighG t[k] : Int) := by rw [IntKind.wrap_i64]; omega
      generalize weightG (t.take k) = s0 at *
      generalize weighG t[k] = s1 at *
      generalize t[k].cells = cs at *
      have hl : (k : Int) < (t.length : Int) := by omega
      have z0 : (0 : Int) ≤ (k : Int) := by omega
      have w3 : IntKind.i64.wrap ((k : Int) + 1) = (k : Int) + 1 := by rw [IntKind.wrap_i64]; omega
      clear hc hs
      go_wp2_with (refine wpList_load_mid rfl 46 (.tmp 14) rfl b (o + k * 24) (by simp [Act.eval]) cs _ HR.out Try.underlying46 rfl HZ.out ?_)
      refine HW.mono ?_
      rintro e w4 ⟨rfl, K4⟩
      have G4 := grown_trans G K4
      clear K4 G HW HR
      go_wp2
      go_roundw
      case rel => exact ⟨k + 1, by omega, by rw [HS.out]; simp, by go_num, G4⟩
      case measure => simp [intOf]; omega
    · obtain rfl : k = t.length := by omega
      have hl : ¬ (t.length : Int) < (t.length : Int) := by omega
      rw [List.take_length] at *
      go_wp2
      go_ret
      exact ⟨rfl, G⟩

end Go.Proofs.Ytgoiblnddfggbaa

namespace Go.Proofs.Ytgoiblnddfggbaa
open Go.RowKit
set_option maxRecDepth 100000

/-- How many trees are left behind all nodes, if each finds its parts. -/
def leftG (n : Nat) : List Ng → Option Nat
  | [] => some n
  | x :: r => match arG x.kind with
    | none => none
    | some a => if n < a then none else leftG (n - a + 1) r
theorem starts_left : ∀ (l : List Ng) (ss : List Nat) (k : Nat), (startsG ss k l).map List.length = leftG ss.length l
  | [], ss, k => rfl
  | x :: r, ss, k => by
    simp only [startsG, leftG]
    cases arG x.kind with
    | none => rfl
    | some a =>
      simp only
      by_cases h : ss.length < a
      · rw [if_pos h, if_pos h]; rfl
      · rw [if_neg h, if_neg h]
        by_cases h0 : a = 0
        · rw [if_pos h0, starts_left r, List.length_append, h0]; rfl
        · rw [if_neg h0, starts_left r, List.length_take, Nat.min_eq_left (by omega)]

theorem long12_any (k : Int) (w : World) : Calls Try.prog 86 #[.int .i64 k] w fun e w' => e = .returned (.int .i64 (if k = 3 then 16 else 4)) ∧ w' = w := by
  by_cases h : k = 3
  · rw [if_pos h]
    subst h
    go_enter Try.func86, Try.ntmps86
    go_wp2
    go_ret
    exact ⟨rfl, rfl⟩
  · rw [if_neg h]
    have t3 : (k == 3) = false := by simpa using h
    clear h
    go_enter Try.func86, Try.ntmps86
    go_wp2
    go_ret
    exact ⟨rfl, rfl⟩

set_option maxHeartbeats 4000000 in
theorem reftree_any (ao : Option Addr) (cap : Nat) (xs : List Ng) (w : World) (C : CV w ao (flatG xs)) (hm : xs.length ≤ 140737488355328) :
    Calls Try.prog 26 #[.slice ao xs.length cap] w fun e w' => e = .returned (.bool (decide (leftG 0 xs = some 1))) ∧ w' = w := by
  have HC : Hid (CV w ao (flatG xs)) := C
  obtain ⟨E, hE⟩ : ∃ E, decide (leftG 0 xs = some 1) = E := ⟨_, rfl⟩
  rw [hE]
  have HE : Hid (decide (leftG 0 xs = some 1) = E) := hE
  clear C hE
  go_enter Try.func26, Try.ntmps26
  go_wp2
  go_loopw [3, 4] (fun l i wr => ∃ k n : Nat, k ≤ xs.length ∧ n ≤ k ∧ l = .int .i64 n ∧ i = .int .i64 k ∧ Hid (leftG n (xs.drop k) = leftG 0 xs) ∧ wr = w) (fun _ i _ => xs.length - (intOf i).toNat)
  case atStart => exact ⟨0, 0, Nat.zero_le _, Nat.zero_le _, rfl, rfl, by rw [List.drop_zero]; rfl, rfl⟩
  case round =>
    obtain ⟨k, n, hk, hn, rfl, rfl, H1, rfl⟩ := hrel
    by_cases hlt : k < xs.length
    · obtain ⟨b, off, rfl, hc⟩ := HC.out.ngs hlt
      have c0 := hc k hlt 0 (.int .i64 xs[k].kind) rfl
      rw [Nat.add_zero] at c0
      have h1 := H1.out
      rw [List.drop_eq_getElem_cons hlt] at h1
      simp only [leftG] at h1
      have hca := arity12_any xs[k].kind wr
      unfold arI at hca
      have hl : (k : Int) < (xs.length : Int) := by omega
      have z0 : (0 : Int) ≤ (k : Int) := by omega
      generalize xs[k].kind = kd at *
      cases ha : arG kd with
      | none =>
        rw [ha] at h1 hca
        simp only at h1 hca
        obtain rfl : E = false := by rw [← HE.out, ← h1]; rfl
        clear ha h1 hc H1
        go_wp2_with fail
        refine hca.mono ?_
        rintro e w4 ⟨rfl, rfl⟩
        go_wp2
        go_ret
        exact ⟨rfl, rfl⟩
      | some a =>
        rw [ha] at h1 hca
        simp only at h1 hca
        have hal := arG_le ha
        have z1 : decide ((a : Int) < 0) = false := decide_eq_false (by omega)
        by_cases hle : n < a
        · rw [if_pos hle] at h1
          obtain rfl : E = false := by rw [← HE.out, ← h1]; rfl
          have z2 : (n : Int) < (a : Int) := by omega
          clear ha h1 hc H1 hle
          go_wp2_with fail
          refine hca.mono ?_
          rintro e w4 ⟨rfl, rfl⟩
          go_wp2
          go_ret
          exact ⟨rfl, rfl⟩
        · rw [if_neg hle] at h1
          have H2 : Hid (leftG (n - a + 1) (xs.drop (k + 1)) = leftG 0 xs) := h1
          have z2 : decide ((n : Int) < (a : Int)) = false := decide_eq_false (by omega)
          have w1 : IntKind.i64.wrap ((n : Int) - (a : Int)) = (n : Int) - (a : Int) := by rw [IntKind.wrap_i64]; omega
          have w2 : IntKind.i64.wrap ((n : Int) - (a : Int) + 1) = ((n - a + 1 : Nat) : Int) := by rw [IntKind.wrap_i64]; omega
          have w3 : IntKind.i64.wrap ((k : Int) + 1) = (k : Int) + 1 := by rw [IntKind.wrap_i64]; omega
          clear ha h1 hc H1
          go_wp2_with fail
          refine hca.mono ?_
          rintro e w4 ⟨rfl, rfl⟩
          clear hca
          go_wp2
          go_roundw
          case rel => exact ⟨k + 1, n - a + 1, by omega, by omega, by go_num, by go_num, H2, trivial⟩
          case measure => simp [intOf]; omega
    · obtain rfl : k = xs.length := by omega
      have hl : ¬ (xs.length : Int) < (xs.length : Int) := by omega
      have h1 := H1.out
      rw [List.drop_length] at h1
      have hE2 : ((n : Int) == 1) = E := by
        rw [← HE.out, ← h1]
        simp only [leftG, Option.some.injEq]
        by_cases h : n = 1
        · subst h; rfl
        · rw [decide_eq_false h, beq_eq_false_iff_ne]; omega
      clear h1 H1
      go_wp2
      go_ret
      exact ⟨rfl, rfl⟩

end Go.Proofs.Ytgoiblnddfggbaa
