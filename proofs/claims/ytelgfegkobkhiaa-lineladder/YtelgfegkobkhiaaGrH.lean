/-
  Package graph as landed: taken, total, Size, Measure.
-/
import Derived.Test.YtelgfegkobkhiaaLotP16
namespace Go.Proofs.Ytelgfegkobkhiaa
open Go.RowKit
set_option maxRecDepth 100000

def takenB (g : List Bk) : Bool := (gckG g).2 == 0
theorem takenB_iff {g : List Bk} : takenB g = true ↔ (gckG g).2 = 0 := by simp [takenB]

theorem taken_any (a : Option Addr) (ca : Nat) (xs : List Bv) (w : World) (ha : GC w a xs) (hlen : ∀ x ∈ xs, x.b.code.length ≤ 4611686018427387904) :
    Calls Try.prog 48 #[.slice a xs.length ca] w fun e w' => e = .returned (.bool (takenB (gOf xs))) ∧ w.grownBy w' none := by
  have C := gcheck_any a ca xs w ha hlen
  clear ha
  go_enter Try.func48, Try.ntmps48
  go_wp2_with fail
  refine C.mono ?_
  rintro e w1 ⟨rfl, K⟩
  go_wp2
  go_ret
  exact ⟨rfl, K⟩

/-- What the ends count. -/
def priceE (p1 p2 p3 : Nat) (b : Bk) : Nat := if b.en = 1 then p1 else if b.en = 2 then p2 else p3
theorem countG_nil (f : Bk → Nat) : countG f [] = 0 := rfl
theorem countG_cons (f : Bk → Nat) (b : Bk) (g : List Bk) : countG f (b :: g) = b.code.length + f b + countG f g := by simp [countG]
theorem countG_snoc (f : Bk → Nat) (b : Bk) (g : List Bk) : countG f (g ++ [b]) = countG f g + (b.code.length + f b) := by simp [countG]
theorem countG_le (f : Bk → Nat) (m : Nat) (hf : ∀ b, f b ≤ m) : ∀ g : List Bk, countG f g ≤ codeLen g + m * g.length
  | [] => by simp [countG]
  | b :: g => by
    have := countG_le f m hf g
    have := hf b
    rw [countG_cons, codeLen_cons, List.length_cons, Nat.mul_add]
    omega
theorem countG_congr {f f' : Bk → Nat} : ∀ {g : List Bk}, (∀ b ∈ g, f b = f' b) → countG f g = countG f' g
  | [], _ => rfl
  | b :: g, h => by rw [countG_cons, countG_cons, h b (by simp), countG_congr fun c hc => h c (by simp [hc])]
theorem codeLen_take : ∀ (g : List Bk) (k : Nat), codeLen (g.take k) ≤ codeLen g
  | [], k => by simp
  | b :: g, 0 => by simp [codeLen]
  | b :: g, k + 1 => by
    have := codeLen_take g k
    rw [List.take_succ_cons, codeLen_cons, codeLen_cons]
    omega

theorem price_le {p1 p2 p3 : Nat} (h1 : p1 ≤ 3) (h2 : p2 ≤ 3) (h3 : p3 ≤ 3) (b : Bk) : priceE p1 p2 p3 b ≤ 3 := by
  unfold priceE
  split
  · exact h1
  · split
    · exact h2
    · exact h3

set_option maxHeartbeats 4000000 in
theorem total_any (p1 p2 p3 : Nat) (h1 : p1 ≤ 3) (h2 : p2 ≤ 3) (h3 : p3 ≤ 3) (a : Option Addr) (ca : Nat) (xs : List Bv) (w : World) (ha : GC w a xs) (hlen : ∀ x ∈ xs, x.b.code.length ≤ 4611686018427387904) :
    Calls Try.prog 34 #[.slice a xs.length ca, .agg #[.int .i64 0, .int .i64 (p1 : Int), .int .i64 (p2 : Int), .int .i64 (p3 : Int)]] w fun e w' => e = .returned (.tuple #[.int .i64 ((if takenB (gOf xs) = true then countG (priceE p1 p2 p3) (gOf xs) else 0 : Nat) : Int), .int .i64 (if takenB (gOf xs) = true then 0 else 155)]) ∧ w.grownBy w' none := by
  have CT := fun W (G : w.grownBy W none) => taken_any a ca xs W (ha.keptNone G) hlen
  have H : Hid (GC w a xs) := ha
  clear ha
  have V0 := GVt.alloc w 70 #[.int .i64 0, .int .i64 (p1 : Int), .int .i64 (p2 : Int), .int .i64 (p3 : Int)]
  have G0 : w.grownBy (w.alloc (.cells #[.int .i64 0, .int .i64 (p1 : Int), .int .i64 (p2 : Int), .int .i64 (p3 : Int)] 70)) none := World.grownBy_alloc _ _ _
  cases ht : takenB (gOf xs) with
  | false =>
    rw [ht] at CT
    simp only [Bool.false_eq_true, if_false]
    go_enter Try.func34, Try.ntmps34
    go_wp2_with fail
    refine (CT _ G0).mono ?_
    rintro e w1 ⟨rfl, K⟩
    go_wp2
    go_ret2
    exact ⟨rfl, grown_trans G0 K⟩
  | true =>
    rw [ht] at CT
    simp only [if_true]
    have T := taken_g (takenB_iff.1 ht)
    have HT : Hid (TakenG (gOf xs)) := T
    clear T ht
    go_enter Try.func34, Try.ntmps34
    go_wp2_with fail
    refine (CT _ G0).mono ?_
    rintro e w1 ⟨rfl, K⟩
    have V1 := V0.kept K
    have G1 := grown_trans G0 K
    clear K G0 V0 CT
    generalize w.heap.size = A at *
    go_wp2
    go_loopw [6, 14] (fun s i wr => ∃ (k : Nat), k ≤ xs.length ∧ i = .int .i64 k ∧ s = .int .i64 (countG (priceE p1 p2 p3) ((gOf xs).take k) : Int) ∧ Hid (GVt wr A 70 #[.int .i64 0, .int .i64 (p1 : Int), .int .i64 (p2 : Int), .int .i64 (p3 : Int)]) ∧ w.grownBy wr none) (fun _ i _ => xs.length - (intOf i).toNat)
    case atStart => exact ⟨0, Nat.zero_le _, rfl, by simp [countG], V1, G1⟩
    case round =>
      clear V1 G1
      obtain ⟨k, hk, rfl, rfl, HV, G⟩ := hrel
      by_cases hlt : k < xs.length
      · have hl : (k : Int) < (xs.length : Int) := by omega
        obtain ⟨b1, o1, rfl, h1'⟩ := ((H.out.keptNone G).1).blocks hlt
        have h1' := h1' k hlt
        have hT := (HT.out.ok k (by rw [gOf_len]; exact hlt)).2.1
        have hcl : codeLen ((gOf xs).take (k + 1)) ≤ 4096 := Nat.le_trans (codeLen_take _ _) HT.out.room
        have hcc := countG_le (priceE p1 p2 p3) 3 (fun b => price_le h1 h2 h3 b) ((gOf xs).take (k + 1))
        have hfew := HT.out.few
        rw [gOf_len] at hfew
        rw [List.length_take] at hcc
        have HQ' := countG_snoc (priceE p1 p2 p3) ((gOf xs)[k]'(by rw [gOf_len]; exact hlt)) ((gOf xs).take k)
        rw [List.take_append_getElem (by rw [gOf_len]; exact hlt)] at HQ'
        rw [HQ'] at hcc
        rw [show (gOf xs)[k]'(by rw [gOf_len]; exact hlt) = xs[k].b by simp [gOf]] at hT HQ' hcc
        generalize xs[k] = x at *
        obtain ⟨b, xa, xc⟩ := x
        have hcc' : countG (priceE p1 p2 p3) ((gOf xs).take k) + b.code.length ≤ 20000 := by simp only at hcc; omega
        have HQ : Hid (countG (priceE p1 p2 p3) ((gOf xs).take k) + (b.code.length + priceE p1 p2 p3 b) = countG (priceE p1 p2 p3) ((gOf xs).take (k + 1))) := HQ'.symm
        clear HQ' hcc hcl
        have c0 := h1' 0 _ rfl
        have c1 := h1' 1 _ rfl
        have c2 := h1' 2 _ rfl
        have c3 := h1' 3 _ rfl
        have c4 := h1' 4 _ rfl
        have c5 := h1' 5 _ rfl
        have c6 := h1' 6 _ rfl
        have c7 := h1' 7 _ rfl
        clear h1'
        rw [Nat.add_zero] at c0
        have hen := ends_cases hT
        obtain ⟨code, en, ⟨ic, it, jf, ik⟩, yes, no⟩ := b
        simp only at c0 c1 c2 c3 c4 c5 c6 c7 hen hcc'
        clear hT
        generalize countG (priceE p1 p2 p3) ((gOf xs).take k) = S at *
        rcases hen with rfl | rfl | rfl
        · skip
          have V1 := GVt.alloc wr 47 #[.slice xa code.length xc, .int .i64 1, .int .u16 (ic.toNat : Int), .int .u8 (it.toNat : Int), .int .u8 (jf.toNat : Int), .int .u32 (ik.toNat : Int), .int .i64 yes, .int .i64 no]
          have G1 : wr.grownBy (wr.alloc (.cells #[.slice xa code.length xc, .int .i64 1, .int .u16 (ic.toNat : Int), .int .u8 (it.toNat : Int), .int .u8 (jf.toNat : Int), .int .u32 (ik.toNat : Int), .int .i64 yes, .int .i64 no] 47)) none := World.grownBy_alloc _ _ _
          have HP : Hid (S + (code.length + p1) = countG (priceE p1 p2 p3) ((gOf xs).take (k + 1))) := HQ.out
          have hsub : IntKind.i64.wrap ((code.length : Int) + (p1 : Int)) = (code.length : Int) + (p1 : Int) := by rw [IntKind.wrap_i64]; omega
          have hsub2 : IntKind.i64.wrap ((S : Int) + ((code.length : Int) + (p1 : Int))) = (S : Int) + ((code.length : Int) + (p1 : Int)) := by rw [IntKind.wrap_i64]; omega
          go_upto_region 7 with fail
          generalize wr.alloc (.cells #[.slice xa code.length xc, .int .i64 1, .int .u16 (ic.toNat : Int), .int .u8 (it.toNat : Int), .int .u8 (jf.toNat : Int), .int .u32 (ik.toNat : Int), .int .i64 yes, .int .i64 no] 47) = w1 at *
          generalize wr.heap.size = B at *
          have a0 : w1.cell? ⟨B, 0, none⟩ = some (.slice xa code.length xc) := V1.cell 0
          have a1 : w1.cell? ⟨B, 1, none⟩ = some (.int .i64 1) := V1.cell 1
          have V2 := HV.out.kept G1
          have d1 : w1.cell? ⟨A, 1, none⟩ = some (.int .i64 (p1 : Int)) := V2.cell 1
          have G2 := grown_trans G G1
          have HV2 : Hid _ := V2
          clear c0 c1 c2 c3 c4 c5 c6 c7 G1 G V1 V2 HV HQ
          go_region
          go_wp2
          go_roundw
          case rel => exact ⟨k + 1, by omega, by go_num, by rw [← HP.out]; push_cast; rfl, GVt.kept HV2.out (grown_drewN _ _ none), grown_trans G2 (grown_drewN _ _ none)⟩
          case measure => simp [intOf]; omega
        · skip
          have V1 := GVt.alloc wr 47 #[.slice xa code.length xc, .int .i64 2, .int .u16 (ic.toNat : Int), .int .u8 (it.toNat : Int), .int .u8 (jf.toNat : Int), .int .u32 (ik.toNat : Int), .int .i64 yes, .int .i64 no]
          have G1 : wr.grownBy (wr.alloc (.cells #[.slice xa code.length xc, .int .i64 2, .int .u16 (ic.toNat : Int), .int .u8 (it.toNat : Int), .int .u8 (jf.toNat : Int), .int .u32 (ik.toNat : Int), .int .i64 yes, .int .i64 no] 47)) none := World.grownBy_alloc _ _ _
          have HP : Hid (S + (code.length + p2) = countG (priceE p1 p2 p3) ((gOf xs).take (k + 1))) := HQ.out
          have hsub : IntKind.i64.wrap ((code.length : Int) + (p2 : Int)) = (code.length : Int) + (p2 : Int) := by rw [IntKind.wrap_i64]; omega
          have hsub2 : IntKind.i64.wrap ((S : Int) + ((code.length : Int) + (p2 : Int))) = (S : Int) + ((code.length : Int) + (p2 : Int)) := by rw [IntKind.wrap_i64]; omega
          go_upto_region 7 with fail
          generalize wr.alloc (.cells #[.slice xa code.length xc, .int .i64 2, .int .u16 (ic.toNat : Int), .int .u8 (it.toNat : Int), .int .u8 (jf.toNat : Int), .int .u32 (ik.toNat : Int), .int .i64 yes, .int .i64 no] 47) = w1 at *
          generalize wr.heap.size = B at *
          have a0 : w1.cell? ⟨B, 0, none⟩ = some (.slice xa code.length xc) := V1.cell 0
          have a1 : w1.cell? ⟨B, 1, none⟩ = some (.int .i64 2) := V1.cell 1
          have V2 := HV.out.kept G1
          have d1 : w1.cell? ⟨A, 2, none⟩ = some (.int .i64 (p2 : Int)) := V2.cell 2
          have G2 := grown_trans G G1
          have HV2 : Hid _ := V2
          clear c0 c1 c2 c3 c4 c5 c6 c7 G1 G V1 V2 HV HQ
          go_region
          go_wp2
          go_roundw
          case rel => exact ⟨k + 1, by omega, by go_num, by rw [← HP.out]; push_cast; rfl, GVt.kept HV2.out (grown_drewN _ _ none), grown_trans G2 (grown_drewN _ _ none)⟩
          case measure => simp [intOf]; omega
        · skip
          have V1 := GVt.alloc wr 47 #[.slice xa code.length xc, .int .i64 3, .int .u16 (ic.toNat : Int), .int .u8 (it.toNat : Int), .int .u8 (jf.toNat : Int), .int .u32 (ik.toNat : Int), .int .i64 yes, .int .i64 no]
          have G1 : wr.grownBy (wr.alloc (.cells #[.slice xa code.length xc, .int .i64 3, .int .u16 (ic.toNat : Int), .int .u8 (it.toNat : Int), .int .u8 (jf.toNat : Int), .int .u32 (ik.toNat : Int), .int .i64 yes, .int .i64 no] 47)) none := World.grownBy_alloc _ _ _
          have HP : Hid (S + (code.length + p3) = countG (priceE p1 p2 p3) ((gOf xs).take (k + 1))) := HQ.out
          have hsub : IntKind.i64.wrap ((code.length : Int) + (p3 : Int)) = (code.length : Int) + (p3 : Int) := by rw [IntKind.wrap_i64]; omega
          have hsub2 : IntKind.i64.wrap ((S : Int) + ((code.length : Int) + (p3 : Int))) = (S : Int) + ((code.length : Int) + (p3 : Int)) := by rw [IntKind.wrap_i64]; omega
          go_upto_region 7 with fail
          generalize wr.alloc (.cells #[.slice xa code.length xc, .int .i64 3, .int .u16 (ic.toNat : Int), .int .u8 (it.toNat : Int), .int .u8 (jf.toNat : Int), .int .u32 (ik.toNat : Int), .int .i64 yes, .int .i64 no] 47) = w1 at *
          generalize wr.heap.size = B at *
          have a0 : w1.cell? ⟨B, 0, none⟩ = some (.slice xa code.length xc) := V1.cell 0
          have a1 : w1.cell? ⟨B, 1, none⟩ = some (.int .i64 3) := V1.cell 1
          have V2 := HV.out.kept G1
          have d1 : w1.cell? ⟨A, 3, none⟩ = some (.int .i64 (p3 : Int)) := V2.cell 3
          have G2 := grown_trans G G1
          have HV2 : Hid _ := V2
          clear c0 c1 c2 c3 c4 c5 c6 c7 G1 G V1 V2 HV HQ
          go_region
          go_wp2
          go_roundw
          case rel => exact ⟨k + 1, by omega, by go_num, by rw [← HP.out]; push_cast; rfl, GVt.kept HV2.out (grown_drewN _ _ none), grown_trans G2 (grown_drewN _ _ none)⟩
          case measure => simp [intOf]; omega
      · have hl : ¬ (k : Int) < (xs.length : Int) := by omega
        have HE : Hid (countG (priceE p1 p2 p3) ((gOf xs).take k) = countG (priceE p1 p2 p3) (gOf xs)) := by
          show _ = _
          rw [List.take_of_length_le (by rw [gOf_len]; omega)]
        go_wp2
        go_ret2
        exact ⟨by rw [HE.out]; rfl, G⟩

theorem gmeasure_any (a : Option Addr) (ca : Nat) (xs : List Bv) (w : World) (ha : GC w a xs) (hlen : ∀ x ∈ xs, x.b.code.length ≤ 4611686018427387904) :
    Calls Try.prog 22 #[.slice a xs.length ca] w fun e w' => e = .returned (.tuple #[.int .i64 ((if takenB (gOf xs) = true then countG measE (gOf xs) else 0 : Nat) : Int), .int .i64 (if takenB (gOf xs) = true then 0 else 155)]) ∧ w.grownBy w' none := by
  have C := total_any 1 1 3 (by omega) (by omega) (by omega) a ca xs w ha hlen
  have e : (if takenB (gOf xs) = true then countG (priceE 1 1 3) (gOf xs) else 0) = (if takenB (gOf xs) = true then countG measE (gOf xs) else 0) := by
    cases ht : takenB (gOf xs) with
    | false => rfl
    | true =>
      simp only [if_true]
      refine countG_congr fun b hb => ?_
      obtain ⟨i, hi, rfl⟩ := List.getElem_of_mem hb
      have := ends_cases ((taken_g (takenB_iff.1 ht)).ok i hi).2.1
      unfold priceE measE
      rcases this with h | h | h
      · rw [if_pos h, if_neg (by omega)]
      · rw [if_neg (by omega), if_pos h, if_neg (by omega)]
      · rw [if_neg (by omega), if_neg (by omega), if_pos h]
  rw [e] at C
  clear e ha
  generalize (if takenB (gOf xs) = true then countG measE (gOf xs) else 0) = N at *
  generalize (if takenB (gOf xs) = true then (0 : Int) else 155) = E at *
  go_enter Try.func22, Try.ntmps22
  go_wp2_with fail
  refine C.mono ?_
  rintro e w1 ⟨rfl, K⟩
  go_wp2
  go_ret2
  exact ⟨rfl, K⟩

end Go.Proofs.Ytelgfegkobkhiaa
