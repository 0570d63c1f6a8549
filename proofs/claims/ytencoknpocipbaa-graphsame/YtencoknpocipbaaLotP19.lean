/-
  Package graph as landed: taken, total, Size, Measure. Runs through graphs: what the texts share. No Go text here.
-/
import Derived.Test.YtencoknpocipbaaLotP13
import Derived.Test.YtencoknpocipbaaLotP7
import Derived.Test.YtencoknpocipbaaLotP4
namespace Go.Proofs.Ytencoknpocipbaa
open Go.RowKit
set_option maxRecDepth 100000

def takenB (g : List Bk) : Bool := (gckG g).2 == 0
theorem takenB_iff {g : List Bk} : takenB g = true ↔ (gckG g).2 = 0 := by simp [takenB]

theorem taken_any (a : Option Addr) (ca : Nat) (xs : List Bv) (w : World) (ha : GC w a xs) (hlen : ∀ x ∈ xs, x.b.code.length ≤ 4611686018427387904) :
    Calls Try.prog 24 #[.slice a xs.length ca] w fun e w' => e = .returned (.bool (takenB (gOf xs))) ∧ w.grownBy w' none := by
  have C := gcheck_any a ca xs w ha hlen
  clear ha
  go_enter Try.func24, Try.ntmps24
  go_wp2_with fail
  refine C.mono ?_
  rintro e w1 ⟨rfl, K⟩
  go_wp2
  go_ret
  exact ⟨rfl, K⟩

/-- What the ends count. -/
def priceE (p1 p2 p3 : Nat) (b : Bk) : Nat := if b.en = 1 then p1 else if b.en = 2 then p2 else p3
theorem countG_nil (f : Bk → Nat) : countG f [] = 0 := rfl
theorem countG_cons (f : Bk → Nat) (b : Bk) (g : List Bk) : countG f (b :: g) = b.code.length + f b + countG f g := by simp [countG]
theorem countG_snoc (f : Bk → Nat) (b : Bk) (g : List Bk) : countG f (g ++ [b]) = countG f g + (b.code.length + f b) := by simp [countG]
theorem countG_le (f : Bk → Nat) (m : Nat) (hf : ∀ b, f b ≤ m) : ∀ g : List Bk, countG f g ≤ codeLen g + m * g.length
  | [] => by simp [countG]
  | b :: g => by
    have := countG_le f m hf g
    have := hf b
    rw [countG_cons, codeLen_cons, List.length_cons, Nat.mul_add]
    omega
theorem countG_congr {f f' : Bk → Nat} : ∀ {g : List Bk}, (∀ b ∈ g, f b = f' b) → countG f g = countG f' g
  | [], _ => rfl
  | b :: g, h => by rw [countG_cons, countG_cons, h b (by simp), countG_congr fun c hc => h c (by simp [hc])]
theorem codeLen_take : ∀ (g : List Bk) (k : Nat), codeLen (g.take k) ≤ codeLen g
  | [], k => by simp
  | b :: g, 0 => by simp [codeLen]
  | b :: g, k + 1 => by
    have := codeLen_take g k
    rw [List.take_succ_cons, codeLen_cons, codeLen_cons]
    omega

theorem price_le {p1 p2 p3 : Nat} (h1 : p1 ≤ 3) (h2 : p2 ≤ 3) (h3 : p3 ≤ 3) (b : Bk) : priceE p1 p2 p3 b ≤ 3 := by
  unfold priceE
  split
  · exact h1
  · split
    · exact h2
    · exact h3

set_option maxHeartbeats 4000000 in
theorem total_any (p1 p2 p3 : Nat) (h1 : p1 ≤ 3) (h2 : p2 ≤ 3) (h3 : p3 ≤ 3) (a : Option Addr) (ca : Nat) (xs : List Bv) (w : World) (ha : GC w a xs) (hlen : ∀ x ∈ xs, x.b.code.length ≤ 4611686018427387904) :
    Calls Try.prog 29 #[.slice a xs.length ca, .agg #[.int .i64 0, .int .i64 (p1 : Int), .int .i64 (p2 : Int), .int .i64 (p3 : Int)]] w fun e w' => e = .returned (.tuple #[.int .i64 ((if takenB (gOf xs) = true then countG (priceE p1 p2 p3) (gOf xs) else 0 : Nat) : Int), .int .i64 (if takenB (gOf xs) = true then 0 else 155)]) ∧ w.grownBy w' none := by
  have CT := fun W (G : w.grownBy W none) => taken_any a ca xs W (ha.keptNone G) hlen
  have H : Hid (GC w a xs) := ha
  clear ha
  have V0 := GVt.alloc w 79 #[.int .i64 0, .int .i64 (p1 : Int), .int .i64 (p2 : Int), .int .i64 (p3 : Int)]
  have G0 : w.grownBy (w.alloc (.cells #[.int .i64 0, .int .i64 (p1 : Int), .int .i64 (p2 : Int), .int .i64 (p3 : Int)] 79)) none := World.grownBy_alloc _ _ _
  cases ht : takenB (gOf xs) with
  | false =>
    rw [ht] at CT
    simp only [Bool.false_eq_true, if_false]
    go_enter Try.func29, Try.ntmps29
    go_wp2_with fail
    refine (CT _ G0).mono ?_
    rintro e w1 ⟨rfl, K⟩
    go_wp2
    go_ret2
    exact ⟨rfl, grown_trans G0 K⟩
  | true =>
    rw [ht] at CT
    simp only [if_true]
    have T := taken_g (takenB_iff.1 ht)
    have HT : Hid (TakenG (gOf xs)) := T
    clear T ht
    go_enter Try.func29, Try.ntmps29
    go_wp2_with fail
    refine (CT _ G0).mono ?_
    rintro e w1 ⟨rfl, K⟩
    have V1 := V0.kept K
    have G1 := grown_trans G0 K
    clear K G0 V0 CT
    generalize w.heap.size = A at *
    go_wp2
    go_loopw [6, 14] (fun s i wr => ∃ (k : Nat), k ≤ xs.length ∧ i = .int .i64 k ∧ s = .int .i64 (countG (priceE p1 p2 p3) ((gOf xs).take k) : Int) ∧ Hid (GVt wr A 79 #[.int .i64 0, .int .i64 (p1 : Int), .int .i64 (p2 : Int), .int .i64 (p3 : Int)]) ∧ w.grownBy wr none) (fun _ i _ => xs.length - (intOf i).toNat)
    case atStart => exact ⟨0, Nat.zero_le _, rfl, by simp [countG], V1, G1⟩
    case round =>
      clear V1 G1
      obtain ⟨k, hk, rfl, rfl, HV, G⟩ := hrel
      by_cases hlt : k < xs.length
      · have hl : (k : Int) < (xs.length : Int) := by omega
        obtain ⟨b1, o1, rfl, h1'⟩ := ((H.out.keptNone G).1).blocks hlt
        have h1' := h1' k hlt
        have hT := (HT.out.ok k (by rw [gOf_len]; exact hlt)).2.1
        have hcl : codeLen ((gOf xs).take (k + 1)) ≤ 4096 := Nat.le_trans (codeLen_take _ _) HT.out.room
        have hcc := countG_le (priceE p1 p2 p3) 3 (fun b => price_le h1 h2 h3 b) ((gOf xs).take (k + 1))
        have hfew := HT.out.few
        rw [gOf_len] at hfew
        rw [List.length_take] at hcc
        have HQ' := countG_snoc (priceE p1 p2 p3) ((gOf xs)[k]'(by rw [gOf_len]; exact hlt)) ((gOf xs).take k)
        rw [List.take_append_getElem (by rw [gOf_len]; exact hlt)] at HQ'
        rw [HQ'] at hcc
        rw [show (gOf xs)[k]'(by rw [gOf_len]; exact hlt) = xs[k].b by simp [gOf]] at hT HQ' hcc
        generalize xs[k] = x at *
        obtain ⟨b, xa, xc⟩ := x
        have hcc' : countG (priceE p1 p2 p3) ((gOf xs).take k) + b.code.length ≤ 20000 := by simp only at hcc; omega
        have HQ : Hid (countG (priceE p1 p2 p3) ((gOf xs).take k) + (b.code.length + priceE p1 p2 p3 b) = countG (priceE p1 p2 p3) ((gOf xs).take (k + 1))) := HQ'.symm
        clear HQ' hcc hcl
        have c0 := h1' 0 _ rfl
        have c1 := h1' 1 _ rfl
        have c2 := h1' 2 _ rfl
        have c3 := h1' 3 _ rfl
        have c4 := h1' 4 _ rfl
        have c5 := h1' 5 _ rfl
        have c6 := h1' 6 _ rfl
        have c7 := h1' 7 _ rfl
        clear h1'
        rw [Nat.add_zero] at c0
        have hen := ends_cases hT
        obtain ⟨code, en, ⟨ic, it, jf, ik⟩, yes, no⟩ := b
        simp only at c0 c1 c2 c3 c4 c5 c6 c7 hen hcc'
        clear hT
        generalize countG (priceE p1 p2 p3) ((gOf xs).take k) = S at *
        rcases hen with rfl | rfl | rfl
        · skip
          have V1 := GVt.alloc wr 48 #[.slice xa code.length xc, .int .i64 1, .int .u16 (ic.toNat : Int), .int .u8 (it.toNat : Int), .int .u8 (jf.toNat : Int), .int .u32 (ik.toNat : Int), .int .i64 yes, .int .i64 no]
          have G1 : wr.grownBy (wr.alloc (.cells #[.slice xa code.length xc, .int .i64 1, .int .u16 (ic.toNat : Int), .int .u8 (it.toNat : Int), .int .u8 (jf.toNat : Int), .int .u32 (ik.toNat : Int), .int .i64 yes, .int .i64 no] 48)) none := World.grownBy_alloc _ _ _
          have HP : Hid (S + (code.length + p1) = countG (priceE p1 p2 p3) ((gOf xs).take (k + 1))) := HQ.out
          have hsub : IntKind.i64.wrap ((code.length : Int) + (p1 : Int)) = (code.length : Int) + (p1 : Int) := by rw [IntKind.wrap_i64]; omega
          have hsub2 : IntKind.i64.wrap ((S : Int) + ((code.length : Int) + (p1 : Int))) = (S : Int) + ((code.length : Int) + (p1 : Int)) := by rw [IntKind.wrap_i64]; omega
          go_upto_region 7 with fail
          generalize wr.alloc (.cells #[.slice xa code.length xc, .int .i64 1, .int .u16 (ic.toNat : Int), .int .u8 (it.toNat : Int), .int .u8 (jf.toNat : Int), .int .u32 (ik.toNat : Int), .int .i64 yes, .int .i64 no] 48) = w1 at *
          generalize wr.heap.size = B at *
          have a0 : w1.cell? ⟨B, 0, none⟩ = some (.slice xa code.length xc) := V1.cell 0
          have a1 : w1.cell? ⟨B, 1, none⟩ = some (.int .i64 1) := V1.cell 1
          have V2 := HV.out.kept G1
          have d1 : w1.cell? ⟨A, 1, none⟩ = some (.int .i64 (p1 : Int)) := V2.cell 1
          have G2 := grown_trans G G1
          have HV2 : Hid _ := V2
          clear c0 c1 c2 c3 c4 c5 c6 c7 G1 G V1 V2 HV HQ
          go_region
          go_wp2
          go_roundw
          case rel => exact ⟨k + 1, by omega, by go_num, by rw [← HP.out]; push_cast; rfl, GVt.kept HV2.out (grown_drewN _ _ none), grown_trans G2 (grown_drewN _ _ none)⟩
          case measure => simp [intOf]; omega
        · skip
          have V1 := GVt.alloc wr 48 #[.slice xa code.length xc, .int .i64 2, .int .u16 (ic.toNat : Int), .int .u8 (it.toNat : Int), .int .u8 (jf.toNat : Int), .int .u32 (ik.toNat : Int), .int .i64 yes, .int .i64 no]
          have G1 : wr.grownBy (wr.alloc (.cells #[.slice xa code.length xc, .int .i64 2, .int .u16 (ic.toNat : Int), .int .u8 (it.toNat : Int), .int .u8 (jf.toNat : Int), .int .u32 (ik.toNat : Int), .int .i64 yes, .int .i64 no] 48)) none := World.grownBy_alloc _ _ _
          have HP : Hid (S + (code.length + p2) = countG (priceE p1 p2 p3) ((gOf xs).take (k + 1))) := HQ.out
          have hsub : IntKind.i64.wrap ((code.length : Int) + (p2 : Int)) = (code.length : Int) + (p2 : Int) := by rw [IntKind.wrap_i64]; omega
          have hsub2 : IntKind.i64.wrap ((S : Int) + ((code.length : Int) + (p2 : Int))) = (S : Int) + ((code.length : Int) + (p2 : Int)) := by rw [IntKind.wrap_i64]; omega
          go_upto_region 7 with fail
          generalize wr.alloc (.cells #[.slice xa code.length xc, .int .i64 2, .int .u16 (ic.toNat : Int), .int .u8 (it.toNat : Int), .int .u8 (jf.toNat : Int), .int .u32 (ik.toNat : Int), .int .i64 yes, .int .i64 no] 48) = w1 at *
          generalize wr.heap.size = B at *
          have a0 : w1.cell? ⟨B, 0, none⟩ = some (.slice xa code.length xc) := V1.cell 0
          have a1 : w1.cell? ⟨B, 1, none⟩ = some (.int .i64 2) := V1.cell 1
          have V2 := HV.out.kept G1
          have d1 : w1.cell? ⟨A, 2, none⟩ = some (.int .i64 (p2 : Int)) := V2.cell 2
          have G2 := grown_trans G G1
          have HV2 : Hid _ := V2
          clear c0 c1 c2 c3 c4 c5 c6 c7 G1 G V1 V2 HV HQ
          go_region
          go_wp2
          go_roundw
          case rel => exact ⟨k + 1, by omega, by go_num, by rw [← HP.out]; push_cast; rfl, GVt.kept HV2.out (grown_drewN _ _ none), grown_trans G2 (grown_drewN _ _ none)⟩
          case measure => simp [intOf]; omega
        · skip
          have V1 := GVt.alloc wr 48 #[.slice xa code.length xc, .int .i64 3, .int .u16 (ic.toNat : Int), .int .u8 (it.toNat : Int), .int .u8 (jf.toNat : Int), .int .u32 (ik.toNat : Int), .int .i64 yes, .int .i64 no]
          have G1 : wr.grownBy (wr.alloc (.cells #[.slice xa code.length xc, .int .i64 3, .int .u16 (ic.toNat : Int), .int .u8 (it.toNat : Int), .int .u8 (jf.toNat : Int), .int .u32 (ik.toNat : Int), .int .i64 yes, .int .i64 no] 48)) none := World.grownBy_alloc _ _ _
          have HP : Hid (S + (code.length + p3) = countG (priceE p1 p2 p3) ((gOf xs).take (k + 1))) := HQ.out
          have hsub : IntKind.i64.wrap ((code.length : Int) + (p3 : Int)) = (code.length : Int) + (p3 : Int) := by rw [IntKind.wrap_i64]; omega
          have hsub2 : IntKind.i64.wrap ((S : Int) + ((code.length : Int) + (p3 : Int))) = (S : Int) + ((code.length : Int) + (p3 : Int)) := by rw [IntKind.wrap_i64]; omega
          go_upto_region 7 with fail
          generalize wr.alloc (.cells #[.slice xa code.length xc, .int .i64 3, .int .u16 (ic.toNat : Int), .int .u8 (it.toNat : Int), .int .u8 (jf.toNat : Int), .int .u32 (ik.toNat : Int), .int .i64 yes, .int .i64 no] 48) = w1 at *
          generalize wr.heap.size = B at *
          have a0 : w1.cell? ⟨B, 0, none⟩ = some (.slice xa code.length xc) := V1.cell 0
          have a1 : w1.cell? ⟨B, 1, none⟩ = some (.int .i64 3) := V1.cell 1
          have V2 := HV.out.kept G1
          have d1 : w1.cell? ⟨A, 3, none⟩ = some (.int .i64 (p3 : Int)) := V2.cell 3
          have G2 := grown_trans G G1
          have HV2 : Hid _ := V2
          clear c0 c1 c2 c3 c4 c5 c6 c7 G1 G V1 V2 HV HQ
          go_region
          go_wp2
          go_roundw
          case rel => exact ⟨k + 1, by omega, by go_num, by rw [← HP.out]; push_cast; rfl, GVt.kept HV2.out (grown_drewN _ _ none), grown_trans G2 (grown_drewN _ _ none)⟩
          case measure => simp [intOf]; omega
      · have hl : ¬ (k : Int) < (xs.length : Int) := by omega
        have HE : Hid (countG (priceE p1 p2 p3) ((gOf xs).take k) = countG (priceE p1 p2 p3) (gOf xs)) := by
          show _ = _
          rw [List.take_of_length_le (by rw [gOf_len]; omega)]
        go_wp2
        go_ret2
        exact ⟨by rw [HE.out]; rfl, G⟩

theorem gsize_any (a : Option Addr) (ca : Nat) (xs : List Bv) (w : World) (ha : GC w a xs) (hlen : ∀ x ∈ xs, x.b.code.length ≤ 4611686018427387904) :
    Calls Try.prog 16 #[.slice a xs.length ca] w fun e w' => e = .returned (.tuple #[.int .i64 ((if takenB (gOf xs) = true then countG sizeE (gOf xs) else 0 : Nat) : Int), .int .i64 (if takenB (gOf xs) = true then 0 else 155)]) ∧ w.grownBy w' none := by
  have C := total_any 1 0 1 (by omega) (by omega) (by omega) a ca xs w ha hlen
  have e : (if takenB (gOf xs) = true then countG (priceE 1 0 1) (gOf xs) else 0) = (if takenB (gOf xs) = true then countG sizeE (gOf xs) else 0) := by
    split
    · refine countG_congr fun b _ => ?_
      unfold priceE sizeE
      by_cases h1 : b.en = 1
      · rw [if_pos h1, if_neg (by omega)]
      · rw [if_neg h1]
    · rfl
  rw [e] at C
  clear e ha
  generalize (if takenB (gOf xs) = true then countG sizeE (gOf xs) else 0) = N at *
  generalize (if takenB (gOf xs) = true then (0 : Int) else 155) = E at *
  go_enter Try.func16, Try.ntmps16
  go_wp2_with fail
  refine C.mono ?_
  rintro e w1 ⟨rfl, K⟩
  go_wp2
  go_ret2
  exact ⟨rfl, K⟩

theorem gmeasure_any (a : Option Addr) (ca : Nat) (xs : List Bv) (w : World) (ha : GC w a xs) (hlen : ∀ x ∈ xs, x.b.code.length ≤ 4611686018427387904) :
    Calls Try.prog 17 #[.slice a xs.length ca] w fun e w' => e = .returned (.tuple #[.int .i64 ((if takenB (gOf xs) = true then countG measE (gOf xs) else 0 : Nat) : Int), .int .i64 (if takenB (gOf xs) = true then 0 else 155)]) ∧ w.grownBy w' none := by
  have C := total_any 1 1 3 (by omega) (by omega) (by omega) a ca xs w ha hlen
  have e : (if takenB (gOf xs) = true then countG (priceE 1 1 3) (gOf xs) else 0) = (if takenB (gOf xs) = true then countG measE (gOf xs) else 0) := by
    cases ht : takenB (gOf xs) with
    | false => rfl
    | true =>
      simp only [if_true]
      refine countG_congr fun b hb => ?_
      obtain ⟨i, hi, rfl⟩ := List.getElem_of_mem hb
      have := ends_cases ((taken_g (takenB_iff.1 ht)).ok i hi).2.1
      unfold priceE measE
      rcases this with h | h | h
      · rw [if_pos h, if_neg (by omega)]
      · rw [if_neg (by omega), if_pos h, if_neg (by omega)]
      · rw [if_neg (by omega), if_neg (by omega), if_pos h]
  rw [e] at C
  clear e ha
  generalize (if takenB (gOf xs) = true then countG measE (gOf xs) else 0) = N at *
  generalize (if takenB (gOf xs) = true then (0 : Int) else 155) = E at *
  go_enter Try.func17, Try.ntmps17
  go_wp2_with fail
  refine C.mono ?_
  rintro e w1 ⟨rfl, K⟩
  go_wp2
  go_ret2
  exact ⟨rfl, K⟩

end Go.Proofs.Ytencoknpocipbaa

namespace Go.Proofs.Ytencoknpocipbaa
open Go.RowKit
set_option maxRecDepth 100000

theorem fault_safe15 {c : Int} {k : Nat} (h : faultV c k = 0) : knownB c = true ∧ (memB c = true → k < 16) := by
  unfold faultV at h
  split at h
  · simp at h
  · rename_i hk
    split at h
    · simp at h
    · rename_i hm
      refine ⟨by simpa using hk, fun hh => ?_⟩
      simp only [hh, Bool.true_and, decide_eq_true_eq] at hm
      omega

theorem leaves_ret {x : In} (h : leavesB x = false) (hk : knownB x.code.toNat = true) : (((x.code.toNat : Int) == 6) = false) ∧ ((x.code.toNat : Int) == 22) = false := by
  simp only [leavesB, classV, hk, if_true, Bool.or_eq_false_iff, beq_eq_false_iff_ne] at h
  constructor
  · rw [beq_eq_false_iff_ne]
    intro e
    rw [e] at h
    exact h.2 rfl
  · rw [beq_eq_false_iff_ne]
    intro e
    rw [e] at h
    exact h.2 rfl

def addC (j : Nat) (r : Mc × Int × Nat) : Mc × Int × Nat := (r.1, r.2.1, j + r.2.2)

theorem codeF_step {pk : List UInt8} {xs : List In} {j : Nat} (hj : j < xs.length) (M : Mc) : codeF pk (xs.drop j) M = if (stepV xs[j].code.toNat xs[j].k.toNat pk M).2 = 0 then addC 1 (codeF pk (xs.drop (j + 1)) (stepV xs[j].code.toNat xs[j].k.toNat pk M).1) else ((stepV xs[j].code.toNat xs[j].k.toNat pk M).1, (stepV xs[j].code.toNat xs[j].k.toNat pk M).2, 1) := by
  rw [List.drop_eq_getElem_cons hj, codeF]
  simp only [addC, Nat.add_comm 1]

theorem codeF_over {pk : List UInt8} {xs : List In} {j : Nat} (hj : ¬ j < xs.length) (M : Mc) : codeF pk (xs.drop j) M = (M, 0, 0) := by
  rw [List.drop_eq_nil_of_le (by omega), codeF]

theorem codeF_le {pk : List UInt8} : ∀ (xs : List In) (M : Mc), (codeF pk xs M).2.2 ≤ xs.length
  | [], _ => by simp [codeF]
  | x :: r, M => by
    have := codeF_le (pk := pk) r (stepV x.code.toNat x.k.toNat pk M).1
    rw [codeF]
    split
    · simp only [List.length_cons]
      omega
    · simp

theorem goG_eq {g : List Bk} {pk : List UInt8} {f k : Nat} {M : Mc} (hk : k < g.length) (r : Mc × Int × Nat) (hr : codeF pk g[k].code M = r) : goG g pk (f + 1) k M =
    if r.2.1 ≠ 0 then (0, r.2.1, r.2.2) else if g[k].en = 1 then (giveV g[k].last r.1, 0, r.2.2 + 1) else if g[k].en = 2 then addS r.2.2 (goG g pk f g[k].yes.toNat r.1)
    else addS (r.2.2 + 1) (goG g pk f (if asksV g[k].last r.1 = true then g[k].yes else g[k].no).toNat r.1) := by
  subst hr
  have e : g.getD k bk0 = g[k] := by rw [List.getD_eq_getElem?_getD, List.getElem?_eq_getElem hk]; rfl
  rw [goG, e]

theorem codeF_ok {pk : List UInt8} (hp : pk.length ≤ 4294967295) : ∀ (xs : List In) (M : Mc), M.ok → (codeF pk xs M).1.ok
  | [], _, h => h
  | x :: r, M, h => by
    have h1 : (stepV x.code.toNat x.k.toNat pk M).1.ok := stepV_ok h (by have := x.k.toNat_lt; omega) hp
    rw [codeF]
    split
    · exact codeF_ok hp r _ h1
    · exact h1

theorem codeLen_mono (g : List Bk) : ∀ {i j : Nat}, i ≤ j → codeLen (g.take i) ≤ codeLen (g.take j) := by
  intro i j h
  have := codeLen_take (g.take j) i
  rwa [List.take_take, Nat.min_eq_left h] at this

theorem codeLen_succ {g : List Bk} {k : Nat} (hk : k < g.length) : codeLen (g.take (k + 1)) = codeLen (g.take k) + g[k].code.length := by
  rw [← List.take_append_getElem hk, codeLen, codeLen, List.map_append, List.sum_append, List.map_cons, List.map_nil, List.sum_cons, List.sum_nil, Nat.add_zero]

theorem addS_addS (i j : Nat) (r : Nat × Int × Nat) : addS i (addS j r) = addS (i + j) r := by simp only [addS, Nat.add_assoc]

theorem uses_jump {c : Int} (h : usesJ c = true) : jumpB c = true := by
  simp only [usesJ, Bool.and_eq_true] at h
  exact h.2

theorem size36 : (Try.prog.info? 36).map (·.size) = some 3 := by kernel_rfl

abbrev verA (v : Nat) (f : Int) (s : Nat) : Array Value := #[.int .u32 (v : Int), .int .i64 f, .int .i64 (s : Int)]

/-- What a run through a graph ends with. -/
def GEnd (w : World) (r : Nat × Int × Nat) (E : Int) (e : Ending) (w' : World) : Prop := e = .returned (.tuple #[.agg #[.int .u32 (r.1 : Int), .int .i64 r.2.1, .int .i64 (r.2.2 : Int)], .int .i64 E]) ∧ w.grownBy w' none

end Go.Proofs.Ytencoknpocipbaa
