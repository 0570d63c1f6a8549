/-
  Package graph as landed: the blocks of a program. The document's own Check of a graph. The document's own last and begins.
-/
import Derived.Test.YtencoknpocipbaaGrQ
import Derived.Test.YtencoknpocipbaaLotP13
namespace Go.Proofs.Ytencoknpocipbaa
open Go.RowKit
set_option maxRecDepth 100000

/-- The block of the instructions from one place to another, of a program that is taken. -/
theorem block_any (b o ca fr i g cap : Nat) (xs : List In) (nm : Nat → Nat) (w : World) (ha : CV w (some ⟨b, o, none⟩) (flat xs)) (hca : xs.length ≤ ca) (hT : (checkV xs).2 = 0) (hi : i < xs.length) (hfr : fr ≤ i)
    (hg : ∀ j, j ≤ xs.length → w.cell? ⟨g, j, none⟩ = some (.int .i64 (nm j : Int))) :
    Calls Try.prog 31 #[.slice (some ⟨b, o, none⟩) xs.length ca, .int .i64 (fr : Int), .int .i64 (i : Int), .slice (some ⟨g, 0, none⟩) (xs.length + 1) cap] w (BlkP w (blkV xs nm fr i xs[i])) := by
  have hn := (taken hT).2.1
  cases hlv : leavesB xs[i] with
  | false =>
    rw [blkV, if_pos hlv]
    exact block_go b o ca fr i g cap xs nm w ha hca hn hi hfr hg _ rfl hlv
  | true =>
    rw [blkV, if_neg (by rw [hlv]; simp)]
    cases h6 : (classV xs[i].code.toNat == 6) with
    | true =>
      rw [if_pos rfl]
      exact block_ret b o ca fr i g cap xs nm w ha hca hn hi hfr hg _ rfl hlv (by simpa using h6)
    | false =>
      have h5 : classV xs[i].code.toNat = 5 := by
        have := hlv
        rw [leavesB, h6, Bool.or_false] at this
        simpa using this
      obtain ⟨hy, hno, -⟩ := goals_in hT hi h5
      rw [if_neg (by simp)]
      cases hja : ((xs[i].code.toNat : Int) == 5) with
      | true =>
        rw [if_pos rfl]
        exact block_ja b o ca fr i g cap xs nm w ha hca hn hi hfr hg _ rfl hlv h5 hy hno hja
      | false =>
        rw [if_neg (by simp)]
        exact block_test b o ca fr i g cap xs nm w ha hca hn hi hfr hg _ rfl hlv h5 hy hno hja

/-- Where the next block begins, and the blocks up to there. -/
def ofTo (xs : List In) (nm : Nat → Nat) : Nat → Nat × List Bk
  | 0 => (0, [])
  | k + 1 => if nm (k + 1) = nm k then ofTo xs nm k else (k + 1, (ofTo xs nm k).2 ++ [blkV xs nm (ofTo xs nm k).1 k (xs.getD k zIn)])
/-- P15.4. -/
def ofG (xs : List In) : List Bk := if (checkV xs).2 = 0 then (ofTo xs (numN (begTo xs xs.length)) xs.length).2 else []
def ofE (xs : List In) : Int := if (checkV xs).2 = 0 then 0 else 155
theorem ofTo_from (xs : List In) (nm : Nat → Nat) (k : Nat) : (ofTo xs nm k).1 ≤ k := by
  induction k with
  | zero => exact Nat.le_refl _
  | succ k ih => 
    rw [ofTo]
    split
    · omega
    · exact Nat.le_refl _
theorem ofTo_len (xs : List In) (nm : Nat → Nat) (k : Nat) : (ofTo xs nm k).2.length ≤ k := by
  induction k with
  | zero => exact Nat.le_refl _
  | succ k ih => 
    rw [ofTo]
    split
    · omega
    · simp only [List.length_append, List.length_singleton]
      omega

/-- Blocks that are owned, each Code in memory of its own. -/
def BLv (w : World) (base : Nat) (v : Value) (xs : List Bv) : Prop :=
  w.ownsRow base 48 8 v xs.length (flatB xs) ∧ (∀ x ∈ xs, IOwns w base (.slice x.a x.b.code.length x.ca) x.b.code) ∧ xs.Pairwise (fun x y => ∀ z, (x.a.map (·.block)) = some z → (y.a.map (·.block)) ≠ some z)
theorem BLv.nil (w : World) (base : Nat) : BLv w base (.slice none 0 0) [] := ⟨World.ownsRow_nil _ _ _ _, fun x hx => (by cases hx), List.Pairwise.nil⟩
theorem BLv.keptNone {w w' : World} {base : Nat} {v : Value} {xs : List Bv} (h : BLv w base v xs) (G : w.grownBy w' none) : BLv w' base v xs := ⟨owns_keptNone h.1 G, fun x hx => owns_keptNone (h.2.1 x hx) G, h.2.2⟩
theorem BLv.gc {w : World} {base : Nat} {v : Value} {xs : List Bv} (h : BLv w base v xs) : ∃ ao cap, v = .slice ao xs.length cap ∧ GC w ao xs ∧ (ao = none → cap = 0) := by
  obtain ⟨ao, cap, hv, hc, -, -, h0, -⟩ := cv_of_row h.1
  refine ⟨ao, cap, hv, ⟨hc, fun x hx => ?_⟩, h0⟩
  obtain ⟨a2, c2, hv2, hc2, hl2, -, h02, -⟩ := cv_of_row (h.2.1 x hx)
  simp only [Value.slice.injEq] at hv2
  obtain ⟨rfl, -, rfl⟩ := hv2
  exact ⟨hc2, hl2, h02⟩

theorem lit_block (w : World) (x : Bv) : CV (w.alloc (.cells (bkA x.b x.a x.ca) 48)) (some ⟨w.heap.size, 0, none⟩) (flatB [x]) := cv_lit w 48 (flatB [x])

/-- Rows of two kinds of elements: the one stays where the other is written. -/
theorem kinds15 {w w' : World} {base base' e e' size size' n n' : Nat} {v v' : Value} {vs vs' : List Value} (h : w.ownsRow base e size v n vs) (O : w.ownsRow base' e' size' v' n' vs') (he : e ≠ e') (K : w.grownBy w' v'.ownBlock) : w'.ownsRow base e size v n vs := by
  refine h.kept K ?_
  rcases h.2 with ⟨rfl, -⟩ | ⟨g, cap, cur, rfl, -, hg, -⟩
  · exact .inl rfl
  · right
    intro hh
    rcases O.2 with ⟨rfl, -⟩ | ⟨g', cap', cur', rfl, -, hg', -⟩
    · cases hh
    · simp only [Value.ownBlock, Option.some.injEq] at hh
      subst hh
      rw [hg] at hg'
      simp only [Option.some.injEq, Obj.cells.injEq] at hg'
      exact he hg'.2.1

theorem info48 : (Try.prog.info? 48).map (fun i => (i.zero, i.size, i.bytes)) = some (some (.agg #[.slice none 0 0, .int .i64 0, .int .u16 0, .int .u8 0, .int .u8 0, .int .u32 0, .int .i64 0, .int .i64 0]), 8, 56) := by kernel_rfl

/-- One block more. -/
theorem BLv.push {w w' : World} {base : Nat} {v v' : Value} {xs : List Bv} {x : Bv} (h : BLv w base v xs) (hx : IOwns w base (.slice x.a x.b.code.length x.ca) x.b.code) (hap : ∀ y ∈ xs, ∀ z, (y.a.map (·.block)) = some z → (x.a.map (·.block)) ≠ some z)
    (O : w'.ownsRow base 48 8 v' (xs.length + 1) (flatB xs ++ flatB [x])) (K : w.grownBy w' v.ownBlock) : BLv w' base v' (xs ++ [x]) := by
  refine ⟨by rw [List.length_append, flatB_append]; exact O, fun y hy => ?_, ?_⟩
  · have hne : (46 : Nat) ≠ 48 := by decide
    rcases List.mem_append.1 hy with hy | hy
    · exact kinds15 (h.2.1 y hy) h.1 hne K
    · simp only [List.mem_singleton] at hy
      subst hy
      exact kinds15 hx h.1 hne K
  · refine List.pairwise_append.2 ⟨h.2.2, List.pairwise_singleton _ _, fun y hy z hz => ?_⟩
    simp only [List.mem_singleton] at hz
    subst hz
    exact hap y hy

theorem bldb (x : Bv) (W : World) : (Instr.buildSlice 29 1 #[(0, bkV x.b x.a x.ca)]).run Try.prog W = .ok (.slice (some ⟨W.heap.size, 0, none⟩) 1 1) (W.alloc (.cells (bkA x.b x.a x.ca) 48)) := by kernel_rfl

/-- Blocks that are handed out. -/
def BlksP (w : World) (gs : List Bk) (e : Ending) (w' : World) : Prop := ∃ v vs, e = .returned v ∧ BLv w' w.heap.size v vs ∧ gOf vs = gs ∧ w.grownBy w' none

set_option maxHeartbeats 4000000 in
theorem blocks_any (a : Option Addr) (ca : Nat) (xs : List In) (w : World) (ha : CV w a (flat xs)) (hca : xs.length ≤ ca) (hT : (checkV xs).2 = 0) :
    Calls Try.prog 18 #[.slice a xs.length ca] w (BlksP w (ofTo xs (numN (begTo xs xs.length)) xs.length).2) := by
  obtain ⟨i0, hi, hz0, hz1, hz2⟩ := info_parts info48
  have CN := numbers_any a ca xs w ha hT
  have hn := (taken hT).2.1
  have hn0 := (taken hT).1
  obtain ⟨b1, o1, rfl, -⟩ := ha.insns hn0
  have HB : Hid (∀ (W : World) (fr i g cap : Nat) (hi : i < xs.length), w.grownBy W none → fr ≤ i → (∀ j, j ≤ xs.length → W.cell? ⟨g, j, none⟩ = some (.int .i64 (numN (begTo xs xs.length) j : Int))) → Calls Try.prog 31 #[.slice (some ⟨b1, o1, none⟩) xs.length ca, .int .i64 (fr : Int), .int .i64 (i : Int), .slice (some ⟨g, 0, none⟩) (xs.length + 1) cap] W (BlkP W (blkV xs (numN (begTo xs xs.length)) fr i (xs.getD i zIn)))) := fun W fr i g cap hi G hf hg => by
    rw [getD_at hi]
    exact block_any b1 o1 ca fr i g cap xs _ W (ha.keptNone G) hca hT hi hf hg
  have hnn := numN_le (begTo xs xs.length) xs.length
  clear ha hT
  generalize begTo xs xs.length = bs at *
  go_enter Try.func18, Try.ntmps18
  go_wp2_with fail
  refine CN.mono ?_
  rintro e w1 ⟨v, rfl, RN, K1⟩
  obtain ⟨g, cap, rfl, hc1, hc2, hg1, hg2⟩ := owns_head RN (by omega)
  have HN : Hid (∀ (W : World), W.ownsRow w.heap.size 3 1 (.slice (some ⟨g, 0, none⟩) (xs.length + 1) cap) (xs.length + 1) ((numL bs (xs.length + 1) (xs.length + 1)).map nv) → ∀ j, j ≤ xs.length → W.cell? ⟨g, j, none⟩ = some (.int .i64 (numN bs j : Int))) := fun W h j hj => by
    have := h.cells (g := g) rfl j (nv (numN bs j)) (by rw [List.getElem?_map, numL_get (by omega) (by omega)]; rfl)
    rw [Addr.add_lit, Nat.zero_add] at this
    exact this
  have c1 := HN.out w1 RN xs.length (Nat.le_refl _)
  have h1 : (xs.length : Int) < (xs.length : Int) + 1 := by omega
  generalize hnb : numN bs xs.length = nb at *
  go_wp2_with (at_make; refine wpList_make_own _ rfl (.const (.int .i64 0)) (.tmp 13) 29 rfl w.heap.size 48 i0 _ 8 Try.underlying29 hi hz0 hz1 .i64 .i64 (nb : Int) nb rfl rfl (by omega) ?q1 ?q2 ?q3 ?q4)
  case q1 => rw [hz2]; omega
  case q2 => unfold maxLen; omega
  case q3 => exact K1.size
  case q4 =>
    intro w2 O2 K2
    have RN2 := owns_keptNone RN K2
    have G2 := grown_trans K1 K2
    have B2 : BLv w2 w.heap.size (.slice (some ⟨w1.heap.size, 0, none⟩) 0 nb) [] := ⟨O2, fun x hx => (by cases hx), List.Pairwise.nil⟩
    clear RN K1 K2 O2 c1 CN
    generalize w1.heap.size = g0 at *
    go_wp2
    go_loopw [4, 5, 17] (fun o f i wr => ∃ (k : Nat) (vs : List Bv), k ≤ xs.length ∧ i = .int .i64 k ∧ f = .int .i64 ((ofTo xs (numN bs) k).1 : Int) ∧ Hid (gOf vs = (ofTo xs (numN bs) k).2) ∧ BLv wr w.heap.size o vs ∧ wr.ownsRow w.heap.size 3 1 (.slice (some ⟨g, 0, none⟩) (xs.length + 1) cap) (xs.length + 1) ((numL bs (xs.length + 1) (xs.length + 1)).map nv) ∧ w.grownBy wr none) (fun _ _ i _ => xs.length - (intOf i).toNat)
    case atStart => exact ⟨0, [], Nat.zero_le _, rfl, rfl, rfl, B2, RN2, G2⟩
    case round =>
      clear B2 RN2 G2
      obtain ⟨k, vs, hk, rfl, rfl, HV, B, RN, G⟩ := hrel
      by_cases hlt : k < xs.length
      · have hl : (k : Int) < (xs.length : Int) := by omega
        have cA := HN.out wr RN k (by omega)
        have cB := HN.out wr RN (k + 1) (by omega)
        have hk1 : (k : Int) + 1 < (xs.length : Int) + 1 := by omega
        have hk2 : (k : Int) < (xs.length : Int) + 1 := by omega
        have hkn : ((k : Int) + 1).toNat = k + 1 := by omega
        have hk8 : ¬ (k : Int) + 1 < 0 := by omega
        have hfk := ofTo_from xs (numN bs) k
        have hle := ofTo_len xs (numN bs) k
        by_cases hq : numN bs (k + 1) = numN bs k
        · have hq' : ((numN bs (k + 1) : Int) != (numN bs k : Int)) = false := by rw [hq]; simp
          have HE : Hid (ofTo xs (numN bs) (k + 1) = ofTo xs (numN bs) k) := by
            show _ = _
            rw [ofTo, if_pos hq]
          have HQ : Hid (numN bs (k + 1) = numN bs k) := hq
          clear hq
          generalize numN bs (k + 1) = n1 at *
          generalize numN bs k = n0 at *
          go_upto_region 7 with fail
          go_region
          go_wp2
          go_roundw
          case rel => exact ⟨k + 1, vs, by omega, by go_num, by rw [HE.out], by rw [HE.out]; exact HV.out, B.keptNone (grown_drewN _ _ none), owns_keptNone RN (grown_drewN _ _ none), grown_trans G (grown_drewN _ _ none)⟩
          case measure => simp [intOf]; omega
        · have hq' : ((numN bs (k + 1) : Int) != (numN bs k : Int)) = true := by rw [bne_iff_ne]; omega
          have HE : Hid (ofTo xs (numN bs) (k + 1) = (k + 1, (ofTo xs (numN bs) k).2 ++ [blkV xs (numN bs) (ofTo xs (numN bs) k).1 k (xs.getD k zIn)])) := by
            show _ = _
            rw [ofTo, if_neg hq]
          clear hq
          have CB := HB.out (wr.drewN 1) (ofTo xs (numN bs) k).1 k g cap hlt (grown_trans G (grown_drewN _ _ none)) hfk (HN.out _ (owns_keptNone RN (grown_drewN _ _ none)))
          generalize blkV xs (numN bs) (ofTo xs (numN bs) k).1 k (xs.getD k zIn) = bk at *
          have HL : Hid (vs.length ≤ 4096) := by
            have := congrArg List.length HV.out
            rw [gOf_len] at this
            show _ ≤ _
            omega
          have B' := B.keptNone (grown_drewN wr 1 none)
          have RN' := owns_keptNone RN (grown_drewN wr 1 none)
          have G' := grown_trans G (grown_drewN wr 1 none)
          generalize numN bs (k + 1) = n1 at *
          generalize numN bs k = n0 at *
          go_upto_region 7 with fail
          go_region
          rw [show wr.drew = wr.drewN 1 from rfl]
          clear cA cB B RN G
          generalize wr.drewN 1 = wd at *
          obtain ⟨ao, co, rfl, -, hoc, -, ho0, -⟩ := cv_of_row B'.1
          go_wp2_with fail
          refine CB.mono ?_
          rintro e w3 ⟨a2, c2, rfl, O3, K3⟩
          have KA : w3.grownBy (w3.alloc (.cells (bkA bk a2 c2) 48)) none := World.grownBy_alloc _ _ _
          have B4 := (B'.keptNone K3).keptNone KA
          have RN4 := owns_keptNone (owns_keptNone RN' K3) KA
          have G4 := grown_trans (grown_trans G' K3) KA
          have O4 := owns_keptNone O3 KA
          have HO4 : Hid (IOwns (w3.alloc (.cells (bkA bk a2 c2) 48)) w.heap.size (.slice a2 bk.code.length c2) bk.code) := owns_mono O4 G'.size
          have HAP : Hid (∀ y ∈ vs, ∀ z, (y.a.map (·.block)) = some z → (a2.map (·.block)) ≠ some z) := fun y hy z hz e => by
            obtain ⟨a3, c3, hv3, -, -, -, -, hl3, -⟩ := cv_of_row (B'.2.1 y hy)
            obtain ⟨a5, c5, hv5, -, -, -, -, hl5, -⟩ := cv_of_row O3
            simp only [Value.slice.injEq] at hv3 hv5
            obtain ⟨rfl, -, -⟩ := hv3
            obtain ⟨rfl, -, -⟩ := hv5
            obtain ⟨ad3, h3, rfl⟩ := Option.map_eq_some_iff.1 hz
            obtain ⟨ad5, h5, h6⟩ := Option.map_eq_some_iff.1 e
            have q3 := (hl3 ad3 h3).2
            have q5 := (hl5 ad5 h5).1
            omega
          clear O3 O4 B' RN' G' K3 KA CB
          go_wp2_with (at_builtin; refine wpList_append_cv rfl (.tmp 30) (.tmp 36) 29 rfl 48 i0 _ 8 56 Try.underlying29 hi hz0 hz1 hz2 rfl (by decide) w.heap.size _ vs.length (flatB vs) rfl ?q1 (some ⟨w3.heap.size, 0, none⟩) 1 1 (flatB [⟨bk, a2, c2⟩]) rfl rfl (fun e => by cases e) ?q2 (flatB_one _) ?q3 ?q4 ?q5 ?q6)
          case q1 => exact B4.1
          case q2 => exact lit_block w3 ⟨bk, a2, c2⟩
          case q3 => unfold maxLen; have := HL.out; omega
          case q4 => have := HL.out; omega
          case q5 => exact G4.size
          case q6 =>
            intro v' w5 h5 K5
            have B5 : BLv w5 w.heap.size v' (vs ++ [⟨bk, a2, c2⟩]) := B4.push HO4.out HAP.out h5 K5
            have RN5 := kinds15 RN4 B4.1 (by decide) K5
            have G5 := grown_trans_new G4 K5 (fun z hz => (B4.1.lt z hz).1)
            have HV5 : Hid (gOf (vs ++ [⟨bk, a2, c2⟩]) = (ofTo xs (numN bs) (k + 1)).2) := by
              show _ = _
              rw [HE.out, ← HV.out]
              simp [gOf]
            clear h5 K5 B4 RN4 G4
            go_wp2
            go_roundw
            case rel => exact ⟨k + 1, _, by omega, by go_num, by rw [HE.out]; push_cast; rfl, HV5, B5, RN5, G5⟩
            case measure => simp [intOf]; omega
      · have hl : ¬ (k : Int) < (xs.length : Int) := by omega
        have hke : k = xs.length := by omega
        subst hke
        go_wp2
        go_ret
        exact ⟨_, vs, rfl, B, HV.out, G⟩

/-- What Of hands out. -/
def OfP (w : World) (xs : List In) (e : Ending) (w' : World) : Prop := ∃ v vs, e = .returned (.tuple #[v, .int .i64 (ofE xs)]) ∧ BLv w' w.heap.size v vs ∧ gOf vs = ofG xs ∧ w.grownBy w' none

theorem of_any (a : Option Addr) (ca : Nat) (xs : List In) (w : World) (ha : CV w a (flat xs)) (hca : xs.length ≤ ca) :
    Calls Try.prog 7 #[.slice a xs.length ca] w (OfP w xs) := by
  have CC := check_any a ca xs w ha
  by_cases hz : (checkV xs).2 = 0
  · have CB := fun W (G : w.grownBy W none) => blocks_any a ca xs W (ha.keptNone G) hca hz
    have e1 : ofE xs = 0 := by rw [ofE, if_pos hz]
    have e2 : ofG xs = (ofTo xs (numN (begTo xs xs.length)) xs.length).2 := by rw [ofG, if_pos hz]
    unfold OfP
    rw [e1, e2]
    rw [hz] at CC
    generalize (ofTo xs (numN (begTo xs xs.length)) xs.length).2 = gs at *
    clear ha e1 e2 hz
    go_enter Try.func7, Try.ntmps7
    go_wp2_with fail
    refine CC.mono ?_
    rintro e w1 ⟨rfl, K1⟩
    have CB1 := CB w1 K1
    have HK1 : Hid (w.grownBy w1 none) := K1
    clear CB K1
    go_wp2_with fail
    refine CB1.mono ?_
    rintro e w2 ⟨v, vs, rfl, B, hg, K2⟩
    have HB : Hid (BLv w2 w.heap.size v vs ∧ gOf vs = gs ∧ w.grownBy w2 none) := ⟨⟨owns_mono B.1 HK1.out.size, fun x hx => owns_mono (B.2.1 x hx) HK1.out.size, B.2.2⟩, hg, grown_trans HK1.out K2⟩
    clear B hg K2 HK1 CB1
    go_wp2
    go_ret2
    exact ⟨v, vs, rfl, HB.out⟩
  · have e1 : ofE xs = 155 := by rw [ofE, if_neg hz]
    have e2 : ofG xs = [] := by rw [ofG, if_neg hz]
    unfold OfP
    rw [e1, e2]
    have hz' : ((checkV xs).2 != 0) = true := by rw [bne_iff_ne]; exact hz
    generalize checkV xs = ck at *
    clear ha e1 e2 hz
    go_enter Try.func7, Try.ntmps7
    go_wp2_with fail
    refine CC.mono ?_
    rintro e w1 ⟨rfl, K1⟩
    go_wp2
    go_ret2
    exact ⟨.slice none 0 0, [], rfl, BLv.nil _ _, rfl, K1⟩

end Go.Proofs.Ytencoknpocipbaa

namespace Go.Proofs.Ytencoknpocipbaa
open Go.RowKit
set_option maxRecDepth 100000

end Go.Proofs.Ytencoknpocipbaa

namespace Go.Proofs.Ytencoknpocipbaa
open Go.RowKit
set_option maxRecDepth 100000

theorem size1546 : (Try.prog.info? 46).map (·.size) = some 4 := by kernel_rfl

theorem setT (b : List Bool) (i j : Nat) : (b.set i true).set j true = (b.set j true).set i true := by
  by_cases h : i = j
  · subst h; rfl
  · rw [List.set_comm _ _ h]

end Go.Proofs.Ytencoknpocipbaa
