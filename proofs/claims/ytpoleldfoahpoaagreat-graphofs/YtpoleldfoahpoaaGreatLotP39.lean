/-
  The document's own last and begins. The document's own begins, of a program that is taken: as package graph's beginnings, and the first place beside. The blocks of a program, place by place: what the document's own Of goes by. No Go text here. 'append' within a statement whose order is open. The document's own Of (under way). SpoilBlocks: blocks and their Codes are written over. SpoilInsns: its block stays one; SpoilBlocks.
-/
import Derived.Test.YtpoleldfoahpoaaGreatGrR
import Derived.Test.YtpoleldfoahpoaaGreatGrU
import Derived.Test.YtpoleldfoahpoaaGreatBase
import Derived.Deep.RegionLaw
import Derived.Test.YtpoleldfoahpoaaGreatGrY
import Derived.Test.YtpoleldfoahpoaaGreatGrX
namespace Go.Proofs.YtpoleldfoahpoaaGreat
open Go.RowKit
set_option maxRecDepth 100000

theorem size1554 : (Tryz.prog.info? 54).map (·.size) = some 4 := by kernel_rfl

set_option maxHeartbeats 2000000 in
theorem reflast_any (x : In) (w : World) : Calls Tryz.prog 53 #[.agg #[.int .u16 (x.code.toNat : Int), .int .u8 (x.jt.toNat : Int), .int .u8 (x.jf.toNat : Int), .int .u32 (x.k.toNat : Int)]] w fun e w' => e = .returned (.agg #[.int .u16 ((bareV x).code.toNat : Int), .int .u8 ((bareV x).jt.toNat : Int), .int .u8 ((bareV x).jf.toNat : Int), .int .u32 ((bareV x).k.toNat : Int)]) ∧ w.grownBy w' none := by
  have V0 := VAt.alloc w 54 #[.int .u16 (x.code.toNat : Int), .int .u8 (x.jt.toNat : Int), .int .u8 (x.jf.toNat : Int), .int .u32 (x.k.toNat : Int)]
  have G0 : w.grownBy (w.alloc (.cells #[.int .u16 (x.code.toNat : Int), .int .u8 (x.jt.toNat : Int), .int .u8 (x.jf.toNat : Int), .int .u32 (x.k.toNat : Int)] 54)) none := World.grownBy_alloc _ _ _
  go_enter Tryz.func53, Tryz.ntmps53
  have VA := V0.kept (World.grownBy_alloc (w.alloc (.cells #[.int .u16 (x.code.toNat : Int), .int .u8 (x.jt.toNat : Int), .int .u8 (x.jf.toNat : Int), .int .u32 (x.k.toNat : Int)] 54)) (.cells #[.int .u16 0, .int .u8 0, .int .u8 0, .int .u32 0] 54) none)
  have VR := VAt.alloc (w.alloc (.cells #[.int .u16 (x.code.toNat : Int), .int .u8 (x.jt.toNat : Int), .int .u8 (x.jf.toNat : Int), .int .u32 (x.k.toNat : Int)] 54)) 54 #[.int .u16 0, .int .u8 0, .int .u8 0, .int .u32 0]
  have G1 := grown_trans G0 (World.grownBy_alloc (w.alloc (.cells #[.int .u16 (x.code.toNat : Int), .int .u8 (x.jt.toNat : Int), .int .u8 (x.jf.toNat : Int), .int .u32 (x.k.toNat : Int)] 54)) (.cells #[.int .u16 0, .int .u8 0, .int .u8 0, .int .u32 0] 54) none)
  rw [World.size_alloc] at VR
  go_upto_region 1 with fail
  generalize (w.alloc (.cells #[.int .u16 (x.code.toNat : Int), .int .u8 (x.jt.toNat : Int), .int .u8 (x.jf.toNat : Int), .int .u32 (x.k.toNat : Int)] 54)).alloc (.cells #[.int .u16 0, .int .u8 0, .int .u8 0, .int .u32 0] 54) = w1 at *
  obtain ⟨A, hA⟩ : ∃ A, w.heap.size = A := ⟨_, rfl⟩
  obtain ⟨R, hR⟩ : ∃ R, w.heap.size + 1 = R := ⟨_, rfl⟩
  have HAR : Hid (w.heap.size ≤ A ∧ w.heap.size ≤ R) := ⟨by omega, by omega⟩
  have hne : R ≠ A := by omega
  rw [hR] at VR ⊢
  rw [hA] at VA ⊢
  clear hA hR V0 G0
  have a0 : w1.cell? ⟨A, 0, none⟩ = some (.int .u16 (x.code.toNat : Int)) := VA.cell 0
  go_wp2_with fail
  refine (refuses_any x.code.toNat _).mono ?_
  rintro e w' ⟨rfl, rfl⟩
  have a1 : w1.cell? ⟨A, 1, none⟩ = some (.int .u8 (x.jt.toNat : Int)) := VA.cell 1
  have f1 := VA.free 1
  have VP := VA.set 1 (.int .u8 0)
  have RP := VR.setOther (k := A) (i := 1) (.int .u8 0) hne
  have GP := grown_trans_new G1 (grown_set1 w1 ⟨A, 1, none⟩ (.int .u8 0)) (fun z e => by cases e; exact HAR.out.1)
  clear VA VR G1
  go_upto_region 3 with fail
  generalize w1.setCell ⟨A, 1, none⟩ (.int .u8 0) = wp at *
  clear a0 a1 f1
  have a2 : wp.cell? ⟨A, 2, none⟩ = some (.int .u8 (x.jf.toNat : Int)) := VP.cell 2
  have f2 := VP.free 2
  have VQ := VP.set 2 (.int .u8 0)
  have RQ := RP.setOther (k := A) (i := 2) (.int .u8 0) hne
  have GQ := grown_trans_new GP (grown_set1 wp ⟨A, 2, none⟩ (.int .u8 0)) (fun z e => by cases e; exact HAR.out.1)
  clear VP RP GP
  go_upto_region 4 with fail
  generalize wp.setCell ⟨A, 2, none⟩ (.int .u8 0) = wq at *
  clear a2 f2
  cases hk : usesK x.code.toNat with
  | true =>
    have HK : Hid (usesK x.code.toNat = true) := hk
    clear hk
    have VB : VAt wq A 54 #[.int .u16 (x.code.toNat : Int), .int .u8 0, .int .u8 0, .int .u32 (x.k.toNat : Int)] := VQ
    have c0 : wq.cell? ⟨A, 0, none⟩ = some (.int .u16 (x.code.toNat : Int)) := VB.cell 0
    have c1 : wq.cell? ⟨A, 1, none⟩ = some (.int .u8 0) := VB.cell 1
    have c2 : wq.cell? ⟨A, 2, none⟩ = some (.int .u8 0) := VB.cell 2
    have c3 : wq.cell? ⟨A, 3, none⟩ = some (.int .u32 (x.k.toNat : Int)) := VB.cell 3
    go_wp2_with (refine wpList_store_row rfl 54 (.tmp 2) (.tmp 18) rfl R #[.int .u16 (x.code.toNat : Int), .int .u8 0, .int .u8 0, .int .u32 (x.k.toNat : Int)] rfl rfl 54 _ RQ size1554 rfl (by simp [Value.oneCell']) ?_)
    refine bodyPost_ret (results_cell_row rfl _ _ R _ #[.int .u16 (x.code.toNat : Int), .int .u8 0, .int .u8 0, .int .u32 (x.k.toNat : Int)] (0, 0) _ rfl (RQ.setRow _) Tryz.underlying54 rfl size1554) rfl ?_
    refine ⟨?_, vgrown_setRow GQ _ _ (.inr HAR.out.2)⟩
    simp only [bareV, HK.out]
    rfl
  | false =>
    have HK : Hid (usesK x.code.toNat = false) := hk
    clear hk
    have a3 : wq.cell? ⟨A, 3, none⟩ = some (.int .u32 (x.k.toNat : Int)) := VQ.cell 3
    have f3 := VQ.free 3
    have VS := VQ.set 3 (.int .u32 0)
    have RS := RQ.setOther (k := A) (i := 3) (.int .u32 0) hne
    have GS := grown_trans_new GQ (grown_set1 wq ⟨A, 3, none⟩ (.int .u32 0)) (fun z e => by cases e; exact HAR.out.1)
    clear VQ RQ GQ
    go_upto_region 6 with fail
    generalize wq.setCell ⟨A, 3, none⟩ (.int .u32 0) = wt at *
    clear a3 f3
    have VB : VAt wt A 54 #[.int .u16 (x.code.toNat : Int), .int .u8 0, .int .u8 0, .int .u32 0] := VS
    have c0 : wt.cell? ⟨A, 0, none⟩ = some (.int .u16 (x.code.toNat : Int)) := VB.cell 0
    have c1 : wt.cell? ⟨A, 1, none⟩ = some (.int .u8 0) := VB.cell 1
    have c2 : wt.cell? ⟨A, 2, none⟩ = some (.int .u8 0) := VB.cell 2
    have c3 : wt.cell? ⟨A, 3, none⟩ = some (.int .u32 0) := VB.cell 3
    go_wp2_with (refine wpList_store_row rfl 54 (.tmp 2) (.tmp 18) rfl R #[.int .u16 (x.code.toNat : Int), .int .u8 0, .int .u8 0, .int .u32 0] rfl rfl 54 _ RS size1554 rfl (by simp [Value.oneCell']) ?_)
    refine bodyPost_ret (results_cell_row rfl _ _ R _ #[.int .u16 (x.code.toNat : Int), .int .u8 0, .int .u8 0, .int .u32 0] (0, 0) _ rfl (RS.setRow _) Tryz.underlying54 rfl size1554) rfl ?_
    refine ⟨?_, vgrown_setRow GS _ _ (.inr HAR.out.2)⟩
    simp only [bareV, HK.out]
    rfl

theorem setT (b : List Bool) (i j : Nat) : (b.set i true).set j true = (b.set j true).set i true := by
  by_cases h : i = j
  · subst h; rfl
  · rw [List.set_comm _ _ h]

end Go.Proofs.YtpoleldfoahpoaaGreat

namespace Go.Proofs.YtpoleldfoahpoaaGreat
open Go.RowKit
set_option maxRecDepth 100000

theorem ja_class {c : Int} (h : (c == 5) = true) : (classV c == 5) = true := by
  have e : c = 5 := by simpa using h
  rw [e]
  decide
theorem jump_class {c : Int} (h : jumpB c = true) : (classV c == 5) = true := by
  have hk : knownB c = true := by simp [knownB, h]
  have := known_all (fun c => !jumpB c || (classV c == 5)) (by decide +kernel) hk
  rw [h] at this
  simpa using this
theorem ret_class {c : Int} (h : retB c = true) : (classV c == 5) = false := by
  have h6 : (classV c == 6) = true := by rw [class6_ret]; exact h
  have e : classV c = 6 := by simpa using h6
  rw [e]
  rfl

/-- What the document's own marks are behind an instruction. -/
theorem beg_ja {x : In} {j : Nat} {bs : List Bool} (h : ((x.code.toNat : Int) == 5) = true) : (begStep x j bs).set 0 true = (((bs.set 0 true).set (j + 1 + x.k.toNat) true).set (j + 1) true) := by
  have h5 := ja_class h
  have hl : leavesB x = true := by rw [leavesB, h5]; rfl
  rw [begStep, if_neg (by rw [hl]; simp), if_pos h5, yesG, noG, if_pos h, if_pos h, List.set_set, setT _ _ 0, setT _ _ 0, setT _ (j + 1)]
theorem beg_jump {x : In} {j : Nat} {bs : List Bool} (h : jumpB x.code.toNat = true) (h5 : ((x.code.toNat : Int) == 5) = false) : (begStep x j bs).set 0 true = ((((bs.set 0 true).set (j + 1 + x.jt.toNat) true).set (j + 1 + x.jf.toNat) true).set (j + 1) true) := by
  have hc := jump_class h
  have hl : leavesB x = true := by rw [leavesB, hc]; rfl
  rw [begStep, if_neg (by rw [hl]; simp), if_pos hc, yesG, noG, if_neg (by rw [h5]; simp), if_neg (by rw [h5]; simp), setT _ _ 0, setT _ _ 0, setT _ _ 0, setT _ (j + 1), setT _ (j + 1)]
theorem beg_ret {x : In} {j : Nat} {bs : List Bool} (h : retB x.code.toNat = true) : (begStep x j bs).set 0 true = ((bs.set 0 true).set (j + 1) true) := by
  have hc := ret_class h
  have hl : leavesB x = true := by rw [leavesB, class6_ret, h]; simp
  rw [begStep, if_neg (by rw [hl]; simp), if_neg (by rw [hc]; simp), setT _ _ 0]
theorem beg_no {x : In} {j : Nat} {bs : List Bool} (h5 : (classV x.code.toNat == 5) = false) (h : retB x.code.toNat = false) : (begStep x j bs).set 0 true = bs.set 0 true := by
  have hl : leavesB x = false := by rw [leavesB, class6_ret, h, h5]; rfl
  rw [begStep, if_pos hl]

set_option maxHeartbeats 4000000 in
theorem refbegins_any (a : Option Addr) (ca : Nat) (xs : List In) (w : World) (ha : CV w a (flat xs)) (hT : (checkV xs).2 = 0) :
    Calls Tryz.prog 50 #[.slice a xs.length ca] w fun e w' => ∃ v, e = .returned v ∧ BOwns w' w.heap.size v ((begTo xs xs.length).set 0 true) ∧ w.grownBy w' none := by
  obtain ⟨i0, hi, hz0, hz1, hz2⟩ := info_parts info4
  have H : Hid (CV w a (flat xs)) := ha
  have HG : Hid (∀ k (hk : k < xs.length), classV xs[k].code.toNat = 5 → yesG k xs[k] < xs.length ∧ noG k xs[k] < xs.length ∧ k + 1 < xs.length) := fun k hk hc => goals_in hT hk hc
  have hn := (taken hT).2.1
  clear ha hT
  have HL : Hid (((begTo xs xs.length).set 0 true).length = xs.length + 1) := (by rw [List.length_set]; exact begTo_len _ _ : ((begTo xs xs.length).set 0 true).length = xs.length + 1)
  go_enter Tryz.func50, Tryz.ntmps50
  go_wp2_with (at_make; refine wpList_make_full _ rfl (.tmp 8) (.tmp 8) 39 rfl w.heap.size 4 i0 (.bool false) 1 Tryz.underlying39 hi hz0 hz1 .i64 .i64 ((xs.length : Int) + 1) ((xs.length : Int) + 1) (xs.length + 1) rfl rfl (by omega) (by omega) ?q1 ?q2 ?q3 ?q4)
  case q1 => rw [hz2]; omega
  case q2 => unfold maxLen; omega
  case q3 => exact Nat.le_refl _
  case q4 =>
    intro w2 h2 K2
    rw [toList_madeCells_one] at h2
    have R2 : w2.ownsRow w.heap.size 4 1 (.slice (some ⟨w.heap.size, 0, none⟩) (xs.length + 1) (xs.length + 1)) (xs.length + 1) ((begTo xs 0).map Value.bool) := by simpa [begTo] using h2
    clear h2
    obtain ⟨g, hgg⟩ : ∃ g, w.heap.size = g := ⟨_, rfl⟩
    have HGG : Hid (w.heap.size ≤ g) := Nat.le_of_eq hgg
    rw [show (Value.slice (some ⟨w.heap.size, 0, none⟩) (xs.length + 1) (xs.length + 1)) = .slice (some ⟨g, 0, none⟩) (xs.length + 1) (xs.length + 1) by rw [hgg]] at *
    clear hgg
    obtain ⟨u0, hu0⟩ := (BlkN.ofRow R2).1.cell (i := 0) (by omega)
    have hf0 := (BlkN.ofRow R2).1.free 0
    have R3 := (R2.stored 0 (.bool true)).1
    rw [← List.map_set] at R3
    have G3 := grown_trans_new K2 (grown_set1 w2 ⟨g, 0, none⟩ (.bool true)) (fun z e => by cases e; exact HGG.out)
    have h0 : (0 : Int) < (xs.length : Int) + 1 := by omega
    clear R2 K2
    go_upto_region 3 with fail
    generalize w2.setCell ⟨g, 0, none⟩ (.bool true) = w3 at *
    clear hu0 hf0 h0
    go_wp2
    go_loopw [4] (fun i wr => ∃ j : Nat, j ≤ xs.length ∧ i = .int .i64 j ∧ wr.ownsRow w.heap.size 4 1 (.slice (some ⟨g, 0, none⟩) (xs.length + 1) (xs.length + 1)) (xs.length + 1) (((begTo xs j).set 0 true).map Value.bool) ∧ w.grownBy wr none) (fun i _ => xs.length - (intOf i).toNat)
    case atStart => exact ⟨0, Nat.zero_le _, rfl, R3, G3⟩
    case round =>
      clear R3 G3
      obtain ⟨j, hj, rfl, R, G⟩ := hrel
      by_cases hlt : j < xs.length
      · have hl : (j : Int) < (xs.length : Int) := by omega
        have hS : begTo xs (j + 1) = begStep xs[j] j (begTo xs j) := begTo_succ hlt
        obtain ⟨b, o, rfl, hc⟩ := (H.out.keptNone G).insns hlt
        obtain ⟨c0, c1, c2, c3⟩ := hc j hlt
        have hgl := HG.out j hlt
        have hbg : b ≠ g := by
          have h1 := (H.out).under rfl (by intro e; have := congrArg List.length e; rw [flat_len] at this; simp at this; omega)
          have := HGG.out
          simp only at h1
          omega
        clear hc
        have HS : Hid ((begTo xs (j + 1)).set 0 true = (begStep xs[j] j (begTo xs j)).set 0 true) := (by rw [hS] : (begTo xs (j + 1)).set 0 true = (begStep xs[j] j (begTo xs j)).set 0 true)
        clear hS
        generalize begTo xs j = bs at *
        generalize xs[j] = x at *
        have b0 := x.code.toNat_lt
        have b1 := x.jt.toNat_lt
        have b2 := x.jf.toNat_lt
        have b3 := x.k.toNat_lt
        have hjl : (j : Int) + 1 < (xs.length : Int) + 1 := by omega
        have hjn : ((j : Int) + 1).toNat = j + 1 := by omega
        cases h5 : ((x.code.toNat : Int) == 5) with
        | true =>
          have hc5 := ja_class h5
          have HE : Hid ((begTo xs (j + 1)).set 0 true = (((bs.set 0 true).set (j + 1 + x.k.toNat) true).set (j + 1) true)) := HS.out.trans (beg_ja h5)
          have hy := (hgl (by simpa using hc5)).1
          rw [yesG, if_pos h5] at hy
          have i1 : (j : Int) + 1 + (x.k.toNat : Int) < (xs.length : Int) + 1 := by omega
          have i2 : ((j : Int) + 1 + (x.k.toNat : Int)).toNat = j + 1 + x.k.toNat := by omega
          obtain ⟨u1, hu1⟩ := (BlkN.ofRow R).1.cell (i := j + 1 + x.k.toNat) (by omega)
          have hf1 := (BlkN.ofRow R).1.free (j + 1 + x.k.toNat)
          have R4 := (R.stored (j + 1 + x.k.toNat) (.bool true)).1
          rw [← List.map_set] at R4
          have G4 := grown_trans_new G (grown_set1 wr ⟨g, j + 1 + x.k.toNat, none⟩ (.bool true)) (fun z e => by cases e; exact HGG.out)
          have CC := refclass_any x.code.toNat (wr.setCell ⟨g, j + 1 + x.k.toNat, none⟩ (.bool true)) (by omega) (by omega)
          clear HS hgl R G
          go_wp2_with fail
          refine CC.mono ?_
          rintro e w' ⟨rfl, rfl⟩
          clear CC hu1 hf1 c0 c1 c2 c3
          generalize wr.setCell ⟨g, j + 1 + x.k.toNat, none⟩ (.bool true) = w4 at *
          obtain ⟨u2, hu2⟩ := (BlkN.ofRow R4).1.cell (i := j + 1) (by omega)
          have hf2 := (BlkN.ofRow R4).1.free (j + 1)
          have R5 := (R4.stored (j + 1) (.bool true)).1
          rw [← List.map_set] at R5
          have G5 := grown_trans_new G4 (grown_set1 w4 ⟨g, j + 1, none⟩ (.bool true)) (fun z e => by cases e; exact HGG.out)
          clear R4 G4 h5
          go_wp2
          go_roundw
          case rel => exact ⟨j + 1, by omega, by go_num, by rw [HE.out]; exact R5, G5⟩
          case measure => simp [intOf]; omega
        | false =>
          cases hjb : jumpB x.code.toNat with
          | true =>
            have hc5 := jump_class hjb
            have HE : Hid ((begTo xs (j + 1)).set 0 true = ((((bs.set 0 true).set (j + 1 + x.jt.toNat) true).set (j + 1 + x.jf.toNat) true).set (j + 1) true)) := HS.out.trans (beg_jump hjb h5)
            obtain ⟨hy, hno, -⟩ := hgl (by simpa using hc5)
            rw [yesG, if_neg (by rw [h5]; simp)] at hy
            rw [noG, if_neg (by rw [h5]; simp)] at hno
            have i1 : (j : Int) + 1 + (x.jt.toNat : Int) < (xs.length : Int) + 1 := by omega
            have i2 : ((j : Int) + 1 + (x.jt.toNat : Int)).toNat = j + 1 + x.jt.toNat := by omega
            have i3 : (j : Int) + 1 + (x.jf.toNat : Int) < (xs.length : Int) + 1 := by omega
            have i4 : ((j : Int) + 1 + (x.jf.toNat : Int)).toNat = j + 1 + x.jf.toNat := by omega
            have CJ := jump_any x.code.toNat wr
            rw [hjb] at CJ
            obtain ⟨u1, hu1⟩ := (BlkN.ofRow R).1.cell (i := j + 1 + x.jt.toNat) (by omega)
            have hf1 := (BlkN.ofRow R).1.free (j + 1 + x.jt.toNat)
            have R4 := (R.stored (j + 1 + x.jt.toNat) (.bool true)).1
            rw [← List.map_set] at R4
            have G4 := grown_trans_new G (grown_set1 wr ⟨g, j + 1 + x.jt.toNat, none⟩ (.bool true)) (fun z e => by cases e; exact HGG.out)
            have d2 := (grown_set1 wr ⟨g, j + 1 + x.jt.toNat, none⟩ (.bool true)).cell c2 (by simpa using hbg)
            clear HS hgl R G hjb
            go_wp2_with fail
            refine CJ.mono ?_
            rintro e w' ⟨rfl, rfl⟩
            clear CJ
            go_upto_region 11 with fail
            clear hu1 hf1 c0 c1 c2 c3
            generalize wr.setCell ⟨g, j + 1 + x.jt.toNat, none⟩ (.bool true) = w4 at *
            obtain ⟨u2, hu2⟩ := (BlkN.ofRow R4).1.cell (i := j + 1 + x.jf.toNat) (by omega)
            have hf2 := (BlkN.ofRow R4).1.free (j + 1 + x.jf.toNat)
            have R5 := (R4.stored (j + 1 + x.jf.toNat) (.bool true)).1
            rw [← List.map_set] at R5
            have G5 := grown_trans_new G4 (grown_set1 w4 ⟨g, j + 1 + x.jf.toNat, none⟩ (.bool true)) (fun z e => by cases e; exact HGG.out)
            have CC := refclass_any x.code.toNat (w4.setCell ⟨g, j + 1 + x.jf.toNat, none⟩ (.bool true)) (by omega) (by omega)
            clear R4 G4
            go_wp2_with fail
            refine CC.mono ?_
            rintro e w' ⟨rfl, rfl⟩
            clear CC hu2 hf2 d2
            generalize w4.setCell ⟨g, j + 1 + x.jf.toNat, none⟩ (.bool true) = w5 at *
            obtain ⟨u3, hu3⟩ := (BlkN.ofRow R5).1.cell (i := j + 1) (by omega)
            have hf3 := (BlkN.ofRow R5).1.free (j + 1)
            have R6 := (R5.stored (j + 1) (.bool true)).1
            rw [← List.map_set] at R6
            have G6 := grown_trans_new G5 (grown_set1 w5 ⟨g, j + 1, none⟩ (.bool true)) (fun z e => by cases e; exact HGG.out)
            clear R5 G5 h5
            go_wp2
            go_roundw
            case rel => exact ⟨j + 1, by omega, by go_num, by rw [HE.out]; exact R6, G6⟩
            case measure => simp [intOf]; omega
          | false =>
            have hc5 : (classV x.code.toNat == 5) = false := by
              cases h : (classV x.code.toNat == 5) with
              | false => rfl
              | true =>
                rcases class5 (by simpa using h) with e | e
                · rw [e] at h5; cases h5
                · rw [hjb] at e; cases e
            have CJ := jump_any x.code.toNat wr
            rw [hjb] at CJ
            have CC := refclass_any x.code.toNat wr (by omega) (by omega)
            have CR := retB_any x.code.toNat wr
            clear hgl hjb
            cases hr : retB x.code.toNat with
            | true =>
              have HE : Hid ((begTo xs (j + 1)).set 0 true = ((bs.set 0 true).set (j + 1) true)) := HS.out.trans (beg_ret hr)
              rw [hr] at CR
              obtain ⟨u1, hu1⟩ := (BlkN.ofRow R).1.cell (i := j + 1) (by omega)
              have hf1 := (BlkN.ofRow R).1.free (j + 1)
              have R4 := (R.stored (j + 1) (.bool true)).1
              rw [← List.map_set] at R4
              have G4 := grown_trans_new G (grown_set1 wr ⟨g, j + 1, none⟩ (.bool true)) (fun z e => by cases e; exact HGG.out)
              clear HS R G hr
              go_wp2_with fail
              refine CJ.mono ?_
              rintro e w' ⟨rfl, rfl⟩
              go_wp2_with fail
              refine CC.mono ?_
              rintro e w' ⟨rfl, rfl⟩
              go_wp2_with fail
              refine CR.mono ?_
              rintro e w' ⟨rfl, rfl⟩
              clear CJ CC CR
              go_wp2
              go_roundw
              case rel => exact ⟨j + 1, by omega, by go_num, by rw [HE.out]; exact R4, G4⟩
              case measure => simp [intOf]; omega
            | false =>
              have HE : Hid ((begTo xs (j + 1)).set 0 true = bs.set 0 true) := HS.out.trans (beg_no hc5 hr)
              rw [hr] at CR
              clear HS hr
              go_wp2_with fail
              refine CJ.mono ?_
              rintro e w' ⟨rfl, rfl⟩
              go_wp2_with fail
              refine CC.mono ?_
              rintro e w' ⟨rfl, rfl⟩
              go_wp2_with fail
              refine CR.mono ?_
              rintro e w' ⟨rfl, rfl⟩
              clear CJ CC CR
              go_wp2
              go_roundw
              case rel => exact ⟨j + 1, by omega, by go_num, by rw [HE.out]; exact R, G⟩
              case measure => simp [intOf]; omega
      · have hl : ¬ (j : Int) < (xs.length : Int) := by omega
        have hje : j = xs.length := by omega
        subst hje
        go_wp2
        go_ret
        have R' : BOwns wr w.heap.size (.slice (some ⟨g, 0, none⟩) (xs.length + 1) (xs.length + 1)) ((begTo xs xs.length).set 0 true) := by
          unfold BOwns
          rw [HL.out]
          exact R
        exact ⟨_, rfl, R', G⟩

end Go.Proofs.YtpoleldfoahpoaaGreat

namespace Go.Proofs.YtpoleldfoahpoaaGreat
open Go.RowKit
set_option maxRecDepth 100000

theorem getD_setT (bs : List Bool) (i j : Nat) (h : bs.getD j false = true) : (bs.set i true).getD j false = true := by
  rw [List.getD_eq_getElem?_getD, List.getElem?_set]
  by_cases e : i = j
  · subst e
    have hl : i < bs.length := by
      apply Classical.byContradiction
      intro hn
      rw [List.getD_eq_getElem?_getD, List.getElem?_eq_none (by omega)] at h
      cases h
    simp [hl]
  · rw [if_neg e, ← List.getD_eq_getElem?_getD]
    exact h
theorem getD_setS (bs : List Bool) (i : Nat) (h : i < bs.length) : (bs.set i true).getD i false = true := by
  rw [List.getD_eq_getElem?_getD, List.getElem?_set]
  simp [h]
theorem getD_setN (bs : List Bool) {i j : Nat} (h : i ≠ j) : (bs.set i true).getD j false = bs.getD j false := by
  rw [List.getD_eq_getElem?_getD, List.getElem?_set, if_neg h, ← List.getD_eq_getElem?_getD]

theorem begStep_mono (x : In) (i : Nat) (bs : List Bool) (j : Nat) (h : bs.getD j false = true) : (begStep x i bs).getD j false = true := by
  unfold begStep
  split
  · exact h
  · split
    · exact getD_setT _ _ _ (getD_setT _ _ _ (getD_setT _ _ _ h))
    · exact getD_setT _ _ _ h
theorem begStep_mark (x : In) (i : Nat) (bs : List Bool) (hl : i + 1 < bs.length) (h : leavesB x = true) : (begStep x i bs).getD (i + 1) false = true := by
  rw [begStep, if_neg (by rw [h]; simp)]
  split
  · exact getD_setT _ _ _ (getD_setT _ _ _ (getD_setS _ _ hl))
  · exact getD_setS _ _ hl
theorem begTo_mono (xs : List In) {k m : Nat} (h : k ≤ m) (j : Nat) (hj : (begTo xs k).getD j false = true) : (begTo xs m).getD j false = true := by
  induction m with
  | zero => have : k = 0 := by omega
            subst this; exact hj
  | succ m ih =>
    by_cases hk : k = m + 1
    · subst hk; exact hj
    · have h1 := ih (by omega)
      rw [begTo]
      cases xs[m]? with
      | none => exact h1
      | some x => exact begStep_mono x m _ j h1
/-- Behind a jump or a return a block begins. -/
theorem beg_behind {xs : List In} {i : Nat} (hi : i < xs.length) (h : leavesB xs[i] = true) : (begTo xs xs.length).getD (i + 1) false = true := by
  refine begTo_mono xs (show i + 1 ≤ xs.length by omega) (i + 1) ?_
  rw [begTo_succ hi]
  exact begStep_mark _ _ _ (by rw [begTo_len]; omega) h

theorem num_same {bs : List Bool} {i : Nat} (h : bs.getD (i + 1) false = false) : numN bs (i + 1) = numN bs i := by rw [numN, if_neg (by rw [h]; simp), Nat.add_zero]
theorem num_more {bs : List Bool} {i : Nat} (h : bs.getD (i + 1) false = true) : numN bs (i + 1) = numN bs i + 1 := by rw [numN, if_pos h]
/-- What a place says, the first one marked. -/
theorem first_at (bs : List Bool) (i : Nat) : (bs.set 0 true).getD (i + 1) false = bs.getD (i + 1) false := getD_setN bs (by omega)

theorem of_same {xs : List In} {bs : List Bool} {i : Nat} (h : bs.getD (i + 1) false = false) : ofTo xs (numN bs) (i + 1) = ofTo xs (numN bs) i := by rw [ofTo, if_pos (num_same h)]
theorem of_more {xs : List In} {bs : List Bool} {i : Nat} (h : bs.getD (i + 1) false = true) (hi : i < xs.length) : ofTo xs (numN bs) (i + 1) = (i + 1, (ofTo xs (numN bs) i).2 ++ [blkV xs (numN bs) (ofTo xs (numN bs) i).1 i xs[i]]) := by
  rw [ofTo, if_neg (by rw [num_more h]; omega), getD_at hi]

/-- The last instruction of a program that is taken is a return. -/
theorem plain_next {xs : List In} (h : (checkV xs).2 = 0) {i : Nat} (hi : i < xs.length) (hp : leavesB xs[i] = false) : i + 1 < xs.length := by
  obtain ⟨-, -, -, hl⟩ := taken h
  have hr : retB xs[i].code.toNat = false := by
    rw [leavesB, class6_ret, Bool.or_eq_false_iff] at hp
    exact hp.2
  exact last_ret hl hi hr

/-- While a block's Code grows: from s on, up to i, no block begins. -/
structure OfI (xs : List In) (bs : List Bool) (s i : Nat) : Prop where
  le : s ≤ i
  lt : i < xs.length
  of : ofTo xs (numN bs) i = ofTo xs (numN bs) s
  at' : (ofTo xs (numN bs) s).1 = s
  no : s < i → bs.getD i false = false
theorem OfI.first {xs : List In} {bs : List Bool} {s : Nat} (h : s < xs.length) (ha : (ofTo xs (numN bs) s).1 = s) : OfI xs bs s s := ⟨Nat.le_refl _, h, rfl, ha, fun h => absurd h (Nat.lt_irrefl _)⟩
theorem OfI.next {xs : List In} {bs : List Bool} {s i : Nat} (h : OfI xs bs s i) (hi : i + 1 < xs.length) (hb : bs.getD (i + 1) false = false) : OfI xs bs s (i + 1) :=
  ⟨by have := h.le; omega, hi, (of_same hb).trans h.of, h.at', fun _ => hb⟩
/-- A block ends. -/
theorem OfI.over {xs : List In} {bs : List Bool} {s i : Nat} (h : OfI xs bs s i) (hb : bs.getD (i + 1) false = true) : ofTo xs (numN bs) (i + 1) = (i + 1, (ofTo xs (numN bs) s).2 ++ [blkV xs (numN bs) s i (xs[i]'h.lt)]) := by
  rw [of_more hb h.lt, h.of, h.at']

theorem take_more {xs : List In} {s i : Nat} (hs : s ≤ i) (hi : i < xs.length) : (xs.drop s).take (i + 1 - s) = (xs.drop s).take (i - s) ++ [xs[i]] := by
  have hl : i - s < (xs.drop s).length := by rw [List.length_drop]; omega
  rw [show i + 1 - s = (i - s) + 1 by omega, ← List.take_append_getElem hl]
  congr 2
  rw [List.getElem_drop]
  congr 1
  omega

end Go.Proofs.YtpoleldfoahpoaaGreat

namespace Go.Proofs.YtpoleldfoahpoaaGreat
open Go.RowKit
set_option maxRecDepth 100000

/-- 'append(dst, ..)' within a statement whose order is open: dst the call's own. -/
theorem step_append_rd {P : Program} {ops : Array Oper} {o : Oper} {a : Act} {w : World} {K : Act → World → Prop} {Q : Exit → Act → World → Prop} {E : Prop}
    (hgd : o.guard = none) (s x : Operand) (t : TypeId) (ho : o.op = .call { callee := .builtin .append, args := #[s, x], argTypes := #[t, t] })
    (i : TypeInfo) (ht : P.underlying t = some (.slice 5)) (hi : P.info? 5 = some i) (hz : i.zero = some (.int .u8 0)) (hsize : i.size = 1) (hby : i.bytes = 1)
    (base : Nat) (v : Value) (xs : List UInt8) (hs : a.eval s = v) (hown : Owns w base v xs)
    (ad : Addr) (c : Nat) (ys : List UInt8) (hx : a.eval x = .slice (some ad) ys.length c) (hys : Cells w (some ad) ys)
    (hbytes : xs.length + ys.length ≤ 140737488355328) (hbase : base ≤ w.heap.size)
    (hK : ∀ v' w', Owns w' base v' (xs ++ ys) → w.grownBy w' v.ownBlock → K (a.put o.dst v') w') :
    if Region.wanted o (yielded ops a.tmps) = true then Oper.wp P o a w K Q else E := by
  have hw : Region.wanted o (yielded ops a.tmps) = true := by simp [Region.wanted, hgd]
  rw [if_pos hw]
  refine wp_append_own w s x t ho base 5 i (.int .u8 0) 1 1 ht hi hz hsize hby rfl (by decide) v xs.length (xs.map bv) hs hown ad ys.length c (ys.map bv) hx (by simp) ?_ (bv_one ys) (by unfold maxLen; omega) (by omega) hbase ?_
  · intro j u hj
    obtain ⟨hlt, e⟩ := List.getElem?_eq_some_iff.1 hj
    simp only [List.length_map] at hlt
    rw [hys.2 ad rfl j hlt, ← e]
    simp
  · intro v' w' h1 h2 _
    refine hK v' w' ?_ h2
    unfold Owns
    rw [List.length_append, List.map_append]
    exact h1

theorem grown_alloc_drew (w : World) (o : Obj) (row : Option Nat) : w.grownBy (w.alloc o).drew row :=
  let g := World.grownBy_alloc w o row
  ⟨g.os, g.tape, g.output, g.size, g.block⟩

/-- The same for elements of several cells. -/
theorem step_append_cv {P : Program} {ops : Array Oper} {o : Oper} {a : Act} {w : World} {K : Act → World → Prop} {Q : Exit → Act → World → Prop} {E : Prop}
    (hgd : o.guard = none) (s x : Operand) (t : TypeId) (ho : o.op = .call { callee := .builtin .append, args := #[s, x], argTypes := #[t, t] })
    (e : TypeId) (i : TypeInfo) (z : Value) (size bytes : Nat) (ht : P.underlying t = some (.slice e)) (hi : P.info? e = some i) (hz : i.zero = some z) (hsize : i.size = size) (hby : i.bytes = bytes) (hzs : z.cells.size = size) (hsz : 0 < size)
    (base : Nat) (v : Value) (n : Nat) (vs : List Value) (hs : a.eval s = v) (hown : w.ownsRow base e size v n vs)
    (ad : Addr) (m c : Nat) (us : List Value) (hx : a.eval x = .slice (some ad) m c) (hl : us.length = m * size) (hus : CV w (some ad) us) (h1 : ∀ u ∈ us, u.oneCell' = true)
    (h63 : n + m ≤ maxLen) (hbytes : (n + m) * bytes ≤ 140737488355328) (hbase : base ≤ w.heap.size)
    (hK : ∀ v' w', w'.ownsRow base e size v' (n + m) (vs ++ us) → w.grownBy w' v.ownBlock → K (a.put o.dst v') w') :
    if Region.wanted o (yielded ops a.tmps) = true then Oper.wp P o a w K Q else E := by
  have hw : Region.wanted o (yielded ops a.tmps) = true := by simp [Region.wanted, hgd]
  rw [if_pos hw]
  refine wp_append_own w s x t ho base e i z size bytes ht hi hz hsize hby hzs hsz v n vs hs hown ad m c us hx hl ?_ h1 h63 hbytes hbase fun v' w' h1 h2 _ => hK v' w' h1 h2
  intro j u hj
  obtain ⟨hlt, e⟩ := List.getElem?_eq_some_iff.1 hj
  rw [hus.2 ad rfl j hlt, e]

end Go.Proofs.YtpoleldfoahpoaaGreat

namespace Go.Proofs.YtpoleldfoahpoaaGreat
open Go.RowKit
set_option maxRecDepth 100000

/-- The number ahead of a place. -/
def kpre (bs : List Bool) : Nat → Int
  | 0 => -1
  | i + 1 => (numN bs i : Int)
theorem kpre_yes {bs : List Bool} {j : Nat} (h : (bs.set 0 true).getD j false = true) : kpre bs j + 1 = (numN bs j : Int) := by
  cases j with
  | zero => rfl
  | succ m =>
    rw [first_at] at h
    show (numN bs m : Int) + 1 = _
    rw [num_more h]
    omega
theorem kpre_no {bs : List Bool} {j : Nat} (hl : 0 < bs.length) (h : (bs.set 0 true).getD j false = false) : kpre bs j = (numN bs j : Int) := by
  cases j with
  | zero =>
    rw [getD_setS bs 0 hl] at h
    cases h
  | succ m =>
    rw [first_at] at h
    show (numN bs m : Int) = _
    rw [num_same h]
theorem kpre_le (bs : List Bool) (j : Nat) : -1 ≤ kpre bs j ∧ kpre bs j ≤ (j : Int) := by
  cases j with
  | zero => exact ⟨Int.le_refl _, by show (-1 : Int) ≤ ((0 : Nat) : Int); omega⟩
  | succ m =>
    have := numN_le bs m
    constructor
    · show (-1 : Int) ≤ (numN bs m : Int)
      omega
    · show (numN bs m : Int) ≤ ((m + 1 : Nat) : Int)
      omega
theorem numL_zero (bs : List Bool) (N : Nat) : numL bs N 0 = List.replicate N 0 := by
  rw [numL]
  apply List.ext_getElem?
  intro i
  by_cases hi : i < N
  · rw [List.getElem?_map, List.getElem?_range hi, List.getElem?_replicate, if_pos hi]
    rfl
  · rw [List.getElem?_eq_none (by simp; omega), List.getElem?_eq_none (by simp; omega)]
theorem bool15 {w : World} {base gb n cap : Nat} {bs : List Bool} (h : w.ownsRow base 4 1 (.slice (some ⟨gb, 0, none⟩) n cap) n (bs.map Value.bool)) (hl : bs.length = n) (i : Nat) (hi : i < n) : w.cell? ⟨gb, i, none⟩ = some (.bool (bs.getD i false)) := by
  have := h.cells (g := gb) rfl i (.bool (bs.getD i false)) (by rw [List.getElem?_map, List.getD_eq_getElem?_getD, List.getElem?_eq_getElem (by omega)]; rfl)
  rwa [Addr.add_lit, Nat.zero_add] at this

/-- What stands while the blocks are laid: the marks, the numbers. -/
structure OfW (w wr : World) (gb cb gn N k : Nat) (bs : List Bool) : Prop where
  marks : wr.ownsRow w.heap.size 4 1 (.slice (some ⟨gb, 0, none⟩) N cb) N ((bs.set 0 true).map Value.bool)
  nums : wr.ownsRow w.heap.size 3 1 (.slice (some ⟨gn, 0, none⟩) N N) N ((numL bs N k).map nv)
  up : w.grownBy wr none

theorem own15 (a : Option Addr) (n c : Nat) : (Value.slice a n c).ownBlock = a.map (·.block) := by cases a <;> rfl
theorem vat15 {w w' : World} {base e size D n : Nat} {v : Value} {vs : List Value} {cs : Array Value} (h : w.ownsRow base e size v n vs) (he : e ≠ 56) (K : w.grownBy w' (some D)) (A : VAt w D 56 cs) : w'.ownsRow base e size v n vs := by
  refine h.kept K ?_
  rcases h.2 with ⟨rfl, -⟩ | ⟨g2, cap2, cur, rfl, -, hg, -⟩
  · exact .inl rfl
  · refine .inr (fun e2 => ?_)
    simp only [Value.ownBlock, Option.some.injEq] at e2
    subst e2
    unfold VAt at A
    rw [hg] at A
    simp only [Option.some.injEq, Obj.cells.injEq] at A
    exact he A.2.1
theorem ne15 {w : World} {base D n z : Nat} {v : Value} {vs : List Value} {cs : Array Value} (h : w.ownsRow base 54 4 v n vs) (A : VAt w D 56 cs) (hz : v.ownBlock = some z) : z ≠ D := by
  rintro rfl
  rcases h.2 with ⟨rfl, -⟩ | ⟨g2, cap2, cur, rfl, -, hg, -⟩
  · cases hz
  · simp only [Value.ownBlock, Option.some.injEq] at hz
    subst hz
    unfold VAt at A
    rw [hg] at A
    simp only [Option.some.injEq, Obj.cells.injEq] at A
    exact absurd A.2.1 (by decide)

theorem sizeB15 : (Tryz.prog.info? 56).map (·.size) = some 8 := by kernel_rfl

/-- What stands while a block is laid: the blocks so far, the marks and numbers, the Code. -/
structure OfD (w W : World) (D gb cb gn N n : Nat) (bs : List Bool) (o : Value) (vs : List Bv) (cv : Value) (cs : List In) : Prop where
  blv : BLv W w.heap.size o vs
  ow : OfW w W gb cb gn N n bs
  lo : ∀ y ∈ vs, ∀ z, (y.a.map (·.block)) = some z → z < D
  ro : ∀ z, o.ownBlock = some z → z < D
  hD : w.heap.size ≤ D
  code : IOwns W D cv cs
theorem OfD.keptNone {w W W' : World} {D gb cb gn N n : Nat} {bs : List Bool} {o : Value} {vs : List Bv} {cv : Value} {cs : List In} (h : OfD w W D gb cb gn N n bs o vs cv cs) (K : W.grownBy W' none) : OfD w W' D gb cb gn N n bs o vs cv cs :=
  ⟨h.blv.keptNone K, ⟨owns_keptNone h.ow.marks K, owns_keptNone h.ow.nums K, grown_trans h.ow.up K⟩, h.lo, h.ro, h.hD, owns_keptNone h.code K⟩
theorem OfD.set {w W W' : World} {D gb cb gn N n : Nat} {bs : List Bool} {o : Value} {vs : List Bv} {cv : Value} {cs : List In} {ds : Array Value} (h : OfD w W D gb cb gn N n bs o vs cv cs) (A : VAt W D 56 ds) (K : W.grownBy W' (some D)) : OfD w W' D gb cb gn N n bs o vs cv cs := by
  refine ⟨⟨h.blv.1.kept K ?_, fun y hy => vat15 (h.blv.2.1 y hy) (by decide) K A, h.blv.2.2⟩, ⟨vat15 h.ow.marks (by decide) K A, vat15 h.ow.nums (by decide) K A, grown_trans_new h.ow.up K (fun z e => by cases e; exact h.hD)⟩, h.lo, h.ro, h.hD, vat15 h.code (by decide) K A⟩
  cases hv : o.ownBlock with
  | none => exact .inl rfl
  | some z => exact .inr (fun e => by have := h.ro z hv; simp only [Option.some.injEq] at e; omega)
/-- One instruction more in the Code. -/
theorem OfD.more {w W W' : World} {D gb cb gn N n : Nat} {bs : List Bool} {o : Value} {vs : List Bv} {cv cv' : Value} {cs cs' : List In} (h : OfD w W D gb cb gn N n bs o vs cv cs) (K : W.grownBy W' cv.ownBlock) (c' : IOwns W' D cv' cs') : OfD w W' D gb cb gn N n bs o vs cv' cs' := by
  refine ⟨⟨kinds15 h.blv.1 h.code (by decide) K, fun y hy => (h.blv.2.1 y hy).kept K ?_, h.blv.2.2⟩, ⟨kinds15 h.ow.marks h.code (by decide) K, kinds15 h.ow.nums h.code (by decide) K, grown_trans_new h.ow.up K (fun z hz => Nat.le_trans h.hD (h.code.lt z hz).1)⟩, h.lo, h.ro, h.hD, c'⟩
  cases hv : (Value.slice y.a y.b.code.length y.ca).ownBlock with
  | none => exact .inl rfl
  | some z => exact .inr (fun e => by
      have h1 := h.lo y hy z (by rw [← own15]; exact hv)
      have h2 := (h.code.lt z e.symm).1
      omega)
/-- The block is put behind the others. -/
theorem OfD.push {w W W' : World} {D gb cb gn N n : Nat} {bs : List Bool} {o o' : Value} {vs : List Bv} {ac : Option Addr} {m cc : Nat} {cs : List In} (h : OfD w W D gb cb gn N n bs o vs (.slice ac m cc) cs) (bk : Bv) (ha : bk.a = ac) (hc : bk.ca = cc) (hb : bk.b.code = cs) (hm : m = cs.length)
    (O : W'.ownsRow w.heap.size 56 8 o' (vs.length + 1) (flatB vs ++ flatB [bk])) (K : W.grownBy W' o.ownBlock) : BLv W' w.heap.size o' (vs ++ [bk]) ∧ OfW w W' gb cb gn N n bs := by
  subst ha hc hb hm
  refine ⟨h.blv.push (owns_mono h.code h.hD) (fun y hy z hz e => ?_) O K, ⟨kinds15 h.ow.marks h.blv.1 (by decide) K, kinds15 h.ow.nums h.blv.1 (by decide) K, grown_trans_new h.ow.up K (fun z hz => (h.blv.1.lt z hz).1)⟩⟩
  have h1 := h.lo y hy z hz
  have h2 := (h.code.lt z (by rw [own15]; exact e)).1
  omega

set_option maxHeartbeats 8000000 in
theorem refof_any (a : Option Addr) (ca : Nat) (xs : List In) (w : World) (ha : CV w a (flat xs)) :
    Calls Tryz.prog 26 #[.slice a xs.length ca] w fun e w' => ∃ v vs, e = .returned (.tuple #[v, .int .i64 (ofE xs)]) ∧ BLv w' w.heap.size v vs ∧ gOf vs = ofG xs ∧ w.grownBy w' none := by
  obtain ⟨i0, hi, hz0, hz1, hz2⟩ := info_parts info3
  obtain ⟨k0, ki, kz0, kz1, kz2⟩ := info_parts info56
  obtain ⟨n0, ni, nz0, nz1, nz2⟩ := info_parts info54
  have CC := refcheck_any a ca xs w ha
  by_cases hz : (checkV xs).2 = 0
  · have e1 : ofE xs = 0 := by rw [ofE, if_pos hz]
    have e2 : ofG xs = (ofTo xs (numN (begTo xs xs.length)) xs.length).2 := by rw [ofG, if_pos hz]
    rw [hz] at CC
    rw [e1, e2]
    have CB := fun W (G : w.grownBy W none) => refbegins_any a ca xs W (ha.keptNone G) hz
    have H : Hid (CV w a (flat xs)) := ha
    have HZ : Hid ((checkV xs).2 = 0) := hz
    have hn := (taken hz).2.1
    have hlb := begTo_len xs xs.length
    obtain ⟨bs, hbs⟩ : ∃ bs, begTo xs xs.length = bs := ⟨_, rfl⟩
    have HBS : Hid (begTo xs xs.length = bs) := hbs
    rw [hbs] at hlb ⊢
    simp only [hbs] at CB
    clear ha hz e1 e2 hbs
    go_enter Tryz.func26, Tryz.ntmps26
    go_wp2_with fail
    refine CC.mono ?_
    rintro e w1 ⟨rfl, K1⟩
    have CB1 := CB w1 K1
    clear CC CB
    go_wp2_with fail
    refine CB1.mono ?_
    rintro e w2 ⟨v, rfl, RB, K2⟩
    unfold BOwns at RB
    rw [List.length_set, hlb] at RB
    have HLB : Hid (bs.length = xs.length + 1) := hlb
    obtain ⟨gb, cb, rfl, hcb1, hcb2, hgb1, hgb2⟩ := owns_head RB (by omega)
    have G2 := grown_trans K1 K2
    have RB0 := owns_mono RB K1.size
    clear CB1 hlb RB K2
    have hN : xs.length + 1 ≤ 4097 := by omega
    go_wp2_with (at_make; refine wpList_make_full _ rfl (.tmp 24) (.tmp 24) 82 rfl w.heap.size 3 i0 (.int .i64 0) 1 Tryz.underlying82 hi hz0 hz1 .i64 .i64 ((xs.length : Int) + 1) ((xs.length : Int) + 1) (xs.length + 1) rfl rfl (by omega) (by omega) ?q1 ?q2 ?q3 ?q4)
    case q1 => rw [hz2]; omega
    case q2 => unfold maxLen; omega
    case q3 => exact G2.size
    case q4 =>
      intro w3 h3 K3
      rw [toList_madeCells_one] at h3
      have R3 : w3.ownsRow w.heap.size 3 1 (.slice (some ⟨w2.heap.size, 0, none⟩) (xs.length + 1) (xs.length + 1)) (xs.length + 1) ((numL bs (xs.length + 1) 0).map nv) := by
        rw [numL_zero, List.map_replicate]
        exact h3
      have HW : Hid (OfW w w3 gb cb w2.heap.size (xs.length + 1) 0 bs) := ⟨owns_keptNone RB0 K3, R3, grown_trans G2 K3⟩
      have hgn : w.heap.size ≤ w2.heap.size := G2.size
      have hgg : gb ≠ w2.heap.size := by omega
      clear R3 h3 RB0 K3 G2 hgb1 hgb2 K1
      generalize w2.heap.size = gn at *
      go_wp2
      go_loopw [8, 9] (fun kv i wr => ∃ j : Nat, j ≤ xs.length ∧ i = .int .i64 j ∧ kv = .int .i64 (kpre bs j) ∧ Hid (OfW w wr gb cb gn (xs.length + 1) j bs)) (fun _ i _ => xs.length - (intOf i).toNat)
      case atStart => exact ⟨0, Nat.zero_le _, rfl, rfl, HW⟩
      case round =>
        clear HW
        obtain ⟨j, hj, rfl, rfl, HW⟩ := hrel
        by_cases hlt : j < xs.length
        · have hl : (j : Int) < (xs.length : Int) := by omega
          have hl2 : (j : Int) < (xs.length : Int) + 1 := by omega
          have cb1 := bool15 HW.out.marks (by rw [List.length_set]; exact HLB.out) j (by omega)
          obtain ⟨u1, hu1⟩ := (BlkN.ofRow HW.out.nums).1.cell (i := j) (by omega)
          have hf1 := (BlkN.ofRow HW.out.nums).1.free j
          have R4 := (HW.out.nums.stored j (.int .i64 (numN bs j : Int))).1
          rw [show (Value.int .i64 (numN bs j : Int)) = nv (numN bs j) from rfl, ← List.map_set, numL_set] at R4
          have K4 := grown_set1 wr ⟨gn, j, none⟩ (.int .i64 (numN bs j : Int))
          have HW4 : Hid (OfW w (wr.setCell ⟨gn, j, none⟩ (.int .i64 (numN bs j : Int))) gb cb gn (xs.length + 1) (j + 1) bs) := ⟨kinds15 HW.out.marks HW.out.nums (by decide) K4, R4, grown_trans_new HW.out.up K4 (fun z e => by cases e; exact hgn)⟩
          have kl := kpre_le bs j
          have hkn : kpre bs (j + 1) = (numN bs j : Int) := rfl
          have HKN : Hid (kpre bs (j + 1) = (numN bs j : Int)) := hkn
          clear R4 K4 hkn
          cases hq : (bs.set 0 true).getD j false with
          | true =>
            rw [hq] at cb1
            have hk := kpre_yes hq
            have HKK : Hid (kpre bs j + 1 = (numN bs j : Int)) := hk
            clear hq hk
            generalize (numN bs j : Int) = nj at *
            generalize kpre bs j = kj at *
            obtain rfl : kj + 1 = nj := HKK.out
            go_wp2
            go_roundw
            case rel => exact ⟨j + 1, by omega, by go_num, by rw [HKN.out], HW4⟩
            case measure => simp [intOf]; omega
          | false =>
            rw [hq] at cb1
            have hk := kpre_no (by have := HLB.out; omega) hq
            have HKK : Hid (kpre bs j = (numN bs j : Int)) := hk
            clear hq hk
            generalize (numN bs j : Int) = nj at *
            generalize kpre bs j = kj at *
            obtain rfl : kj = nj := HKK.out
            go_wp2
            go_roundw
            case rel => exact ⟨j + 1, by omega, by go_num, by rw [HKN.out], HW4⟩
            case measure => simp [intOf]; omega
        · have hl : ¬ (j : Int) < (xs.length : Int) := by omega
          have hje : j = xs.length := by omega
          subst hje
          generalize kpre bs xs.length = kk at *
          go_wp2
          go_loopw [10, 11] (fun o i wr => ∃ (s : Nat) (vs : List Bv), s ≤ xs.length ∧ i = .int .i64 s ∧ (ofTo xs (numN bs) s).1 = s ∧ Hid (gOf vs = (ofTo xs (numN bs) s).2) ∧ Hid (BLv wr w.heap.size o vs) ∧ Hid (OfW w wr gb cb gn (xs.length + 1) xs.length bs)) (fun _ i _ => xs.length - (intOf i).toNat)
          case atStart => exact ⟨0, [], Nat.zero_le _, rfl, rfl, rfl, BLv.nil _ _, HW⟩
          case round =>
            clear HW
            obtain ⟨s, vs, hs, rfl, hs1, HV, HB, HW⟩ := hrel
            by_cases hlt : s < xs.length
            · have hl : (s : Int) < (xs.length : Int) := by omega
              have KD : wr.grownBy (wr.alloc (.cells #[.slice none 0 0, .int .i64 0, .int .u16 0, .int .u8 0, .int .u8 0, .int .u32 0, .int .i64 0, .int .i64 0] 56)) none := World.grownBy_alloc _ _ _
              have HVD : Hid (VAt (wr.alloc (.cells #[.slice none 0 0, .int .i64 0, .int .u16 0, .int .u8 0, .int .u8 0, .int .u32 0, .int .i64 0, .int .i64 0] 56)) wr.heap.size 56 #[.slice none 0 0, .int .i64 0, .int .u16 0, .int .u8 0, .int .u8 0, .int .u32 0, .int .i64 0, .int .i64 0]) := VAt.alloc wr _ _
              have HD0 : Hid (OfD w (wr.alloc (.cells #[.slice none 0 0, .int .i64 0, .int .u16 0, .int .u8 0, .int .u8 0, .int .u32 0, .int .i64 0, .int .i64 0] 56)) wr.heap.size gb cb gn (xs.length + 1) xs.length bs u10 vs (.slice none 0 0) []) := ⟨HB.out.keptNone KD, ⟨owns_keptNone HW.out.marks KD, owns_keptNone HW.out.nums KD, grown_trans HW.out.up KD⟩, fun y hy z hz => ((HB.out.2.1 y hy).lt z (by rw [own15]; exact hz)).2, fun z hz => (HB.out.1.lt z hz).2, HW.out.up.size, World.ownsRow_nil _ _ _ _⟩
              have HF : Hid (OfI xs bs s s) := OfI.first hlt hs1
              clear KD HB HW hs1
              go_upto_region 17 with fail
              generalize wr.alloc (.cells #[.slice none 0 0, .int .i64 0, .int .u16 0, .int .u8 0, .int .u8 0, .int .u32 0, .int .i64 0, .int .i64 0] 56) = w5 at *
              generalize wr.heap.size = D at *
              go_wp2
              go_loopw [11] (fun i wr => ∃ (k : Nat) (ac : Option Addr) (cc : Nat), i = .int .i64 k ∧ Hid (OfI xs bs s k) ∧ Hid (VAt wr D 56 #[.slice ac (k - s) cc, .int .i64 0, .int .u16 0, .int .u8 0, .int .u8 0, .int .u32 0, .int .i64 0, .int .i64 0]) ∧ Hid (OfD w wr D gb cb gn (xs.length + 1) xs.length bs u10 vs (.slice ac (k - s) cc) ((xs.drop s).take (k - s)))) (fun i _ => xs.length - (intOf i).toNat)
              case atStart =>
                refine ⟨s, none, 0, rfl, HF, ?_, ?_⟩
                · rw [Nat.sub_self]; exact HVD
                · rw [Nat.sub_self]; exact HD0
              case round =>
                clear HVD HD0 HF
                obtain ⟨k, ac, cc, rfl, HF, HVD, HD⟩ := hrel
                have hkl := HF.out.lt
                have hks := HF.out.le
                have hl2 : (k : Int) < (xs.length : Int) := by omega
                obtain ⟨b, o, rfl, hc⟩ := (H.out.keptNone HD.out.ow.up).insns hkl
                obtain ⟨c0, c1, c2, c3⟩ := hc k hkl
                have hb0 : b < w.heap.size := (H.out).under rfl (by intro e; have := congrArg List.length e; rw [flat_len] at this; simp at this; omega)
                have hbD : b ≠ D := by have := HD.out.hD; omega
                clear hc
                have HX : Hid (∀ hk : k < xs.length, xs[k] = xs[k]) := fun _ => rfl
                obtain ⟨x, hx⟩ : ∃ x, xs[k] = x := ⟨_, rfl⟩
                have HXE : Hid (xs[k] = x) := hx
                rw [hx] at c0 c1 c2 c3
                clear hx HX
                have b0 := x.code.toNat_lt
                have b1 := x.jt.toNat_lt
                have b2 := x.jf.toNat_lt
                have b3 := x.k.toNat_lt
                have CC := refclass_any x.code.toNat wr (by omega) (by omega)
                have CR := retB_any x.code.toNat wr
                cases hlv : leavesB x with
                | false =>
                  have hc5 : (classV x.code.toNat == 5) = false := by rw [leavesB, Bool.or_eq_false_iff] at hlv; exact hlv.1
                  have hr : retB x.code.toNat = false := by rw [leavesB, class6_ret, Bool.or_eq_false_iff] at hlv; exact hlv.2
                  have hc5' : (classV x.code.toNat != 5) = true := by rw [bne, hc5]; rfl
                  rw [hr] at CR
                  have hkn := plain_next HZ.out hkl (by rw [HXE.out]; exact hlv)
                  have d0 : wr.cell? ⟨D, 0, none⟩ = some (.slice ac (k - s) cc) := HVD.out.cell 0
                  have fd := HVD.out.free 0
                  go_wp2_with fail
                  refine CC.mono ?_
                  rintro e w' ⟨rfl, rfl⟩
                  go_wp2_with fail
                  refine CR.mono ?_
                  rintro e w' ⟨rfl, rfl⟩
                  have HLV : Hid (leavesB x = false) := hlv
                  clear CC CR hc5 hc5' hr hlv
                  go_upto_region 18 with fail
                  have hcl : ((xs.drop s).take (k - s)).length = k - s := part15_len (by omega)
                  have HCD : Hid (wr.ownsRow D 54 4 (.slice ac (k - s) cc) (k - s) (flat ((xs.drop s).take (k - s)))) := by
                    have := HD.out.code
                    unfold IOwns at this
                    rw [hcl] at this
                    exact this
                  have HDl : Hid (D ≤ wr.heap.size) := Nat.le_of_lt HVD.out.lt
                  have c0' := (grown_alloc_drew wr (.cells #[.int .u16 (x.code.toNat : Int), .int .u8 (x.jt.toNat : Int), .int .u8 (x.jf.toNat : Int), .int .u32 (x.k.toNat : Int)] 54) none).cell d0 (by simp)
                  go_region_law (refine step_append_cv rfl (.tmp 69) (.tmp 74) 46 rfl 54 n0 _ 4 8 Tryz.underlying46 ni nz0 nz1 nz2 rfl (by decide) D (.slice ac (k - s) cc) (k - s) (flat ((xs.drop s).take (k - s))) (by simp [Act.eval]) (by first | exact (HCD.out.alloc _).drew | exact HCD.out.drew.alloc _) ⟨wr.heap.size, 0, none⟩ 1 1 [.int .u16 (x.code.toNat : Int), .int .u8 (x.jt.toNat : Int), .int .u8 (x.jf.toNat : Int), .int .u32 (x.k.toNat : Int)] (by simp [Act.eval]) rfl (by first | exact (cv_lit wr _ _) | exact (cv_lit wr _ _).keptNone (grown_drewN _ 1 none)) (by simp [Value.oneCell']) (by unfold maxLen; omega) (by omega) (by have := HDl.out; simp; omega) ?_; intro y3 w3 O3 K3; obtain ⟨a3, q3, hy3, -, hc31, hc32, -⟩ := cv_of_row O3; subst hy3; have VD3 : VAt w3 D 56 _ := VAt.grown (HVD.out.kept (by first | exact grown_alloc_drew wr _ none | exact grown_trans (grown_drewN wr 1 none) (World.grownBy_alloc _ _ none))) K3 (fun e => ne15 HCD.out HVD.out e rfl); have e0 := VD3.cell 0; simp only [List.getElem?_toArray, List.getElem?_cons_zero] at e0; have f3 := VD3.free 0)
                  all_goals
                    have HKS : Hid (k + 1 - s = k - s + 1) := (by omega : k + 1 - s = k - s + 1)
                    have C3 : IOwns w3 D (.slice a3 (k - s + 1) q3) ((xs.drop s).take (k + 1 - s)) := by
                      unfold IOwns
                      rw [take_more hks hkl, flat_append, List.length_append, hcl, List.length_singleton, HXE.out]
                      exact O3
                    have D3 := (HD.out.keptNone (by first | exact grown_alloc_drew wr _ none | exact grown_trans (grown_drewN wr 1 none) (World.grownBy_alloc _ _ none))).more K3 C3
                    have VD4 : VAt (w3.setCell ⟨D, 0, none⟩ (.slice a3 (k - s + 1) q3)) D 56 #[.slice a3 (k - s + 1) q3, .int .i64 0, .int .u16 0, .int .u8 0, .int .u8 0, .int .u32 0, .int .i64 0, .int .i64 0] := VD3.set 0 _
                    have D4 := D3.set VD3 (grown_set1 w3 ⟨D, 0, none⟩ (.slice a3 (k - s + 1) q3))
                    clear VD3 D3 C3 O3 K3 c0' e0 f3 HVD HD d0 fd HCD c0 c1 c2 c3
                    generalize w3.setCell ⟨D, 0, none⟩ (.slice a3 (k - s + 1) q3) = w6 at *
                    have cb1 := bool15 D4.ow.marks (by rw [List.length_set]; exact HLB.out) (k + 1) (by omega)
                    rw [first_at] at cb1
                    have hk1 : (k : Int) + 1 < (xs.length : Int) + 1 := by omega
                    have hk2 : ((k : Int) + 1).toNat = k + 1 := by omega
                    cases hq : bs.getD (k + 1) false with
                    | false =>
                      rw [hq] at cb1
                      have HF2 : Hid (OfI xs bs s (k + 1)) := HF.out.next hkn hq
                      have HVD4 : Hid (VAt w6 D 56 #[.slice a3 (k - s + 1) q3, .int .i64 0, .int .u16 0, .int .u8 0, .int .u8 0, .int .u32 0, .int .i64 0, .int .i64 0]) := VD4
                      have HD4 : Hid (OfD w w6 D gb cb gn (xs.length + 1) xs.length bs u10 vs (.slice a3 (k - s + 1) q3) ((xs.drop s).take (k + 1 - s))) := D4
                      clear hq VD4 D4
                      go_wp2
                      go_roundw
                      case rel =>
                        refine ⟨k + 1, a3, q3, by go_num, HF2, ?_, ?_⟩
                        · rw [HKS.out]; exact HVD4
                        · rw [HKS.out] at HD4 ⊢; exact HD4
                      case measure => simp [intOf]; omega
                    | true =>
                      rw [hq] at cb1
                      have HFO := HF.out.over hq
                      have HOV : Hid (ofTo xs (numN bs) (k + 1) = (k + 1, (ofTo xs (numN bs) s).2 ++ [⟨(xs.drop s).take (k + 1 - s), 2, in0, (numN bs (k + 1) : Int), 0⟩])) := by
                        show _ = _
                        rw [HFO, blkV, if_pos (by rw [HXE.out]; exact HLV.out)]
                      have nk : w6.cell? ⟨gn, k + 1, none⟩ = some (.int .i64 (numN bs (k + 1) : Int)) := by
                        have := D4.ow.nums.cells (g := gn) rfl (k + 1) (nv (numN bs (k + 1))) (by rw [List.getElem?_map, numL_get (by omega) (by omega)]; rfl)
                        rwa [Addr.add_lit, Nat.zero_add] at this
                      have hgD : gn ≠ D := fun e => by
                        have h1 := D4.ow.nums
                        rcases h1.2 with ⟨hv, -⟩ | ⟨g2, cap2, cur, hv, -, hg, -⟩
                        · cases hv
                        · simp only [Value.slice.injEq, Option.some.injEq, Addr.mk.injEq, and_true] at hv
                          obtain ⟨rfl, -, -⟩ := hv
                          have A := VD4
                          unfold VAt at A
                          rw [← e, hg] at A
                          simp only [Option.some.injEq, Obj.cells.injEq] at A
                          exact absurd A.2.1 (by decide)
                      clear hq HFO
                      have m0 : w6.cell? ⟨D, 0, none⟩ = some (.slice a3 (k - s + 1) q3) := VD4.cell 0
                      have m1 : w6.cell? ⟨D, 1, none⟩ = some (.int .i64 0) := VD4.cell 1
                      have g1 := VD4.free 1
                      have hpos : (0 : Int) < ((k - s + 1 : Nat) : Int) := by omega
                      have VD5 : VAt (w6.setCell ⟨D, 1, none⟩ (.int .i64 2)) D 56 #[.slice a3 (k - s + 1) q3, .int .i64 2, .int .u16 0, .int .u8 0, .int .u8 0, .int .u32 0, .int .i64 0, .int .i64 0] := VD4.set 1 _
                      have D5 := D4.set VD4 (grown_set1 w6 ⟨D, 1, none⟩ (.int .i64 2))
                      have nk5 := (grown_set1 w6 ⟨D, 1, none⟩ (.int .i64 2)).cell nk (by simpa using hgD)
                      clear VD4 D4 nk
                      go_upto_region 27 with fail
                      generalize w6.setCell ⟨D, 1, none⟩ (.int .i64 2) = w7 at *
                      clear m0 m1 g1
                      have m6 : w7.cell? ⟨D, 6, none⟩ = some (.int .i64 0) := VD5.cell 6
                      have g6 := VD5.free 6
                      have VD6 : VAt (w7.setCell ⟨D, 6, none⟩ (.int .i64 (numN bs (k + 1) : Int))) D 56 #[.slice a3 (k - s + 1) q3, .int .i64 2, .int .u16 0, .int .u8 0, .int .u8 0, .int .u32 0, .int .i64 (numN bs (k + 1) : Int), .int .i64 0] := VD5.set 6 _
                      have D6 := D5.set VD5 (grown_set1 w7 ⟨D, 6, none⟩ (.int .i64 (numN bs (k + 1) : Int)))
                      clear VD5 D5
                      go_upto_region 28 with fail
                      generalize w7.setCell ⟨D, 6, none⟩ (.int .i64 (numN bs (k + 1) : Int)) = w8 at *
                      clear m6 g6 nk5 cb1
                      have hcl1 : ((xs.drop s).take (k + 1 - s)).length = k - s + 1 := by rw [part15_len (by omega)]; omega
                      obtain ⟨bk, hbk⟩ : ∃ bk : Bv, bk = ⟨⟨(xs.drop s).take (k + 1 - s), 2, in0, (numN bs (k + 1) : Int), 0⟩, a3, q3⟩ := ⟨_, rfl⟩
                      have HPB : Hid (bk = ⟨⟨(xs.drop s).take (k + 1 - s), 2, in0, (numN bs (k + 1) : Int), 0⟩, a3, q3⟩) := hbk
                      have KA : w8.grownBy (w8.alloc (.cells #[.slice a3 (k - s + 1) q3, .int .i64 2, .int .u16 0, .int .u8 0, .int .u8 0, .int .u32 0, .int .i64 (numN bs (k + 1) : Int), .int .i64 0] 56)) none := World.grownBy_alloc _ _ _
                      have CA : CV (w8.alloc (.cells #[.slice a3 (k - s + 1) q3, .int .i64 2, .int .u16 0, .int .u8 0, .int .u8 0, .int .u32 0, .int .i64 (numN bs (k + 1) : Int), .int .i64 0] 56)) (some ⟨w8.heap.size, 0, none⟩) (flatB [bk]) := by
                        rw [hbk]
                        have := lit_block w8 ⟨⟨(xs.drop s).take (k + 1 - s), 2, in0, (numN bs (k + 1) : Int), 0⟩, a3, q3⟩
                        simp only [bkA, hcl1] at this
                        exact this
                      have DA := D6.keptNone KA
                      have HVX : Hid (VAt w8 D 56 #[.slice a3 (k - s + 1) q3, .int .i64 2, .int .u16 0, .int .u8 0, .int .u8 0, .int .u32 0, .int .i64 (numN bs (k + 1) : Int), .int .i64 0]) := VD6
                      have HSZ : Hid ((Tryz.prog.info? 56).map (·.size) = some 8) := sizeB15
                      have hup : w.heap.size ≤ (w8.alloc (.cells #[.slice a3 (k - s + 1) q3, .int .i64 2, .int .u16 0, .int .u8 0, .int .u8 0, .int .u32 0, .int .i64 (numN bs (k + 1) : Int), .int .i64 0] 56)).heap.size := DA.ow.up.size
                      have HVL : Hid (vs.length ≤ xs.length) := by
                        have h1 := congrArg List.length HV.out
                        rw [gOf_len] at h1
                        have h2 := ofTo_len xs (numN bs) s
                        show vs.length ≤ xs.length
                        omega
                      clear hbk KA D6 VD6
                      go_wp2_with (first
                        | refine wpList_load_row rfl 56 (.tmp 12) rfl D rfl 56 #[.slice a3 (k - s + 1) q3, .int .i64 2, .int .u16 0, .int .u8 0, .int .u8 0, .int .u32 0, .int .i64 (numN bs (k + 1) : Int), .int .i64 0] (0, 0) _ HVX.out Tryz.underlying56 rfl HSZ.out ?_
                        | (at_builtin; refine wpList_append_cv rfl (.tmp 133) (.tmp 135) 22 rfl 56 k0 _ 8 56 Tryz.underlying22 ki kz0 kz1 kz2 rfl (by decide) w.heap.size _ vs.length (flatB vs) rfl ?r1 (some ⟨w8.heap.size, 0, none⟩) 1 1 (flatB [bk]) rfl rfl (fun e => by cases e) ?r2 (flatB_one _) ?r3 ?r4 ?r5 ?r6))
                      case r1 => exact DA.blv.1
                      case r2 => exact CA
                      case r3 => unfold maxLen; have := HVL.out; omega
                      case r4 => have := HVL.out; omega
                      case r5 => exact hup
                      case r6 =>
                        intro v' w9 h9 K9
                        obtain ⟨B9, W9⟩ := DA.push bk (by rw [HPB.out]) (by rw [HPB.out]) (by rw [HPB.out]) (by rw [hcl1]) h9 K9
                        have HB9 : Hid (BLv w9 w.heap.size v' (vs ++ [bk])) := B9
                        have HW9 : Hid (OfW w w9 gb cb gn (xs.length + 1) xs.length bs) := W9
                        have HV9 : Hid (gOf (vs ++ [bk]) = (ofTo xs (numN bs) (k + 1)).2) := by
                          show _ = _
                          rw [HOV.out, HPB.out, ← HV.out]
                          simp [gOf]
                        clear h9 K9 B9 W9 DA CA
                        go_wp2
                        go_roundw
                        case rel => exact ⟨k + 1, vs ++ [bk], by omega, by go_num, by rw [HOV.out], HV9, HB9, HW9⟩
                        case measure => simp [intOf]; omega
                | true =>
                  have hcl : ((xs.drop s).take (k - s)).length = k - s := part15_len (by omega)
                  have hbh := HF.out.over (by rw [← HBS.out]; exact beg_behind hkl (by rw [HXE.out]; exact hlv))
                  rw [HXE.out, blkV, if_neg (by rw [hlv]; simp)] at hbh
                  have V0 := HVD.out
                  have E0 := HD.out
                  have hgD : gn ≠ D := fun e => by
                    have h1 := E0.ow.nums
                    rcases h1.2 with ⟨hv, -⟩ | ⟨g2, cap2, cur, hv, -, hg, -⟩
                    · cases hv
                    · simp only [Value.slice.injEq, Option.some.injEq, Addr.mk.injEq, and_true] at hv
                      obtain ⟨rfl, -, -⟩ := hv
                      have A := V0
                      unfold VAt at A
                      rw [← e, hg] at A
                      simp only [Option.some.injEq, Obj.cells.injEq] at A
                      exact absurd A.2.1 (by decide)
                  have HNK : Hid (∀ i, i < xs.length → wr.cell? ⟨gn, i, none⟩ = some (.int .i64 (numN bs i : Int))) := fun i hi => by
                    have := E0.ow.nums.cells (g := gn) rfl i (nv (numN bs i)) (by rw [List.getElem?_map, numL_get (by omega) (by omega)]; rfl)
                    rwa [Addr.add_lit, Nat.zero_add] at this
                  have d0 : wr.cell? ⟨D, 0, none⟩ = some (.slice ac (k - s) cc) := V0.cell 0
                  have fk := bool15 E0.ow.marks (by rw [List.length_set]; exact HLB.out) k (by omega)
                  have hk1 : (k : Int) < (xs.length : Int) + 1 := by omega
                  have HP : Hid (((0 : Int) < ((k - s : Nat) : Int) ∧ (bs.set 0 true).getD k false = false) ∨ ¬ (0 : Int) < ((k - s : Nat) : Int)) := by
                    by_cases h : s < k
                    · refine .inl ⟨by omega, ?_⟩
                      obtain ⟨k', rfl⟩ : ∃ k', k = k' + 1 := ⟨k - 1, by omega⟩
                      rw [first_at]
                      exact HF.out.no h
                    · exact .inr (by omega)
                  clear HVD HD
                  cases h6 : retB x.code.toNat with
                  | true =>
                    have h5 : (classV x.code.toNat != 5) = true := by rw [bne, ret_class h6]; rfl
                    have HOV : Hid (ofTo xs (numN bs) (k + 1) = (k + 1, (ofTo xs (numN bs) s).2 ++ [⟨(xs.drop s).take (k - s), 1, bareV x, 0, 0⟩])) := by
                      show _ = _
                      rw [hbh, if_pos (by rw [class6_ret]; exact h6)]
                    rw [h6] at CR
                    have hp := HP.out
                    clear h6 hbh hlv HNK HP hgD
                    rcases hp with ⟨z1, z2⟩ | z1
                    · rw [z2] at fk
                      go_wp2_with fail
                      refine CC.mono ?_
                      rintro e w' ⟨rfl, rfl⟩
                      go_wp2_with fail
                      refine CR.mono ?_
                      rintro e w' ⟨rfl, rfl⟩
                      go_wp2_with fail
                      refine CR.mono ?_
                      rintro e w' ⟨rfl, rfl⟩
                      clear CC CR
                      go_upto_region 30 with fail
                      have m1 : wr.cell? ⟨D, 1, none⟩ = some (.int .i64 0) := V0.cell 1
                      have g1 := V0.free 1
                      have V1 : VAt (wr.setCell ⟨D, 1, none⟩ (.int .i64 1)) D 56 #[.slice ac (k - s) cc, .int .i64 1, .int .u16 0, .int .u8 0, .int .u8 0, .int .u32 0, .int .i64 0, .int .i64 0] := (V0.set 1 (.int .i64 1))
                      have E1 := (E0.set V0 (grown_set1 wr ⟨D, 1, none⟩ (.int .i64 1)))
                      have c0' := (grown_set1 wr ⟨D, 1, none⟩ (.int .i64 1)).cell c0 (by simpa using hbD)
                      have c1' := (grown_set1 wr ⟨D, 1, none⟩ (.int .i64 1)).cell c1 (by simpa using hbD)
                      have c2' := (grown_set1 wr ⟨D, 1, none⟩ (.int .i64 1)).cell c2 (by simpa using hbD)
                      have c3' := (grown_set1 wr ⟨D, 1, none⟩ (.int .i64 1)).cell c3 (by simpa using hbD)
                      clear V0 E0
                      go_upto_region 31 with fail
                      generalize (wr.setCell ⟨D, 1, none⟩ (.int .i64 1)) = w6 at *
                      clear m1 g1 c0 c1 c2 c3
                      have c0 := c0'
                      clear c0'
                      have c1 := c1'
                      clear c1'
                      have c2 := c2'
                      clear c2'
                      have c3 := c3'
                      clear c3'
                      go_wp2_with fail
                      refine (reflast_any x w6).mono ?_
                      rintro e w7 ⟨rfl, KL⟩
                      replace V1 := V1.kept KL
                      replace E1 := E1.keptNone KL
                      clear KL c0 c1 c2 c3
                      have m2 : w7.cell? ⟨D, 2, none⟩ = some (.int .u16 0) := V1.cell 2
                      have g2 := V1.free 2
                      have m3 : w7.cell? ⟨D, 3, none⟩ = some (.int .u8 0) := V1.cell 3
                      have g3 := V1.free 3
                      have m4 : w7.cell? ⟨D, 4, none⟩ = some (.int .u8 0) := V1.cell 4
                      have g4 := V1.free 4
                      have m5 : w7.cell? ⟨D, 5, none⟩ = some (.int .u32 0) := V1.cell 5
                      have g5 := V1.free 5
                      have V2 : VAt ((((w7.setCell ⟨D, 2, none⟩ (.int .u16 ((bareV x).code.toNat : Int))).setCell ⟨D, 3, none⟩ (.int .u8 ((bareV x).jt.toNat : Int))).setCell ⟨D, 4, none⟩ (.int .u8 ((bareV x).jf.toNat : Int))).setCell ⟨D, 5, none⟩ (.int .u32 ((bareV x).k.toNat : Int))) D 56 #[.slice ac (k - s) cc, .int .i64 1, .int .u16 ((bareV x).code.toNat : Int), .int .u8 ((bareV x).jt.toNat : Int), .int .u8 ((bareV x).jf.toNat : Int), .int .u32 ((bareV x).k.toNat : Int), .int .i64 0, .int .i64 0] := ((((V1.set 2 (.int .u16 ((bareV x).code.toNat : Int))).set 3 (.int .u8 ((bareV x).jt.toNat : Int))).set 4 (.int .u8 ((bareV x).jf.toNat : Int))).set 5 (.int .u32 ((bareV x).k.toNat : Int)))
                      have E2 := ((((E1.set V1 (grown_set1 w7 ⟨D, 2, none⟩ (.int .u16 ((bareV x).code.toNat : Int)))).set (V1.set 2 (.int .u16 ((bareV x).code.toNat : Int))) (grown_set1 (w7.setCell ⟨D, 2, none⟩ (.int .u16 ((bareV x).code.toNat : Int))) ⟨D, 3, none⟩ (.int .u8 ((bareV x).jt.toNat : Int)))).set ((V1.set 2 (.int .u16 ((bareV x).code.toNat : Int))).set 3 (.int .u8 ((bareV x).jt.toNat : Int))) (grown_set1 ((w7.setCell ⟨D, 2, none⟩ (.int .u16 ((bareV x).code.toNat : Int))).setCell ⟨D, 3, none⟩ (.int .u8 ((bareV x).jt.toNat : Int))) ⟨D, 4, none⟩ (.int .u8 ((bareV x).jf.toNat : Int)))).set (((V1.set 2 (.int .u16 ((bareV x).code.toNat : Int))).set 3 (.int .u8 ((bareV x).jt.toNat : Int))).set 4 (.int .u8 ((bareV x).jf.toNat : Int))) (grown_set1 (((w7.setCell ⟨D, 2, none⟩ (.int .u16 ((bareV x).code.toNat : Int))).setCell ⟨D, 3, none⟩ (.int .u8 ((bareV x).jt.toNat : Int))).setCell ⟨D, 4, none⟩ (.int .u8 ((bareV x).jf.toNat : Int))) ⟨D, 5, none⟩ (.int .u32 ((bareV x).k.toNat : Int))))
                      clear V1 E1
                      go_upto_region 35 with fail
                      generalize ((((w7.setCell ⟨D, 2, none⟩ (.int .u16 ((bareV x).code.toNat : Int))).setCell ⟨D, 3, none⟩ (.int .u8 ((bareV x).jt.toNat : Int))).setCell ⟨D, 4, none⟩ (.int .u8 ((bareV x).jf.toNat : Int))).setCell ⟨D, 5, none⟩ (.int .u32 ((bareV x).k.toNat : Int))) = w8 at *
                      clear m2 g2 m3 g3 m4 g4 m5 g5 
                      obtain ⟨bk, hbk⟩ : ∃ bk : Bv, bk = ⟨⟨(xs.drop s).take (k - s), 1, bareV x, 0, 0⟩, ac, cc⟩ := ⟨_, rfl⟩
                      have HPB : Hid (bk = ⟨⟨(xs.drop s).take (k - s), 1, bareV x, 0, 0⟩, ac, cc⟩) := hbk
                      have KA : w8.grownBy (w8.alloc (.cells #[.slice ac (k - s) cc, .int .i64 1, .int .u16 ((bareV x).code.toNat : Int), .int .u8 ((bareV x).jt.toNat : Int), .int .u8 ((bareV x).jf.toNat : Int), .int .u32 ((bareV x).k.toNat : Int), .int .i64 0, .int .i64 0] 56)) none := World.grownBy_alloc _ _ _
                      have CA : CV (w8.alloc (.cells #[.slice ac (k - s) cc, .int .i64 1, .int .u16 ((bareV x).code.toNat : Int), .int .u8 ((bareV x).jt.toNat : Int), .int .u8 ((bareV x).jf.toNat : Int), .int .u32 ((bareV x).k.toNat : Int), .int .i64 0, .int .i64 0] 56)) (some ⟨w8.heap.size, 0, none⟩) (flatB [bk]) := by
                        rw [hbk]
                        have := lit_block w8 ⟨⟨(xs.drop s).take (k - s), 1, bareV x, 0, 0⟩, ac, cc⟩
                        simp only [bkA, hcl] at this
                        exact this
                      have DA := E2.keptNone KA
                      have HVX : Hid (VAt w8 D 56 #[.slice ac (k - s) cc, .int .i64 1, .int .u16 ((bareV x).code.toNat : Int), .int .u8 ((bareV x).jt.toNat : Int), .int .u8 ((bareV x).jf.toNat : Int), .int .u32 ((bareV x).k.toNat : Int), .int .i64 0, .int .i64 0]) := V2
                      have HSZ : Hid ((Tryz.prog.info? 56).map (·.size) = some 8) := sizeB15
                      have hup : w.heap.size ≤ (w8.alloc (.cells #[.slice ac (k - s) cc, .int .i64 1, .int .u16 ((bareV x).code.toNat : Int), .int .u8 ((bareV x).jt.toNat : Int), .int .u8 ((bareV x).jf.toNat : Int), .int .u32 ((bareV x).k.toNat : Int), .int .i64 0, .int .i64 0] 56)).heap.size := DA.ow.up.size
                      have HVL : Hid (vs.length ≤ xs.length) := by
                        have h1 := congrArg List.length HV.out
                        rw [gOf_len] at h1
                        have h2 := ofTo_len xs (numN bs) s
                        show vs.length ≤ xs.length
                        omega
                      clear hbk KA E2 V2
                      go_wp2_with (first
                        | refine wpList_load_row rfl 56 (.tmp 12) rfl D rfl 56 #[.slice ac (k - s) cc, .int .i64 1, .int .u16 ((bareV x).code.toNat : Int), .int .u8 ((bareV x).jt.toNat : Int), .int .u8 ((bareV x).jf.toNat : Int), .int .u32 ((bareV x).k.toNat : Int), .int .i64 0, .int .i64 0] (0, 0) _ HVX.out Tryz.underlying56 rfl HSZ.out ?_
                        | (at_builtin; refine wpList_append_cv rfl (.tmp 172) (.tmp 174) 22 rfl 56 k0 _ 8 56 Tryz.underlying22 ki kz0 kz1 kz2 rfl (by decide) w.heap.size _ vs.length (flatB vs) rfl ?ra1 (some ⟨w8.heap.size, 0, none⟩) 1 1 (flatB [bk]) rfl rfl (fun e => by cases e) ?ra2 (flatB_one _) ?ra3 ?ra4 ?ra5 ?ra6))
                      case ra1 => exact DA.blv.1
                      case ra2 => exact CA
                      case ra3 => unfold maxLen; have := HVL.out; omega
                      case ra4 => have := HVL.out; omega
                      case ra5 => exact hup
                      case ra6 =>
                        intro v' w9 h9 K9
                        obtain ⟨B9, W9⟩ := DA.push bk (by rw [HPB.out]) (by rw [HPB.out]) (by rw [HPB.out]) (by rw [hcl]) h9 K9
                        have HB9 : Hid (BLv w9 w.heap.size v' (vs ++ [bk])) := B9
                        have HW9 : Hid (OfW w w9 gb cb gn (xs.length + 1) xs.length bs) := W9
                        have HV9 : Hid (gOf (vs ++ [bk]) = (ofTo xs (numN bs) (k + 1)).2) := by
                          show _ = _
                          rw [HOV.out, HPB.out, ← HV.out]
                          simp [gOf]
                        clear h9 K9 B9 W9 DA CA
                        go_wp2
                        go_roundw
                        case rel => exact ⟨k + 1, vs ++ [bk], by omega, by go_num, by rw [HOV.out], HV9, HB9, HW9⟩
                        case measure => simp [intOf]; omega
                    · clear fk
                      go_wp2_with fail
                      refine CC.mono ?_
                      rintro e w' ⟨rfl, rfl⟩
                      go_wp2_with fail
                      refine CR.mono ?_
                      rintro e w' ⟨rfl, rfl⟩
                      go_wp2_with fail
                      refine CR.mono ?_
                      rintro e w' ⟨rfl, rfl⟩
                      clear CC CR
                      go_upto_region 30 with fail
                      have m1 : wr.cell? ⟨D, 1, none⟩ = some (.int .i64 0) := V0.cell 1
                      have g1 := V0.free 1
                      have V1 : VAt (wr.setCell ⟨D, 1, none⟩ (.int .i64 1)) D 56 #[.slice ac (k - s) cc, .int .i64 1, .int .u16 0, .int .u8 0, .int .u8 0, .int .u32 0, .int .i64 0, .int .i64 0] := (V0.set 1 (.int .i64 1))
                      have E1 := (E0.set V0 (grown_set1 wr ⟨D, 1, none⟩ (.int .i64 1)))
                      have c0' := (grown_set1 wr ⟨D, 1, none⟩ (.int .i64 1)).cell c0 (by simpa using hbD)
                      have c1' := (grown_set1 wr ⟨D, 1, none⟩ (.int .i64 1)).cell c1 (by simpa using hbD)
                      have c2' := (grown_set1 wr ⟨D, 1, none⟩ (.int .i64 1)).cell c2 (by simpa using hbD)
                      have c3' := (grown_set1 wr ⟨D, 1, none⟩ (.int .i64 1)).cell c3 (by simpa using hbD)
                      clear V0 E0
                      go_upto_region 31 with fail
                      generalize (wr.setCell ⟨D, 1, none⟩ (.int .i64 1)) = w6 at *
                      clear m1 g1 c0 c1 c2 c3
                      have c0 := c0'
                      clear c0'
                      have c1 := c1'
                      clear c1'
                      have c2 := c2'
                      clear c2'
                      have c3 := c3'
                      clear c3'
                      go_wp2_with fail
                      refine (reflast_any x w6).mono ?_
                      rintro e w7 ⟨rfl, KL⟩
                      replace V1 := V1.kept KL
                      replace E1 := E1.keptNone KL
                      clear KL c0 c1 c2 c3
                      have m2 : w7.cell? ⟨D, 2, none⟩ = some (.int .u16 0) := V1.cell 2
                      have g2 := V1.free 2
                      have m3 : w7.cell? ⟨D, 3, none⟩ = some (.int .u8 0) := V1.cell 3
                      have g3 := V1.free 3
                      have m4 : w7.cell? ⟨D, 4, none⟩ = some (.int .u8 0) := V1.cell 4
                      have g4 := V1.free 4
                      have m5 : w7.cell? ⟨D, 5, none⟩ = some (.int .u32 0) := V1.cell 5
                      have g5 := V1.free 5
                      have V2 : VAt ((((w7.setCell ⟨D, 2, none⟩ (.int .u16 ((bareV x).code.toNat : Int))).setCell ⟨D, 3, none⟩ (.int .u8 ((bareV x).jt.toNat : Int))).setCell ⟨D, 4, none⟩ (.int .u8 ((bareV x).jf.toNat : Int))).setCell ⟨D, 5, none⟩ (.int .u32 ((bareV x).k.toNat : Int))) D 56 #[.slice ac (k - s) cc, .int .i64 1, .int .u16 ((bareV x).code.toNat : Int), .int .u8 ((bareV x).jt.toNat : Int), .int .u8 ((bareV x).jf.toNat : Int), .int .u32 ((bareV x).k.toNat : Int), .int .i64 0, .int .i64 0] := ((((V1.set 2 (.int .u16 ((bareV x).code.toNat : Int))).set 3 (.int .u8 ((bareV x).jt.toNat : Int))).set 4 (.int .u8 ((bareV x).jf.toNat : Int))).set 5 (.int .u32 ((bareV x).k.toNat : Int)))
                      have E2 := ((((E1.set V1 (grown_set1 w7 ⟨D, 2, none⟩ (.int .u16 ((bareV x).code.toNat : Int)))).set (V1.set 2 (.int .u16 ((bareV x).code.toNat : Int))) (grown_set1 (w7.setCell ⟨D, 2, none⟩ (.int .u16 ((bareV x).code.toNat : Int))) ⟨D, 3, none⟩ (.int .u8 ((bareV x).jt.toNat : Int)))).set ((V1.set 2 (.int .u16 ((bareV x).code.toNat : Int))).set 3 (.int .u8 ((bareV x).jt.toNat : Int))) (grown_set1 ((w7.setCell ⟨D, 2, none⟩ (.int .u16 ((bareV x).code.toNat : Int))).setCell ⟨D, 3, none⟩ (.int .u8 ((bareV x).jt.toNat : Int))) ⟨D, 4, none⟩ (.int .u8 ((bareV x).jf.toNat : Int)))).set (((V1.set 2 (.int .u16 ((bareV x).code.toNat : Int))).set 3 (.int .u8 ((bareV x).jt.toNat : Int))).set 4 (.int .u8 ((bareV x).jf.toNat : Int))) (grown_set1 (((w7.setCell ⟨D, 2, none⟩ (.int .u16 ((bareV x).code.toNat : Int))).setCell ⟨D, 3, none⟩ (.int .u8 ((bareV x).jt.toNat : Int))).setCell ⟨D, 4, none⟩ (.int .u8 ((bareV x).jf.toNat : Int))) ⟨D, 5, none⟩ (.int .u32 ((bareV x).k.toNat : Int))))
                      clear V1 E1
                      go_upto_region 35 with fail
                      generalize ((((w7.setCell ⟨D, 2, none⟩ (.int .u16 ((bareV x).code.toNat : Int))).setCell ⟨D, 3, none⟩ (.int .u8 ((bareV x).jt.toNat : Int))).setCell ⟨D, 4, none⟩ (.int .u8 ((bareV x).jf.toNat : Int))).setCell ⟨D, 5, none⟩ (.int .u32 ((bareV x).k.toNat : Int))) = w8 at *
                      clear m2 g2 m3 g3 m4 g4 m5 g5 
                      obtain ⟨bk, hbk⟩ : ∃ bk : Bv, bk = ⟨⟨(xs.drop s).take (k - s), 1, bareV x, 0, 0⟩, ac, cc⟩ := ⟨_, rfl⟩
                      have HPB : Hid (bk = ⟨⟨(xs.drop s).take (k - s), 1, bareV x, 0, 0⟩, ac, cc⟩) := hbk
                      have KA : w8.grownBy (w8.alloc (.cells #[.slice ac (k - s) cc, .int .i64 1, .int .u16 ((bareV x).code.toNat : Int), .int .u8 ((bareV x).jt.toNat : Int), .int .u8 ((bareV x).jf.toNat : Int), .int .u32 ((bareV x).k.toNat : Int), .int .i64 0, .int .i64 0] 56)) none := World.grownBy_alloc _ _ _
                      have CA : CV (w8.alloc (.cells #[.slice ac (k - s) cc, .int .i64 1, .int .u16 ((bareV x).code.toNat : Int), .int .u8 ((bareV x).jt.toNat : Int), .int .u8 ((bareV x).jf.toNat : Int), .int .u32 ((bareV x).k.toNat : Int), .int .i64 0, .int .i64 0] 56)) (some ⟨w8.heap.size, 0, none⟩) (flatB [bk]) := by
                        rw [hbk]
                        have := lit_block w8 ⟨⟨(xs.drop s).take (k - s), 1, bareV x, 0, 0⟩, ac, cc⟩
                        simp only [bkA, hcl] at this
                        exact this
                      have DA := E2.keptNone KA
                      have HVX : Hid (VAt w8 D 56 #[.slice ac (k - s) cc, .int .i64 1, .int .u16 ((bareV x).code.toNat : Int), .int .u8 ((bareV x).jt.toNat : Int), .int .u8 ((bareV x).jf.toNat : Int), .int .u32 ((bareV x).k.toNat : Int), .int .i64 0, .int .i64 0]) := V2
                      have HSZ : Hid ((Tryz.prog.info? 56).map (·.size) = some 8) := sizeB15
                      have hup : w.heap.size ≤ (w8.alloc (.cells #[.slice ac (k - s) cc, .int .i64 1, .int .u16 ((bareV x).code.toNat : Int), .int .u8 ((bareV x).jt.toNat : Int), .int .u8 ((bareV x).jf.toNat : Int), .int .u32 ((bareV x).k.toNat : Int), .int .i64 0, .int .i64 0] 56)).heap.size := DA.ow.up.size
                      have HVL : Hid (vs.length ≤ xs.length) := by
                        have h1 := congrArg List.length HV.out
                        rw [gOf_len] at h1
                        have h2 := ofTo_len xs (numN bs) s
                        show vs.length ≤ xs.length
                        omega
                      clear hbk KA E2 V2
                      go_wp2_with (first
                        | refine wpList_load_row rfl 56 (.tmp 12) rfl D rfl 56 #[.slice ac (k - s) cc, .int .i64 1, .int .u16 ((bareV x).code.toNat : Int), .int .u8 ((bareV x).jt.toNat : Int), .int .u8 ((bareV x).jf.toNat : Int), .int .u32 ((bareV x).k.toNat : Int), .int .i64 0, .int .i64 0] (0, 0) _ HVX.out Tryz.underlying56 rfl HSZ.out ?_
                        | (at_builtin; refine wpList_append_cv rfl (.tmp 172) (.tmp 174) 22 rfl 56 k0 _ 8 56 Tryz.underlying22 ki kz0 kz1 kz2 rfl (by decide) w.heap.size _ vs.length (flatB vs) rfl ?rb1 (some ⟨w8.heap.size, 0, none⟩) 1 1 (flatB [bk]) rfl rfl (fun e => by cases e) ?rb2 (flatB_one _) ?rb3 ?rb4 ?rb5 ?rb6))
                      case rb1 => exact DA.blv.1
                      case rb2 => exact CA
                      case rb3 => unfold maxLen; have := HVL.out; omega
                      case rb4 => have := HVL.out; omega
                      case rb5 => exact hup
                      case rb6 =>
                        intro v' w9 h9 K9
                        obtain ⟨B9, W9⟩ := DA.push bk (by rw [HPB.out]) (by rw [HPB.out]) (by rw [HPB.out]) (by rw [hcl]) h9 K9
                        have HB9 : Hid (BLv w9 w.heap.size v' (vs ++ [bk])) := B9
                        have HW9 : Hid (OfW w w9 gb cb gn (xs.length + 1) xs.length bs) := W9
                        have HV9 : Hid (gOf (vs ++ [bk]) = (ofTo xs (numN bs) (k + 1)).2) := by
                          show _ = _
                          rw [HOV.out, HPB.out, ← HV.out]
                          simp [gOf]
                        clear h9 K9 B9 W9 DA CA
                        go_wp2
                        go_roundw
                        case rel => exact ⟨k + 1, vs ++ [bk], by omega, by go_num, by rw [HOV.out], HV9, HB9, HW9⟩
                        case measure => simp [intOf]; omega
                  | false =>
                    have h5 : (classV x.code.toNat == 5) = true := by rw [leavesB, class6_ret, h6, Bool.or_false] at hlv; exact hlv
                    have h5' : (classV x.code.toNat != 5) = false := by rw [bne, h5]; rfl
                    rw [h6] at CR
                    rw [if_neg (by rw [class6_ret, h6]; simp)] at hbh
                    obtain ⟨gy, gno, -⟩ := goals_in HZ.out hkl (by rw [HXE.out]; simpa using h5)
                    rw [HXE.out] at gy gno
                    cases hja : ((x.code.toNat : Int) == 5) with
                    | true =>
                      rw [yesG, if_pos hja] at gy
                      have HOV : Hid (ofTo xs (numN bs) (k + 1) = (k + 1, (ofTo xs (numN bs) s).2 ++ [⟨(xs.drop s).take (k - s), 2, in0, (numN bs (k + 1 + x.k.toNat) : Int), 0⟩])) := by
                        show _ = _
                        rw [hbh, if_pos hja, yesG, if_pos hja]
                      have ny := HNK.out _ gy
                      have i1 : (k : Int) + 1 + (x.k.toNat : Int) < (xs.length : Int) + 1 := by omega
                      have i2 : ((k : Int) + 1 + (x.k.toNat : Int)).toNat = k + 1 + x.k.toNat := by omega
                      have hp := HP.out
                      clear h6 hbh hlv HNK HP h5 gno
                      rcases hp with ⟨z1, z2⟩ | z1
                      · rw [z2] at fk
                        go_wp2_with fail
                        refine CC.mono ?_
                        rintro e w' ⟨rfl, rfl⟩
                        go_wp2_with fail
                        refine CR.mono ?_
                        rintro e w' ⟨rfl, rfl⟩
                        clear CC CR
                        go_upto_region 33 with fail
                        have m1 : wr.cell? ⟨D, 1, none⟩ = some (.int .i64 0) := V0.cell 1
                        have g1 := V0.free 1
                        have V1 : VAt (wr.setCell ⟨D, 1, none⟩ (.int .i64 2)) D 56 #[.slice ac (k - s) cc, .int .i64 2, .int .u16 0, .int .u8 0, .int .u8 0, .int .u32 0, .int .i64 0, .int .i64 0] := (V0.set 1 (.int .i64 2))
                        have E1 := (E0.set V0 (grown_set1 wr ⟨D, 1, none⟩ (.int .i64 2)))
                        have c0' := (grown_set1 wr ⟨D, 1, none⟩ (.int .i64 2)).cell c0 (by simpa using hbD)
                        have c1' := (grown_set1 wr ⟨D, 1, none⟩ (.int .i64 2)).cell c1 (by simpa using hbD)
                        have c2' := (grown_set1 wr ⟨D, 1, none⟩ (.int .i64 2)).cell c2 (by simpa using hbD)
                        have c3' := (grown_set1 wr ⟨D, 1, none⟩ (.int .i64 2)).cell c3 (by simpa using hbD)
                        have ny' := (grown_set1 wr ⟨D, 1, none⟩ (.int .i64 2)).cell ny (by simpa using hgD)
                        clear V0 E0
                        go_upto_region 34 with fail
                        generalize (wr.setCell ⟨D, 1, none⟩ (.int .i64 2)) = w6 at *
                        clear m1 g1 c0 c1 c2 c3 ny
                        have c0 := c0'
                        clear c0'
                        have c1 := c1'
                        clear c1'
                        have c2 := c2'
                        clear c2'
                        have c3 := c3'
                        clear c3'
                        have ny := ny'
                        clear ny'
                        have m6 : w6.cell? ⟨D, 6, none⟩ = some (.int .i64 0) := V1.cell 6
                        have g6 := V1.free 6
                        have V2 : VAt (w6.setCell ⟨D, 6, none⟩ (.int .i64 (numN bs (k + 1 + x.k.toNat) : Int))) D 56 #[.slice ac (k - s) cc, .int .i64 2, .int .u16 0, .int .u8 0, .int .u8 0, .int .u32 0, .int .i64 (numN bs (k + 1 + x.k.toNat) : Int), .int .i64 0] := (V1.set 6 (.int .i64 (numN bs (k + 1 + x.k.toNat) : Int)))
                        have E2 := (E1.set V1 (grown_set1 w6 ⟨D, 6, none⟩ (.int .i64 (numN bs (k + 1 + x.k.toNat) : Int))))
                        clear V1 E1
                        go_upto_region 35 with fail
                        generalize (w6.setCell ⟨D, 6, none⟩ (.int .i64 (numN bs (k + 1 + x.k.toNat) : Int))) = w8 at *
                        clear m6 g6 
                        clear ny c0 c1 c2 c3
                        obtain ⟨bk, hbk⟩ : ∃ bk : Bv, bk = ⟨⟨(xs.drop s).take (k - s), 2, in0, (numN bs (k + 1 + x.k.toNat) : Int), 0⟩, ac, cc⟩ := ⟨_, rfl⟩
                        have HPB : Hid (bk = ⟨⟨(xs.drop s).take (k - s), 2, in0, (numN bs (k + 1 + x.k.toNat) : Int), 0⟩, ac, cc⟩) := hbk
                        have KA : w8.grownBy (w8.alloc (.cells #[.slice ac (k - s) cc, .int .i64 2, .int .u16 0, .int .u8 0, .int .u8 0, .int .u32 0, .int .i64 (numN bs (k + 1 + x.k.toNat) : Int), .int .i64 0] 56)) none := World.grownBy_alloc _ _ _
                        have CA : CV (w8.alloc (.cells #[.slice ac (k - s) cc, .int .i64 2, .int .u16 0, .int .u8 0, .int .u8 0, .int .u32 0, .int .i64 (numN bs (k + 1 + x.k.toNat) : Int), .int .i64 0] 56)) (some ⟨w8.heap.size, 0, none⟩) (flatB [bk]) := by
                          rw [hbk]
                          have := lit_block w8 ⟨⟨(xs.drop s).take (k - s), 2, in0, (numN bs (k + 1 + x.k.toNat) : Int), 0⟩, ac, cc⟩
                          simp only [bkA, hcl] at this
                          exact this
                        have DA := E2.keptNone KA
                        have HVX : Hid (VAt w8 D 56 #[.slice ac (k - s) cc, .int .i64 2, .int .u16 0, .int .u8 0, .int .u8 0, .int .u32 0, .int .i64 (numN bs (k + 1 + x.k.toNat) : Int), .int .i64 0]) := V2
                        have HSZ : Hid ((Tryz.prog.info? 56).map (·.size) = some 8) := sizeB15
                        have hup : w.heap.size ≤ (w8.alloc (.cells #[.slice ac (k - s) cc, .int .i64 2, .int .u16 0, .int .u8 0, .int .u8 0, .int .u32 0, .int .i64 (numN bs (k + 1 + x.k.toNat) : Int), .int .i64 0] 56)).heap.size := DA.ow.up.size
                        have HVL : Hid (vs.length ≤ xs.length) := by
                          have h1 := congrArg List.length HV.out
                          rw [gOf_len] at h1
                          have h2 := ofTo_len xs (numN bs) s
                          show vs.length ≤ xs.length
                          omega
                        clear hbk KA E2 V2
                        go_wp2_with (first
                          | refine wpList_load_row rfl 56 (.tmp 12) rfl D rfl 56 #[.slice ac (k - s) cc, .int .i64 2, .int .u16 0, .int .u8 0, .int .u8 0, .int .u32 0, .int .i64 (numN bs (k + 1 + x.k.toNat) : Int), .int .i64 0] (0, 0) _ HVX.out Tryz.underlying56 rfl HSZ.out ?_
                          | (at_builtin; refine wpList_append_cv rfl (.tmp 172) (.tmp 174) 22 rfl 56 k0 _ 8 56 Tryz.underlying22 ki kz0 kz1 kz2 rfl (by decide) w.heap.size _ vs.length (flatB vs) rfl ?rc1 (some ⟨w8.heap.size, 0, none⟩) 1 1 (flatB [bk]) rfl rfl (fun e => by cases e) ?rc2 (flatB_one _) ?rc3 ?rc4 ?rc5 ?rc6))
                        case rc1 => exact DA.blv.1
                        case rc2 => exact CA
                        case rc3 => unfold maxLen; have := HVL.out; omega
                        case rc4 => have := HVL.out; omega
                        case rc5 => exact hup
                        case rc6 =>
                          intro v' w9 h9 K9
                          obtain ⟨B9, W9⟩ := DA.push bk (by rw [HPB.out]) (by rw [HPB.out]) (by rw [HPB.out]) (by rw [hcl]) h9 K9
                          have HB9 : Hid (BLv w9 w.heap.size v' (vs ++ [bk])) := B9
                          have HW9 : Hid (OfW w w9 gb cb gn (xs.length + 1) xs.length bs) := W9
                          have HV9 : Hid (gOf (vs ++ [bk]) = (ofTo xs (numN bs) (k + 1)).2) := by
                            show _ = _
                            rw [HOV.out, HPB.out, ← HV.out]
                            simp [gOf]
                          clear h9 K9 B9 W9 DA CA
                          go_wp2
                          go_roundw
                          case rel => exact ⟨k + 1, vs ++ [bk], by omega, by go_num, by rw [HOV.out], HV9, HB9, HW9⟩
                          case measure => simp [intOf]; omega
                      · clear fk
                        go_wp2_with fail
                        refine CC.mono ?_
                        rintro e w' ⟨rfl, rfl⟩
                        go_wp2_with fail
                        refine CR.mono ?_
                        rintro e w' ⟨rfl, rfl⟩
                        clear CC CR
                        go_upto_region 33 with fail
                        have m1 : wr.cell? ⟨D, 1, none⟩ = some (.int .i64 0) := V0.cell 1
                        have g1 := V0.free 1
                        have V1 : VAt (wr.setCell ⟨D, 1, none⟩ (.int .i64 2)) D 56 #[.slice ac (k - s) cc, .int .i64 2, .int .u16 0, .int .u8 0, .int .u8 0, .int .u32 0, .int .i64 0, .int .i64 0] := (V0.set 1 (.int .i64 2))
                        have E1 := (E0.set V0 (grown_set1 wr ⟨D, 1, none⟩ (.int .i64 2)))
                        have c0' := (grown_set1 wr ⟨D, 1, none⟩ (.int .i64 2)).cell c0 (by simpa using hbD)
                        have c1' := (grown_set1 wr ⟨D, 1, none⟩ (.int .i64 2)).cell c1 (by simpa using hbD)
                        have c2' := (grown_set1 wr ⟨D, 1, none⟩ (.int .i64 2)).cell c2 (by simpa using hbD)
                        have c3' := (grown_set1 wr ⟨D, 1, none⟩ (.int .i64 2)).cell c3 (by simpa using hbD)
                        have ny' := (grown_set1 wr ⟨D, 1, none⟩ (.int .i64 2)).cell ny (by simpa using hgD)
                        clear V0 E0
                        go_upto_region 34 with fail
                        generalize (wr.setCell ⟨D, 1, none⟩ (.int .i64 2)) = w6 at *
                        clear m1 g1 c0 c1 c2 c3 ny
                        have c0 := c0'
                        clear c0'
                        have c1 := c1'
                        clear c1'
                        have c2 := c2'
                        clear c2'
                        have c3 := c3'
                        clear c3'
                        have ny := ny'
                        clear ny'
                        have m6 : w6.cell? ⟨D, 6, none⟩ = some (.int .i64 0) := V1.cell 6
                        have g6 := V1.free 6
                        have V2 : VAt (w6.setCell ⟨D, 6, none⟩ (.int .i64 (numN bs (k + 1 + x.k.toNat) : Int))) D 56 #[.slice ac (k - s) cc, .int .i64 2, .int .u16 0, .int .u8 0, .int .u8 0, .int .u32 0, .int .i64 (numN bs (k + 1 + x.k.toNat) : Int), .int .i64 0] := (V1.set 6 (.int .i64 (numN bs (k + 1 + x.k.toNat) : Int)))
                        have E2 := (E1.set V1 (grown_set1 w6 ⟨D, 6, none⟩ (.int .i64 (numN bs (k + 1 + x.k.toNat) : Int))))
                        clear V1 E1
                        go_upto_region 35 with fail
                        generalize (w6.setCell ⟨D, 6, none⟩ (.int .i64 (numN bs (k + 1 + x.k.toNat) : Int))) = w8 at *
                        clear m6 g6 
                        clear ny c0 c1 c2 c3
                        obtain ⟨bk, hbk⟩ : ∃ bk : Bv, bk = ⟨⟨(xs.drop s).take (k - s), 2, in0, (numN bs (k + 1 + x.k.toNat) : Int), 0⟩, ac, cc⟩ := ⟨_, rfl⟩
                        have HPB : Hid (bk = ⟨⟨(xs.drop s).take (k - s), 2, in0, (numN bs (k + 1 + x.k.toNat) : Int), 0⟩, ac, cc⟩) := hbk
                        have KA : w8.grownBy (w8.alloc (.cells #[.slice ac (k - s) cc, .int .i64 2, .int .u16 0, .int .u8 0, .int .u8 0, .int .u32 0, .int .i64 (numN bs (k + 1 + x.k.toNat) : Int), .int .i64 0] 56)) none := World.grownBy_alloc _ _ _
                        have CA : CV (w8.alloc (.cells #[.slice ac (k - s) cc, .int .i64 2, .int .u16 0, .int .u8 0, .int .u8 0, .int .u32 0, .int .i64 (numN bs (k + 1 + x.k.toNat) : Int), .int .i64 0] 56)) (some ⟨w8.heap.size, 0, none⟩) (flatB [bk]) := by
                          rw [hbk]
                          have := lit_block w8 ⟨⟨(xs.drop s).take (k - s), 2, in0, (numN bs (k + 1 + x.k.toNat) : Int), 0⟩, ac, cc⟩
                          simp only [bkA, hcl] at this
                          exact this
                        have DA := E2.keptNone KA
                        have HVX : Hid (VAt w8 D 56 #[.slice ac (k - s) cc, .int .i64 2, .int .u16 0, .int .u8 0, .int .u8 0, .int .u32 0, .int .i64 (numN bs (k + 1 + x.k.toNat) : Int), .int .i64 0]) := V2
                        have HSZ : Hid ((Tryz.prog.info? 56).map (·.size) = some 8) := sizeB15
                        have hup : w.heap.size ≤ (w8.alloc (.cells #[.slice ac (k - s) cc, .int .i64 2, .int .u16 0, .int .u8 0, .int .u8 0, .int .u32 0, .int .i64 (numN bs (k + 1 + x.k.toNat) : Int), .int .i64 0] 56)).heap.size := DA.ow.up.size
                        have HVL : Hid (vs.length ≤ xs.length) := by
                          have h1 := congrArg List.length HV.out
                          rw [gOf_len] at h1
                          have h2 := ofTo_len xs (numN bs) s
                          show vs.length ≤ xs.length
                          omega
                        clear hbk KA E2 V2
                        go_wp2_with (first
                          | refine wpList_load_row rfl 56 (.tmp 12) rfl D rfl 56 #[.slice ac (k - s) cc, .int .i64 2, .int .u16 0, .int .u8 0, .int .u8 0, .int .u32 0, .int .i64 (numN bs (k + 1 + x.k.toNat) : Int), .int .i64 0] (0, 0) _ HVX.out Tryz.underlying56 rfl HSZ.out ?_
                          | (at_builtin; refine wpList_append_cv rfl (.tmp 172) (.tmp 174) 22 rfl 56 k0 _ 8 56 Tryz.underlying22 ki kz0 kz1 kz2 rfl (by decide) w.heap.size _ vs.length (flatB vs) rfl ?rd1 (some ⟨w8.heap.size, 0, none⟩) 1 1 (flatB [bk]) rfl rfl (fun e => by cases e) ?rd2 (flatB_one _) ?rd3 ?rd4 ?rd5 ?rd6))
                        case rd1 => exact DA.blv.1
                        case rd2 => exact CA
                        case rd3 => unfold maxLen; have := HVL.out; omega
                        case rd4 => have := HVL.out; omega
                        case rd5 => exact hup
                        case rd6 =>
                          intro v' w9 h9 K9
                          obtain ⟨B9, W9⟩ := DA.push bk (by rw [HPB.out]) (by rw [HPB.out]) (by rw [HPB.out]) (by rw [hcl]) h9 K9
                          have HB9 : Hid (BLv w9 w.heap.size v' (vs ++ [bk])) := B9
                          have HW9 : Hid (OfW w w9 gb cb gn (xs.length + 1) xs.length bs) := W9
                          have HV9 : Hid (gOf (vs ++ [bk]) = (ofTo xs (numN bs) (k + 1)).2) := by
                            show _ = _
                            rw [HOV.out, HPB.out, ← HV.out]
                            simp [gOf]
                          clear h9 K9 B9 W9 DA CA
                          go_wp2
                          go_roundw
                          case rel => exact ⟨k + 1, vs ++ [bk], by omega, by go_num, by rw [HOV.out], HV9, HB9, HW9⟩
                          case measure => simp [intOf]; omega
                    | false =>
                      rw [yesG, if_neg (by rw [hja]; simp)] at gy
                      rw [noG, if_neg (by rw [hja]; simp)] at gno
                      have HOV : Hid (ofTo xs (numN bs) (k + 1) = (k + 1, (ofTo xs (numN bs) s).2 ++ [⟨(xs.drop s).take (k - s), 3, bareV x, (numN bs (k + 1 + x.jt.toNat) : Int), (numN bs (k + 1 + x.jf.toNat) : Int)⟩])) := by
                        show _ = _
                        rw [hbh, if_neg (by rw [hja]; simp), yesG, noG, if_neg (by rw [hja]; simp), if_neg (by rw [hja]; simp)]
                      have ny := HNK.out _ gy
                      have nn := HNK.out _ gno
                      have i1 : (k : Int) + 1 + (x.jt.toNat : Int) < (xs.length : Int) + 1 := by omega
                      have i2 : ((k : Int) + 1 + (x.jt.toNat : Int)).toNat = k + 1 + x.jt.toNat := by omega
                      have i3 : (k : Int) + 1 + (x.jf.toNat : Int) < (xs.length : Int) + 1 := by omega
                      have i4 : ((k : Int) + 1 + (x.jf.toNat : Int)).toNat = k + 1 + x.jf.toNat := by omega
                      have hp := HP.out
                      clear h6 hbh hlv HNK HP h5
                      rcases hp with ⟨z1, z2⟩ | z1
                      · rw [z2] at fk
                        go_wp2_with fail
                        refine CC.mono ?_
                        rintro e w' ⟨rfl, rfl⟩
                        go_wp2_with fail
                        refine CR.mono ?_
                        rintro e w' ⟨rfl, rfl⟩
                        clear CC CR
                        go_upto_region 21 with fail
                        have m1 : wr.cell? ⟨D, 1, none⟩ = some (.int .i64 0) := V0.cell 1
                        have g1 := V0.free 1
                        have V1 : VAt (wr.setCell ⟨D, 1, none⟩ (.int .i64 3)) D 56 #[.slice ac (k - s) cc, .int .i64 3, .int .u16 0, .int .u8 0, .int .u8 0, .int .u32 0, .int .i64 0, .int .i64 0] := (V0.set 1 (.int .i64 3))
                        have E1 := (E0.set V0 (grown_set1 wr ⟨D, 1, none⟩ (.int .i64 3)))
                        have c0' := (grown_set1 wr ⟨D, 1, none⟩ (.int .i64 3)).cell c0 (by simpa using hbD)
                        have c1' := (grown_set1 wr ⟨D, 1, none⟩ (.int .i64 3)).cell c1 (by simpa using hbD)
                        have c2' := (grown_set1 wr ⟨D, 1, none⟩ (.int .i64 3)).cell c2 (by simpa using hbD)
                        have c3' := (grown_set1 wr ⟨D, 1, none⟩ (.int .i64 3)).cell c3 (by simpa using hbD)
                        have ny' := (grown_set1 wr ⟨D, 1, none⟩ (.int .i64 3)).cell ny (by simpa using hgD)
                        have nn' := (grown_set1 wr ⟨D, 1, none⟩ (.int .i64 3)).cell nn (by simpa using hgD)
                        clear V0 E0
                        go_upto_region 22 with fail
                        generalize (wr.setCell ⟨D, 1, none⟩ (.int .i64 3)) = w6 at *
                        clear m1 g1 c0 c1 c2 c3 ny nn
                        have c0 := c0'
                        clear c0'
                        have c1 := c1'
                        clear c1'
                        have c2 := c2'
                        clear c2'
                        have c3 := c3'
                        clear c3'
                        have ny := ny'
                        clear ny'
                        have nn := nn'
                        clear nn'
                        go_wp2_with fail
                        refine (reflast_any x w6).mono ?_
                        rintro e w7 ⟨rfl, KL⟩
                        replace V1 := V1.kept KL
                        replace E1 := E1.keptNone KL
                        replace c0 := KL.cell c0 (by simp)
                        replace c1 := KL.cell c1 (by simp)
                        replace c2 := KL.cell c2 (by simp)
                        replace c3 := KL.cell c3 (by simp)
                        replace ny := KL.cell ny (by simp)
                        replace nn := KL.cell nn (by simp)
                        clear KL
                        have m2 : w7.cell? ⟨D, 2, none⟩ = some (.int .u16 0) := V1.cell 2
                        have g2 := V1.free 2
                        have m3 : w7.cell? ⟨D, 3, none⟩ = some (.int .u8 0) := V1.cell 3
                        have g3 := V1.free 3
                        have m4 : w7.cell? ⟨D, 4, none⟩ = some (.int .u8 0) := V1.cell 4
                        have g4 := V1.free 4
                        have m5 : w7.cell? ⟨D, 5, none⟩ = some (.int .u32 0) := V1.cell 5
                        have g5 := V1.free 5
                        have V2 : VAt ((((w7.setCell ⟨D, 2, none⟩ (.int .u16 ((bareV x).code.toNat : Int))).setCell ⟨D, 3, none⟩ (.int .u8 ((bareV x).jt.toNat : Int))).setCell ⟨D, 4, none⟩ (.int .u8 ((bareV x).jf.toNat : Int))).setCell ⟨D, 5, none⟩ (.int .u32 ((bareV x).k.toNat : Int))) D 56 #[.slice ac (k - s) cc, .int .i64 3, .int .u16 ((bareV x).code.toNat : Int), .int .u8 ((bareV x).jt.toNat : Int), .int .u8 ((bareV x).jf.toNat : Int), .int .u32 ((bareV x).k.toNat : Int), .int .i64 0, .int .i64 0] := ((((V1.set 2 (.int .u16 ((bareV x).code.toNat : Int))).set 3 (.int .u8 ((bareV x).jt.toNat : Int))).set 4 (.int .u8 ((bareV x).jf.toNat : Int))).set 5 (.int .u32 ((bareV x).k.toNat : Int)))
                        have E2 := ((((E1.set V1 (grown_set1 w7 ⟨D, 2, none⟩ (.int .u16 ((bareV x).code.toNat : Int)))).set (V1.set 2 (.int .u16 ((bareV x).code.toNat : Int))) (grown_set1 (w7.setCell ⟨D, 2, none⟩ (.int .u16 ((bareV x).code.toNat : Int))) ⟨D, 3, none⟩ (.int .u8 ((bareV x).jt.toNat : Int)))).set ((V1.set 2 (.int .u16 ((bareV x).code.toNat : Int))).set 3 (.int .u8 ((bareV x).jt.toNat : Int))) (grown_set1 ((w7.setCell ⟨D, 2, none⟩ (.int .u16 ((bareV x).code.toNat : Int))).setCell ⟨D, 3, none⟩ (.int .u8 ((bareV x).jt.toNat : Int))) ⟨D, 4, none⟩ (.int .u8 ((bareV x).jf.toNat : Int)))).set (((V1.set 2 (.int .u16 ((bareV x).code.toNat : Int))).set 3 (.int .u8 ((bareV x).jt.toNat : Int))).set 4 (.int .u8 ((bareV x).jf.toNat : Int))) (grown_set1 (((w7.setCell ⟨D, 2, none⟩ (.int .u16 ((bareV x).code.toNat : Int))).setCell ⟨D, 3, none⟩ (.int .u8 ((bareV x).jt.toNat : Int))).setCell ⟨D, 4, none⟩ (.int .u8 ((bareV x).jf.toNat : Int))) ⟨D, 5, none⟩ (.int .u32 ((bareV x).k.toNat : Int))))
                        have c0' := (grown_trans (grown_trans (grown_trans (grown_set1 w7 ⟨D, 2, none⟩ (.int .u16 ((bareV x).code.toNat : Int))) (grown_set1 (w7.setCell ⟨D, 2, none⟩ (.int .u16 ((bareV x).code.toNat : Int))) ⟨D, 3, none⟩ (.int .u8 ((bareV x).jt.toNat : Int)))) (grown_set1 ((w7.setCell ⟨D, 2, none⟩ (.int .u16 ((bareV x).code.toNat : Int))).setCell ⟨D, 3, none⟩ (.int .u8 ((bareV x).jt.toNat : Int))) ⟨D, 4, none⟩ (.int .u8 ((bareV x).jf.toNat : Int)))) (grown_set1 (((w7.setCell ⟨D, 2, none⟩ (.int .u16 ((bareV x).code.toNat : Int))).setCell ⟨D, 3, none⟩ (.int .u8 ((bareV x).jt.toNat : Int))).setCell ⟨D, 4, none⟩ (.int .u8 ((bareV x).jf.toNat : Int))) ⟨D, 5, none⟩ (.int .u32 ((bareV x).k.toNat : Int)))).cell c0 (by simpa using hbD)
                        have c1' := (grown_trans (grown_trans (grown_trans (grown_set1 w7 ⟨D, 2, none⟩ (.int .u16 ((bareV x).code.toNat : Int))) (grown_set1 (w7.setCell ⟨D, 2, none⟩ (.int .u16 ((bareV x).code.toNat : Int))) ⟨D, 3, none⟩ (.int .u8 ((bareV x).jt.toNat : Int)))) (grown_set1 ((w7.setCell ⟨D, 2, none⟩ (.int .u16 ((bareV x).code.toNat : Int))).setCell ⟨D, 3, none⟩ (.int .u8 ((bareV x).jt.toNat : Int))) ⟨D, 4, none⟩ (.int .u8 ((bareV x).jf.toNat : Int)))) (grown_set1 (((w7.setCell ⟨D, 2, none⟩ (.int .u16 ((bareV x).code.toNat : Int))).setCell ⟨D, 3, none⟩ (.int .u8 ((bareV x).jt.toNat : Int))).setCell ⟨D, 4, none⟩ (.int .u8 ((bareV x).jf.toNat : Int))) ⟨D, 5, none⟩ (.int .u32 ((bareV x).k.toNat : Int)))).cell c1 (by simpa using hbD)
                        have c2' := (grown_trans (grown_trans (grown_trans (grown_set1 w7 ⟨D, 2, none⟩ (.int .u16 ((bareV x).code.toNat : Int))) (grown_set1 (w7.setCell ⟨D, 2, none⟩ (.int .u16 ((bareV x).code.toNat : Int))) ⟨D, 3, none⟩ (.int .u8 ((bareV x).jt.toNat : Int)))) (grown_set1 ((w7.setCell ⟨D, 2, none⟩ (.int .u16 ((bareV x).code.toNat : Int))).setCell ⟨D, 3, none⟩ (.int .u8 ((bareV x).jt.toNat : Int))) ⟨D, 4, none⟩ (.int .u8 ((bareV x).jf.toNat : Int)))) (grown_set1 (((w7.setCell ⟨D, 2, none⟩ (.int .u16 ((bareV x).code.toNat : Int))).setCell ⟨D, 3, none⟩ (.int .u8 ((bareV x).jt.toNat : Int))).setCell ⟨D, 4, none⟩ (.int .u8 ((bareV x).jf.toNat : Int))) ⟨D, 5, none⟩ (.int .u32 ((bareV x).k.toNat : Int)))).cell c2 (by simpa using hbD)
                        have c3' := (grown_trans (grown_trans (grown_trans (grown_set1 w7 ⟨D, 2, none⟩ (.int .u16 ((bareV x).code.toNat : Int))) (grown_set1 (w7.setCell ⟨D, 2, none⟩ (.int .u16 ((bareV x).code.toNat : Int))) ⟨D, 3, none⟩ (.int .u8 ((bareV x).jt.toNat : Int)))) (grown_set1 ((w7.setCell ⟨D, 2, none⟩ (.int .u16 ((bareV x).code.toNat : Int))).setCell ⟨D, 3, none⟩ (.int .u8 ((bareV x).jt.toNat : Int))) ⟨D, 4, none⟩ (.int .u8 ((bareV x).jf.toNat : Int)))) (grown_set1 (((w7.setCell ⟨D, 2, none⟩ (.int .u16 ((bareV x).code.toNat : Int))).setCell ⟨D, 3, none⟩ (.int .u8 ((bareV x).jt.toNat : Int))).setCell ⟨D, 4, none⟩ (.int .u8 ((bareV x).jf.toNat : Int))) ⟨D, 5, none⟩ (.int .u32 ((bareV x).k.toNat : Int)))).cell c3 (by simpa using hbD)
                        have ny' := (grown_trans (grown_trans (grown_trans (grown_set1 w7 ⟨D, 2, none⟩ (.int .u16 ((bareV x).code.toNat : Int))) (grown_set1 (w7.setCell ⟨D, 2, none⟩ (.int .u16 ((bareV x).code.toNat : Int))) ⟨D, 3, none⟩ (.int .u8 ((bareV x).jt.toNat : Int)))) (grown_set1 ((w7.setCell ⟨D, 2, none⟩ (.int .u16 ((bareV x).code.toNat : Int))).setCell ⟨D, 3, none⟩ (.int .u8 ((bareV x).jt.toNat : Int))) ⟨D, 4, none⟩ (.int .u8 ((bareV x).jf.toNat : Int)))) (grown_set1 (((w7.setCell ⟨D, 2, none⟩ (.int .u16 ((bareV x).code.toNat : Int))).setCell ⟨D, 3, none⟩ (.int .u8 ((bareV x).jt.toNat : Int))).setCell ⟨D, 4, none⟩ (.int .u8 ((bareV x).jf.toNat : Int))) ⟨D, 5, none⟩ (.int .u32 ((bareV x).k.toNat : Int)))).cell ny (by simpa using hgD)
                        have nn' := (grown_trans (grown_trans (grown_trans (grown_set1 w7 ⟨D, 2, none⟩ (.int .u16 ((bareV x).code.toNat : Int))) (grown_set1 (w7.setCell ⟨D, 2, none⟩ (.int .u16 ((bareV x).code.toNat : Int))) ⟨D, 3, none⟩ (.int .u8 ((bareV x).jt.toNat : Int)))) (grown_set1 ((w7.setCell ⟨D, 2, none⟩ (.int .u16 ((bareV x).code.toNat : Int))).setCell ⟨D, 3, none⟩ (.int .u8 ((bareV x).jt.toNat : Int))) ⟨D, 4, none⟩ (.int .u8 ((bareV x).jf.toNat : Int)))) (grown_set1 (((w7.setCell ⟨D, 2, none⟩ (.int .u16 ((bareV x).code.toNat : Int))).setCell ⟨D, 3, none⟩ (.int .u8 ((bareV x).jt.toNat : Int))).setCell ⟨D, 4, none⟩ (.int .u8 ((bareV x).jf.toNat : Int))) ⟨D, 5, none⟩ (.int .u32 ((bareV x).k.toNat : Int)))).cell nn (by simpa using hgD)
                        clear V1 E1
                        go_upto_region 23 with fail
                        generalize ((((w7.setCell ⟨D, 2, none⟩ (.int .u16 ((bareV x).code.toNat : Int))).setCell ⟨D, 3, none⟩ (.int .u8 ((bareV x).jt.toNat : Int))).setCell ⟨D, 4, none⟩ (.int .u8 ((bareV x).jf.toNat : Int))).setCell ⟨D, 5, none⟩ (.int .u32 ((bareV x).k.toNat : Int))) = w8 at *
                        clear m2 g2 m3 g3 m4 g4 m5 g5 c0 c1 c2 c3 ny nn
                        have c0 := c0'
                        clear c0'
                        have c1 := c1'
                        clear c1'
                        have c2 := c2'
                        clear c2'
                        have c3 := c3'
                        clear c3'
                        have ny := ny'
                        clear ny'
                        have nn := nn'
                        clear nn'
                        have m6 : w8.cell? ⟨D, 6, none⟩ = some (.int .i64 0) := V2.cell 6
                        have g6 := V2.free 6
                        have V3 : VAt (w8.setCell ⟨D, 6, none⟩ (.int .i64 (numN bs (k + 1 + x.jt.toNat) : Int))) D 56 #[.slice ac (k - s) cc, .int .i64 3, .int .u16 ((bareV x).code.toNat : Int), .int .u8 ((bareV x).jt.toNat : Int), .int .u8 ((bareV x).jf.toNat : Int), .int .u32 ((bareV x).k.toNat : Int), .int .i64 (numN bs (k + 1 + x.jt.toNat) : Int), .int .i64 0] := (V2.set 6 (.int .i64 (numN bs (k + 1 + x.jt.toNat) : Int)))
                        have E3 := (E2.set V2 (grown_set1 w8 ⟨D, 6, none⟩ (.int .i64 (numN bs (k + 1 + x.jt.toNat) : Int))))
                        have c0' := (grown_set1 w8 ⟨D, 6, none⟩ (.int .i64 (numN bs (k + 1 + x.jt.toNat) : Int))).cell c0 (by simpa using hbD)
                        have c1' := (grown_set1 w8 ⟨D, 6, none⟩ (.int .i64 (numN bs (k + 1 + x.jt.toNat) : Int))).cell c1 (by simpa using hbD)
                        have c2' := (grown_set1 w8 ⟨D, 6, none⟩ (.int .i64 (numN bs (k + 1 + x.jt.toNat) : Int))).cell c2 (by simpa using hbD)
                        have c3' := (grown_set1 w8 ⟨D, 6, none⟩ (.int .i64 (numN bs (k + 1 + x.jt.toNat) : Int))).cell c3 (by simpa using hbD)
                        have ny' := (grown_set1 w8 ⟨D, 6, none⟩ (.int .i64 (numN bs (k + 1 + x.jt.toNat) : Int))).cell ny (by simpa using hgD)
                        have nn' := (grown_set1 w8 ⟨D, 6, none⟩ (.int .i64 (numN bs (k + 1 + x.jt.toNat) : Int))).cell nn (by simpa using hgD)
                        clear V2 E2
                        go_upto_region 24 with fail
                        generalize (w8.setCell ⟨D, 6, none⟩ (.int .i64 (numN bs (k + 1 + x.jt.toNat) : Int))) = wa at *
                        clear m6 g6 c0 c1 c2 c3 ny nn
                        have c0 := c0'
                        clear c0'
                        have c1 := c1'
                        clear c1'
                        have c2 := c2'
                        clear c2'
                        have c3 := c3'
                        clear c3'
                        have ny := ny'
                        clear ny'
                        have nn := nn'
                        clear nn'
                        have m7 : wa.cell? ⟨D, 7, none⟩ = some (.int .i64 0) := V3.cell 7
                        have g7 := V3.free 7
                        have V4 : VAt (wa.setCell ⟨D, 7, none⟩ (.int .i64 (numN bs (k + 1 + x.jf.toNat) : Int))) D 56 #[.slice ac (k - s) cc, .int .i64 3, .int .u16 ((bareV x).code.toNat : Int), .int .u8 ((bareV x).jt.toNat : Int), .int .u8 ((bareV x).jf.toNat : Int), .int .u32 ((bareV x).k.toNat : Int), .int .i64 (numN bs (k + 1 + x.jt.toNat) : Int), .int .i64 (numN bs (k + 1 + x.jf.toNat) : Int)] := (V3.set 7 (.int .i64 (numN bs (k + 1 + x.jf.toNat) : Int)))
                        have E4 := (E3.set V3 (grown_set1 wa ⟨D, 7, none⟩ (.int .i64 (numN bs (k + 1 + x.jf.toNat) : Int))))
                        clear V3 E3
                        go_upto_region 35 with fail
                        generalize (wa.setCell ⟨D, 7, none⟩ (.int .i64 (numN bs (k + 1 + x.jf.toNat) : Int))) = wb at *
                        clear m7 g7 
                        clear ny nn c0 c1 c2 c3
                        obtain ⟨bk, hbk⟩ : ∃ bk : Bv, bk = ⟨⟨(xs.drop s).take (k - s), 3, bareV x, (numN bs (k + 1 + x.jt.toNat) : Int), (numN bs (k + 1 + x.jf.toNat) : Int)⟩, ac, cc⟩ := ⟨_, rfl⟩
                        have HPB : Hid (bk = ⟨⟨(xs.drop s).take (k - s), 3, bareV x, (numN bs (k + 1 + x.jt.toNat) : Int), (numN bs (k + 1 + x.jf.toNat) : Int)⟩, ac, cc⟩) := hbk
                        have KA : wb.grownBy (wb.alloc (.cells #[.slice ac (k - s) cc, .int .i64 3, .int .u16 ((bareV x).code.toNat : Int), .int .u8 ((bareV x).jt.toNat : Int), .int .u8 ((bareV x).jf.toNat : Int), .int .u32 ((bareV x).k.toNat : Int), .int .i64 (numN bs (k + 1 + x.jt.toNat) : Int), .int .i64 (numN bs (k + 1 + x.jf.toNat) : Int)] 56)) none := World.grownBy_alloc _ _ _
                        have CA : CV (wb.alloc (.cells #[.slice ac (k - s) cc, .int .i64 3, .int .u16 ((bareV x).code.toNat : Int), .int .u8 ((bareV x).jt.toNat : Int), .int .u8 ((bareV x).jf.toNat : Int), .int .u32 ((bareV x).k.toNat : Int), .int .i64 (numN bs (k + 1 + x.jt.toNat) : Int), .int .i64 (numN bs (k + 1 + x.jf.toNat) : Int)] 56)) (some ⟨wb.heap.size, 0, none⟩) (flatB [bk]) := by
                          rw [hbk]
                          have := lit_block wb ⟨⟨(xs.drop s).take (k - s), 3, bareV x, (numN bs (k + 1 + x.jt.toNat) : Int), (numN bs (k + 1 + x.jf.toNat) : Int)⟩, ac, cc⟩
                          simp only [bkA, hcl] at this
                          exact this
                        have DA := E4.keptNone KA
                        have HVX : Hid (VAt wb D 56 #[.slice ac (k - s) cc, .int .i64 3, .int .u16 ((bareV x).code.toNat : Int), .int .u8 ((bareV x).jt.toNat : Int), .int .u8 ((bareV x).jf.toNat : Int), .int .u32 ((bareV x).k.toNat : Int), .int .i64 (numN bs (k + 1 + x.jt.toNat) : Int), .int .i64 (numN bs (k + 1 + x.jf.toNat) : Int)]) := V4
                        have HSZ : Hid ((Tryz.prog.info? 56).map (·.size) = some 8) := sizeB15
                        have hup : w.heap.size ≤ (wb.alloc (.cells #[.slice ac (k - s) cc, .int .i64 3, .int .u16 ((bareV x).code.toNat : Int), .int .u8 ((bareV x).jt.toNat : Int), .int .u8 ((bareV x).jf.toNat : Int), .int .u32 ((bareV x).k.toNat : Int), .int .i64 (numN bs (k + 1 + x.jt.toNat) : Int), .int .i64 (numN bs (k + 1 + x.jf.toNat) : Int)] 56)).heap.size := DA.ow.up.size
                        have HVL : Hid (vs.length ≤ xs.length) := by
                          have h1 := congrArg List.length HV.out
                          rw [gOf_len] at h1
                          have h2 := ofTo_len xs (numN bs) s
                          show vs.length ≤ xs.length
                          omega
                        clear hbk KA E4 V4
                        go_wp2_with (first
                          | refine wpList_load_row rfl 56 (.tmp 12) rfl D rfl 56 #[.slice ac (k - s) cc, .int .i64 3, .int .u16 ((bareV x).code.toNat : Int), .int .u8 ((bareV x).jt.toNat : Int), .int .u8 ((bareV x).jf.toNat : Int), .int .u32 ((bareV x).k.toNat : Int), .int .i64 (numN bs (k + 1 + x.jt.toNat) : Int), .int .i64 (numN bs (k + 1 + x.jf.toNat) : Int)] (0, 0) _ HVX.out Tryz.underlying56 rfl HSZ.out ?_
                          | (at_builtin; refine wpList_append_cv rfl (.tmp 172) (.tmp 174) 22 rfl 56 k0 _ 8 56 Tryz.underlying22 ki kz0 kz1 kz2 rfl (by decide) w.heap.size _ vs.length (flatB vs) rfl ?re1 (some ⟨wb.heap.size, 0, none⟩) 1 1 (flatB [bk]) rfl rfl (fun e => by cases e) ?re2 (flatB_one _) ?re3 ?re4 ?re5 ?re6))
                        case re1 => exact DA.blv.1
                        case re2 => exact CA
                        case re3 => unfold maxLen; have := HVL.out; omega
                        case re4 => have := HVL.out; omega
                        case re5 => exact hup
                        case re6 =>
                          intro v' w9 h9 K9
                          obtain ⟨B9, W9⟩ := DA.push bk (by rw [HPB.out]) (by rw [HPB.out]) (by rw [HPB.out]) (by rw [hcl]) h9 K9
                          have HB9 : Hid (BLv w9 w.heap.size v' (vs ++ [bk])) := B9
                          have HW9 : Hid (OfW w w9 gb cb gn (xs.length + 1) xs.length bs) := W9
                          have HV9 : Hid (gOf (vs ++ [bk]) = (ofTo xs (numN bs) (k + 1)).2) := by
                            show _ = _
                            rw [HOV.out, HPB.out, ← HV.out]
                            simp [gOf]
                          clear h9 K9 B9 W9 DA CA
                          go_wp2
                          go_roundw
                          case rel => exact ⟨k + 1, vs ++ [bk], by omega, by go_num, by rw [HOV.out], HV9, HB9, HW9⟩
                          case measure => simp [intOf]; omega
                      · clear fk
                        go_wp2_with fail
                        refine CC.mono ?_
                        rintro e w' ⟨rfl, rfl⟩
                        go_wp2_with fail
                        refine CR.mono ?_
                        rintro e w' ⟨rfl, rfl⟩
                        clear CC CR
                        go_upto_region 21 with fail
                        have m1 : wr.cell? ⟨D, 1, none⟩ = some (.int .i64 0) := V0.cell 1
                        have g1 := V0.free 1
                        have V1 : VAt (wr.setCell ⟨D, 1, none⟩ (.int .i64 3)) D 56 #[.slice ac (k - s) cc, .int .i64 3, .int .u16 0, .int .u8 0, .int .u8 0, .int .u32 0, .int .i64 0, .int .i64 0] := (V0.set 1 (.int .i64 3))
                        have E1 := (E0.set V0 (grown_set1 wr ⟨D, 1, none⟩ (.int .i64 3)))
                        have c0' := (grown_set1 wr ⟨D, 1, none⟩ (.int .i64 3)).cell c0 (by simpa using hbD)
                        have c1' := (grown_set1 wr ⟨D, 1, none⟩ (.int .i64 3)).cell c1 (by simpa using hbD)
                        have c2' := (grown_set1 wr ⟨D, 1, none⟩ (.int .i64 3)).cell c2 (by simpa using hbD)
                        have c3' := (grown_set1 wr ⟨D, 1, none⟩ (.int .i64 3)).cell c3 (by simpa using hbD)
                        have ny' := (grown_set1 wr ⟨D, 1, none⟩ (.int .i64 3)).cell ny (by simpa using hgD)
                        have nn' := (grown_set1 wr ⟨D, 1, none⟩ (.int .i64 3)).cell nn (by simpa using hgD)
                        clear V0 E0
                        go_upto_region 22 with fail
                        generalize (wr.setCell ⟨D, 1, none⟩ (.int .i64 3)) = w6 at *
                        clear m1 g1 c0 c1 c2 c3 ny nn
                        have c0 := c0'
                        clear c0'
                        have c1 := c1'
                        clear c1'
                        have c2 := c2'
                        clear c2'
                        have c3 := c3'
                        clear c3'
                        have ny := ny'
                        clear ny'
                        have nn := nn'
                        clear nn'
                        go_wp2_with fail
                        refine (reflast_any x w6).mono ?_
                        rintro e w7 ⟨rfl, KL⟩
                        replace V1 := V1.kept KL
                        replace E1 := E1.keptNone KL
                        replace c0 := KL.cell c0 (by simp)
                        replace c1 := KL.cell c1 (by simp)
                        replace c2 := KL.cell c2 (by simp)
                        replace c3 := KL.cell c3 (by simp)
                        replace ny := KL.cell ny (by simp)
                        replace nn := KL.cell nn (by simp)
                        clear KL
                        have m2 : w7.cell? ⟨D, 2, none⟩ = some (.int .u16 0) := V1.cell 2
                        have g2 := V1.free 2
                        have m3 : w7.cell? ⟨D, 3, none⟩ = some (.int .u8 0) := V1.cell 3
                        have g3 := V1.free 3
                        have m4 : w7.cell? ⟨D, 4, none⟩ = some (.int .u8 0) := V1.cell 4
                        have g4 := V1.free 4
                        have m5 : w7.cell? ⟨D, 5, none⟩ = some (.int .u32 0) := V1.cell 5
                        have g5 := V1.free 5
                        have V2 : VAt ((((w7.setCell ⟨D, 2, none⟩ (.int .u16 ((bareV x).code.toNat : Int))).setCell ⟨D, 3, none⟩ (.int .u8 ((bareV x).jt.toNat : Int))).setCell ⟨D, 4, none⟩ (.int .u8 ((bareV x).jf.toNat : Int))).setCell ⟨D, 5, none⟩ (.int .u32 ((bareV x).k.toNat : Int))) D 56 #[.slice ac (k - s) cc, .int .i64 3, .int .u16 ((bareV x).code.toNat : Int), .int .u8 ((bareV x).jt.toNat : Int), .int .u8 ((bareV x).jf.toNat : Int), .int .u32 ((bareV x).k.toNat : Int), .int .i64 0, .int .i64 0] := ((((V1.set 2 (.int .u16 ((bareV x).code.toNat : Int))).set 3 (.int .u8 ((bareV x).jt.toNat : Int))).set 4 (.int .u8 ((bareV x).jf.toNat : Int))).set 5 (.int .u32 ((bareV x).k.toNat : Int)))
                        have E2 := ((((E1.set V1 (grown_set1 w7 ⟨D, 2, none⟩ (.int .u16 ((bareV x).code.toNat : Int)))).set (V1.set 2 (.int .u16 ((bareV x).code.toNat : Int))) (grown_set1 (w7.setCell ⟨D, 2, none⟩ (.int .u16 ((bareV x).code.toNat : Int))) ⟨D, 3, none⟩ (.int .u8 ((bareV x).jt.toNat : Int)))).set ((V1.set 2 (.int .u16 ((bareV x).code.toNat : Int))).set 3 (.int .u8 ((bareV x).jt.toNat : Int))) (grown_set1 ((w7.setCell ⟨D, 2, none⟩ (.int .u16 ((bareV x).code.toNat : Int))).setCell ⟨D, 3, none⟩ (.int .u8 ((bareV x).jt.toNat : Int))) ⟨D, 4, none⟩ (.int .u8 ((bareV x).jf.toNat : Int)))).set (((V1.set 2 (.int .u16 ((bareV x).code.toNat : Int))).set 3 (.int .u8 ((bareV x).jt.toNat : Int))).set 4 (.int .u8 ((bareV x).jf.toNat : Int))) (grown_set1 (((w7.setCell ⟨D, 2, none⟩ (.int .u16 ((bareV x).code.toNat : Int))).setCell ⟨D, 3, none⟩ (.int .u8 ((bareV x).jt.toNat : Int))).setCell ⟨D, 4, none⟩ (.int .u8 ((bareV x).jf.toNat : Int))) ⟨D, 5, none⟩ (.int .u32 ((bareV x).k.toNat : Int))))
                        have c0' := (grown_trans (grown_trans (grown_trans (grown_set1 w7 ⟨D, 2, none⟩ (.int .u16 ((bareV x).code.toNat : Int))) (grown_set1 (w7.setCell ⟨D, 2, none⟩ (.int .u16 ((bareV x).code.toNat : Int))) ⟨D, 3, none⟩ (.int .u8 ((bareV x).jt.toNat : Int)))) (grown_set1 ((w7.setCell ⟨D, 2, none⟩ (.int .u16 ((bareV x).code.toNat : Int))).setCell ⟨D, 3, none⟩ (.int .u8 ((bareV x).jt.toNat : Int))) ⟨D, 4, none⟩ (.int .u8 ((bareV x).jf.toNat : Int)))) (grown_set1 (((w7.setCell ⟨D, 2, none⟩ (.int .u16 ((bareV x).code.toNat : Int))).setCell ⟨D, 3, none⟩ (.int .u8 ((bareV x).jt.toNat : Int))).setCell ⟨D, 4, none⟩ (.int .u8 ((bareV x).jf.toNat : Int))) ⟨D, 5, none⟩ (.int .u32 ((bareV x).k.toNat : Int)))).cell c0 (by simpa using hbD)
                        have c1' := (grown_trans (grown_trans (grown_trans (grown_set1 w7 ⟨D, 2, none⟩ (.int .u16 ((bareV x).code.toNat : Int))) (grown_set1 (w7.setCell ⟨D, 2, none⟩ (.int .u16 ((bareV x).code.toNat : Int))) ⟨D, 3, none⟩ (.int .u8 ((bareV x).jt.toNat : Int)))) (grown_set1 ((w7.setCell ⟨D, 2, none⟩ (.int .u16 ((bareV x).code.toNat : Int))).setCell ⟨D, 3, none⟩ (.int .u8 ((bareV x).jt.toNat : Int))) ⟨D, 4, none⟩ (.int .u8 ((bareV x).jf.toNat : Int)))) (grown_set1 (((w7.setCell ⟨D, 2, none⟩ (.int .u16 ((bareV x).code.toNat : Int))).setCell ⟨D, 3, none⟩ (.int .u8 ((bareV x).jt.toNat : Int))).setCell ⟨D, 4, none⟩ (.int .u8 ((bareV x).jf.toNat : Int))) ⟨D, 5, none⟩ (.int .u32 ((bareV x).k.toNat : Int)))).cell c1 (by simpa using hbD)
                        have c2' := (grown_trans (grown_trans (grown_trans (grown_set1 w7 ⟨D, 2, none⟩ (.int .u16 ((bareV x).code.toNat : Int))) (grown_set1 (w7.setCell ⟨D, 2, none⟩ (.int .u16 ((bareV x).code.toNat : Int))) ⟨D, 3, none⟩ (.int .u8 ((bareV x).jt.toNat : Int)))) (grown_set1 ((w7.setCell ⟨D, 2, none⟩ (.int .u16 ((bareV x).code.toNat : Int))).setCell ⟨D, 3, none⟩ (.int .u8 ((bareV x).jt.toNat : Int))) ⟨D, 4, none⟩ (.int .u8 ((bareV x).jf.toNat : Int)))) (grown_set1 (((w7.setCell ⟨D, 2, none⟩ (.int .u16 ((bareV x).code.toNat : Int))).setCell ⟨D, 3, none⟩ (.int .u8 ((bareV x).jt.toNat : Int))).setCell ⟨D, 4, none⟩ (.int .u8 ((bareV x).jf.toNat : Int))) ⟨D, 5, none⟩ (.int .u32 ((bareV x).k.toNat : Int)))).cell c2 (by simpa using hbD)
                        have c3' := (grown_trans (grown_trans (grown_trans (grown_set1 w7 ⟨D, 2, none⟩ (.int .u16 ((bareV x).code.toNat : Int))) (grown_set1 (w7.setCell ⟨D, 2, none⟩ (.int .u16 ((bareV x).code.toNat : Int))) ⟨D, 3, none⟩ (.int .u8 ((bareV x).jt.toNat : Int)))) (grown_set1 ((w7.setCell ⟨D, 2, none⟩ (.int .u16 ((bareV x).code.toNat : Int))).setCell ⟨D, 3, none⟩ (.int .u8 ((bareV x).jt.toNat : Int))) ⟨D, 4, none⟩ (.int .u8 ((bareV x).jf.toNat : Int)))) (grown_set1 (((w7.setCell ⟨D, 2, none⟩ (.int .u16 ((bareV x).code.toNat : Int))).setCell ⟨D, 3, none⟩ (.int .u8 ((bareV x).jt.toNat : Int))).setCell ⟨D, 4, none⟩ (.int .u8 ((bareV x).jf.toNat : Int))) ⟨D, 5, none⟩ (.int .u32 ((bareV x).k.toNat : Int)))).cell c3 (by simpa using hbD)
                        have ny' := (grown_trans (grown_trans (grown_trans (grown_set1 w7 ⟨D, 2, none⟩ (.int .u16 ((bareV x).code.toNat : Int))) (grown_set1 (w7.setCell ⟨D, 2, none⟩ (.int .u16 ((bareV x).code.toNat : Int))) ⟨D, 3, none⟩ (.int .u8 ((bareV x).jt.toNat : Int)))) (grown_set1 ((w7.setCell ⟨D, 2, none⟩ (.int .u16 ((bareV x).code.toNat : Int))).setCell ⟨D, 3, none⟩ (.int .u8 ((bareV x).jt.toNat : Int))) ⟨D, 4, none⟩ (.int .u8 ((bareV x).jf.toNat : Int)))) (grown_set1 (((w7.setCell ⟨D, 2, none⟩ (.int .u16 ((bareV x).code.toNat : Int))).setCell ⟨D, 3, none⟩ (.int .u8 ((bareV x).jt.toNat : Int))).setCell ⟨D, 4, none⟩ (.int .u8 ((bareV x).jf.toNat : Int))) ⟨D, 5, none⟩ (.int .u32 ((bareV x).k.toNat : Int)))).cell ny (by simpa using hgD)
                        have nn' := (grown_trans (grown_trans (grown_trans (grown_set1 w7 ⟨D, 2, none⟩ (.int .u16 ((bareV x).code.toNat : Int))) (grown_set1 (w7.setCell ⟨D, 2, none⟩ (.int .u16 ((bareV x).code.toNat : Int))) ⟨D, 3, none⟩ (.int .u8 ((bareV x).jt.toNat : Int)))) (grown_set1 ((w7.setCell ⟨D, 2, none⟩ (.int .u16 ((bareV x).code.toNat : Int))).setCell ⟨D, 3, none⟩ (.int .u8 ((bareV x).jt.toNat : Int))) ⟨D, 4, none⟩ (.int .u8 ((bareV x).jf.toNat : Int)))) (grown_set1 (((w7.setCell ⟨D, 2, none⟩ (.int .u16 ((bareV x).code.toNat : Int))).setCell ⟨D, 3, none⟩ (.int .u8 ((bareV x).jt.toNat : Int))).setCell ⟨D, 4, none⟩ (.int .u8 ((bareV x).jf.toNat : Int))) ⟨D, 5, none⟩ (.int .u32 ((bareV x).k.toNat : Int)))).cell nn (by simpa using hgD)
                        clear V1 E1
                        go_upto_region 23 with fail
                        generalize ((((w7.setCell ⟨D, 2, none⟩ (.int .u16 ((bareV x).code.toNat : Int))).setCell ⟨D, 3, none⟩ (.int .u8 ((bareV x).jt.toNat : Int))).setCell ⟨D, 4, none⟩ (.int .u8 ((bareV x).jf.toNat : Int))).setCell ⟨D, 5, none⟩ (.int .u32 ((bareV x).k.toNat : Int))) = w8 at *
                        clear m2 g2 m3 g3 m4 g4 m5 g5 c0 c1 c2 c3 ny nn
                        have c0 := c0'
                        clear c0'
                        have c1 := c1'
                        clear c1'
                        have c2 := c2'
                        clear c2'
                        have c3 := c3'
                        clear c3'
                        have ny := ny'
                        clear ny'
                        have nn := nn'
                        clear nn'
                        have m6 : w8.cell? ⟨D, 6, none⟩ = some (.int .i64 0) := V2.cell 6
                        have g6 := V2.free 6
                        have V3 : VAt (w8.setCell ⟨D, 6, none⟩ (.int .i64 (numN bs (k + 1 + x.jt.toNat) : Int))) D 56 #[.slice ac (k - s) cc, .int .i64 3, .int .u16 ((bareV x).code.toNat : Int), .int .u8 ((bareV x).jt.toNat : Int), .int .u8 ((bareV x).jf.toNat : Int), .int .u32 ((bareV x).k.toNat : Int), .int .i64 (numN bs (k + 1 + x.jt.toNat) : Int), .int .i64 0] := (V2.set 6 (.int .i64 (numN bs (k + 1 + x.jt.toNat) : Int)))
                        have E3 := (E2.set V2 (grown_set1 w8 ⟨D, 6, none⟩ (.int .i64 (numN bs (k + 1 + x.jt.toNat) : Int))))
                        have c0' := (grown_set1 w8 ⟨D, 6, none⟩ (.int .i64 (numN bs (k + 1 + x.jt.toNat) : Int))).cell c0 (by simpa using hbD)
                        have c1' := (grown_set1 w8 ⟨D, 6, none⟩ (.int .i64 (numN bs (k + 1 + x.jt.toNat) : Int))).cell c1 (by simpa using hbD)
                        have c2' := (grown_set1 w8 ⟨D, 6, none⟩ (.int .i64 (numN bs (k + 1 + x.jt.toNat) : Int))).cell c2 (by simpa using hbD)
                        have c3' := (grown_set1 w8 ⟨D, 6, none⟩ (.int .i64 (numN bs (k + 1 + x.jt.toNat) : Int))).cell c3 (by simpa using hbD)
                        have ny' := (grown_set1 w8 ⟨D, 6, none⟩ (.int .i64 (numN bs (k + 1 + x.jt.toNat) : Int))).cell ny (by simpa using hgD)
                        have nn' := (grown_set1 w8 ⟨D, 6, none⟩ (.int .i64 (numN bs (k + 1 + x.jt.toNat) : Int))).cell nn (by simpa using hgD)
                        clear V2 E2
                        go_upto_region 24 with fail
                        generalize (w8.setCell ⟨D, 6, none⟩ (.int .i64 (numN bs (k + 1 + x.jt.toNat) : Int))) = wa at *
                        clear m6 g6 c0 c1 c2 c3 ny nn
                        have c0 := c0'
                        clear c0'
                        have c1 := c1'
                        clear c1'
                        have c2 := c2'
                        clear c2'
                        have c3 := c3'
                        clear c3'
                        have ny := ny'
                        clear ny'
                        have nn := nn'
                        clear nn'
                        have m7 : wa.cell? ⟨D, 7, none⟩ = some (.int .i64 0) := V3.cell 7
                        have g7 := V3.free 7
                        have V4 : VAt (wa.setCell ⟨D, 7, none⟩ (.int .i64 (numN bs (k + 1 + x.jf.toNat) : Int))) D 56 #[.slice ac (k - s) cc, .int .i64 3, .int .u16 ((bareV x).code.toNat : Int), .int .u8 ((bareV x).jt.toNat : Int), .int .u8 ((bareV x).jf.toNat : Int), .int .u32 ((bareV x).k.toNat : Int), .int .i64 (numN bs (k + 1 + x.jt.toNat) : Int), .int .i64 (numN bs (k + 1 + x.jf.toNat) : Int)] := (V3.set 7 (.int .i64 (numN bs (k + 1 + x.jf.toNat) : Int)))
                        have E4 := (E3.set V3 (grown_set1 wa ⟨D, 7, none⟩ (.int .i64 (numN bs (k + 1 + x.jf.toNat) : Int))))
                        clear V3 E3
                        go_upto_region 35 with fail
                        generalize (wa.setCell ⟨D, 7, none⟩ (.int .i64 (numN bs (k + 1 + x.jf.toNat) : Int))) = wb at *
                        clear m7 g7 
                        clear ny nn c0 c1 c2 c3
                        obtain ⟨bk, hbk⟩ : ∃ bk : Bv, bk = ⟨⟨(xs.drop s).take (k - s), 3, bareV x, (numN bs (k + 1 + x.jt.toNat) : Int), (numN bs (k + 1 + x.jf.toNat) : Int)⟩, ac, cc⟩ := ⟨_, rfl⟩
                        have HPB : Hid (bk = ⟨⟨(xs.drop s).take (k - s), 3, bareV x, (numN bs (k + 1 + x.jt.toNat) : Int), (numN bs (k + 1 + x.jf.toNat) : Int)⟩, ac, cc⟩) := hbk
                        have KA : wb.grownBy (wb.alloc (.cells #[.slice ac (k - s) cc, .int .i64 3, .int .u16 ((bareV x).code.toNat : Int), .int .u8 ((bareV x).jt.toNat : Int), .int .u8 ((bareV x).jf.toNat : Int), .int .u32 ((bareV x).k.toNat : Int), .int .i64 (numN bs (k + 1 + x.jt.toNat) : Int), .int .i64 (numN bs (k + 1 + x.jf.toNat) : Int)] 56)) none := World.grownBy_alloc _ _ _
                        have CA : CV (wb.alloc (.cells #[.slice ac (k - s) cc, .int .i64 3, .int .u16 ((bareV x).code.toNat : Int), .int .u8 ((bareV x).jt.toNat : Int), .int .u8 ((bareV x).jf.toNat : Int), .int .u32 ((bareV x).k.toNat : Int), .int .i64 (numN bs (k + 1 + x.jt.toNat) : Int), .int .i64 (numN bs (k + 1 + x.jf.toNat) : Int)] 56)) (some ⟨wb.heap.size, 0, none⟩) (flatB [bk]) := by
                          rw [hbk]
                          have := lit_block wb ⟨⟨(xs.drop s).take (k - s), 3, bareV x, (numN bs (k + 1 + x.jt.toNat) : Int), (numN bs (k + 1 + x.jf.toNat) : Int)⟩, ac, cc⟩
                          simp only [bkA, hcl] at this
                          exact this
                        have DA := E4.keptNone KA
                        have HVX : Hid (VAt wb D 56 #[.slice ac (k - s) cc, .int .i64 3, .int .u16 ((bareV x).code.toNat : Int), .int .u8 ((bareV x).jt.toNat : Int), .int .u8 ((bareV x).jf.toNat : Int), .int .u32 ((bareV x).k.toNat : Int), .int .i64 (numN bs (k + 1 + x.jt.toNat) : Int), .int .i64 (numN bs (k + 1 + x.jf.toNat) : Int)]) := V4
                        have HSZ : Hid ((Tryz.prog.info? 56).map (·.size) = some 8) := sizeB15
                        have hup : w.heap.size ≤ (wb.alloc (.cells #[.slice ac (k - s) cc, .int .i64 3, .int .u16 ((bareV x).code.toNat : Int), .int .u8 ((bareV x).jt.toNat : Int), .int .u8 ((bareV x).jf.toNat : Int), .int .u32 ((bareV x).k.toNat : Int), .int .i64 (numN bs (k + 1 + x.jt.toNat) : Int), .int .i64 (numN bs (k + 1 + x.jf.toNat) : Int)] 56)).heap.size := DA.ow.up.size
                        have HVL : Hid (vs.length ≤ xs.length) := by
                          have h1 := congrArg List.length HV.out
                          rw [gOf_len] at h1
                          have h2 := ofTo_len xs (numN bs) s
                          show vs.length ≤ xs.length
                          omega
                        clear hbk KA E4 V4
                        go_wp2_with (first
                          | refine wpList_load_row rfl 56 (.tmp 12) rfl D rfl 56 #[.slice ac (k - s) cc, .int .i64 3, .int .u16 ((bareV x).code.toNat : Int), .int .u8 ((bareV x).jt.toNat : Int), .int .u8 ((bareV x).jf.toNat : Int), .int .u32 ((bareV x).k.toNat : Int), .int .i64 (numN bs (k + 1 + x.jt.toNat) : Int), .int .i64 (numN bs (k + 1 + x.jf.toNat) : Int)] (0, 0) _ HVX.out Tryz.underlying56 rfl HSZ.out ?_
                          | (at_builtin; refine wpList_append_cv rfl (.tmp 172) (.tmp 174) 22 rfl 56 k0 _ 8 56 Tryz.underlying22 ki kz0 kz1 kz2 rfl (by decide) w.heap.size _ vs.length (flatB vs) rfl ?rf1 (some ⟨wb.heap.size, 0, none⟩) 1 1 (flatB [bk]) rfl rfl (fun e => by cases e) ?rf2 (flatB_one _) ?rf3 ?rf4 ?rf5 ?rf6))
                        case rf1 => exact DA.blv.1
                        case rf2 => exact CA
                        case rf3 => unfold maxLen; have := HVL.out; omega
                        case rf4 => have := HVL.out; omega
                        case rf5 => exact hup
                        case rf6 =>
                          intro v' w9 h9 K9
                          obtain ⟨B9, W9⟩ := DA.push bk (by rw [HPB.out]) (by rw [HPB.out]) (by rw [HPB.out]) (by rw [hcl]) h9 K9
                          have HB9 : Hid (BLv w9 w.heap.size v' (vs ++ [bk])) := B9
                          have HW9 : Hid (OfW w w9 gb cb gn (xs.length + 1) xs.length bs) := W9
                          have HV9 : Hid (gOf (vs ++ [bk]) = (ofTo xs (numN bs) (k + 1)).2) := by
                            show _ = _
                            rw [HOV.out, HPB.out, ← HV.out]
                            simp [gOf]
                          clear h9 K9 B9 W9 DA CA
                          go_wp2
                          go_roundw
                          case rel => exact ⟨k + 1, vs ++ [bk], by omega, by go_num, by rw [HOV.out], HV9, HB9, HW9⟩
                          case measure => simp [intOf]; omega
            · have hl : ¬ (s : Int) < (xs.length : Int) := by omega
              have hse : s = xs.length := by omega
              subst hse
              have G := HW.out.up
              obtain ⟨ax, cx, rfl, -⟩ := HB.out.gc
              clear HW
              go_wp2
              go_ret2
              exact ⟨.slice ax vs.length cx, rfl, vs, HB.out, HV.out, G⟩
  · have hE : ((checkV xs).2 != 0) = true := by rw [bne_iff_ne]; exact hz
    have e1 : ofE xs = 155 := by rw [ofE, if_neg hz]
    have e2 : ofG xs = [] := by rw [ofG, if_neg hz]
    rw [e1, e2]
    generalize (checkV xs).1 = P at *
    generalize (checkV xs).2 = E at *
    clear e1 e2 hz
    go_enter Tryz.func26, Tryz.ntmps26
    go_wp2_with fail
    refine CC.mono ?_
    rintro e w1 ⟨rfl, K1⟩
    go_wp2
    go_ret2
    exact ⟨_, [], rfl, BLv.nil _ _, rfl, K1⟩

end Go.Proofs.YtpoleldfoahpoaaGreat

namespace Go.Proofs.YtpoleldfoahpoaaGreat
open Go.RowKit
set_option maxRecDepth 100000

/-- Nothing is written but new memory, and what lies from a place on. -/
def Lo (w : World) (lo hi : Nat) (w' : World) : Prop := w'.os = w.os ∧ w'.tape = w.tape ∧ w'.output = w.output ∧ w.heap.size ≤ w'.heap.size ∧ ∀ i, i < w.heap.size → ¬ (lo ≤ i ∧ i < hi) → w'.heap[i]? = w.heap[i]?
theorem Lo.refl (w : World) (lo hi : Nat) : Lo w lo hi w := ⟨rfl, rfl, rfl, Nat.le_refl _, fun _ _ _ => rfl⟩
theorem Lo.grow {w w1 w2 : World} {lo hi : Nat} (h : Lo w lo hi w1) (K : w1.grownBy w2 none) : Lo w lo hi w2 :=
  ⟨K.os.trans h.1, K.tape.trans h.2.1, K.output.trans h.2.2.1, Nat.le_trans h.2.2.2.1 K.size, fun i h1 h2 => (K.block i (Nat.lt_of_lt_of_le h1 h.2.2.2.1) (by simp)).trans (h.2.2.2.2 i h1 h2)⟩
theorem Lo.step {w w1 w2 : World} {lo hi z : Nat} (h : Lo w lo hi w1) (K : w1.grownBy w2 (some z)) (h1 : lo ≤ z) (h2 : z < hi) : Lo w lo hi w2 :=
  ⟨K.os.trans h.1, K.tape.trans h.2.1, K.output.trans h.2.2.1, Nat.le_trans h.2.2.2.1 K.size, fun i hi1 hi2 => (K.block i (Nat.lt_of_lt_of_le hi1 h.2.2.2.1) (by simp; omega)).trans (h.2.2.2.2 i hi1 hi2)⟩
theorem Lo.own {w w1 w2 : World} {lo hi : Nat} {v : Value} (h : Lo w lo hi w1) (K : w1.grownBy w2 v.ownBlock) (hv : ∀ z, v.ownBlock = some z → lo ≤ z ∧ z < hi) : Lo w lo hi w2 := by
  cases hq : v.ownBlock with
  | none => rw [hq] at K; exact h.grow K
  | some z => rw [hq] at K; exact h.step K (hv z hq).1 (hv z hq).2
theorem Lo.grown {w w' : World} {lo hi : Nat} (h : Lo w lo hi w') {w0 : World} (G : w0.grownBy w none) (hl : w0.heap.size ≤ lo) : w0.grownBy w' none :=
  ⟨h.1.trans G.os, h.2.1.trans G.tape, h.2.2.1.trans G.output, Nat.le_trans G.size h.2.2.2.1, fun i h1 h2 => (h.2.2.2.2 i (Nat.lt_of_lt_of_le h1 G.size) (by omega)).trans (G.block i h1 h2)⟩
theorem Lo.owns {w w' : World} {lo hi base e size n : Nat} {v : Value} {vs : List Value} (h : Lo w lo hi w') (O : w.ownsRow base e size v n vs) (hv : ∀ x, v.ownBlock = some x → ¬ (lo ≤ x ∧ x < hi)) : w'.ownsRow base e size v n vs := by
  refine ⟨O.1, ?_⟩
  rcases O.2 with h0 | ⟨g, cap, cur, hv', hb, hg, r⟩
  · exact .inl h0
  · right
    refine ⟨g, cap, cur, hv', hb, ?_, r⟩
    have hlt : g < w.heap.size := by
      by_cases hh : g < w.heap.size
      · exact hh
      · rw [Array.getElem?_eq_none (by omega)] at hg; cases hg
    rw [h.2.2.2.2 g hlt (hv g (by rw [hv']; rfl)), hg]

end Go.Proofs.YtpoleldfoahpoaaGreat

namespace Go.Proofs.YtpoleldfoahpoaaGreat
open Go.RowKit
set_option maxRecDepth 100000

set_option maxRecDepth 100000 in
set_option maxHeartbeats 1000000 in
theorem ispoil2_any (g n cap : Nat) (w : World) (hb : BlkN w 54 g (cap * 4)) (hn : n ≤ cap) (hcm : cap ≤ maxLen) (hm : (n + 1) * 8 ≤ 140737488355328) :
    Calls Tryz.prog 32 #[.slice (some ⟨g, 0, none⟩) n cap] w fun e w' => e = .returned (.tuple #[]) ∧ w.grownBy w' (some g) ∧ BlkN w' 54 g (cap * 4) := by
  obtain ⟨i0, hi, hz0, hz1, hz2⟩ := info_parts info54
  have H : Hid (BlkN w 54 g (cap * 4)) := hb
  clear hb
  go_enter Tryz.func32, Tryz.ntmps32
  go_wp2_with (at_builtin; refine wpList_append_blkN rfl (.tmp 5) (.tmp 7) 46 rfl 54 i0 _ 4 8 Tryz.underlying46 hi hz0 hz1 hz2 rfl (by decide) g n cap rfl ?q1 hn hcm ⟨w.heap.size, 0, none⟩ 1 1 (flat [mark]) rfl rfl ?q2 (flat_one _) ?q3 ?q4 ?q5)
  case q1 => exact H.out.kept (World.grownBy_alloc _ _ none) (by simp)
  case q2 => rw [marks1]; exact cv_lit w _ _
  case q3 => unfold maxLen; omega
  case q4 => omega
  case q5 =>
    intro g' cap' w1 hg' hb1 hb2 hc' hcm' hgr
    have R : ISpoilRel w (some g) g g' (cap * 4) (cap' * 4) w1 := ⟨hb1, hb2, grown_trans (World.grownBy_alloc _ _ _) hgr⟩
    have hp : some g = some g' ∨ w.heap.size ≤ g' := by
      rcases hg' with e | e
      · exact .inl (by rw [e])
      · right; omega
    clear hg' hb1 hb2 hgr
    unfold maxLen at hcm hcm'
    go_wp2
    go_loopw [3] (fun i wr => ∃ k : Nat, k ≤ n + 1 ∧ i = .int .i64 k ∧ ISpoilRel w (some g) g g' (cap * 4) (cap' * 4) wr) (fun i _ => n + 1 - (intOf i).toNat)
    case atStart => exact ⟨0, Nat.zero_le _, rfl, R⟩
    case round =>
      clear R
      obtain ⟨k, hk, rfl, R⟩ := hrel
      by_cases hlt : k < n + 1
      · obtain ⟨u0, hu0⟩ := R.2.1.cell (i := k * 4) (by omega)
        obtain ⟨u1, hu1⟩ := R.2.1.cell (i := k * 4 + 1) (by omega)
        obtain ⟨u2, hu2⟩ := R.2.1.cell (i := k * 4 + 2) (by omega)
        obtain ⟨u3, hu3⟩ := R.2.1.cell (i := k * 4 + 3) (by omega)
        have hf0 := R.2.1.free (k * 4)
        have hf1 := R.2.1.free (k * 4 + 1)
        have hf2 := R.2.1.free (k * 4 + 2)
        have hf3 := R.2.1.free (k * 4 + 3)
        have R' := (((R.set (p := ⟨g', k * 4, none⟩) hp (.int .u16 7)).set (p := ⟨g', k * 4 + 1, none⟩) hp (.int .u8 0)).set (p := ⟨g', k * 4 + 2, none⟩) hp (.int .u8 0)).set (p := ⟨g', k * 4 + 3, none⟩) hp (.int .u32 77)
        clear R
        go_wp2
        go_roundw
        case rel => exact ⟨k + 1, by omega, by go_num, R'⟩
        case measure => simp [intOf]; omega
      · go_wp2
        clear hk hlt
        go_loopw [4] (fun i wr => ∃ k : Nat, k ≤ n ∧ i = .int .i64 k ∧ ISpoilRel w (some g) g g' (cap * 4) (cap' * 4) wr) (fun i _ => n - (intOf i).toNat)
        case atStart => exact ⟨0, Nat.zero_le _, rfl, R⟩
        case round =>
          clear R
          obtain ⟨k, hk, rfl, R⟩ := hrel
          by_cases hlt : k < n
          · obtain ⟨u0, hu0⟩ := R.1.cell (i := k * 4) (by omega)
            obtain ⟨u1, hu1⟩ := R.1.cell (i := k * 4 + 1) (by omega)
            obtain ⟨u2, hu2⟩ := R.1.cell (i := k * 4 + 2) (by omega)
            obtain ⟨u3, hu3⟩ := R.1.cell (i := k * 4 + 3) (by omega)
            have hf0 := R.1.free (k * 4)
            have hf1 := R.1.free (k * 4 + 1)
            have hf2 := R.1.free (k * 4 + 2)
            have hf3 := R.1.free (k * 4 + 3)
            have R' := (((R.set (p := ⟨g, k * 4, none⟩) (.inl rfl) (.int .u16 7)).set (p := ⟨g, k * 4 + 1, none⟩) (.inl rfl) (.int .u8 0)).set (p := ⟨g, k * 4 + 2, none⟩) (.inl rfl) (.int .u8 0)).set (p := ⟨g, k * 4 + 3, none⟩) (.inl rfl) (.int .u32 77)
            clear R
            go_wp2
            go_roundw
            case rel => exact ⟨k + 1, by omega, by go_num, R'⟩
            case measure => simp [intOf]; omega
          · go_wp2
            go_end0
            exact ⟨rfl, R.2.2, R.1⟩

/-- A Code that can be written over. -/
def SpI (w : World) (v : Value) : Prop := v = .slice none 0 0 ∨ ∃ g n cap, v = .slice (some ⟨g, 0, none⟩) n cap ∧ BlkN w 54 g (cap * 4) ∧ n ≤ cap ∧ cap ≤ maxLen ∧ (n + 1) * 8 ≤ 140737488355328
theorem SpI.of {w : World} {base : Nat} {v : Value} {xs : List In} (h : IOwns w base v xs) (hm : (xs.length + 1) * 8 ≤ 140737488355328) : SpI w v := by
  rcases h.2 with ⟨rfl, _⟩ | ⟨g, cap, cur, rfl, hb, hg, hc, hcm, hs, ht⟩
  · exact .inl rfl
  · exact .inr ⟨g, xs.length, cap, rfl, ⟨cur, hg, hs⟩, hc, hcm, hm⟩
theorem SpI.kept {w w' : World} {v : Value} {row : Option Nat} (h : SpI w v) (K : w.grownBy w' row) (hr : ∀ z, v.ownBlock = some z → row ≠ some z) : SpI w' v := by
  rcases h with h | ⟨g, n, cap, rfl, hb, h1, h2, h3⟩
  · exact .inl h
  · exact .inr ⟨g, n, cap, rfl, hb.kept K (Ne.symm (hr g rfl)), h1, h2, h3⟩
theorem spi_any {v : Value} (w : World) (h : SpI w v) : Calls Tryz.prog 32 #[v] w fun e w' => e = .returned (.tuple #[]) ∧ w.grownBy w' v.ownBlock ∧ SpI w' v := by
  rcases h with rfl | ⟨g, n, cap, rfl, hb, h1, h2, h3⟩
  · refine (ispoil_nil w).mono ?_
    rintro e w' ⟨rfl, K⟩
    exact ⟨rfl, K, .inl rfl⟩
  · refine (ispoil2_any g n cap w hb h1 h2 h3).mono ?_
    rintro e w' ⟨rfl, K, B⟩
    exact ⟨rfl, K, .inr ⟨g, n, cap, rfl, B, h1, h2, h3⟩⟩
theorem own15' (a : Option Addr) (n c : Nat) : (Value.slice a n c).ownBlock = a.map (·.block) := by cases a <;> rfl

def spB : Bv := ⟨⟨[], -7, in0, 7, 0⟩, none, 0⟩
theorem flatB_set8' (y : Bv) : ∀ (xs : List Bv) (k : Nat), k < xs.length → ((((((((flatB xs).set (k * 8) (.slice y.a y.b.code.length y.ca)).set (k * 8 + 1) (.int .i64 y.b.en)).set (k * 8 + 2) (.int .u16 (y.b.last.code.toNat : Int))).set (k * 8 + 3) (.int .u8 (y.b.last.jt.toNat : Int))).set (k * 8 + 4) (.int .u8 (y.b.last.jf.toNat : Int))).set (k * 8 + 5) (.int .u32 (y.b.last.k.toNat : Int))).set (k * 8 + 6) (.int .i64 y.b.yes)).set (k * 8 + 7) (.int .i64 y.b.no) = flatB (xs.set k y)
  | [], k, h => absurd h (by simp)
  | x :: r, 0, _ => by
    rw [List.set_cons_zero, flatB_cons, flatB_cons]
    simp [Bv.cells]
  | x :: r, k + 1, h => by
    have ih := flatB_set8' y r k (by simpa using h)
    rw [List.set_cons_succ, flatB_cons, flatB_cons, ← ih]
    rw [show (k + 1) * 8 = k * 8 + 8 by omega]
    simp [Bv.cells, Nat.add_right_comm]

set_option maxRecDepth 100000 in
set_option maxHeartbeats 4000000 in
theorem bspoilb_any (v : Value) (ys : List Bv) (base hi : Nat) (w : World) (hR : w.ownsRow base 56 8 v ys.length (flatB ys)) (hS : ∀ y ∈ ys, SpI w (.slice y.a y.b.code.length y.ca)) (hA : Apart ys)
    (hlo : ∀ y ∈ ys, ∀ z, (y.a.map (·.block)) = some z → base ≤ z ∧ z < hi) (hv : ∀ z, v.ownBlock = some z → z < hi) :
    Calls Tryz.prog 34 #[v] w fun e w' => e = .returned (.tuple #[]) ∧ Lo w base hi w' := by
  have HA : Hid (Apart ys) := hA
  have HL : Hid (∀ y ∈ ys, ∀ z, (y.a.map (·.block)) = some z → base ≤ z ∧ z < hi) := hlo
  obtain ⟨ao, cap, rfl, -, hcp, hcm, -⟩ := cv_of_row hR
  have HVB : Hid (∀ z, (Value.slice ao ys.length cap).ownBlock = some z → base ≤ z ∧ z < hi) := fun z hz => ⟨(hR.lt z hz).1, hv z hz⟩
  have HR : Hid (w.ownsRow base 56 8 (.slice ao ys.length cap) ys.length (flatB ys)) := hR
  have HS : Hid (∀ j (hj : j < ys.length), 0 ≤ j → SpI w (.slice ys[j].a ys[j].b.code.length ys[j].ca)) := fun j hj _ => hS _ (List.getElem_mem hj)
  unfold maxLen at hcm
  clear hA hlo hR hS hv
  go_enter Tryz.func34, Tryz.ntmps34
  go_wp2
  go_loopw [2] (fun i wr => ∃ (k : Nat) (zs : List Bv), k ≤ ys.length ∧ i = .int .i64 k ∧ Hid (zs.length = ys.length ∧ ∀ j, k ≤ j → zs[j]? = ys[j]?) ∧ Hid (wr.ownsRow base 56 8 (.slice ao ys.length cap) ys.length (flatB zs)) ∧ Hid (∀ j (hj : j < ys.length), k ≤ j → SpI wr (.slice ys[j].a ys[j].b.code.length ys[j].ca)) ∧ Hid (Lo w base hi wr)) (fun i _ => ys.length - (intOf i).toNat)
  case atStart => exact ⟨0, ys, Nat.zero_le _, rfl, ⟨rfl, fun _ _ => rfl⟩, HR, HS, Lo.refl _ _ _⟩
  case round =>
    clear HR HS
    obtain ⟨k, zs, hk, rfl, HZ, HR, HS, HO⟩ := hrel
    by_cases hlt : k < ys.length
    · have hl : (k : Int) < (ys.length : Int) := by omega
      obtain ⟨g, cap', hge, hc1, hc2, hg1, hg2⟩ := owns_head HR.out (by omega)
      simp only [Value.slice.injEq] at hge
      obtain ⟨rfl, -, rfl⟩ := hge
      have hzk : k < zs.length := by have := HZ.out.1; omega
      have hze : zs[k] = ys[k] := by
        have := HZ.out.2 k (Nat.le_refl _)
        rw [List.getElem?_eq_getElem hzk, List.getElem?_eq_getElem hlt] at this
        exact Option.some.inj this
      have c0 : wr.cell? ⟨g, k * 8, none⟩ = some (.slice ys[k].a ys[k].b.code.length ys[k].ca) := by
        have := HR.out.cells (g := g) rfl (k * 8 + 0) (.slice ys[k].a ys[k].b.code.length ys[k].ca) (by rw [flatB_get zs k 0 hzk (by omega), hze]; rfl)
        rwa [Addr.add_lit, Nat.zero_add, Nat.add_zero] at this
      have CS := spi_any wr (HS.out k hlt (Nat.le_refl _))
      have HLk : Hid (∀ z, (Value.slice ys[k].a ys[k].b.code.length ys[k].ca).ownBlock = some z → base ≤ z ∧ z < hi) := fun z hz => HL.out ys[k] (List.getElem_mem hlt) z (by rw [← own15']; exact hz)
      have HAk : Hid (∀ j (hj : j < ys.length), k + 1 ≤ j → ∀ z, (Value.slice ys[j].a ys[j].b.code.length ys[j].ca).ownBlock = some z → (Value.slice ys[k].a ys[k].b.code.length ys[k].ca).ownBlock ≠ some z) := fun j hj hkj z hz e => by
        rw [own15'] at hz e
        exact (List.pairwise_iff_getElem.1 HA.out) k j hlt hj (by omega) z e hz
      have HCN : Hid (SpI wr (.slice ys[k].a ys[k].b.code.length ys[k].ca)) := HS.out k hlt (Nat.le_refl _)
      clear hze
      generalize hyk : ys[k] = y at *
      clear hyk
      go_wp2_with fail
      refine CS.mono ?_
      rintro e w5 ⟨rfl, K5, -⟩
      have R5 : w5.ownsRow base 56 8 (.slice (some ⟨g, 0, none⟩) ys.length cap) ys.length (flatB zs) := HR.out.kept K5 (by
        refine .inr (fun e => ?_)
        rcases HCN.out with h | ⟨g2, n2, cap2, h, ⟨cur, hb, -⟩, -⟩
        · rw [h] at e; cases e
        · rw [h] at e
          simp only [Value.ownBlock, Option.some.injEq] at e
          subst e
          rcases HR.out.2 with ⟨hv2, -⟩ | ⟨g3, cap3, cur3, hv2, -, hg3, -⟩
          · cases hv2
          · simp only [Value.slice.injEq, Option.some.injEq, Addr.mk.injEq, and_true] at hv2
            obtain ⟨rfl, -, -⟩ := hv2
            rw [hb] at hg3
            simp only [Option.some.injEq, Obj.cells.injEq] at hg3
            exact absurd hg3.2.1 (by decide))
      have S5 : Hid (∀ j (hj : j < ys.length), k + 1 ≤ j → SpI w5 (.slice ys[j].a ys[j].b.code.length ys[j].ca)) := fun j hj hkj => (HS.out j hj (by omega)).kept K5 (fun z hz e => HAk.out j hj hkj z hz e)
      have O5 := HO.out.own K5 HLk.out
      have B5 := (BlkN.ofRow R5).1
      clear CS K5 HR HS HO HCN HLk HAk c0
      obtain ⟨q0, hq0⟩ := B5.cell (i := k * 8) (by omega)
      have hf0 := B5.free (k * 8)
      obtain ⟨q1, hq1⟩ := B5.cell (i := k * 8 + 1) (by omega)
      have hf1 := B5.free (k * 8 + 1)
      obtain ⟨q2, hq2⟩ := B5.cell (i := k * 8 + 2) (by omega)
      have hf2 := B5.free (k * 8 + 2)
      obtain ⟨q3, hq3⟩ := B5.cell (i := k * 8 + 3) (by omega)
      have hf3 := B5.free (k * 8 + 3)
      obtain ⟨q4, hq4⟩ := B5.cell (i := k * 8 + 4) (by omega)
      have hf4 := B5.free (k * 8 + 4)
      obtain ⟨q5, hq5⟩ := B5.cell (i := k * 8 + 5) (by omega)
      have hf5 := B5.free (k * 8 + 5)
      obtain ⟨q6, hq6⟩ := B5.cell (i := k * 8 + 6) (by omega)
      have hf6 := B5.free (k * 8 + 6)
      obtain ⟨q7, hq7⟩ := B5.cell (i := k * 8 + 7) (by omega)
      have hf7 := B5.free (k * 8 + 7)
      have K6 := (grown_trans (grown_trans (grown_trans (grown_trans (grown_trans (grown_trans (grown_trans (grown_set1 w5 ⟨g, k * 8, none⟩ (.slice none 0 0)) (grown_set1 (w5.setCell ⟨g, k * 8, none⟩ (.slice none 0 0)) ⟨g, k * 8 + 1, none⟩ (.int .i64 (-7)))) (grown_set1 ((w5.setCell ⟨g, k * 8, none⟩ (.slice none 0 0)).setCell ⟨g, k * 8 + 1, none⟩ (.int .i64 (-7))) ⟨g, k * 8 + 2, none⟩ (.int .u16 0))) (grown_set1 (((w5.setCell ⟨g, k * 8, none⟩ (.slice none 0 0)).setCell ⟨g, k * 8 + 1, none⟩ (.int .i64 (-7))).setCell ⟨g, k * 8 + 2, none⟩ (.int .u16 0)) ⟨g, k * 8 + 3, none⟩ (.int .u8 0))) (grown_set1 ((((w5.setCell ⟨g, k * 8, none⟩ (.slice none 0 0)).setCell ⟨g, k * 8 + 1, none⟩ (.int .i64 (-7))).setCell ⟨g, k * 8 + 2, none⟩ (.int .u16 0)).setCell ⟨g, k * 8 + 3, none⟩ (.int .u8 0)) ⟨g, k * 8 + 4, none⟩ (.int .u8 0))) (grown_set1 (((((w5.setCell ⟨g, k * 8, none⟩ (.slice none 0 0)).setCell ⟨g, k * 8 + 1, none⟩ (.int .i64 (-7))).setCell ⟨g, k * 8 + 2, none⟩ (.int .u16 0)).setCell ⟨g, k * 8 + 3, none⟩ (.int .u8 0)).setCell ⟨g, k * 8 + 4, none⟩ (.int .u8 0)) ⟨g, k * 8 + 5, none⟩ (.int .u32 0))) (grown_set1 ((((((w5.setCell ⟨g, k * 8, none⟩ (.slice none 0 0)).setCell ⟨g, k * 8 + 1, none⟩ (.int .i64 (-7))).setCell ⟨g, k * 8 + 2, none⟩ (.int .u16 0)).setCell ⟨g, k * 8 + 3, none⟩ (.int .u8 0)).setCell ⟨g, k * 8 + 4, none⟩ (.int .u8 0)).setCell ⟨g, k * 8 + 5, none⟩ (.int .u32 0)) ⟨g, k * 8 + 6, none⟩ (.int .i64 7))) (grown_set1 (((((((w5.setCell ⟨g, k * 8, none⟩ (.slice none 0 0)).setCell ⟨g, k * 8 + 1, none⟩ (.int .i64 (-7))).setCell ⟨g, k * 8 + 2, none⟩ (.int .u16 0)).setCell ⟨g, k * 8 + 3, none⟩ (.int .u8 0)).setCell ⟨g, k * 8 + 4, none⟩ (.int .u8 0)).setCell ⟨g, k * 8 + 5, none⟩ (.int .u32 0)).setCell ⟨g, k * 8 + 6, none⟩ (.int .i64 7)) ⟨g, k * 8 + 7, none⟩ (.int .i64 0)))
      have R6 := (World.ownsRow.stored (World.ownsRow.stored (World.ownsRow.stored (World.ownsRow.stored (World.ownsRow.stored (World.ownsRow.stored (World.ownsRow.stored (World.ownsRow.stored R5 (k * 8) (.slice none 0 0)).1 (k * 8 + 1) (.int .i64 (-7))).1 (k * 8 + 2) (.int .u16 0)).1 (k * 8 + 3) (.int .u8 0)).1 (k * 8 + 4) (.int .u8 0)).1 (k * 8 + 5) (.int .u32 0)).1 (k * 8 + 6) (.int .i64 7)).1 (k * 8 + 7) (.int .i64 0)).1
      have e6 := flatB_set8' spB zs k hzk
      have R7 : ((((((((w5.setCell ⟨g, k * 8, none⟩ (.slice none 0 0)).setCell ⟨g, k * 8 + 1, none⟩ (.int .i64 (-7))).setCell ⟨g, k * 8 + 2, none⟩ (.int .u16 0)).setCell ⟨g, k * 8 + 3, none⟩ (.int .u8 0)).setCell ⟨g, k * 8 + 4, none⟩ (.int .u8 0)).setCell ⟨g, k * 8 + 5, none⟩ (.int .u32 0)).setCell ⟨g, k * 8 + 6, none⟩ (.int .i64 7)).setCell ⟨g, k * 8 + 7, none⟩ (.int .i64 0)).ownsRow base 56 8 (.slice (some ⟨g, 0, none⟩) ys.length cap) ys.length (flatB (zs.set k spB)) := by
        rw [← e6]
        exact R6
      have S6 : Hid (∀ j (hj : j < ys.length), k + 1 ≤ j → SpI ((((((((w5.setCell ⟨g, k * 8, none⟩ (.slice none 0 0)).setCell ⟨g, k * 8 + 1, none⟩ (.int .i64 (-7))).setCell ⟨g, k * 8 + 2, none⟩ (.int .u16 0)).setCell ⟨g, k * 8 + 3, none⟩ (.int .u8 0)).setCell ⟨g, k * 8 + 4, none⟩ (.int .u8 0)).setCell ⟨g, k * 8 + 5, none⟩ (.int .u32 0)).setCell ⟨g, k * 8 + 6, none⟩ (.int .i64 7)).setCell ⟨g, k * 8 + 7, none⟩ (.int .i64 0)) (.slice ys[j].a ys[j].b.code.length ys[j].ca)) := fun j hj hkj => (S5.out j hj hkj).kept K6 (fun z hz e => by
        simp only [Option.some.injEq] at e
        subst e
        rcases S5.out j hj hkj with h | ⟨g2, n2, cap2, h, ⟨cur, hb, -⟩, -⟩
        · rw [h] at hz; cases hz
        · rw [h] at hz
          simp only [Value.ownBlock, Option.some.injEq] at hz
          subst hz
          obtain ⟨cur2, hb2, -⟩ := B5
          rw [hb] at hb2
          simp only [Option.some.injEq, Obj.cells.injEq] at hb2
          exact absurd hb2.2.1 (by decide))
      have O6 := O5.step K6 (HVB.out g rfl).1 (HVB.out g rfl).2
      have HZ6 : Hid ((zs.set k spB).length = ys.length ∧ ∀ j, k + 1 ≤ j → (zs.set k spB)[j]? = ys[j]?) := ⟨by rw [List.length_set]; exact HZ.out.1, fun j hj => by rw [List.getElem?_set, if_neg (by omega)]; exact HZ.out.2 j (by omega)⟩
      clear K6 R6 e6 R5 S5 O5 B5
      go_wp2
      go_roundw
      case rel => exact ⟨k + 1, zs.set k spB, by omega, by go_num, HZ6, R7, S6, O6⟩
      case measure => simp [intOf]; omega
    · have hl : ¬ (k : Int) < (ys.length : Int) := by omega
      go_wp2
      go_end0
      exact ⟨rfl, HO.out⟩


end Go.Proofs.YtpoleldfoahpoaaGreat
