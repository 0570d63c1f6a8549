/-
  For every list of nodes and every two numbers (of such size as the form itself says of each argument) riddlelaw12.TypesSpoilt returns true and leaves what was there as it was: no condition of ours.
-/
import Derived.Test.YtdajpnlpcdnckabLotP27
import Derived.Test.YtdajpnlpcdnckabAwake12
import Derived.Test.YtdajpnlpcdnckabLow
import Derived.Deep.DeepCutAuto
import Derived.Deep.CutBlock
namespace Go.Proofs.Ytdajpnlpcdnckab
open Go.ChangeShapes Go.WideShapes Go.ChangeAt Go.RowKit
set_option maxRecDepth 100000
namespace typesSpoilt

set_option maxRecDepth 100000 in
set_option maxHeartbeats 16000000 in
theorem walk (a : Option Addr) (ca : Nat) (t : List Ng) (x1 x2 : Int) (w : World) (hA : CV w a (flatG t)) (ha0 : a = none → ca = 0) (_hac : t.length ≤ ca) (_hax : ca ≤ maxLen) (hal : t.length * 72 ≤ 140737488355328) (hao : ∀ x ∈ t, x.ok) :
    Calls Try.prog 3 #[.slice a t.length ca, .int .i64 x1, .int .i64 x2] w fun e w' => e = .returned (.bool true) ∧ w.grownBy w' none := by
  have HA : Hid (CV w a (flatG t)) := hA
  have HN : Hid (∀ x ∈ t, x.n ≤ 4294967295) := fun x hx => (hao x hx).1
  have HOK : Hid (∀ x ∈ t, x.ok) := hao
  have C1 := gcopy_any a ca t w hA ha0 (by omega)
  have HHA0 : Hid (a = none → ca = 0) := ha0
  clear hA hao ha0
  obtain ⟨p, e, hpe⟩ : ∃ p e, checkG t = (p, e) := ⟨_, _, rfl⟩
  have HPE : Hid (checkG t = (p, e)) := hpe
  have HCK : Hid (∀ (a1 : Option Addr) (c1 : Nat) (W : World), CV W a1 (flatG t) → Calls Try.prog 5 #[.slice a1 t.length c1] W fun e' w' => e' = .returned (.tuple #[.int .i64 (p : Int), .int .i64 e]) ∧ W.grownBy w' none) := fun a1 c1 W CW => by
    have := check12_any a1 c1 t W CW hal HN.out
    rw [checkR, hpe] at this
    exact this
  clear hpe
  by_cases he : e = 0
  · subst he
    have hf : (checkG t).2 = 0 := by rw [HPE.out]
    have HF : Hid ((checkG t).2 = 0) := hf
    have hlen := filt_len hf
    have hpos : 0 < t.length := by
      obtain ⟨q, hq, -⟩ := filt_iff.1 hf
      exact List.length_pos_iff.2 (filt_ne hq)
    clear hf
    have hn0 : ¬ (t.length : Int) = 0 := by omega
    have CL1 := low_any x1
    have CL2 := low_any x2
    obtain ⟨lw, hlw⟩ : ∃ lw, lowV x1 = lw := ⟨_, rfl⟩
    obtain ⟨lh, hlh⟩ : ∃ lh, lowV x2 = lh := ⟨_, rfl⟩
    rw [hlw] at CL1
    rw [hlh] at CL2
    have HCL2 : Hid _ := CL2
    obtain ⟨i, hi⟩ : ∃ i, lw % t.length = i := ⟨_, rfl⟩
    have hilt : i < t.length := by rw [← hi]; exact Nat.mod_lt _ hpos
    have hrem : (lw : Int) % (t.length : Int) = (i : Int) := by rw [← hi]; exact (Int.natCast_emod lw t.length).symm
    obtain ⟨m, hm⟩ : ∃ m : Int, (lh : Int) % 6 = m := ⟨_, rfl⟩
    obtain ⟨r, hr⟩ : ∃ r : Int, (lh : Int) % 9 = r := ⟨_, rfl⟩
    have hm6 : 0 ≤ m ∧ m < 6 := by omega
    have hr9 : 0 ≤ r ∧ r < 9 := by omega
    have hil : (i : Int) < (t.length : Int) := by omega
    have z0 : (0 : Int) ≤ (i : Int) := by omega
    have hk := filt_kind HF.out (List.getElem_mem hilt)
    have HXO : Hid t[i].ok := HOK.out _ (List.getElem_mem hilt)
    clear hlw hlh hi CL2 HPE
    go_enter Try.func3, Try.ntmps3
    go_wp2_with fail
    refine C1.mono ?_
    rintro e1 w1 ⟨v1, rfl, O1, K1⟩
    obtain ⟨a1, c1, rfl, D1, -⟩ := cv_of_row O1
    have CK := HCK.out a1 c1 w1 D1
    clear C1 O1 D1
    go_wp2_with fail
    refine CK.mono ?_
    rintro e2 w2 ⟨rfl, K2⟩
    have G2 := grown_trans K1 K2
    clear CK K1 K2 HCK
    go_wp2_with fail
    refine (CL1 _).mono ?_
    rintro e3 w3 ⟨rfl, rfl⟩
    clear CL1
    obtain ⟨b, o, rfl, hc⟩ := (HA.out.keptNone G2).ngs hilt
    have HR : Hid (w2.rangeAt b (o + i * 24) t[i].cells) := hc i hilt
    have HZ : Hid ((Try.prog.info? 32).map (·.size) = some t[i].cells.length ∧ (Try.prog.info? 32).map (·.size) = some t[i].cells.toArray.size ∧ 24 = t[i].cells.toArray.size ∧ t[i].cells.toArray.all (·.oneCell') = true) := ⟨ng_len _, ng_size _, rfl, ng_all _⟩
    have V3 := NB.alloc w2 t[i]
    have G3 := grown_trans G2 (World.grownBy_alloc w2 (.cells t[i].cells.toArray 32) none)
    have HSP : Hid (∀ y, Spoils t[i] y → checkG (t.set i y) = (i, 120)) := fun y hy => spoilt_check HF.out hilt hy
    obtain ⟨x, hx⟩ : ∃ x, t[i] = x := ⟨_, rfl⟩
    rw [hx] at HR HZ V3 G3 HSP hk HXO
    obtain ⟨cs, hcs⟩ : ∃ cs, x.cells = cs := ⟨_, rfl⟩
    rw [hcs] at HR HZ
    clear hc hx
    go_upto_region 6 with (first | refine wpList_load_mid rfl 32 (.tmp 30) rfl b (o + i * 24) (by simp [Act.eval]) cs _ HR.out Try.underlying32 rfl HZ.out.1 ?_ | refine wpList_store_row rfl 32 (.tmp 10) (.tmp 31) rfl w2.heap.size cs.toArray rfl rfl 32 _ (heap_alloc_new w2 _) HZ.out.2.1 HZ.out.2.2.1 HZ.out.2.2.2 ?_)
    rw [World.setRow_alloc_new, ← hcs]
    obtain ⟨N, hN⟩ : ∃ N, w2.heap.size = N := ⟨_, rfl⟩
    have HNN : Hid (w.heap.size ≤ N) := by show _ ≤ N; rw [← hN]; exact G2.size
    rw [hN] at V3 ⊢
    clear hN HR HZ G2 hcs
    generalize w2.alloc (.cells x.cells.toArray 32) = w4 at *
    go_wp2_with fail
    refine (HCL2.out _).mono ?_
    rintro e5 w5 ⟨rfl, rfl⟩
    have HV3 : Hid (NB w4 N x) := V3
    have HG3 : Hid (w.grownBy w4 none) := G3
    have k0 := V3.kind
    have HSTO : Hid (∀ (j : Nat) (v : Value) (y : Ng), x.cells.toArray.setIfInBounds j v = y.cells.toArray → NB (w4.setCell ⟨N, j, none⟩ v) N y ∧ w.grownBy (w4.setCell ⟨N, j, none⟩ v) none) := fun j v y h => by
      refine ⟨?_, grown_setCell HG3.out _ _ (.inr HNN.out)⟩
      have := VAt.set HV3.out j v
      rw [h] at this
      exact this
    have f0 := VAt.free V3 0
    have f1 := VAt.free V3 1
    have f4 := VAt.free V3 4
    have f5 := VAt.free V3 5
    have f6 := VAt.free V3 6
    have f7 := VAt.free V3 7
    have f23 := VAt.free V3 23
    have k1 := V3.op
    have k4 := V3.size
    have k5 := V3.of
    have k6 := V3.side
    have k23 := V3.bits
    have k7 : w4.cell? ⟨N, 7, none⟩ = some (adg x 0) := VAt.cell V3 7
    clear V3 G3
    go_upto_block 0 with fail
    go_cut [34] from 35 to 86 (fun _ wx => ∃ y : Ng, Hid (NB wx N y ∧ Spoils x y ∧ y.n ≤ 4294967295 ∧ w.grownBy wx none))
    case first =>
      have hw1 : IntKind.i64.wrap (17 + r) = 17 + r := by rw [IntKind.wrap_i64]; omega
      have hw2 : IntKind.i64.wrap (-x.kind) = -x.kind := by rw [IntKind.wrap_i64]; omega
      have h6 : m = 0 ∨ m = 1 ∨ m = 2 ∨ m = 3 ∨ m = 4 ∨ m = 5 := by omega
      have HHK : Hid (1 ≤ x.kind ∧ x.kind ≤ 16) := hk
      have HHR : Hid (0 ≤ r ∧ r < 9) := hr9
      clear hm6 hk hr9
      obtain ⟨kk, hkk⟩ : ∃ kk, x.kind = kk := ⟨_, rfl⟩
      have HKK : Hid (x.kind = kk) := hkk
      rw [hkk] at k0 hw2
      clear hkk
      rcases h6 with h | h | h | h | h | h
      · have t0 : (m == 0) = true := by simpa using h
        clear h
        go_wp2_with fail
        refine (HCL2.out _).mono ?_
        rintro e5 w5 ⟨rfl, rfl⟩
        go_wp2
        go_meet
        obtain ⟨h1, h2⟩ := HSTO.out 0 (.int .i64 (17 + r)) { x with kind := 17 + r } rfl
        exact ⟨_, h1, spoil_kind x _ (by have := HHR.out; omega), HXO.out.1, h2⟩
      · have t0 : (m == 0) = false := by rw [beq_eq_false_iff_ne]; omega
        have t1 : (m == 1) = true := by simpa using h
        clear h
        go_wp2
        go_meet
        obtain ⟨h1, h2⟩ := HSTO.out 0 (.int .i64 (-kk)) { x with kind := -kk } rfl
        exact ⟨_, h1, spoil_kind x _ (by have := HHK.out; have := HKK.out; omega), HXO.out.1, h2⟩
      · have t0 : (m == 0) = false := by rw [beq_eq_false_iff_ne]; omega
        have t1 : (m == 1) = false := by rw [beq_eq_false_iff_ne]; omega
        have t2 : (m == 2) = true := by simpa using h
        clear h
        by_cases q4 : kk = 4
        · have s4 : (kk == 4) = true := by simpa using q4
          have HQ : Hid (x.kind = 4) := HKK.out.trans q4
          clear q4
          go_wp2
          go_meet
          obtain ⟨h1, h2⟩ := HSTO.out 1 (.int .i64 11) { x with op := 11 } rfl
          exact ⟨_, h1, spoil_op11 x (.inl HQ.out), HXO.out.1, h2⟩
        · have s4 : (kk == 4) = false := by simpa using q4
          have HQ : Hid (x.kind ≠ 4) := by show x.kind ≠ 4; rw [HKK.out]; exact q4
          clear q4
          by_cases q6 : kk = 6
          · have s6 : (kk == 6) = true := by simpa using q6
            have HQ6 : Hid (x.kind = 6) := HKK.out.trans q6
            clear q6
            go_wp2
            go_meet
            obtain ⟨h1, h2⟩ := HSTO.out 1 (.int .i64 11) { x with op := 11 } rfl
            exact ⟨_, h1, spoil_op11 x (.inr HQ6.out), HXO.out.1, h2⟩
          · have s6 : (kk == 6) = false := by simpa using q6
            have HQ6 : Hid (x.kind ≠ 6) := by show x.kind ≠ 6; rw [HKK.out]; exact q6
            clear q6
            go_wp2
            go_meet
            obtain ⟨h1, h2⟩ := HSTO.out 1 (.int .i64 1) { x with op := 1 } rfl
            exact ⟨_, h1, spoil_op1 x HQ.out HQ6.out, HXO.out.1, h2⟩
      · have t0 : (m == 0) = false := by rw [beq_eq_false_iff_ne]; omega
        have t1 : (m == 1) = false := by rw [beq_eq_false_iff_ne]; omega
        have t2 : (m == 2) = false := by rw [beq_eq_false_iff_ne]; omega
        have t3 : (m == 3) = true := by simpa using h
        clear h
        by_cases q3 : kk = 3
        · have s3 : (kk != 3) = false := by simpa using q3
          have HQ : Hid (x.kind = 3) := HKK.out.trans q3
          clear q3
          go_wp2
          go_meet
          obtain ⟨h1, h2⟩ := HSTO.out 5 (.int .i64 13) { x with of := 13 } rfl
          exact ⟨_, h1, spoil_of13 x HQ.out, HXO.out.1, h2⟩
        · have s3 : (kk != 3) = true := by simpa using q3
          have HQ : Hid (x.kind ≠ 3) := by show x.kind ≠ 3; rw [HKK.out]; exact q3
          clear q3
          go_wp2
          go_meet
          obtain ⟨h1, h2⟩ := HSTO.out 4 (.int .i64 1) { x with size := 1 } rfl
          exact ⟨_, h1, spoil_size x HQ.out, HXO.out.1, h2⟩
      · have t0 : (m == 0) = false := by rw [beq_eq_false_iff_ne]; omega
        have t1 : (m == 1) = false := by rw [beq_eq_false_iff_ne]; omega
        have t2 : (m == 2) = false := by rw [beq_eq_false_iff_ne]; omega
        have t3 : (m == 3) = false := by rw [beq_eq_false_iff_ne]; omega
        have t4 : (m == 4) = true := by simpa using h
        clear h
        by_cases q3 : kk = 15
        · have s3 : (kk != 15) = false := by simpa using q3
          have HQ : Hid (x.kind = 15) := HKK.out.trans q3
          clear q3
          go_wp2
          go_meet
          obtain ⟨h1, h2⟩ := HSTO.out 6 (.int .i64 3) { x with side := 3 } rfl
          exact ⟨_, h1, spoil_side x HQ.out, HXO.out.1, h2⟩
        · have s3 : (kk != 15) = true := by simpa using q3
          have HQ : Hid (x.kind ≠ 15) := by show x.kind ≠ 15; rw [HKK.out]; exact q3
          clear q3
          go_wp2
          go_meet
          obtain ⟨h1, h2⟩ := HSTO.out 23 (.int .i64 (-1)) { x with bits := -1 } rfl
          exact ⟨_, h1, spoil_bits x HQ.out, HXO.out.1, h2⟩
      · have t0 : (m == 0) = false := by rw [beq_eq_false_iff_ne]; omega
        have t1 : (m == 1) = false := by rw [beq_eq_false_iff_ne]; omega
        have t2 : (m == 2) = false := by rw [beq_eq_false_iff_ne]; omega
        have t3 : (m == 3) = false := by rw [beq_eq_false_iff_ne]; omega
        have t4 : (m == 4) = false := by rw [beq_eq_false_iff_ne]; omega
        have t5 : (m == 5) = true := by simpa using h
        clear h
        by_cases q3 : kk = 14
        · have s3 : (kk != 14) = false := by simpa using q3
          have HQ : Hid (x.kind = 14) := HKK.out.trans q3
          clear q3
          go_wp2
          go_meet
          obtain ⟨h1, h2⟩ := HSTO.out 5 (.int .i64 4) { x with of := 4 } rfl
          exact ⟨_, h1, spoil_of4 x (.inl HQ.out), HXO.out.1, h2⟩
        · have s3 : (kk != 14) = true := by simpa using q3
          have HQ : Hid (x.kind ≠ 14) := by show x.kind ≠ 14; rw [HKK.out]; exact q3
          clear q3
          by_cases q5 : kk = 15
          · have s5 : (kk != 15) = false := by simpa using q5
            have HQ5 : Hid (x.kind = 15) := HKK.out.trans q5
            clear q5
            go_wp2
            go_meet
            obtain ⟨h1, h2⟩ := HSTO.out 5 (.int .i64 4) { x with of := 4 } rfl
            exact ⟨_, h1, spoil_of4 x (.inr HQ5.out), HXO.out.1, h2⟩
          · have s5 : (kk != 15) = true := by simpa using q5
            have HQ5 : Hid (x.kind ≠ 15) := by show x.kind ≠ 15; rw [HKK.out]; exact q5
            clear q5
            go_wp2
            go_meet
            obtain ⟨h1, h2⟩ := HSTO.out 7 (.int .u8 1) { x with addr := x.addr.set 0 1 } (set_addr x HXO.out.2.2)
            exact ⟨_, h1, spoil_addr x HXO.out.2.2 HQ.out HQ5.out, HXO.out.1, h2⟩
    case rest =>
    obtain ⟨y, HY⟩ := hcut
    obtain ⟨V5, hsy, hyn, G5⟩ := HY.out
    have HCF : Hid (checkG (t.set i y) = (i, 120)) := HSP.out y hsy
    have HYN : Hid (∀ z ∈ t.set i y, z.n ≤ 4294967295) := fun z hz => by
      rcases List.mem_or_eq_of_mem_set hz with h | h
      · exact HN.out z h
      · rw [h]; exact hyn
    clear HY hsy hyn HSTO HV3 HG3 HSP HXO k0 k1 k4 k5 k6 k7 k23 f0 f1 f4 f5 f6 f7 f23 hm hr hm6 hr9 hk
    have CC := gcopy_any (some ⟨b, o, none⟩) ca t wc (HA.out.keptNone G5) HHA0.out (by omega)
    go_wp2_with fail
    refine CC.mono ?_
    rintro e6 w6 ⟨v6, rfl, O6, K6⟩
    obtain ⟨g, c6, rfl, hc6, hcm6, hg1, -⟩ := owns_head O6 hpos
    have V6 := VAt.kept V5 K6
    have HS6 := owns_setG hilt y O6
    have HTH : Hid (w6.there g (i * 24) y.cells.toArray.size) := (BlkN.ofRow O6).1.thereN (by show i * 24 + 24 ≤ _; omega)
    have HZY : Hid ((Try.prog.info? 32).map (·.size) = some y.cells.toArray.size ∧ y.cells.toArray.all (·.oneCell') = true) := ⟨ng_size y, ng_all y⟩
    have G6 : w.grownBy (w6.setCells g (i * 24) y.cells) none := setCells_grown g (.inr (Nat.le_trans G5.size hg1)) _ _ _ (grown_trans G5 K6)
    have HFS : Hid (NgOwns (w6.setCells g (i * 24) y.cells) wc.heap.size (.slice (some ⟨g, 0, none⟩) t.length c6) (t.set i y) ∧ w.grownBy (w6.setCells g (i * 24) y.cells) none) := ⟨HS6, G6⟩
    obtain ⟨Y, hY⟩ : ∃ Y, y.cells.toArray = Y := ⟨_, rfl⟩
    have HYY : Hid (Y.toList = y.cells) := by show _ = _; rw [← hY]
    have V7 : VAt w6 N 32 Y := by rw [← hY]; exact V6
    rw [hY] at HTH HZY
    clear hY V5 V6 HS6 G6 CC O6 K6 G5
    go_upto_region 29 with (first | refine wpList_load_row rfl 32 (.tmp 10) rfl N rfl 32 Y (0, 0) _ V7 Try.underlying32 rfl HZY.out.1 ?_ | refine wpList_store_mid rfl 32 (.tmp 92) (.tmp 91) rfl g (i * 24) Y (by simp [Act.eval]) rfl HTH.out HZY.out.1 HZY.out.2 ?_)
    rw [HYY.out]
    generalize w6.setCells g (i * 24) y.cells = w7 at *
    obtain ⟨O7, G7⟩ := HFS.out
    obtain ⟨a7, c7, e7, D7, -⟩ := cv_of_row O7
    simp only [Value.slice.injEq] at e7
    obtain ⟨rfl, -, rfl⟩ := e7
    have CK := check12_any (some ⟨g, 0, none⟩) c6 (t.set i y) w7 D7 (by rw [List.length_set]; omega) HYN.out
    rw [checkR, HCF.out, List.length_set] at CK
    have eqi : ((i : Int) == (i : Int)) = true := by simp
    clear HFS V7 HTH O7 D7
    go_wp2_with fail
    refine CK.mono ?_
    rintro e8 w8 ⟨rfl, K8⟩
    have G8 := grown_trans G7 K8
    clear CK K8 G7
    go_wp2_with fail
    refine (awake12_any _).mono ?_
    rintro e9 w9 ⟨rfl, K9⟩
    go_wp2
    go_ret
    exact ⟨rfl, grown_trans G8 K9⟩
  · have h1 : (e != 0) = true := by rw [bne_iff_ne]; exact he
    clear he
    go_enter Try.func3, Try.ntmps3
    go_wp2_with fail
    refine C1.mono ?_
    rintro e1 w1 ⟨v1, rfl, O1, K1⟩
    obtain ⟨a1, c1, rfl, D1, -⟩ := cv_of_row O1
    have CK := HCK.out a1 c1 w1 D1
    clear C1 O1 D1
    go_wp2_with fail
    refine CK.mono ?_
    rintro e2 w2 ⟨rfl, K2⟩
    have G2 := grown_trans K1 K2
    clear CK K1 K2 HCK
    go_wp2_with fail
    refine (awake12_any _).mono ?_
    rintro e9 w9 ⟨rfl, K9⟩
    go_wp2
    go_ret
    exact ⟨rfl, grown_trans G2 K9⟩

set_option maxRecDepth 100000 in
theorem lifted (os : Os) (started : os.Started) (H : Type) (enc : TypeId × Value → H) :
    ReturnsInHanded {} Try.checked os 3 .any (Rows.typesSpoiltSpec.pre6 enc Try.prog Try.f3 Rows.typesSpoiltRow.domain false) (Rows.typesSpoiltSpec.post enc Try.prog Try.f3 false true false false) := by
  refine returnsInHanded_of_change_sized (C := Try.checked) own started (by kernel_rfl) Try.func3
    (ChangeSpec.witness6 (enc := enc) (C := Try.checked) false ⟨#[], #[.slice none 0 0, .int .i64 0, .int .i64 0], []⟩ 8 (by kernel_rfl) (by kernel_rfl) (by kernel_rfl) (by kernel_rfl)) ?_
  intro W base args ds gs before hval0 hW hcnd hsz0 _
  have hsz : (DataW.weightsEach Try.prog (Try.f3.params.toList ++ Rows.typesSpoiltSpec.plain.varTypes Try.prog) (ds ++ gs)).all (· ≤ reachBytes) = true := hsz0
  have hval : ∀ (j : Nat) t v, Try.f3.params[j]? = some t → args[j]? = some v → Value.okWide Try.prog W .any base t v := hval0
  have hW' := hW
  obtain ⟨p, q, hA0, hV, rfl, hfz, hnd⟩ := hW
  have hA : DataW.TrodAll enc Try.prog W 0 (fun _ => true) true Try.f3.params.toList args.toList ds p := hA0
  rw [Try.params3] at hA hval hsz
  obtain ⟨v0, vs0, d0, ds0, p0, q0, hargs, rfl, rfl, h0, r0⟩ := trodAll_cons hA
  obtain ⟨v1, vs1, d1, ds1, p1, q1, rfl, rfl, rfl, h1, r1⟩ := trodAll_cons r0
  obtain ⟨v2, vs2, d2, ds2, p2, q2, rfl, rfl, rfl, h2, r2⟩ := trodAll_cons r1
  obtain ⟨rfl, rfl, rfl⟩ := trodAll_nil r2
  obtain rfl : args = #[v0, v1, v2] := by cases args; simp_all
  obtain ⟨rfl, rfl⟩ := trodVars_none hV
  obtain ⟨a0, len0, cap0, rfl⟩ := okWide_slice Try.underlying22 (hval 0 22 v0 rfl rfl)
  have k0 := h0
  have lt0 : ∀ x ∈ p0, x.block < W.heap.size := by obtain ⟨m, hm⟩ := k0; exact DataW.trod_lt m _ _ _ hm
  obtain ⟨xs0, rfl, hcells0, hnil0, hcp0, hok0, hdat0⟩ := open_nodes h0
  obtain ⟨x1, rfl, rfl, rfl, w1⟩ := open_int Try.underlying3 (hval 1 3 v1 rfl rfl) h1
  obtain ⟨x2, rfl, rfl, rfl, w2⟩ := open_int Try.underlying3 (hval 2 3 v2 rfl rfl) h2
  have hlen0 : xs0.length * 72 ≤ 140737488351232 := by
    rcases hdat0 with ⟨_, rfl⟩ | ⟨elems, spare, rfl, hle⟩
    · simp
    · have := sized_slice hsz (j := 0) (t := 22) (e := 32) rfl rfl Try.underlying22
      rw [bytes32] at this
      unfold reachBytes at this
      omega
  clear hA0 hval0
  refine (walk a0 cap0 xs0 x1 x2 W hcells0 hnil0 hcp0.1 hcp0.2 (by omega) hok0).mono fun e W' ⟨he, hg⟩ => ?_
  subst he
  have bel : Below W.heap.size W W' := (Below.refl _ _).grown hg (Nat.le_refl _) (by simp)
  exact ⟨_, rfl, _, _, _, [], _, [], hW', trodAll_mk1 (shut_bool Try.underlying4 _), (trodAll_cons_mk (Below.trod laidOut (by kernel_rfl) (of_decide_eq_true (by kernel_rfl)) k0 bel lt0) (trodAll_cons_mk (shut_int Try.underlying3 w1) (trodAll_cons_mk (shut_int Try.underlying3 w2) trodAll_mk0))), rfl, bel.frame _, fun h => by cases h⟩

theorem over : Rows.TypesSpoiltSaid :=
  OpenClaim.holds_of_wide 3 Try.f3 rfl rfl rfl rfl rfl rfl rfl ⟨rfl, rfl, rfl, rfl, rfl⟩ rfl rfl rfl rfl rfl (by kernel_rfl) Try.func3 (by kernel_rfl)
    (of_decide_eq_true (by kernel_rfl)) (by unfold Func.isWrapper; first | (rw [if_pos (by decide +kernel)]; kernel_rfl) | (rw [if_neg (by decide +kernel)]; exact ⟨rfl, rfl⟩))
    (fun os started H enc _ => lifted os started H enc)

end typesSpoilt

theorem typesSpoilt_holds : Rows.TypesSpoiltSaid := typesSpoilt.over
#print axioms typesSpoilt_holds

end Go.Proofs.Ytdajpnlpcdnckab
