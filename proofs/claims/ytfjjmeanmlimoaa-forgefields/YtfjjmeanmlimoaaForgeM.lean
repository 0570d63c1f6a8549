/-
  The document's own Make.
-/
import Derived.Test.YtfjjmeanmlimoaaForgeD
import Derived.Test.YtfjjmeanmlimoaaForgeF
import Derived.Test.YtfjjmeanmlimoaaForgeP
import Derived.Laws.Rows
namespace Go.Proofs.Ytfjjmeanmlimoaa
open Go.RowKit
set_option maxRecDepth 100000

/-- A link and a spec in their blocks, and a row that grows behind them. -/
structure MI (w : World) (B C b1 : Nat) (l : Lk) (s : Sp) (a : Option Addr) (ca : Nat) (v : Value) (cur : List UInt8) (W : World) : Prop where
  ci : CI w C b1 b1 s a ca (.slice none 0 0) [] v cur W
  lk : VAt W B 23 (lkA l)
  bc : B < b1
theorem MI.kept {w : World} {B C b1 : Nat} {l : Lk} {s : Sp} {a : Option Addr} {ca : Nat} {v : Value} {cur : List UInt8} {W W' : World} (I : MI w B C b1 l s a ca v cur W) (K : W.grownBy W' none) : MI w B C b1 l s a ca v cur W' := ⟨I.ci.kept K, I.lk.kept K, I.bc⟩
theorem MI.app {w : World} {B C b1 : Nat} {l : Lk} {s : Sp} {a : Option Addr} {ca : Nat} {v v' : Value} {cur cur' : List UInt8} {W W' : World} (I : MI w B C b1 l s a ca v cur W) (O : Owns W' b1 v' cur') (K : W.grownBy W' v.ownBlock) : MI w B C b1 l s a ca v' cur' W' := by
  refine ⟨I.ci.app O K, I.lk.grown K ?_, I.bc⟩
  intro e
  have h1 := (I.ci.oh.lt B e).1
  have h2 := I.bc
  omega

theorem field_len2 (l : Lk) (plain : Bool) (p : Nat) : (fieldV l plain p).length ≤ 2 := by
  rcases field_len l plain p with h | h <;> omega
theorem hd_len4 (l : Lk) (beg fin : Bool) (seq : Nat) : (hdB l beg fin seq).length ≤ 4 := by
  rw [hd_len, szV]
  split <;> omega
theorem front_len (l : Lk) (s : Sp) : (wideV s).length ≤ 2 ∧ (pieceB l s).length ≤ 6 ∧ (ownV l s).length ≤ 2 := by
  have h1 := field_len2 l s.plain 61
  have h2 := hd_len4 l s.beg s.fin s.seq
  have h3 := field_len2 l s.plain s.proto
  refine ⟨?_, ?_, ?_⟩
  · unfold wideV; split <;> simp
  · unfold pieceB
    split
    · rw [List.length_append]; omega
    · simp
  · unfold ownV
    split
    · exact h3
    · simp
theorem car_len (s : Sp) (h : s.ok) (hd : s.data.length ≤ 65535) : (carV s).length ≤ 70000 := by
  have h1 := h.src
  have h2 := h.dst
  have h3 := pre_len s
  have h4 : (loadV s).length ≤ 65539 := by rw [load_pre, List.length_append]; omega
  unfold carV
  split
  · omega
  · split
    · simp [be2]; omega
    · split
      · simp [be2]; omega
      · omega

set_option maxRecDepth 100000 in
set_option maxHeartbeats 4000000 in
theorem refmake_any (l : Lk) (s : Sp) (a : Option Addr) (ca : Nat) (w : World) (ok : s.ok) (hD : Cells w a s.data) (hc0 : a = none → ca = 0) :
    Calls Try.prog 8 #[.agg (lkA l), .agg (spA s a ca)] w fun e w' => ∃ v, e = .returned (.tuple #[v, .int .i64 (exE (makeX l s))]) ∧ Owns w' w.heap.size v (exV [] (makeX l s)) ∧ w.grownBy w' none := by
  obtain ⟨i0, hi, hz0, hz1, hz2⟩ := info_parts info5
  have L0 := VAt.alloc w 23 (lkA l)
  have K1 := World.grownBy_alloc (w.alloc (.cells (lkA l) 23)) (.cells (spA s a ca) 28) none
  have S1 := VAt.alloc (w.alloc (.cells (lkA l) 23)) 28 (spA s a ca)
  have G1 := grown_trans (World.grownBy_alloc w (.cells (lkA l) 23) none) K1
  rw [show (w.alloc (.cells (lkA l) 23)).heap.size = w.heap.size + 1 by simp] at S1
  have HI : Hid (MI w w.heap.size (w.heap.size + 1) ((w.alloc (.cells (lkA l) 23)).alloc (.cells (spA s a ca) 28)).heap.size l s a ca (.slice none 0 0) [] ((w.alloc (.cells (lkA l) 23)).alloc (.cells (spA s a ca) 28))) :=
    ⟨⟨⟨S1, ok⟩, World.ownsRow_nil _ _ _ _, World.ownsRow_nil _ _ _ _, G1, Nat.le_succ _, S1.lt, Nat.le_refl _, fun x hx => (by cases hx), Nat.le_refl _⟩, L0.kept K1, by have := S1.lt; omega⟩
  have H : Hid (Cells w a s.data) := hD
  have HOK : Hid s.ok := ok
  have HLS : Hid ((Try.prog.info? 23).map (·.size) = some (lkA l).size) := size23
  have HSS : Hid ((Try.prog.info? 28).map (·.size) = some (spA s a ca).size) := by
    show _ = _
    rw [spA, List.size_toArray, spL_len ok]
    exact size28
  obtain ⟨M, hM⟩ : ∃ M, makeX l s = M := ⟨_, rfl⟩
  rw [hM]
  have HM : Hid (M = if checkF l ≠ 0 then .error (checkF l) else if fitsB l s = false then .error 80 else if 65535 < s.data.length then .error 81 else if 65535 < (outV l s).length then .error 81 else .ok (outV l s)) := by
    show M = _
    rw [← hM]
    rfl
  have HN : Hid (∀ (E : Int) (W : World), M = .error E → w.grownBy W none → ∃ v, Ending.returned (.tuple #[.slice none 0 0, .int .i64 E]) = .returned (.tuple #[v, .int .i64 (exE M)]) ∧ Owns W w.heap.size v (exV [] M) ∧ w.grownBy W none) := fun E W h g => by
    rw [h]
    exact ⟨_, rfl, World.ownsRow_nil _ _ _ _, g⟩
  clear hD hM L0 K1 S1 G1 ok
  go_enter Try.func8, Try.ntmps8
  go_upto_region 1 with fail
  obtain ⟨B, hB⟩ : ∃ B, w.heap.size = B := ⟨_, rfl⟩
  obtain ⟨C, hC⟩ : ∃ C, w.heap.size + 1 = C := ⟨_, rfl⟩
  rw [hC, hB] at HI ⊢
  have HBw : Hid (w.heap.size ≤ C ∧ w.heap.size ≤ B) := ⟨by omega, by omega⟩
  clear hB hC
  generalize (w.alloc (.cells (lkA l) 23)).alloc (.cells (spA s a ca) 28) = w1 at *
  obtain ⟨b1, hb1⟩ : ∃ b, w1.heap.size = b := ⟨_, rfl⟩
  rw [hb1] at HI
  clear hb1
  have LK := HI.out.lk
  go_wp2_with (refine wpList_load_row rfl 23 (.tmp 2) rfl B rfl 23 (lkA l) (0, 0) _ LK Try.underlying23 rfl HLS.out ?_)
  refine (refchk_any l _).mono ?_
  rintro e w2 ⟨rfl, K2⟩
  have HI2 : Hid (MI w B C b1 l s a ca (.slice none 0 0) [] w2) := HI.out.kept K2
  clear LK HI K2
  by_cases hck : checkF l = 0
  case neg =>
    have hck' : (checkF l != 0) = true := by rw [bne_iff_ne]; exact hck
    go_wp2
    go_ret2
    exact HN.out _ _ (by rw [HM.out, if_pos hck]) HI2.out.ci.up
  rw [hck]
  have HM2 := HM.out
  rw [if_neg (by rw [hck]; simp)] at HM2
  have HM3 : Hid (M = if fitsB l s = false then .error 80 else if 65535 < s.data.length then .error 81 else if 65535 < (outV l s).length then .error 81 else .ok (outV l s)) := HM2
  clear HM HM2
  have LK := HI2.out.lk
  have SK := HI2.out.ci.sp.1
  go_wp2_with (first | (refine wpList_load_row rfl 23 (.tmp 2) rfl B rfl 23 (lkA l) (0, 0) _ LK Try.underlying23 rfl HLS.out ?_) | (refine wpList_load_row rfl 28 (.tmp 3) rfl C rfl 28 (spA s a ca) (0, 0) _ SK Try.underlying28 rfl HSS.out ?_))
  refine (fits_any l s a ca _ HOK.out).mono ?_
  rintro e w3 ⟨rfl, K3⟩
  have HI3 : Hid (MI w B C b1 l s a ca (.slice none 0 0) [] w3) := HI2.out.kept K3
  clear LK SK HI2 K3
  cases hfit : fitsB l s with
  | false =>
    go_wp2
    go_ret2
    exact HN.out _ _ (by rw [HM3.out, if_pos hfit]) HI3.out.ci.up
  | true =>
  have FT := fits_of hfit
  have HM4 : Hid (M = if 65535 < s.data.length then .error 81 else if 65535 < (outV l s).length then .error 81 else .ok (outV l s)) := by
    show M = _
    rw [HM3.out, if_neg (by rw [hfit]; simp)]
  obtain ⟨f1, f2, f3⟩ := front_len l s
  clear HM3
  have c1 := HI3.out.ci.sp.eight.2.1
  go_upto_if 18 with fail
  go_cut [7, 18] from 19 to 21 (fun v _ wx => Hid (MI w B C b1 l s a ca v (wideV s) wx))
  case first =>
    cases hw : s.wide with
    | false =>
      rw [hw] at c1
      have e : wideV s = [] := by rw [wideV, if_neg (by rw [hw]; simp)]
      have HNX : Hid (MI w B C b1 l s a ca (.slice none 0 0) (wideV s) w3) := by
        show MI _ _ _ _ _ _ _ _ _ _ _
        rw [e]
        exact HI3.out
      go_wp2
      go_meet
      exact HNX
    | true =>
      rw [hw] at c1
      have e : wideV s = [255, 3] := by rw [wideV, if_pos hw]
      go_wp2_with (at_builtin; refine wpList_append_rd rfl (.tmp 19) (.tmp 20) 26 rfl i0 Try.underlying26 hi hz0 hz1 hz2 b1 _ ([]) rfl ?r1a (some ⟨w3.heap.size, 0, none⟩) 2 ([255, 3]) rfl (by simp) ?r1b ?r1c ?r1d ?r1e)
      case r1a => exact (HI3.out.kept (World.grownBy_alloc _ _ _)).ci.oh
      case r1b => exact cells_lit w3 [255, 3]
      case r1c => simp
      case r1d => exact (HI3.out.kept (World.grownBy_alloc _ _ _)).ci.b2w
      case r1e =>
      intro v4 w4 O K
      have HNX : Hid (MI w B C b1 l s a ca v4 (wideV s) w4) := by
        show MI _ _ _ _ _ _ _ _ _ _ _
        rw [e]
        exact (HI3.out.kept (World.grownBy_alloc _ _ _)).app O K
      go_wp2
      go_meet
      exact HNX
  case rest =>
  have HI4 := hcut
  clear HI3 c1 hcut
  obtain ⟨c0, -, c2, c3, c4, c5, c6, -⟩ := HI4.out.ci.sp.eight
  go_upto_if 23 with fail
  go_cut [7, 23] from 24 to 39 (fun v _ wx => Hid (MI w B C b1 l s a ca v (wideV s ++ pieceB l s) wx))
  case first =>
    cases hm : s.multi with
    | false =>
      rw [hm] at c2
      have e : wideV s ++ pieceB l s = wideV s := by rw [pieceB, if_neg (by rw [hm]; simp), List.append_nil]
      have HNX : Hid (MI w B C b1 l s a ca u7 (wideV s ++ pieceB l s) wc) := by
        show MI _ _ _ _ _ _ _ _ _ _ _
        rw [e]
        exact HI4.out
      go_wp2
      go_meet
      exact HNX
    | true =>
      rw [hm] at c2
      have e : wideV s ++ pieceB l s = wideV s ++ (fieldV l s.plain 61 ++ hdB l s.beg s.fin s.seq) := by rw [pieceB, if_pos hm]
      have hsq := (FT.piece hm).2
      have g1 := field_len2 l s.plain 61
      have g2 := hd_len4 l s.beg s.fin s.seq
      have LK := HI4.out.lk
      have HFD : Hid (∀ W : World, Calls Try.prog 20 #[.agg (lkA l), .bool s.plain, .int .u32 61] W fun e w' => ∃ v, e = .returned v ∧ Owns w' W.heap.size v (fieldV l s.plain 61) ∧ W.grownBy w' none) := fun W => field_any l s.plain 61 W (by omega)
      have HHD : Hid (∀ W : World, Calls Try.prog 21 #[.agg (lkA l), .bool s.beg, .bool s.fin, .int .u32 (s.seq : Int)] W fun e w' => ∃ v, e = .returned v ∧ Owns w' W.heap.size v (hdB l s.beg s.fin s.seq) ∧ W.grownBy w' none) := fun W => head_any l s.beg s.fin s.seq W hsq
      go_wp2_with (refine wpList_load_row rfl 23 (.tmp 2) rfl B rfl 23 (lkA l) (0, 0) _ LK Try.underlying23 rfl HLS.out ?_)
      refine (HFD.out _).mono ?_
      rintro e2 w5 ⟨x5, rfl, O5, K5⟩
      obtain ⟨ao5, cap5, rfl, C5, hn5⟩ := O5.cells
      have HC5 : Hid (Cells w5 ao5 (fieldV l s.plain 61)) := C5
      have J5 : Hid (MI w B C b1 l s a ca u7 (wideV s) w5) := HI4.out.kept K5
      clear C5 O5 K5 LK c0 c2 c3 c4 c5 c6
      go_wp2_with (at_builtin; refine wpList_append_rd rfl (.tmp 24) (.tmp 28) 26 rfl i0 Try.underlying26 hi hz0 hz1 hz2 b1 _ (wideV s) rfl ?r2a ao5 cap5 (fieldV l s.plain 61) rfl hn5 ?r2b ?r2c ?r2d ?r2e)
      case r2a => exact (J5.out).ci.oh
      case r2b => exact HC5.out
      case r2c => omega
      case r2d => exact (J5.out).ci.b2w
      case r2e =>
      intro v6 w6 O K
      have J6 : Hid (MI w B C b1 l s a ca v6 (wideV s ++ fieldV l s.plain 61) w6) := J5.out.app O K
      clear O K J5 HC5
      obtain ⟨-, -, -, c3, c4, c5, -, -⟩ := J6.out.ci.sp.eight
      have LK := J6.out.lk
      go_wp2_with (refine wpList_load_row rfl 23 (.tmp 2) rfl B rfl 23 (lkA l) (0, 0) _ LK Try.underlying23 rfl HLS.out ?_)
      refine (HHD.out _).mono ?_
      rintro e2 w7 ⟨x7, rfl, O7, K7⟩
      obtain ⟨ao7, cap7, rfl, C7, hn7⟩ := O7.cells
      have HC7 : Hid (Cells w7 ao7 (hdB l s.beg s.fin s.seq)) := C7
      have J7 : Hid (MI w B C b1 l s a ca v6 (wideV s ++ fieldV l s.plain 61) w7) := J6.out.kept K7
      clear C7 O7 K7 LK c3 c4 c5
      go_wp2_with (at_builtin; refine wpList_append_rd rfl (.tmp 30) (.tmp 38) 26 rfl i0 Try.underlying26 hi hz0 hz1 hz2 b1 _ (wideV s ++ fieldV l s.plain 61) rfl ?r3a ao7 cap7 (hdB l s.beg s.fin s.seq) rfl hn7 ?r3b ?r3c ?r3d ?r3e)
      case r3a => exact (J7.out).ci.oh
      case r3b => exact HC7.out
      case r3c => (rw [List.length_append]; omega)
      case r3d => exact (J7.out).ci.b2w
      case r3e =>
      intro v8 w8 O K
      have HNX : Hid (MI w B C b1 l s a ca v8 (wideV s ++ pieceB l s) w8) := by
        show MI _ _ _ _ _ _ _ _ _ _ _
        rw [e]
        exact J7.out.app O K
      go_wp2
      go_meet
      exact HNX
  case rest =>
  have HI5 := hcut
  clear HI4 c0 c2 c3 c4 c5 c6 hcut
  obtain ⟨c0, -, c2, c3, -, -, c6, -⟩ := HI5.out.ci.sp.eight
  obtain ⟨sd, hsd⟩ : ∃ sd, saidB s = sd := ⟨_, rfl⟩
  go_upto_region 12 with fail
  go_cut [46] from 40 to 46 (fun x wx => x = .bool sd ∧ Hid (MI w B C b1 l s a ca u7 (wideV s ++ pieceB l s) wx))
  case first =>
    cases hm : s.multi with
    | false =>
      rw [hm] at c2
      have e : sd = true := by rw [← hsd, saidB, hm]; rfl
      subst e
      go_wp2
      go_meet
      exact ⟨rfl, HI5⟩
    | true =>
      rw [hm] at c2
      cases hb : s.beg with
      | false =>
        rw [hb] at c3
        have e : sd = false := by rw [← hsd, saidB, hm, hb]; rfl
        subst e
        go_wp2
        go_meet
        exact ⟨rfl, HI5⟩
      | true =>
        rw [hb] at c3
        have e : sd = true := by rw [← hsd, saidB, hm, hb]; rfl
        subst e
        go_wp2
        go_meet
        exact ⟨rfl, HI5⟩
  case rest =>
  obtain ⟨rfl, HI6⟩ := hcut
  clear HI5 c0 c2 c3 c6
  obtain ⟨c0, -, -, -, -, -, c6, -⟩ := HI6.out.ci.sp.eight
  go_upto_if 46 with fail
  go_cut [7, 46] from 47 to 54 (fun v _ wx => Hid (MI w B C b1 l s a ca v (frontV l s) wx))
  case first =>
    cases sd with
    | false =>
      have e : frontV l s = wideV s ++ pieceB l s := by rw [frontV, ownV, if_neg (by rw [hsd]; simp), List.append_nil]
      have HNX : Hid (MI w B C b1 l s a ca u7 (frontV l s) wc) := by
        show MI _ _ _ _ _ _ _ _ _ _ _
        rw [e]
        exact HI6.out
      go_wp2
      go_meet
      exact HNX
    | true =>
      have e : frontV l s = wideV s ++ (pieceB l s ++ fieldV l s.plain s.proto) := by rw [frontV, ownV, if_pos hsd, List.append_assoc]
      have g1 := field_len2 l s.plain s.proto
      have LK := HI6.out.lk
      have HFD : Hid (∀ W : World, Calls Try.prog 20 #[.agg (lkA l), .bool s.plain, .int .u32 (s.proto : Int)] W fun e w' => ∃ v, e = .returned v ∧ Owns w' W.heap.size v (fieldV l s.plain s.proto) ∧ W.grownBy w' none) := fun W => field_any l s.plain s.proto W HOK.out.proto
      go_wp2_with (refine wpList_load_row rfl 23 (.tmp 2) rfl B rfl 23 (lkA l) (0, 0) _ LK Try.underlying23 rfl HLS.out ?_)
      refine (HFD.out _).mono ?_
      rintro e2 w5 ⟨x5, rfl, O5, K5⟩
      obtain ⟨ao5, cap5, rfl, C5, hn5⟩ := O5.cells
      have HC5 : Hid (Cells w5 ao5 (fieldV l s.plain s.proto)) := C5
      have J5 : Hid (MI w B C b1 l s a ca u7 (wideV s ++ pieceB l s) w5) := HI6.out.kept K5
      clear C5 O5 K5 LK c0 c6
      go_wp2_with (at_builtin; refine wpList_append_rd rfl (.tmp 47) (.tmp 53) 26 rfl i0 Try.underlying26 hi hz0 hz1 hz2 b1 _ (wideV s ++ pieceB l s) rfl ?r4a ao5 cap5 (fieldV l s.plain s.proto) rfl hn5 ?r4b ?r4c ?r4d ?r4e)
      case r4a => exact (J5.out).ci.oh
      case r4b => exact HC5.out
      case r4c => (rw [List.length_append]; omega)
      case r4d => exact (J5.out).ci.b2w
      case r4e =>
      intro v6 w6 O K
      have HNX : Hid (MI w B C b1 l s a ca v6 (frontV l s) w6) := by
        show MI _ _ _ _ _ _ _ _ _ _ _
        rw [e]
        exact J5.out.app O K
      go_wp2
      go_meet
      exact HNX
  case rest =>
  have HI7 := hcut
  clear HI6 c0 c6 hcut hsd
  have c43 := HI7.out.ci.sp.four.2.2.2
  have hfl : (frontV l s).length ≤ 10 := by rw [frontV, List.length_append, List.length_append]; omega
  by_cases hdl : 65535 < s.data.length
  · have hdl' : decide ((65535 : Int) < (s.data.length : Int)) = true := decide_eq_true (by omega)
    go_wp2
    go_ret2
    exact HN.out _ _ (by rw [HM4.out, if_pos hdl]) HI7.out.ci.up
  have hdl' : decide ((65535 : Int) < (s.data.length : Int)) = false := decide_eq_false (by omega)
  have HM5 : Hid (M = if 65535 < (outV l s).length then .error 81 else .ok (outV l s)) := by
    show M = _
    rw [HM4.out, if_neg hdl]
  have hcl := car_len s HOK.out (by omega)
  have SK := HI7.out.ci.sp.1
  have HCR : Hid (∀ W : World, w.grownBy W none → Calls Try.prog 22 #[.agg (spA s a ca)] W fun e w' => ∃ v, e = .returned v ∧ Owns w' W.heap.size v (carV s) ∧ W.grownBy w' none) := fun W g => carried_any s a ca W HOK.out (H.out.keptNone g) hc0 (by omega) FT.next
  clear HM4
  go_wp2_with (refine wpList_load_row rfl 28 (.tmp 3) rfl C rfl 28 (spA s a ca) (0, 0) _ SK Try.underlying28 rfl HSS.out ?_)
  refine (HCR.out _ HI7.out.ci.up).mono ?_
  rintro e2 w8 ⟨x8, rfl, O8, K8⟩
  obtain ⟨ao8, cap8, rfl, C8, hn8⟩ := O8.cells
  have HC8 : Hid (Cells w8 ao8 (carV s)) := C8
  have J8 : Hid (MI w B C b1 l s a ca u7 (frontV l s) w8) := HI7.out.kept K8
  clear C8 O8 K8 SK c43 HI7 HCR
  go_wp2_with (at_builtin; refine wpList_append_rd rfl (.tmp 59) (.tmp 61) 26 rfl i0 Try.underlying26 hi hz0 hz1 hz2 b1 _ (frontV l s) rfl ?r5a ao8 cap8 (carV s) rfl hn8 ?r5b ?r5c ?r5d ?r5e)
  case r5a => exact (J8.out).ci.oh
  case r5b => exact HC8.out
  case r5c => omega
  case r5d => exact (J8.out).ci.b2w
  case r5e =>
  intro v9 w9 O K
  have J9 : Hid (MI w B C b1 l s a ca v9 (outV l s) w9) := J8.out.app O K
  clear O K J8 HC8
  obtain ⟨ao9, cap9, rfl, C9, -⟩ := J9.out.ci.oh.cells
  clear C9
  obtain ⟨OV, hOV⟩ : ∃ OV, outV l s = OV := ⟨_, rfl⟩
  rw [hOV] at J9 HM5 ⊢
  clear hOV
  by_cases hol : 65535 < OV.length
  · have hol' : decide ((65535 : Int) < (OV.length : Int)) = true := decide_eq_true (by omega)
    go_wp2
    go_ret2
    exact HN.out _ _ (by rw [HM5.out, if_pos hol]) J9.out.ci.up
  · have hol' : decide ((65535 : Int) < (OV.length : Int)) = false := decide_eq_false (by omega)
    have hMM : M = .ok OV := by rw [HM5.out, if_neg hol]
    have HMM : Hid (M = .ok OV) := hMM
    clear hMM
    go_wp2
    go_ret2
    rw [HMM.out]
    exact ⟨_, rfl, owns_mono J9.out.ci.oh (by have := J9.out.ci.c0; have := J9.out.ci.c1; omega), J9.out.ci.up⟩

end Go.Proofs.Ytfjjmeanmlimoaa
