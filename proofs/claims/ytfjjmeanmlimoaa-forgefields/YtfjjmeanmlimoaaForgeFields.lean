/-
  For every link and every spec (its data's capacity at most 2^47 - 4096 bytes, as the form itself says of each argument) riddlelaw8.ForgeFields returns true and leaves what was there as it was: no condition of ours.
-/
import Derived.Test.YtfjjmeanmlimoaaForgeK
import Derived.Deep.RegionHeld3
import Derived.Deep.MidRow
import Derived.Deep.WholeRow
import Derived.Test.YtfjjmeanmlimoaaAwake7
import Derived.Deep.RegionWith
import Derived.Deep.DeepCutAuto
import Derived.Test.YtfjjmeanmlimoaaOpenS
import Derived.Test.YtfjjmeanmlimoaaForgeN
import Derived.Test.YtfjjmeanmlimoaaGetW
namespace Go.Proofs.Ytfjjmeanmlimoaa
open Go.RowKit
set_option maxRecDepth 100000

theorem made_len (l : Lk) (s : Sp) : (exV [] (makeX l s)).length ≤ 65535 := by
  cases h : makeX l s with
  | error e => simp [exV]
  | ok b =>
    obtain ⟨_, _, rfl, h4⟩ := make_ok h
    exact h4

end Go.Proofs.Ytfjjmeanmlimoaa

namespace Go.Proofs.Ytfjjmeanmlimoaa
open Go.RowKit
set_option maxRecDepth 100000

/-- A view stored whole into its block. -/
theorem storeCells_row {w : World} {g t : Nat} {old X : Array Value} (h : VAt w g t old) (hi : (Try.prog.info? t).map (·.size) = some X.size) (ho : old.size = X.size) (h1 : X.all (·.oneCell') = true) :
    (storeCells ⟨g, 0, none⟩ X.toList).run Try.prog w = .ok () (w.setRow g X) := by
  have := run_storeVar_row (P := Try.prog) w g t t old X h hi ho h1
  cases hq : Try.prog.info? t with
  | none => simp [hq] at hi
  | some i =>
    have hs : X.size = i.size := by simp [hq] at hi; omega
    simpa [storeVar, sizeOf, typeInfo, hq, Value.cells, hs] using this

theorem ip_err {v : Vw} {b : List UInt8} {e : Int} (h : ipV v b = .error e) : (e != 0) = true := by
  unfold ipV at h
  repeat' split at h
  all_goals cases h
  all_goals rfl
theorem look_err {l : Lk} {b : List UInt8} {e : Int} (h : lookX l b = .error e) : (e != 0) = true := by
  unfold lookX at h
  split at h
  · rename_i hc
    cases h
    rw [bne_iff_ne]
    exact hc
  · cases hp : pieceV l b with
    | error e2 =>
      rw [hp] at h
      cases h
      exact piece_err hp
    | ok v =>
      rw [bind_of hp] at h
      split at h
      · cases h
      · cases hq : (if v.multi = true then (protoV l b v.pos).bind fun q => Except.ok { v with proto := q.1, pos := q.2 } else Except.ok v) with
        | error x =>
          rw [hq] at h
          cases h
          split at hq
          · cases hr : protoV l b v.pos with
            | error y => rw [hr] at hq; cases hq; exact proto_err hr
            | ok q => rw [bind_of hr] at hq; cases hq
          · cases hq
        | ok u =>
          rw [bind_of hq] at h
          split at h
          · exact ip_err h
          · cases h

end Go.Proofs.Ytfjjmeanmlimoaa

namespace Go.Proofs.Ytfjjmeanmlimoaa
open Go.ChangeShapes Go.WideShapes Go.ChangeAt Go.RowKit
open Go.ChangeMaps (open_string shut_string)
set_option maxRecDepth 100000
namespace forgeFields

set_option maxRecDepth 100000 in
set_option maxHeartbeats 4000000 in
theorem walk (l : Lk) (s : Sp) (a : Option Addr) (ca : Nat) (w : World) (ok : s.ok) (ha : Cells w a s.data) (hc0 : a = none → ca = 0) (_hcp : s.data.length ≤ ca) (hn : s.data.length ≤ 140737488351232) :
    Calls Try.prog 5 #[.agg (lkA l), .agg (spA s a ca)] w fun e w' => e = .returned (.bool true) ∧ w.grownBy w' none := by
  obtain ⟨R, hR⟩ : ∃ R, exV [] (makeX l s) = R := ⟨_, rfl⟩
  obtain ⟨E, hE⟩ : ∃ E, exE (makeX l s) = E := ⟨_, rfl⟩
  have hRl : R.length ≤ 65535 := by rw [← hR]; exact made_len l s
  have HMK : Hid (∀ (g cap : Nat) (W : World), Cells W (some ⟨g, 0, none⟩) s.data → Calls Try.prog 10 #[.agg (lkA l), .agg (spA s (some ⟨g, 0, none⟩) cap)] W fun e w' => ∃ v, e = .returned (.tuple #[v, .int .i64 E]) ∧ Owns w' W.heap.size v R ∧ W.grownBy w' none) := fun g cap W h => by
    have k := make_any l s (some ⟨g, 0, none⟩) cap W ok h (by simp) (by omega)
    rw [hR, hE] at k
    exact k
  have L0 := VAt.alloc w 23 (lkA l)
  have K1 := World.grownBy_alloc (w.alloc (.cells (lkA l) 23)) (.cells (spA s a ca) 28) none
  have S1 := VAt.alloc (w.alloc (.cells (lkA l) 23)) 28 (spA s a ca)
  have G1 := grown_trans (World.grownBy_alloc w (.cells (lkA l) 23) none) K1
  rw [show (w.alloc (.cells (lkA l) 23)).heap.size = w.heap.size + 1 by simp] at S1
  have LK := L0.kept K1
  have SK := S1
  have HLS : Hid ((Try.prog.info? 23).map (·.size) = some (lkA l).size) := size23
  have HSS : Hid ((Try.prog.info? 28).map (·.size) = some (spA s a ca).size) := spA_size ok a ca
  have H : Hid (Cells w a s.data) := ha
  have HOK : Hid s.ok := ok
  have HV : Hid (exV [] (makeX l s) = R ∧ exE (makeX l s) = E) := ⟨hR, hE⟩
  clear hR hE L0 S1 K1 ha ok
  go_enter Try.func5, Try.ntmps5
  go_upto_region 1 with fail
  obtain ⟨B, hB⟩ : ∃ B, w.heap.size = B := ⟨_, rfl⟩
  obtain ⟨C, hC⟩ : ∃ C, w.heap.size + 1 = C := ⟨_, rfl⟩
  rw [hC] at SK
  rw [hB] at LK
  rw [hC, hB]
  have HBC : Hid (w.heap.size ≤ B ∧ w.heap.size ≤ C) := ⟨by omega, by omega⟩
  clear hB hC
  generalize (w.alloc (.cells (lkA l) 23)).alloc (.cells (spA s a ca) 28) = w1 at *
  have B0 : LS w1 B C l s a ca w1 := ⟨LK, SK, World.grownBy.refl _ _⟩
  clear LK SK
  refine wp_region_held_drew (S := fun W => LS w1 B C l s a ca W) (by kernel_rfl) (ls_drew B0) (fun hHeld => ?_)
  refine wpAnyH_take (i := 0) (v := .agg (lkA l)) rfl (by kernel_rfl) (by kernel_rfl) (by kernel_rfl) (fun _ _ _ h => h) (yieldsIf_load_row (by rfl) _ _ rfl B rfl 23 (lkA l) _ (fun W hW => hW.1) Try.underlying23 rfl HLS.out) hHeld ?_
  try simp only [Act.put, List.getElem_toArray, List.getElem_cons_zero, List.setIfInBounds_toArray, List.set_cons_zero, List.set_cons_succ]
  refine wpAnyH_take (i := 1) (v := .agg (spA s a ca)) rfl (by kernel_rfl) (by kernel_rfl) (by kernel_rfl) (fun _ _ _ h => h) (yieldsIf_load_row (by rfl) _ _ rfl C rfl 28 (spA s a ca) _ (fun W hW => hW.2.1) Try.underlying28 rfl HSS.out) hHeld ?_
  try simp only [Act.put, List.getElem_toArray, List.getElem_cons_zero, List.getElem_cons_succ, List.setIfInBounds_toArray, List.set_cons_zero, List.set_cons_succ]
  refine wpAnyH_ready (rs := [2]) (by kernel_rfl) (by simp) (AllReadyH.cons rfl (fun K hK => ?_) AllReadyH.nil)
  go_simp
  refine (lend8_any s a ca _ HOK.out (H.out.keptNone (grown_trans G1 hHeld.2.2)) hc0 hn).mono ?_
  rintro e w2 ⟨g0, cap0, rfl, Lw2, Kw2⟩
  obtain ⟨g', cap', e', -, -, -, -, hownw2⟩ := Lw2
  obtain ⟨rfl, rfl⟩ : g0 = g' ∧ cap0 = cap' := by simpa using e'
  clear e'
  have Cw2 := (cells_front hownw2).1
  go_wp2_with fail
  refine hK.out _ _ (ls_call Kw2 hHeld) (fun hHeld => ?_)
  clear hK K hownw2 Kw2
  try simp only [Act.put, List.getElem_toArray, List.getElem_cons_zero, List.getElem_cons_succ, List.setIfInBounds_toArray, List.set_cons_zero, List.set_cons_succ]
  refine wpAnyH_ready (rs := [3]) (by kernel_rfl) (by simp) (AllReadyH.cons rfl (fun K hK => ?_) AllReadyH.nil)
  go_simp
  refine (HMK.out g0 cap0 _ Cw2).mono ?_
  rintro e w3 ⟨y, rfl, Ow3, Kw3⟩
  go_wp2_with fail
  refine hK.out _ _ (ls_call Kw3 hHeld) (fun hHeld => ?_)
  clear hK K Cw2
  try simp only [Act.put, List.getElem_toArray, List.getElem_cons_zero, List.getElem_cons_succ, List.setIfInBounds_toArray, List.set_cons_zero, List.set_cons_succ]
  refine wpAnyH_take (i := 4) (v := .tuple #[y, .int .i64 E]) rfl (by kernel_rfl) (by kernel_rfl) (by kernel_rfl) (fun _ _ _ h => h) (Or.inl ⟨by rfl, fun W hW => ?_⟩) hHeld ?_
  · clear hW
    go_simp
  try simp only [Act.put, List.getElem_toArray, List.getElem_cons_zero, List.getElem_cons_succ, List.setIfInBounds_toArray, List.set_cons_zero, List.set_cons_succ]
  refine wpAnyH_take (i := 5) (v := y) rfl (by kernel_rfl) (by kernel_rfl) (by kernel_rfl) (fun _ _ _ h => h) (Or.inl ⟨by rfl, fun W hW => ?_⟩) hHeld ?_
  · clear hW
    go_simp
  try simp only [Act.put, List.getElem_toArray, List.getElem_cons_zero, List.getElem_cons_succ, List.setIfInBounds_toArray, List.set_cons_zero, List.set_cons_succ]
  refine wpAnyH_take (i := 6) (v := .int .i64 E) rfl (by kernel_rfl) (by kernel_rfl) (by kernel_rfl) (fun _ _ _ h => h) (Or.inl ⟨by rfl, fun W hW => ?_⟩) hHeld ?_
  · clear hW
    go_simp
  try simp only [Act.put, List.getElem_toArray, List.getElem_cons_zero, List.getElem_cons_succ, List.setIfInBounds_toArray, List.set_cons_zero, List.set_cons_succ]
  refine wpAnyH_take (i := 7) (v := y) rfl (by kernel_rfl) (by kernel_rfl) (by kernel_rfl) (fun _ _ _ h => h) (Or.inl ⟨by rfl, fun W hW => ?_⟩) hHeld ?_
  · clear hW
    go_simp
  try simp only [Act.put, List.getElem_toArray, List.getElem_cons_zero, List.getElem_cons_succ, List.setIfInBounds_toArray, List.set_cons_zero, List.set_cons_succ]
  refine wpAnyH_take (i := 8) (v := .int .i64 E) rfl (by kernel_rfl) (by kernel_rfl) (by kernel_rfl) (fun _ _ _ h => h) (Or.inl ⟨by rfl, fun W hW => ?_⟩) hHeld ?_
  · clear hW
    go_simp
  try simp only [Act.put, List.getElem_toArray, List.getElem_cons_zero, List.getElem_cons_succ, List.setIfInBounds_toArray, List.set_cons_zero, List.set_cons_succ]
  refine wpAnyH_done (by kernel_rfl) ?_ _
  obtain ⟨LK, SK, K3⟩ := hHeld
  have G3 := grown_trans G1 K3
  obtain ⟨ao3, cap3, rfl, C3, -⟩ := Ow3.shape
  clear B0 K3 G1 Kw3 HMK
  have SCw := show SAt _ C s a ca from ⟨SK, HOK.out⟩
  obtain ⟨-, -, d2, d3, -, -, d6, -⟩ := SCw.eight
  clear SCw
  cases hmk : makeX l s with
  | error er =>
    have h1 : E = er := by rw [← HV.out.2, hmk]; rfl
    have h2 : R = [] := by rw [← HV.out.1, hmk]; rfl
    have hz := make_err hmk
    subst h1 h2
    clear HV hmk LK SK C3 Ow3 d2 d3 d6
    go_wp2_with fail
    refine (awake8_any _).mono ?_
    rintro e w6 ⟨rfl, K6⟩
    go_wp2
    go_ret
    exact ⟨rfl, grown_trans G3 K6⟩
  | ok b0 =>
    have h1 : E = 0 := by rw [← HV.out.2, hmk]; rfl
    have h2 : R = b0 := by rw [← HV.out.1, hmk]; rfl
    obtain ⟨hck, FT, hbo, hbl⟩ := make_ok hmk
    rw [hbo] at h2
    subst h1 h2
    clear hmk HV hbo b0
    rcases (show (s.multi = true ∧ s.beg = false) ∨ ((s.multi = false ∨ (s.multi = true ∧ s.beg = true)) ∧ (s.proto ≠ 33 ∧ s.proto ≠ 87)) ∨ ((s.multi = false ∨ (s.multi = true ∧ s.beg = true)) ∧ (s.proto = 33 ∨ s.proto = 87)) from by
      by_cases h1 : s.proto = 33 ∨ s.proto = 87
      · cases hm : s.multi <;> cases hb : s.beg <;> simp [h1]
      · have h2 : s.proto ≠ 33 ∧ s.proto ≠ 87 := ⟨fun e => h1 (.inl e), fun e => h1 (.inr e)⟩
        cases hm : s.multi <;> cases hb : s.beg <;> simp [h2]) with ⟨hmu, hbe⟩ | ⟨hmb, hn1, hn2⟩ | ⟨hmb, hpp⟩
    · rw [hmu] at d2
      rw [hbe] at d3
      clear LK SK C3 Ow3 FT d6
      go_wp2_with fail
      refine (awake8_any _).mono ?_
      rintro e w6 ⟨rfl, K6⟩
      go_wp2
      go_ret
      exact ⟨rfl, grown_trans G3 K6⟩
    · have hp1 : ((s.proto : Int) != 33) = true := by rw [bne_iff_ne]; omega
      have hp2 : ((s.proto : Int) != 87) = true := by rw [bne_iff_ne]; omega
      clear LK SK C3 Ow3 FT
      rcases hmb with hmu | ⟨hmu, hbe⟩
      · rw [hmu] at d2
        clear d3
        go_wp2_with fail
        refine (awake8_any _).mono ?_
        rintro e w6 ⟨rfl, K6⟩
        go_wp2
        go_ret
        exact ⟨rfl, grown_trans G3 K6⟩
      · rw [hmu] at d2
        rw [hbe] at d3
        go_wp2_with fail
        refine (awake8_any _).mono ?_
        rintro e w6 ⟨rfl, K6⟩
        go_wp2
        go_ret
        exact ⟨rfl, grown_trans G3 K6⟩
    · have hsd : saidB s = true := by
        rcases hmb with h | ⟨h, h'⟩
        · simp [saidB, h]
        · simp [saidB, h, h']
      have hip : ipB s = true := by
        rcases hpp with h | h <;> simp [ipB, hsd, h]
      have hlk := look_made FT hck HOK.out.src HOK.out.dst hbl
      have hFL : ∃ long src size hd cnt, Flds s (outV l s) (frontV l s).length long src size hd cnt ∧ ((s.proto = 33 ∧ long = 4 ∧ src = 12 ∧ size = 2 ∧ hd = 20 ∧ cnt = (outV l s).length - (frontV l s).length) ∨ (s.proto = 87 ∧ long = 16 ∧ src = 8 ∧ size = 4 ∧ hd = 40 ∧ cnt = (outV l s).length - (frontV l s).length - 40)) := by
        rcases hpp with h | h
        · exact ⟨_, _, _, _, _, fields4 FT HOK.out.src HOK.out.dst hip h hbl, .inl ⟨h, rfl, rfl, rfl, rfl, rfl⟩⟩
        · exact ⟨_, _, _, _, _, fields6 FT HOK.out.src HOK.out.dst hip h hbl, .inr ⟨h, rfl, rfl, rfl, rfl, rfl⟩⟩
      have hlen := out_len l s HOK.out.src HOK.out.dst
      rw [if_pos hip] at hlen
      obtain ⟨R, hR⟩ : ∃ R, outV l s = R := ⟨_, rfl⟩
      rw [hR] at C3 Ow3 hbl hlen hlk hFL ⊢
      obtain ⟨X, hX⟩ : ∃ X, vwA (madeV l s) = X := ⟨_, rfl⟩
      have hX9 : X.size = 9 := by rw [← hX]; rfl
      have hX1 : X.all (·.oneCell') = true := by rw [← hX]; exact vwA_all _
      have HS : Hid ((Try.prog.info? 38).map (·.size) = some X.size) := by rw [hX9]; exact size38
      have HX : Hid (vwA (madeV l s) = X) := hX
      have HK : Hid (∀ (a : Option Addr) (ca : Nat) (W : World), Cells W a R → Calls Try.prog 15 #[.agg #[.bool l.acfc, .bool l.pfc, .int .i64 l.mp], .slice a R.length ca] W fun e w' => e = .returned (.tuple #[.agg X, .int .i64 0]) ∧ W.grownBy w' none) := fun a ca W h => by
        have k := look_any l a ca R W h (by omega)
        rw [hlk] at k
        rw [show exV Vw.zero (Except.ok (madeV l s)) = madeV l s from rfl, hX] at k
        exact k
      have HLN : Hid (R.length = (frontV l s).length + (if s.proto = 33 then 20 else 40) + (if s.ports = true then 4 else 0) + s.data.length) := hlen
      have HFL : Hid (∃ long src size hd cnt, Flds s R (frontV l s).length long src size hd cnt ∧ ((s.proto = 33 ∧ long = 4 ∧ src = 12 ∧ size = 2 ∧ hd = 20 ∧ cnt = R.length - (frontV l s).length) ∨ (s.proto = 87 ∧ long = 16 ∧ src = 8 ∧ size = 4 ∧ hd = 40 ∧ cnt = R.length - (frontV l s).length - 40))) := hFL
      have HMV : Hid (madeV l s = ⟨s.proto, s.multi, s.beg, s.fin, s.seq, (frontV l s).length, if s.proto = 33 then 4 else 6, s.next.toNat, (frontV l s).length + (if s.proto = 33 then 20 else 40)⟩) := by
        show madeV l s = _
        rw [madeV, if_pos hsd, if_pos hip, if_pos hip, if_pos hip]
      have HFP : Hid (0 < (frontV l s).length) := front_pos l s
      have HY : Hid (Cells w3 ao3 R) := C3
      have HOW : Hid (Owns w3 w2.heap.size (.slice ao3 R.length cap3) R) := Ow3
      have HPP : Hid (s.proto = 33 ∨ s.proto = 87) := hpp
      have hc3 : ao3 = none → cap3 = 0 := by
        obtain ⟨ao', cap', e', -, -, -, h0, -⟩ := cv_of_row Ow3
        simp only [Value.slice.injEq] at e'
        obtain ⟨rfl, -, rfl⟩ := e'
        exact h0
      have hp1 : ((s.proto : Int) != 33) = true ∧ ((s.proto : Int) != 87) = false ∨ ((s.proto : Int) != 33) = false := by
        rcases hpp with h | h
        · exact .inr (by rw [h]; rfl)
        · exact .inl ⟨by rw [h]; rfl, by rw [h]; rfl⟩
      have HLR : Hid (R.length ≤ 65535) := hbl
      clear hR hck FT hlk hlen hX C3 Ow3 hFL hip hsd hpp hbl
      generalize hwA : w3 = wA at *
      clear hwA
      have x0 : wA.cell? ⟨B, 0, none⟩ = some (.bool l.acfc) := LK.cell 0
      have x1 : wA.cell? ⟨B, 1, none⟩ = some (.bool l.pfc) := LK.cell 1
      have x2 : wA.cell? ⟨B, 2, none⟩ = some (.int .i64 l.mp) := LK.cell 2
      -- the question of region 2: a cut
      go_upto_region 2 with fail
      go_cut [47] from 27 to 47 (fun t wx => t = .bool false ∧ wx = wA)
      case first =>
        rcases hmb with hmu | ⟨hmu, hbe⟩
        · rw [hmu] at d2
          clear d3
          rcases hp1 with ⟨q1, q2⟩ | q1
          all_goals
            go_wp2
            go_meet
            exact ⟨rfl, rfl⟩
        · rw [hmu] at d2
          rw [hbe] at d3
          rcases hp1 with ⟨q1, q2⟩ | q1
          all_goals
            go_wp2
            go_meet
            exact ⟨rfl, rfl⟩
      case rest =>
        obtain ⟨rfl, rfl⟩ := hcut
        clear hp1 d2 d3 d6 hmb
        generalize hwA : wc = wA at *
        clear hwA
        go_upto_region 4 with fail
        go_cut [7, 8] from 49 to 55 (fun s e wx => ∃ V, s = .pointer (some ⟨V, 0, none⟩) ∧ e = .int .i64 0 ∧ VAt wx V 38 X ∧ wA.grownBy wx none ∧ wA.heap.size ≤ V)
        case first =>
          have HQ1 : Hid (Cells wA.drew ao3 R) := HY.out.keptNone (grown_trans (World.grownBy.refl wA none) (grown_drewN _ 1 none))
          have HQ2 : Hid (Cells (wA.alloc (.cells #[.int .u32 0, .bool false, .bool false, .bool false, .int .u32 0, .int .i64 0, .int .i64 0, .int .i64 0, .int .i64 0] 38)).drew ao3 R) := HY.out.keptNone (grown_trans (World.grownBy.refl wA none) (grown_trans (World.grownBy_alloc wA (.cells #[.int .u32 0, .bool false, .bool false, .bool false, .int .u32 0, .int .i64 0, .int .i64 0, .int .i64 0, .int .i64 0] 38) none) (grown_drewN _ 1 none)))
          have zx0 := (World.grownBy_alloc wA (.cells #[.int .u32 0, .bool false, .bool false, .bool false, .int .u32 0, .int .i64 0, .int .i64 0, .int .i64 0, .int .i64 0] 38) none).cell x0 (by simp)
          have zx1 := (World.grownBy_alloc wA (.cells #[.int .u32 0, .bool false, .bool false, .bool false, .int .u32 0, .int .i64 0, .int .i64 0, .int .i64 0, .int .i64 0] 38) none).cell x1 (by simp)
          have zx2 := (World.grownBy_alloc wA (.cells #[.int .u32 0, .bool false, .bool false, .bool false, .int .u32 0, .int .i64 0, .int .i64 0, .int .i64 0, .int .i64 0] 38) none).cell x2 (by simp)
          go_region_with (first
            | (go_at_call 16; refine (copy_any ao3 cap3 R _ ?_ hc3 (by have := HLR.out; omega)).mono ?_; (with_reducible exact HQ1.out); rintro e w2 ⟨v2, rfl, O2, K2⟩; have KW2 : Hid (wA.grownBy w2 none) := (by first | exact K2 | exact grown_trans (grown_drewN wA 1 none) K2); have x20 := KW2.out.cell x0 (by simp); have y20 := (World.grownBy_alloc w2 (.cells #[.int .u32 0, .bool false, .bool false, .bool false, .int .u32 0, .int .i64 0, .int .i64 0, .int .i64 0, .int .i64 0] 38) none).cell x20 (by simp); have x21 := KW2.out.cell x1 (by simp); have y21 := (World.grownBy_alloc w2 (.cells #[.int .u32 0, .bool false, .bool false, .bool false, .int .u32 0, .int .i64 0, .int .i64 0, .int .i64 0, .int .i64 0] 38) none).cell x21 (by simp); have x22 := KW2.out.cell x2 (by simp); have y22 := (World.grownBy_alloc w2 (.cells #[.int .u32 0, .bool false, .bool false, .bool false, .int .u32 0, .int .i64 0, .int .i64 0, .int .i64 0, .int .i64 0] 38) none).cell x22 (by simp); obtain ⟨ao2, cap2, rfl, C2, -⟩ := O2.shape; have HC2 : Hid (Cells w2 ao2 R) := C2; have HC2Z : Hid (Cells (w2.alloc (.cells #[.int .u32 0, .bool false, .bool false, .bool false, .int .u32 0, .int .i64 0, .int .i64 0, .int .i64 0, .int .i64 0] 38)) ao2 R) := C2.keptNone (World.grownBy_alloc _ _ _))
            | (go_at_call 16; refine (copy_any ao3 cap3 R _ ?_ hc3 (by have := HLR.out; omega)).mono ?_; (with_reducible exact HQ2.out); rintro e w2 ⟨v2, rfl, O2, K2⟩; have U2 : Hid (VAt w2 wA.heap.size 38 (vwA Vw.zero)) := ((VAt.alloc wA 38 (vwA Vw.zero)).kept (grown_drewN _ 1 none)).kept K2; have KW2 : Hid (wA.grownBy w2 none) := grown_trans (grown_trans (World.grownBy_alloc wA (.cells #[.int .u32 0, .bool false, .bool false, .bool false, .int .u32 0, .int .i64 0, .int .i64 0, .int .i64 0, .int .i64 0] 38) none) (grown_drewN _ 1 none)) K2; have x20 := KW2.out.cell x0 (by simp); have y20 := (World.grownBy_alloc w2 (.cells #[.int .u32 0, .bool false, .bool false, .bool false, .int .u32 0, .int .i64 0, .int .i64 0, .int .i64 0, .int .i64 0] 38) none).cell x20 (by simp); have x21 := KW2.out.cell x1 (by simp); have y21 := (World.grownBy_alloc w2 (.cells #[.int .u32 0, .bool false, .bool false, .bool false, .int .u32 0, .int .i64 0, .int .i64 0, .int .i64 0, .int .i64 0] 38) none).cell x21 (by simp); have x22 := KW2.out.cell x2 (by simp); have y22 := (World.grownBy_alloc w2 (.cells #[.int .u32 0, .bool false, .bool false, .bool false, .int .u32 0, .int .i64 0, .int .i64 0, .int .i64 0, .int .i64 0] 38) none).cell x22 (by simp); obtain ⟨ao2, cap2, rfl, C2, -⟩ := O2.shape; have HC2 : Hid (Cells w2 ao2 R) := C2; have HC2Z : Hid (Cells (w2.alloc (.cells #[.int .u32 0, .bool false, .bool false, .bool false, .int .u32 0, .int .i64 0, .int .i64 0, .int .i64 0, .int .i64 0] 38)) ao2 R) := C2.keptNone (World.grownBy_alloc _ _ _))
            | (go_at_call 15; refine (HK.out _ _ _ ?_).mono ?_; (with_reducible exact HC2.out); rintro e w3 ⟨rfl, K3⟩; have U3 := U2.out.kept K3; have hs3 : (storeCells ⟨wA.heap.size, 0, none⟩ X.toList).run Try.prog w3 = .ok () (w3.setRow wA.heap.size X) := storeCells_row U3 HS.out hX9.symm hX1; have hfin : Hid (VAt (w3.setRow wA.heap.size X) wA.heap.size 38 X ∧ wA.grownBy (w3.setRow wA.heap.size X) none ∧ wA.heap.size ≤ wA.heap.size) := ⟨U3.setRow _, vgrown_setRow (grown_trans KW2.out K3) _ _ (.inr (Nat.le_refl _)), Nat.le_refl _⟩)
            | (go_at_call 15; refine (HK.out _ _ _ ?_).mono ?_; (with_reducible exact HC2.out); rintro e w3 ⟨rfl, K3⟩; have hs3 : (storeCells ⟨w3.heap.size, 0, none⟩ X.toList).run Try.prog (w3.alloc (.cells #[.int .u32 0, .bool false, .bool false, .bool false, .int .u32 0, .int .i64 0, .int .i64 0, .int .i64 0, .int .i64 0] 38)) = .ok () ((w3.alloc (.cells #[.int .u32 0, .bool false, .bool false, .bool false, .int .u32 0, .int .i64 0, .int .i64 0, .int .i64 0, .int .i64 0] 38)).setRow w3.heap.size X) := storeCells_row (VAt.alloc w3 38 (vwA Vw.zero)) HS.out hX9.symm hX1; have hfin : Hid (VAt ((w3.alloc (.cells #[.int .u32 0, .bool false, .bool false, .bool false, .int .u32 0, .int .i64 0, .int .i64 0, .int .i64 0, .int .i64 0] 38)).setRow w3.heap.size X) w3.heap.size 38 X ∧ wA.grownBy ((w3.alloc (.cells #[.int .u32 0, .bool false, .bool false, .bool false, .int .u32 0, .int .i64 0, .int .i64 0, .int .i64 0, .int .i64 0] 38)).setRow w3.heap.size X) none ∧ wA.heap.size ≤ w3.heap.size) := ⟨(VAt.alloc w3 38 (vwA Vw.zero)).setRow _, vgrown_setRow (grown_trans (grown_trans KW2.out K3) (World.grownBy_alloc _ _ _)) _ _ (.inr (grown_trans KW2.out K3).size), (grown_trans KW2.out K3).size⟩)
            | (go_at_call 15; refine (HK.out _ _ _ ?_).mono ?_; (with_reducible exact HC2Z.out); rintro e w3 ⟨rfl, K3⟩; have U3 : VAt w3 w2.heap.size 38 (vwA Vw.zero) := (VAt.alloc w2 _ _).kept K3; have hs3 : (storeCells ⟨w2.heap.size, 0, none⟩ X.toList).run Try.prog w3 = .ok () (w3.setRow w2.heap.size X) := storeCells_row U3 HS.out hX9.symm hX1; have hfin : Hid (VAt (w3.setRow w2.heap.size X) w2.heap.size 38 X ∧ wA.grownBy (w3.setRow w2.heap.size X) none ∧ wA.heap.size ≤ w2.heap.size) := ⟨U3.setRow _, vgrown_setRow (grown_trans KW2.out (grown_trans (World.grownBy_alloc w2 (.cells #[.int .u32 0, .bool false, .bool false, .bool false, .int .u32 0, .int .i64 0, .int .i64 0, .int .i64 0, .int .i64 0] 38) none) K3)) _ _ (.inr KW2.out.size), KW2.out.size⟩))
          all_goals
            go_wp2
            go_meet
            exact ⟨_, rfl, rfl, hfin.out⟩
        case rest =>
          obtain ⟨V, rfl, rfl, VA, K4, hV⟩ := hcut
          have G4 := grown_trans G3 K4
          rw [← HX.out, HMV.out] at VA
          obtain ⟨-, -, -, -, -, c5, -, -, c8⟩ := VA.nine
          have SC := show SAt _ C s a ca from ⟨SK.kept K4, HOK.out⟩
          obtain ⟨-, -, -, -, -, -, d6, -⟩ := SC.eight
          obtain ⟨e0, e1, e2, -⟩ := SC.four
          have HSR : Hid (wc.rangeAt C 8 (s.src.map bv) ∧ wc.rangeAt C 24 (s.dst.map bv)) := ⟨SC.srcR, SC.dstR⟩
          have hlR : 0 < R.length := by have := HLN.out; have := HFP.out; omega
          have HYc : Hid (Cells wc ao3 R) := HY.out.keptNone K4
          obtain ⟨g3, hg3⟩ : ∃ g3, ao3 = some ⟨g3, 0, none⟩ := by
            obtain ⟨g, cap', hv, -⟩ := owns_head HOW.out hlR
            simp only [Value.slice.injEq] at hv
            exact ⟨g, hv.1⟩
          subst hg3
          have hcap3 : R.length ≤ cap3 := by
            obtain ⟨ao', cap', e', -, hle, -⟩ := HOW.out.shape
            simp only [Value.slice.injEq] at e'
            obtain ⟨-, -, rfl⟩ := e'
            exact hle
          have HCAP : Hid (R.length ≤ cap3) := hcap3
          simp only at c5 c8
          clear x0 x1 x2 LK SK VA SC HK HS hX9 hX1 HX HY hc3 K4 G3 HMV HOW hcap3
          generalize hwq : wc = wq at *
          clear hwq
          have hLN := HLN.out
          have hFP := HFP.out
          have hLR := HLR.out
          obtain ⟨long, src, size, hd, cnt, FL, hcs⟩ := HFL.out
          clear HLN HFP HLR HFL
          generalize hFF : (frontV l s).length = F at *
          clear hFF
          rcases hcs with ⟨hpr, rfl, rfl, rfl, rfl, hcn⟩ | ⟨hpr, rfl, rfl, rfl, rfl, hcn⟩
          · have hFL := FL
            have d6' : wq.cell? ⟨C, 6, none⟩ = some (.int .u32 33) := by rw [hpr] at d6; exact d6
            have HF : Hid (Flds s R F 4 12 2 20 cnt) := FL
            rw [hpr] at c8 hLN
            simp only [if_true] at c8 hLN
            have hFR : F + 20 ≤ R.length := by omega
            have c5' : wq.cell? ⟨V, 5, none⟩ = some (.int .i64 (F : Int)) := c5
            have c8' : wq.cell? ⟨V, 8, none⟩ = some (.int .i64 ((F + 20 : Nat) : Int)) := c8
            have HC8 : Hid (wq.cell? ⟨V, 8, none⟩ = some (.int .i64 ((F + 20 : Nat) : Int))) := c8'
            have HLN2 : Hid (R.length = F + 20 + (if s.ports = true then 4 else 0) + s.data.length) := hLN
            have HE : Hid (wq.cell? ⟨C, 40, none⟩ = some (.bool s.ports) ∧ wq.cell? ⟨C, 41, none⟩ = some (.int .u32 (s.frm : Int)) ∧ wq.cell? ⟨C, 42, none⟩ = some (.int .u32 (s.til : Int))) := ⟨e0, e1, e2⟩
            have HCN : Hid (cnt = R.length - F) := hcn
            have f1 : (1 : Int) ≤ (F : Int) := by omega
            have f2 : (F : Int) + 20 ≤ (R.length : Int) := by omega
            have f3 : (R.length : Int) ≤ 65535 := by omega
            clear hFL FL c5 c8 c8' d6 hLN e0 e1 e2 hcn hFP
            go_upto_region 5 with fail
            go_quiet (fail)
            go_upto_region 13 with fail
            have Kr : wq.grownBy (wq.drewN nq) none := grown_drewN _ _ _
            generalize wq.drewN nq = wr at *
            have HYr : Hid (Cells wr (some ⟨g3, 0, none⟩) R) := HYc.out.keptNone Kr
            obtain ⟨gv1, gv2⟩ := getV_ok (b := R) (p := F + 2) (k := 2) (.inr (.inl rfl)) (by omega)
            rw [HF.out.num] at gv1
            rw [show ((F + 2 : Nat) : Int) = (F : Int) + 2 by omega] at gv1 gv2
            have CG := get_any (some ⟨g3, 0, none⟩) cap3 R ((F : Int) + 2) 2 wr HYr.out (by omega)
            rw [show ((2 : Nat) : Int) = 2 from rfl] at gv1 gv2
            rw [gv1, gv2] at CG
            clear gv1 gv2
            go_wp2_with fail
            refine CG.mono ?_
            rintro e w' ⟨rfl, rfl⟩
            clear CG
            go_upto_region 14 with fail
            go_cut [142] from 101 to 142 (fun t wx => t = .bool false ∧ wr.grownBy wx none)
            case first =>
              have hca : bits BinOp.and IntKind.u32 ((R.length : Int) - (F : Int)) 65535 = (cnt : Int) := by
                have hcn : (R.length : Int) - (F : Int) = (cnt : Int) := by have := HCN.out; omega
                rw [hcn]
                have := mod_and cnt 16 (by omega) (by decide)
                rw [Nat.mod_eq_of_lt (show cnt < 2 ^ 16 by have := HCN.out; omega)] at this
                exact this
              have hca0 : bits BinOp.and IntKind.u32 (cnt : Int) 65535 = (cnt : Int) := by
                have := mod_and cnt 16 (by have := HCN.out; omega) (by decide)
                rw [Nat.mod_eq_of_lt (show cnt < 2 ^ 16 by have := HCN.out; omega)] at this
                exact this
              have hcw : IntKind.u32.wrap ((R.length : Int) - (F : Int)) = (cnt : Int) := by have := HCN.out; rw [IntKind.wrap_u32]; omega
              have hcap := HCAP.out
              obtain ⟨o1, ho1⟩ : ∃ o1, F + 12 = o1 := ⟨_, rfl⟩
              obtain ⟨o2, ho2⟩ : ∃ o2, F + 12 + 4 = o2 := ⟨_, rfl⟩
              obtain ⟨o3, ho3⟩ : ∃ o3, F + 12 + 8 = o3 := ⟨_, rfl⟩
              have s1 : IntKind.i64.wrap ((F : Int) + 12) = (o1 : Int) := by rw [IntKind.wrap_i64]; omega
              have s2 : IntKind.i64.wrap ((o1 : Int) + 4) = (o2 : Int) := by rw [IntKind.wrap_i64]; omega
              have s3 : IntKind.i64.wrap ((o1 : Int) + 8) = (o3 : Int) := by rw [IntKind.wrap_i64]; omega
              have hw8 : IntKind.i64.wrap 8 = 8 := by rw [IntKind.wrap_i64]; rfl
              have hw9 : IntKind.i64.wrap (2 * 4) = 8 := by rw [IntKind.wrap_i64]; rfl
              have z1 : (0 : Int) ≤ (o1 : Int) := by omega
              have z2 : (o1 : Int) ≤ (o2 : Int) := by omega
              have z3 : (o2 : Int) ≤ (cap3 : Int) := by omega
              have z4 : (0 : Int) ≤ (o2 : Int) := by omega
              have z5 : (o2 : Int) ≤ (o3 : Int) := by omega
              have z6 : (o3 : Int) ≤ (cap3 : Int) := by omega
              have z7 : (0 : Int) ≤ (o3 : Int) := by omega
              have n1 : ¬ cap3 = o1 := by omega
              have n2 : ¬ cap3 = o2 := by omega
              have l1 : o2 - o1 = 4 := by omega
              have l2 : o3 - o2 = 4 := by omega
              have HO : Hid (F + 12 = o1 ∧ F + 12 + 4 = o2) := ⟨ho1, ho2⟩
              clear hcap ho1 ho2 ho3 hFR hLR f1 f2 f3
              have S0 : wr.grownBy wr none := World.grownBy.refl _ _
              have HS1 : Hid (∀ W, wr.grownBy W none → Calls Try.prog 12 #[.slice (some ⟨g3, o1, none⟩) 4 (cap3 - o1), .slice (some ⟨C, 8, none⟩) 4 16] W fun e w' => e = .returned (.bool true) ∧ W.grownBy w' none) := fun W K => by
                obtain ⟨A, B', hA, hB⟩ := HF.out.one
                exact same_part (HYr.out.keptNone K) hA (by have := HO.out; omega) (range_kept HSR.out.1 (grown_trans Kr K)) (by rw [HOK.out.src]; decide) HOK.out.src
              have HS2 : Hid (∀ W, wr.grownBy W none → Calls Try.prog 12 #[.slice (some ⟨g3, o2, none⟩) 4 (cap3 - o2), .slice (some ⟨C, 24, none⟩) 4 16] W fun e w' => e = .returned (.bool true) ∧ W.grownBy w' none) := fun W K => by
                obtain ⟨A, B', hA, hB⟩ := HF.out.two
                exact same_part (HYr.out.keptNone K) hA (by have := HO.out; omega) (range_kept HSR.out.2 (grown_trans Kr K)) (by rw [HOK.out.dst]; decide) HOK.out.dst
              go_region_held3 (fun W => wr.grownBy W none) (first | exact grown_drewN wr _ none | exact grown_trans (by assumption) KL | exact grown_trans (by assumption) KK | assumption) (first
                | (go_at_call_of 12 (Value.slice (some ⟨g3, o1, none⟩) 4 (cap3 - o1)); refine (HS1.out _ (by assumption)).mono ?_; rintro e w5 ⟨rfl, KK⟩)
                | (go_at_call_of 12 (Value.slice (some ⟨g3, o2, none⟩) 4 (cap3 - o2)); refine (HS2.out _ (by assumption)).mono ?_; rintro e w6 ⟨rfl, KL⟩))
              all_goals
                have K5 := (by assumption : wr.grownBy w6 none)
                go_wp2
                go_meet
                exact ⟨rfl, K5⟩
            case rest =>
              obtain ⟨rfl, K5⟩ := hcut
              have K6 := grown_trans Kr K5
              have G6 := grown_trans G4 K6
              have HYc6 : Hid (Cells wc (some ⟨g3, 0, none⟩) R) := HYr.out.keptNone K5
              have q0 := K6.cell HE.out.1 (by simp)
              have q1 := K6.cell HE.out.2.1 (by simp)
              have q2 := K6.cell HE.out.2.2 (by simp)
              have q8 := K6.cell HC8.out (by simp)
              have hLN := HLN2.out
              have HPO := HF.out.por
              clear HE HC8 HLN2 K5 K6 Kr HYr HYc c5' d6' HCN HF G4
              cases hpo : s.ports with
              | false =>
                rw [hpo] at q0
                clear q1 q2 q8 HPO hLN
                go_wp2_with fail
                refine (awake8_any _).mono ?_
                rintro e w6 ⟨rfl, K6⟩
                go_wp2
                go_ret
                exact ⟨rfl, grown_trans G6 K6⟩
              | true =>
                rw [hpo] at q0
                rw [hpo, if_pos rfl] at hLN
                obtain ⟨p1, p2⟩ := HPO hpo
                obtain ⟨gv1, gv2⟩ := getV_ok (b := R) (p := F + 20) (k := 2) (.inr (.inl rfl)) (by omega)
                obtain ⟨gv3, gv4⟩ := getV_ok (b := R) (p := F + 20 + 2) (k := 2) (.inr (.inl rfl)) (by omega)
                rw [p1] at gv1
                rw [p2] at gv3
                have C1 := get_any (some ⟨g3, 0, none⟩) cap3 R ((F + 20 : Nat) : Int) 2 wc HYc6.out (by omega)
                have C2 := get_any (some ⟨g3, 0, none⟩) cap3 R ((F + 20 + 2 : Nat) : Int) 2 wc HYc6.out (by omega)
                rw [show ((2 : Nat) : Int) = 2 from rfl] at gv1 gv2 gv3 gv4
                rw [gv1, gv2] at C1
                rw [gv3, gv4] at C2
                clear gv1 gv2 gv3 gv4 p1 p2 HPO
                obtain ⟨o, ho⟩ : ∃ o, F + 20 = o := ⟨_, rfl⟩
                rw [ho] at C1 C2 q8
                rw [show ((o + 2 : Nat) : Int) = (o : Int) + 2 by omega] at C2
                have hoo : (o : Int) ≤ 65535 := by omega
                clear ho hLN
                go_wp2_with fail
                refine C1.mono ?_
                rintro e w' ⟨rfl, rfl⟩
                clear C1
                go_wp2_with fail
                refine C2.mono ?_
                rintro e w' ⟨rfl, rfl⟩
                clear C2
                go_wp2_with fail
                refine (awake8_any _).mono ?_
                rintro e w6 ⟨rfl, K6⟩
                go_wp2
                go_ret
                exact ⟨rfl, grown_trans G6 K6⟩
          · have hFL := FL
            have d6' : wq.cell? ⟨C, 6, none⟩ = some (.int .u32 87) := by rw [hpr] at d6; exact d6
            have HF : Hid (Flds s R F 16 8 4 40 cnt) := FL
            rw [hpr] at c8 hLN
            simp only [show ¬ (87 : Nat) = 33 by decide, if_false] at c8 hLN
            have hFR : F + 40 ≤ R.length := by omega
            have c5' : wq.cell? ⟨V, 5, none⟩ = some (.int .i64 (F : Int)) := c5
            have c8' : wq.cell? ⟨V, 8, none⟩ = some (.int .i64 ((F + 40 : Nat) : Int)) := c8
            have HC8 : Hid (wq.cell? ⟨V, 8, none⟩ = some (.int .i64 ((F + 40 : Nat) : Int))) := c8'
            have HLN2 : Hid (R.length = F + 40 + (if s.ports = true then 4 else 0) + s.data.length) := hLN
            have HE : Hid (wq.cell? ⟨C, 40, none⟩ = some (.bool s.ports) ∧ wq.cell? ⟨C, 41, none⟩ = some (.int .u32 (s.frm : Int)) ∧ wq.cell? ⟨C, 42, none⟩ = some (.int .u32 (s.til : Int))) := ⟨e0, e1, e2⟩
            have HCN : Hid (cnt = R.length - F - 40) := hcn
            have f1 : (1 : Int) ≤ (F : Int) := by omega
            have f2 : (F : Int) + 40 ≤ (R.length : Int) := by omega
            have f3 : (R.length : Int) ≤ 65535 := by omega
            clear hFL FL c5 c8 c8' d6 hLN e0 e1 e2 hcn hFP
            go_upto_region 5 with fail
            go_quiet (fail)
            go_upto_region 13 with fail
            have Kr : wq.grownBy (wq.drewN nq) none := grown_drewN _ _ _
            generalize wq.drewN nq = wr at *
            have HYr : Hid (Cells wr (some ⟨g3, 0, none⟩) R) := HYc.out.keptNone Kr
            obtain ⟨gv1, gv2⟩ := getV_ok (b := R) (p := F + 4) (k := 2) (.inr (.inl rfl)) (by omega)
            rw [HF.out.num] at gv1
            rw [show ((F + 4 : Nat) : Int) = (F : Int) + 4 by omega] at gv1 gv2
            have CG := get_any (some ⟨g3, 0, none⟩) cap3 R ((F : Int) + 4) 2 wr HYr.out (by omega)
            rw [show ((2 : Nat) : Int) = 2 from rfl] at gv1 gv2
            rw [gv1, gv2] at CG
            clear gv1 gv2
            go_wp2_with fail
            refine CG.mono ?_
            rintro e w' ⟨rfl, rfl⟩
            clear CG
            go_upto_region 14 with fail
            go_cut [142] from 101 to 142 (fun t wx => t = .bool false ∧ wr.grownBy wx none)
            case first =>
              have hca : bits BinOp.and IntKind.u32 ((R.length : Int) - (F : Int) - 40) 65535 = (cnt : Int) := by
                have hcn : (R.length : Int) - (F : Int) - 40 = (cnt : Int) := by have := HCN.out; omega
                rw [hcn]
                have := mod_and cnt 16 (by omega) (by decide)
                rw [Nat.mod_eq_of_lt (show cnt < 2 ^ 16 by have := HCN.out; omega)] at this
                exact this
              have hca0 : bits BinOp.and IntKind.u32 (cnt : Int) 65535 = (cnt : Int) := by
                have := mod_and cnt 16 (by have := HCN.out; omega) (by decide)
                rw [Nat.mod_eq_of_lt (show cnt < 2 ^ 16 by have := HCN.out; omega)] at this
                exact this
              have hcw : IntKind.u32.wrap ((R.length : Int) - (F : Int) - 40) = (cnt : Int) := by have := HCN.out; rw [IntKind.wrap_u32]; omega
              have hcap := HCAP.out
              obtain ⟨o1, ho1⟩ : ∃ o1, F + 8 = o1 := ⟨_, rfl⟩
              obtain ⟨o2, ho2⟩ : ∃ o2, F + 8 + 16 = o2 := ⟨_, rfl⟩
              obtain ⟨o3, ho3⟩ : ∃ o3, F + 8 + 32 = o3 := ⟨_, rfl⟩
              have s1 : IntKind.i64.wrap ((F : Int) + 8) = (o1 : Int) := by rw [IntKind.wrap_i64]; omega
              have s2 : IntKind.i64.wrap ((o1 : Int) + 16) = (o2 : Int) := by rw [IntKind.wrap_i64]; omega
              have s3 : IntKind.i64.wrap ((o1 : Int) + 32) = (o3 : Int) := by rw [IntKind.wrap_i64]; omega
              have hw8 : IntKind.i64.wrap 32 = 32 := by rw [IntKind.wrap_i64]; rfl
              have hw9 : IntKind.i64.wrap (2 * 16) = 32 := by rw [IntKind.wrap_i64]; rfl
              have z1 : (0 : Int) ≤ (o1 : Int) := by omega
              have z2 : (o1 : Int) ≤ (o2 : Int) := by omega
              have z3 : (o2 : Int) ≤ (cap3 : Int) := by omega
              have z4 : (0 : Int) ≤ (o2 : Int) := by omega
              have z5 : (o2 : Int) ≤ (o3 : Int) := by omega
              have z6 : (o3 : Int) ≤ (cap3 : Int) := by omega
              have z7 : (0 : Int) ≤ (o3 : Int) := by omega
              have n1 : ¬ cap3 = o1 := by omega
              have n2 : ¬ cap3 = o2 := by omega
              have l1 : o2 - o1 = 16 := by omega
              have l2 : o3 - o2 = 16 := by omega
              have HO : Hid (F + 8 = o1 ∧ F + 8 + 16 = o2) := ⟨ho1, ho2⟩
              clear hcap ho1 ho2 ho3 hFR hLR f1 f2 f3
              have S0 : wr.grownBy wr none := World.grownBy.refl _ _
              have HS1 : Hid (∀ W, wr.grownBy W none → Calls Try.prog 12 #[.slice (some ⟨g3, o1, none⟩) 16 (cap3 - o1), .slice (some ⟨C, 8, none⟩) 16 16] W fun e w' => e = .returned (.bool true) ∧ W.grownBy w' none) := fun W K => by
                obtain ⟨A, B', hA, hB⟩ := HF.out.one
                exact same_part (HYr.out.keptNone K) hA (by have := HO.out; omega) (range_kept HSR.out.1 (grown_trans Kr K)) (by rw [HOK.out.src]; decide) HOK.out.src
              have HS2 : Hid (∀ W, wr.grownBy W none → Calls Try.prog 12 #[.slice (some ⟨g3, o2, none⟩) 16 (cap3 - o2), .slice (some ⟨C, 24, none⟩) 16 16] W fun e w' => e = .returned (.bool true) ∧ W.grownBy w' none) := fun W K => by
                obtain ⟨A, B', hA, hB⟩ := HF.out.two
                exact same_part (HYr.out.keptNone K) hA (by have := HO.out; omega) (range_kept HSR.out.2 (grown_trans Kr K)) (by rw [HOK.out.dst]; decide) HOK.out.dst
              go_region_held3 (fun W => wr.grownBy W none) (first | exact grown_drewN wr _ none | exact grown_trans (by assumption) KL | exact grown_trans (by assumption) KK | assumption) (first
                | (go_at_call_of 12 (Value.slice (some ⟨g3, o1, none⟩) 16 (cap3 - o1)); refine (HS1.out _ (by assumption)).mono ?_; rintro e w5 ⟨rfl, KK⟩)
                | (go_at_call_of 12 (Value.slice (some ⟨g3, o2, none⟩) 16 (cap3 - o2)); refine (HS2.out _ (by assumption)).mono ?_; rintro e w6 ⟨rfl, KL⟩))
              all_goals
                have K5 := (by assumption : wr.grownBy w6 none)
                go_wp2
                go_meet
                exact ⟨rfl, K5⟩
            case rest =>
              obtain ⟨rfl, K5⟩ := hcut
              have K6 := grown_trans Kr K5
              have G6 := grown_trans G4 K6
              have HYc6 : Hid (Cells wc (some ⟨g3, 0, none⟩) R) := HYr.out.keptNone K5
              have q0 := K6.cell HE.out.1 (by simp)
              have q1 := K6.cell HE.out.2.1 (by simp)
              have q2 := K6.cell HE.out.2.2 (by simp)
              have q8 := K6.cell HC8.out (by simp)
              have hLN := HLN2.out
              have HPO := HF.out.por
              clear HE HC8 HLN2 K5 K6 Kr HYr HYc c5' d6' HCN HF G4
              cases hpo : s.ports with
              | false =>
                rw [hpo] at q0
                clear q1 q2 q8 HPO hLN
                go_wp2_with fail
                refine (awake8_any _).mono ?_
                rintro e w6 ⟨rfl, K6⟩
                go_wp2
                go_ret
                exact ⟨rfl, grown_trans G6 K6⟩
              | true =>
                rw [hpo] at q0
                rw [hpo, if_pos rfl] at hLN
                obtain ⟨p1, p2⟩ := HPO hpo
                obtain ⟨gv1, gv2⟩ := getV_ok (b := R) (p := F + 40) (k := 2) (.inr (.inl rfl)) (by omega)
                obtain ⟨gv3, gv4⟩ := getV_ok (b := R) (p := F + 40 + 2) (k := 2) (.inr (.inl rfl)) (by omega)
                rw [p1] at gv1
                rw [p2] at gv3
                have C1 := get_any (some ⟨g3, 0, none⟩) cap3 R ((F + 40 : Nat) : Int) 2 wc HYc6.out (by omega)
                have C2 := get_any (some ⟨g3, 0, none⟩) cap3 R ((F + 40 + 2 : Nat) : Int) 2 wc HYc6.out (by omega)
                rw [show ((2 : Nat) : Int) = 2 from rfl] at gv1 gv2 gv3 gv4
                rw [gv1, gv2] at C1
                rw [gv3, gv4] at C2
                clear gv1 gv2 gv3 gv4 p1 p2 HPO
                obtain ⟨o, ho⟩ : ∃ o, F + 40 = o := ⟨_, rfl⟩
                rw [ho] at C1 C2 q8
                rw [show ((o + 2 : Nat) : Int) = (o : Int) + 2 by omega] at C2
                have hoo : (o : Int) ≤ 65535 := by omega
                clear ho hLN
                go_wp2_with fail
                refine C1.mono ?_
                rintro e w' ⟨rfl, rfl⟩
                clear C1
                go_wp2_with fail
                refine C2.mono ?_
                rintro e w' ⟨rfl, rfl⟩
                clear C2
                go_wp2_with fail
                refine (awake8_any _).mono ?_
                rintro e w6 ⟨rfl, K6⟩
                go_wp2
                go_ret
                exact ⟨rfl, grown_trans G6 K6⟩

set_option maxRecDepth 100000 in
theorem lifted (os : Os) (started : os.Started) (H : Type) (enc : TypeId × Value → H) :
    ReturnsInHanded {} Try.checked os 5 .any (Rows.forgeFieldsSpec.pre6 enc Try.prog Try.f5 Rows.forgeFieldsRow.domain false) (Rows.forgeFieldsSpec.post enc Try.prog Try.f5 false true false false) := by
  refine returnsInHanded_of_change_sized (C := Try.checked) own started (by kernel_rfl) Try.func5
    (ChangeSpec.witness6 (enc := enc) (C := Try.checked) false ⟨#[], #[.agg #[.bool false, .bool false, .int .i64 0], .agg #[.bool false, .bool false, .bool false, .bool false, .bool false, .int .u32 0, .int .u32 0, .int .i64 0, .int .u8 0, .int .u8 0, .int .u8 0, .int .u8 0, .int .u8 0, .int .u8 0, .int .u8 0, .int .u8 0, .int .u8 0, .int .u8 0, .int .u8 0, .int .u8 0, .int .u8 0, .int .u8 0, .int .u8 0, .int .u8 0, .int .u8 0, .int .u8 0, .int .u8 0, .int .u8 0, .int .u8 0, .int .u8 0, .int .u8 0, .int .u8 0, .int .u8 0, .int .u8 0, .int .u8 0, .int .u8 0, .int .u8 0, .int .u8 0, .int .u8 0, .int .u8 0, .bool false, .int .u32 0, .int .u32 0, .slice none 0 0]], []⟩ 8 (by kernel_rfl) (by kernel_rfl) (by kernel_rfl) (by kernel_rfl)) ?_
  intro W base args ds gs before hval0 hW hcnd hsz0 _
  have hsz : (DataW.weightsEach Try.prog (Try.f5.params.toList ++ Rows.forgeFieldsSpec.plain.varTypes Try.prog) (ds ++ gs)).all (· ≤ reachBytes) = true := hsz0
  have hval : ∀ (j : Nat) t v, Try.f5.params[j]? = some t → args[j]? = some v → Value.okWide Try.prog W .any base t v := hval0
  have hW' := hW
  obtain ⟨p, q, hA0, hV, rfl, hfz, hnd⟩ := hW
  have hA : DataW.TrodAll enc Try.prog W 0 (fun _ => true) true Try.f5.params.toList args.toList ds p := hA0
  rw [Try.params5] at hA hval hsz
  obtain ⟨v0, vs0, d0, ds0, p0, q0, hargs, rfl, rfl, h0, r0⟩ := trodAll_cons hA
  obtain ⟨v1, vs1, d1, ds1, p1, q1, rfl, rfl, rfl, h1, r1⟩ := trodAll_cons r0
  obtain ⟨rfl, rfl, rfl⟩ := trodAll_nil r1
  obtain rfl : args = #[v0, v1] := by cases args; simp_all
  obtain ⟨rfl, rfl⟩ := trodVars_none hV
  have k0 := h0
  have lt0 : ∀ x ∈ p0, x.block < W.heap.size := by obtain ⟨m, hm⟩ := k0; exact DataW.trod_lt m _ _ _ hm
  obtain ⟨x0, rfl⟩ := open_link h0
  have k1 := h1
  have lt1 : ∀ x ∈ p1, x.block < W.heap.size := by obtain ⟨m, hm⟩ := k1; exact DataW.trod_lt m _ _ _ hm
  obtain ⟨s1, a1, cap1, rfl, hok1, hcells1, hnil1, hcp1, parts1, e1, rfl, hpp1, hdt1⟩ := open_spec h1
  have hlen1 := sized_spec hsz (j := 1) rfl rfl hpp1 hdt1
  clear hA0 hval0
  refine (walk x0 s1 a1 cap1 W hok1 hcells1 hnil1 hcp1 hlen1).mono fun e W' ⟨he, hg⟩ => ?_
  subst he
  have bel : Below W.heap.size W W' := (Below.refl _ _).grown hg (Nat.le_refl _) (by simp)
  exact ⟨_, rfl, _, _, _, [], _, [], hW', trodAll_mk1 (shut_bool Try.underlying4 _), (trodAll_cons_mk (Below.trod laidOut (by kernel_rfl) (of_decide_eq_true (by kernel_rfl)) k0 bel lt0) (trodAll_cons_mk (Below.trod laidOut (by kernel_rfl) (of_decide_eq_true (by kernel_rfl)) k1 bel lt1) trodAll_mk0)), rfl, bel.frame _, fun h => by cases h⟩

theorem over : Rows.ForgeFieldsSaid :=
  OpenClaim.holds_of_wide 5 Try.f5 rfl rfl rfl rfl rfl rfl rfl ⟨rfl, rfl, rfl, rfl, rfl⟩ rfl rfl rfl rfl rfl (by kernel_rfl) Try.func5 (by kernel_rfl)
    (of_decide_eq_true (by kernel_rfl)) (by unfold Func.isWrapper; first | (rw [if_pos (by decide +kernel)]; kernel_rfl) | (rw [if_neg (by decide +kernel)]; exact ⟨rfl, rfl⟩))
    (fun os started H enc _ => lifted os started H enc)

end forgeFields

theorem forgeFields_holds : Rows.ForgeFieldsSaid := forgeFields.over
#print axioms forgeFields_holds

end Go.Proofs.Ytfjjmeanmlimoaa
