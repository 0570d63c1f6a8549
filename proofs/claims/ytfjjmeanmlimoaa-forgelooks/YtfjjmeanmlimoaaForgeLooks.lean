/-
  For every link and every spec (its data's capacity at most 2^47 - 4096 bytes, as the form itself says of each argument) riddlelaw8.ForgeLooks returns true and leaves what was there as it was: no condition of ours.
-/
import Derived.Test.YtfjjmeanmlimoaaForgeK
import Derived.Deep.RegionHeld3
import Derived.Deep.MidRow
import Derived.Deep.WholeRow
import Derived.Test.YtfjjmeanmlimoaaOpenS
import Derived.Test.YtfjjmeanmlimoaaForgeG
import Derived.Test.YtfjjmeanmlimoaaFrameK
import Derived.Deep.DeepCutAuto
namespace Go.Proofs.Ytfjjmeanmlimoaa
open Go.RowKit
set_option maxRecDepth 100000

theorem made_len (l : Lk) (s : Sp) : (exV [] (makeX l s)).length ≤ 65535 := by
  cases h : makeX l s with
  | error e => simp [exV]
  | ok b =>
    obtain ⟨_, _, rfl, h4⟩ := make_ok h
    exact h4

end Go.Proofs.Ytfjjmeanmlimoaa

namespace Go.Proofs.Ytfjjmeanmlimoaa
open Go.ChangeShapes Go.WideShapes Go.ChangeAt Go.RowKit
open Go.ChangeMaps (open_string shut_string)
set_option maxRecDepth 100000
namespace forgeLooks

/-- What the great question reads. -/
abbrev Bx (w : World) (V C : Nat) (s : Sp) (a : Option Addr) (ca : Nat) (W : World) : Prop := W.cell? ⟨V, 1, none⟩ = some (.bool s.multi) ∧ W.cell? ⟨V, 2, none⟩ = some (.bool s.beg) ∧ W.cell? ⟨V, 3, none⟩ = some (.bool s.fin) ∧ W.cell? ⟨V, 4, none⟩ = some (.int .u32 (s.seq : Int)) ∧ W.cell? ⟨C, 2, none⟩ = some (.bool s.multi) ∧ W.cell? ⟨C, 3, none⟩ = some (.bool s.beg) ∧ W.cell? ⟨C, 4, none⟩ = some (.bool s.fin) ∧ W.cell? ⟨C, 5, none⟩ = some (.int .u32 (s.seq : Int)) ∧ W.cell? ⟨C, 43, none⟩ = some (.slice a s.data.length ca) ∧ w.grownBy W none
theorem bx_call {w W W' : World} {V C : Nat} {s : Sp} {a : Option Addr} {ca : Nat} (K : W.grownBy W' none) (h : Bx w V C s a ca W) : Bx w V C s a ca W' := by
  obtain ⟨h0, h1, h2, h3, h4, h5, h6, h7, h8, G⟩ := h
  exact ⟨K.cell h0 (by simp), K.cell h1 (by simp), K.cell h2 (by simp), K.cell h3 (by simp), K.cell h4 (by simp), K.cell h5 (by simp), K.cell h6 (by simp), K.cell h7 (by simp), K.cell h8 (by simp), grown_trans G K⟩
theorem bx_drew {w W : World} {V C : Nat} {s : Sp} {a : Option Addr} {ca : Nat} (h : Bx w V C s a ca W) : Bx w V C s a ca W.drew := bx_call (grown_drewN W 1 none) h

/-- The tail of what was made reads as the data. -/
theorem cells_tail {w : World} {g cap k : Nat} {R pre d : List UInt8} (h : Cells w (some ⟨g, 0, none⟩) R) (hp : R = pre ++ d) (hk : R.length - d.length = k) (hc : R.length ≤ cap) : Cells w (if cap = k then some ⟨g, 0, none⟩ else some ⟨g, k, none⟩) d := by
  have hl : R.length = pre.length + d.length := by rw [hp, List.length_append]
  have hpk : pre.length = k := by omega
  by_cases hck : cap = k
  · have hd : d = [] := List.eq_nil_of_length_eq_zero (by omega)
    subst hd
    exact ⟨fun _ => rfl, fun ad _ i hi => absurd hi (by simp)⟩
  · rw [if_neg hck]
    refine ⟨fun e => by simp at e, fun ad had i hi => ?_⟩
    obtain rfl := Option.some.inj had
    have q := h.2 _ rfl (k + i) (by omega)
    rw [Addr.add_lit] at q ⊢
    rw [show 0 + (k + i) = k + i by omega] at q
    rw [q]
    congr 2
    subst hp
    rw [List.getElem_append_right (by omega)]
    congr 1
    omega

set_option maxRecDepth 100000 in
set_option maxHeartbeats 4000000 in
theorem walk (l : Lk) (s : Sp) (a : Option Addr) (ca : Nat) (w : World) (ok : s.ok) (ha : Cells w a s.data) (hc0 : a = none → ca = 0) (_hcp : s.data.length ≤ ca) (hn : s.data.length ≤ 140737488351232) :
    Calls Try.prog 4 #[.agg (lkA l), .agg (spA s a ca)] w fun e w' => e = .returned (.bool true) ∧ w.grownBy w' none := by
  obtain ⟨R, hR⟩ : ∃ R, exV [] (makeX l s) = R := ⟨_, rfl⟩
  obtain ⟨E, hE⟩ : ∃ E, exE (makeX l s) = E := ⟨_, rfl⟩
  have hRl : R.length ≤ 65535 := by rw [← hR]; exact made_len l s
  have HMK : Hid (∀ (g cap : Nat) (W : World), Cells W (some ⟨g, 0, none⟩) s.data → Calls Try.prog 10 #[.agg (lkA l), .agg (spA s (some ⟨g, 0, none⟩) cap)] W fun e w' => ∃ v, e = .returned (.tuple #[v, .int .i64 E]) ∧ Owns w' W.heap.size v R ∧ W.grownBy w' none) := fun g cap W h => by
    have k := make_any l s (some ⟨g, 0, none⟩) cap W ok h (by simp) (by omega)
    rw [hR, hE] at k
    exact k
  have L0 := VAt.alloc w 23 (lkA l)
  have K1 := World.grownBy_alloc (w.alloc (.cells (lkA l) 23)) (.cells (spA s a ca) 28) none
  have S1 := VAt.alloc (w.alloc (.cells (lkA l) 23)) 28 (spA s a ca)
  have G1 := grown_trans (World.grownBy_alloc w (.cells (lkA l) 23) none) K1
  rw [show (w.alloc (.cells (lkA l) 23)).heap.size = w.heap.size + 1 by simp] at S1
  have LK := L0.kept K1
  have SK := S1
  have HLS : Hid ((Try.prog.info? 23).map (·.size) = some (lkA l).size) := size23
  have HSS : Hid ((Try.prog.info? 28).map (·.size) = some (spA s a ca).size) := spA_size ok a ca
  have H : Hid (Cells w a s.data) := ha
  have HOK : Hid s.ok := ok
  have HV : Hid (exV [] (makeX l s) = R ∧ exE (makeX l s) = E) := ⟨hR, hE⟩
  clear hR hE L0 S1 K1 ha ok
  go_enter Try.func4, Try.ntmps4
  go_upto_region 1 with fail
  obtain ⟨B, hB⟩ : ∃ B, w.heap.size = B := ⟨_, rfl⟩
  obtain ⟨C, hC⟩ : ∃ C, w.heap.size + 1 = C := ⟨_, rfl⟩
  rw [hC] at SK
  rw [hB] at LK
  rw [hC, hB]
  have HBC : Hid (w.heap.size ≤ B ∧ w.heap.size ≤ C) := ⟨by omega, by omega⟩
  clear hB hC
  generalize (w.alloc (.cells (lkA l) 23)).alloc (.cells (spA s a ca) 28) = w1 at *
  have B0 : LS w1 B C l s a ca w1 := ⟨LK, SK, World.grownBy.refl _ _⟩
  clear LK SK
  refine wp_region_held_drew (S := fun W => LS w1 B C l s a ca W) (by kernel_rfl) (ls_drew B0) (fun hHeld => ?_)
  refine wpAnyH_take (i := 0) (v := .agg (lkA l)) rfl (by kernel_rfl) (by kernel_rfl) (by kernel_rfl) (fun _ _ _ h => h) (yieldsIf_load_row (by rfl) _ _ rfl B rfl 23 (lkA l) _ (fun W hW => hW.1) Try.underlying23 rfl HLS.out) hHeld ?_
  try simp only [Act.put, List.getElem_toArray, List.getElem_cons_zero, List.setIfInBounds_toArray, List.set_cons_zero, List.set_cons_succ]
  refine wpAnyH_take (i := 1) (v := .agg (spA s a ca)) rfl (by kernel_rfl) (by kernel_rfl) (by kernel_rfl) (fun _ _ _ h => h) (yieldsIf_load_row (by rfl) _ _ rfl C rfl 28 (spA s a ca) _ (fun W hW => hW.2.1) Try.underlying28 rfl HSS.out) hHeld ?_
  try simp only [Act.put, List.getElem_toArray, List.getElem_cons_zero, List.getElem_cons_succ, List.setIfInBounds_toArray, List.set_cons_zero, List.set_cons_succ]
  refine wpAnyH_ready (rs := [2]) (by kernel_rfl) (by simp) (AllReadyH.cons rfl (fun K hK => ?_) AllReadyH.nil)
  go_simp
  refine (lend8_any s a ca _ HOK.out (H.out.keptNone (grown_trans G1 hHeld.2.2)) hc0 hn).mono ?_
  rintro e w2 ⟨g0, cap0, rfl, Lw2, Kw2⟩
  obtain ⟨g', cap', e', -, -, -, -, hownw2⟩ := Lw2
  obtain ⟨rfl, rfl⟩ : g0 = g' ∧ cap0 = cap' := by simpa using e'
  clear e'
  have Cw2 := (cells_front hownw2).1
  go_wp2_with fail
  refine hK.out _ _ (ls_call Kw2 hHeld) (fun hHeld => ?_)
  clear hK K hownw2 Kw2
  try simp only [Act.put, List.getElem_toArray, List.getElem_cons_zero, List.getElem_cons_succ, List.setIfInBounds_toArray, List.set_cons_zero, List.set_cons_succ]
  refine wpAnyH_ready (rs := [3]) (by kernel_rfl) (by simp) (AllReadyH.cons rfl (fun K hK => ?_) AllReadyH.nil)
  go_simp
  refine (HMK.out g0 cap0 _ Cw2).mono ?_
  rintro e w3 ⟨y, rfl, Ow3, Kw3⟩
  go_wp2_with fail
  refine hK.out _ _ (ls_call Kw3 hHeld) (fun hHeld => ?_)
  clear hK K Cw2
  try simp only [Act.put, List.getElem_toArray, List.getElem_cons_zero, List.getElem_cons_succ, List.setIfInBounds_toArray, List.set_cons_zero, List.set_cons_succ]
  refine wpAnyH_take (i := 4) (v := .tuple #[y, .int .i64 E]) rfl (by kernel_rfl) (by kernel_rfl) (by kernel_rfl) (fun _ _ _ h => h) (Or.inl ⟨by rfl, fun W hW => ?_⟩) hHeld ?_
  · clear hW
    go_simp
  try simp only [Act.put, List.getElem_toArray, List.getElem_cons_zero, List.getElem_cons_succ, List.setIfInBounds_toArray, List.set_cons_zero, List.set_cons_succ]
  refine wpAnyH_take (i := 5) (v := y) rfl (by kernel_rfl) (by kernel_rfl) (by kernel_rfl) (fun _ _ _ h => h) (Or.inl ⟨by rfl, fun W hW => ?_⟩) hHeld ?_
  · clear hW
    go_simp
  try simp only [Act.put, List.getElem_toArray, List.getElem_cons_zero, List.getElem_cons_succ, List.setIfInBounds_toArray, List.set_cons_zero, List.set_cons_succ]
  refine wpAnyH_take (i := 6) (v := .int .i64 E) rfl (by kernel_rfl) (by kernel_rfl) (by kernel_rfl) (fun _ _ _ h => h) (Or.inl ⟨by rfl, fun W hW => ?_⟩) hHeld ?_
  · clear hW
    go_simp
  try simp only [Act.put, List.getElem_toArray, List.getElem_cons_zero, List.getElem_cons_succ, List.setIfInBounds_toArray, List.set_cons_zero, List.set_cons_succ]
  refine wpAnyH_take (i := 7) (v := y) rfl (by kernel_rfl) (by kernel_rfl) (by kernel_rfl) (fun _ _ _ h => h) (Or.inl ⟨by rfl, fun W hW => ?_⟩) hHeld ?_
  · clear hW
    go_simp
  try simp only [Act.put, List.getElem_toArray, List.getElem_cons_zero, List.getElem_cons_succ, List.setIfInBounds_toArray, List.set_cons_zero, List.set_cons_succ]
  refine wpAnyH_take (i := 8) (v := .int .i64 E) rfl (by kernel_rfl) (by kernel_rfl) (by kernel_rfl) (fun _ _ _ h => h) (Or.inl ⟨by rfl, fun W hW => ?_⟩) hHeld ?_
  · clear hW
    go_simp
  try simp only [Act.put, List.getElem_toArray, List.getElem_cons_zero, List.getElem_cons_succ, List.setIfInBounds_toArray, List.set_cons_zero, List.set_cons_succ]
  refine wpAnyH_done (by kernel_rfl) ?_ _
  obtain ⟨LK, SK, K3⟩ := hHeld
  have G3 := grown_trans G1 K3
  obtain ⟨ao3, cap3, rfl, C3, -⟩ := Ow3.shape
  clear B0 K3 G1 Kw3 HMK
  cases hmk : makeX l s with
  | error er =>
    have h1 : E = er := by rw [← HV.out.2, hmk]; rfl
    have h2 : R = [] := by rw [← HV.out.1, hmk]; rfl
    have hz := make_err hmk
    subst h1 h2
    clear HV hmk LK SK C3 Ow3
    go_wp2_with fail
    refine (awake8_any _).mono ?_
    rintro e w4 ⟨rfl, K4⟩
    have G4 := grown_trans G3 K4
    clear K4 G3
    go_wp2
    go_ret
    exact ⟨rfl, G4⟩
  | ok b0 =>
    have h1 : E = 0 := by rw [← HV.out.2, hmk]; rfl
    have h2 : R = b0 := by rw [← HV.out.1, hmk]; rfl
    obtain ⟨hck, FT, hbo, hbl⟩ := make_ok hmk
    rw [hbo] at h2
    subst h1 h2
    clear hmk HV hbo b0
    have HF : Hid (Fits l s) := FT
    have hlk := look_made FT hck HOK.out.src HOK.out.dst hbl
    have hlen := out_len l s HOK.out.src HOK.out.dst
    obtain ⟨pre, hpre⟩ := out_end l s
    obtain ⟨R, hR⟩ : ∃ R, outV l s = R := ⟨_, rfl⟩
    rw [hR] at C3 Ow3 hbl hlen hlk hpre ⊢
    obtain ⟨X, hX⟩ : ∃ X, vwA (madeV l s) = X := ⟨_, rfl⟩
    have hX9 : X.size = 9 := by rw [← hX]; rfl
    have hX1 : X.all (·.oneCell') = true := by rw [← hX]; exact vwA_all _
    have HS : Hid ((Try.prog.info? 38).map (·.size) = some X.size) := by rw [hX9]; exact size38
    have HX : Hid (vwA (madeV l s) = X) := hX
    have HK : Hid (∀ (a : Option Addr) (ca : Nat) (W : World), Cells W a R → Calls Try.prog 15 #[.agg #[.bool l.acfc, .bool l.pfc, .int .i64 l.mp], .slice a R.length ca] W fun e w' => e = .returned (.tuple #[.agg X, .int .i64 0]) ∧ W.grownBy w' none) := fun a ca W h => by
      have k := look_any l a ca R W h (by omega)
      rw [hlk] at k
      rw [show exV Vw.zero (Except.ok (madeV l s)) = madeV l s from rfl, hX] at k
      exact k
    have HLN : Hid (R.length = (frontV l s).length + (if ipB s = true then (if s.proto = 33 then 20 else 40) else 0) + (if s.ports = true then 4 else 0) + s.data.length) := hlen
    have HPRE : Hid (R = pre ++ s.data) := hpre
    have HFP := front_pos l s
    have HY : Hid (Cells w3 ao3 R) := C3
    have HOW : Hid (Owns w3 w2.heap.size (.slice ao3 R.length cap3) R) := Ow3
    have hc3 : ao3 = none → cap3 = 0 := by
      obtain ⟨ao', cap', e', -, -, -, h0, -⟩ := cv_of_row Ow3
      simp only [Value.slice.injEq] at e'
      obtain ⟨rfl, -, rfl⟩ := e'
      exact h0
    clear hR hck FT hlk hlen hpre hX C3 Ow3
    generalize hwA : w3 = wA at *
    clear hwA
    have x0 : wA.cell? ⟨B, 0, none⟩ = some (.bool l.acfc) := LK.cell 0
    have x1 : wA.cell? ⟨B, 1, none⟩ = some (.bool l.pfc) := LK.cell 1
    have x2 : wA.cell? ⟨B, 2, none⟩ = some (.int .i64 l.mp) := LK.cell 2
    go_upto_region 4 with fail
    go_cut [7, 8] from 28 to 34 (fun s e wx => ∃ V, s = .pointer (some ⟨V, 0, none⟩) ∧ e = .int .i64 0 ∧ VAt wx V 38 X ∧ wA.grownBy wx none ∧ wA.heap.size ≤ V)
    case first =>
      have HQ1 : Hid (Cells wA.drew ao3 R) := HY.out.keptNone (grown_trans (World.grownBy.refl wA none) (grown_drewN _ 1 none))
      have HQ2 : Hid (Cells (wA.alloc (.cells #[.int .u32 0, .bool false, .bool false, .bool false, .int .u32 0, .int .i64 0, .int .i64 0, .int .i64 0, .int .i64 0] 38)).drew ao3 R) := HY.out.keptNone (grown_trans (World.grownBy.refl wA none) (grown_trans (World.grownBy_alloc wA (.cells #[.int .u32 0, .bool false, .bool false, .bool false, .int .u32 0, .int .i64 0, .int .i64 0, .int .i64 0, .int .i64 0] 38) none) (grown_drewN _ 1 none)))
      have zx0 := (World.grownBy_alloc wA (.cells #[.int .u32 0, .bool false, .bool false, .bool false, .int .u32 0, .int .i64 0, .int .i64 0, .int .i64 0, .int .i64 0] 38) none).cell x0 (by simp)
      have zx1 := (World.grownBy_alloc wA (.cells #[.int .u32 0, .bool false, .bool false, .bool false, .int .u32 0, .int .i64 0, .int .i64 0, .int .i64 0, .int .i64 0] 38) none).cell x1 (by simp)
      have zx2 := (World.grownBy_alloc wA (.cells #[.int .u32 0, .bool false, .bool false, .bool false, .int .u32 0, .int .i64 0, .int .i64 0, .int .i64 0, .int .i64 0] 38) none).cell x2 (by simp)
      go_region_with (first
        | (go_at_call 16; refine (copy_any ao3 cap3 R _ ?_ hc3 (by omega)).mono ?_; (with_reducible exact HQ1.out); rintro e w2 ⟨v2, rfl, O2, K2⟩; have KW2 : Hid (wA.grownBy w2 none) := (by first | exact K2 | exact grown_trans (grown_drewN wA 1 none) K2); have x20 := KW2.out.cell x0 (by simp); have y20 := (World.grownBy_alloc w2 (.cells #[.int .u32 0, .bool false, .bool false, .bool false, .int .u32 0, .int .i64 0, .int .i64 0, .int .i64 0, .int .i64 0] 38) none).cell x20 (by simp); have x21 := KW2.out.cell x1 (by simp); have y21 := (World.grownBy_alloc w2 (.cells #[.int .u32 0, .bool false, .bool false, .bool false, .int .u32 0, .int .i64 0, .int .i64 0, .int .i64 0, .int .i64 0] 38) none).cell x21 (by simp); have x22 := KW2.out.cell x2 (by simp); have y22 := (World.grownBy_alloc w2 (.cells #[.int .u32 0, .bool false, .bool false, .bool false, .int .u32 0, .int .i64 0, .int .i64 0, .int .i64 0, .int .i64 0] 38) none).cell x22 (by simp); obtain ⟨ao2, cap2, rfl, C2, -⟩ := O2.shape; have HC2 : Hid (Cells w2 ao2 R) := C2; have HC2Z : Hid (Cells (w2.alloc (.cells #[.int .u32 0, .bool false, .bool false, .bool false, .int .u32 0, .int .i64 0, .int .i64 0, .int .i64 0, .int .i64 0] 38)) ao2 R) := C2.keptNone (World.grownBy_alloc _ _ _))
        | (go_at_call 16; refine (copy_any ao3 cap3 R _ ?_ hc3 (by omega)).mono ?_; (with_reducible exact HQ2.out); rintro e w2 ⟨v2, rfl, O2, K2⟩; have U2 : Hid (VAt w2 wA.heap.size 38 (vwA Vw.zero)) := ((VAt.alloc wA 38 (vwA Vw.zero)).kept (grown_drewN _ 1 none)).kept K2; have KW2 : Hid (wA.grownBy w2 none) := grown_trans (grown_trans (World.grownBy_alloc wA (.cells #[.int .u32 0, .bool false, .bool false, .bool false, .int .u32 0, .int .i64 0, .int .i64 0, .int .i64 0, .int .i64 0] 38) none) (grown_drewN _ 1 none)) K2; have x20 := KW2.out.cell x0 (by simp); have y20 := (World.grownBy_alloc w2 (.cells #[.int .u32 0, .bool false, .bool false, .bool false, .int .u32 0, .int .i64 0, .int .i64 0, .int .i64 0, .int .i64 0] 38) none).cell x20 (by simp); have x21 := KW2.out.cell x1 (by simp); have y21 := (World.grownBy_alloc w2 (.cells #[.int .u32 0, .bool false, .bool false, .bool false, .int .u32 0, .int .i64 0, .int .i64 0, .int .i64 0, .int .i64 0] 38) none).cell x21 (by simp); have x22 := KW2.out.cell x2 (by simp); have y22 := (World.grownBy_alloc w2 (.cells #[.int .u32 0, .bool false, .bool false, .bool false, .int .u32 0, .int .i64 0, .int .i64 0, .int .i64 0, .int .i64 0] 38) none).cell x22 (by simp); obtain ⟨ao2, cap2, rfl, C2, -⟩ := O2.shape; have HC2 : Hid (Cells w2 ao2 R) := C2; have HC2Z : Hid (Cells (w2.alloc (.cells #[.int .u32 0, .bool false, .bool false, .bool false, .int .u32 0, .int .i64 0, .int .i64 0, .int .i64 0, .int .i64 0] 38)) ao2 R) := C2.keptNone (World.grownBy_alloc _ _ _))
        | (go_at_call 15; refine (HK.out _ _ _ ?_).mono ?_; (with_reducible exact HC2.out); rintro e w3 ⟨rfl, K3⟩; have U3 := U2.out.kept K3; have hs3 : (storeCells ⟨wA.heap.size, 0, none⟩ X.toList).run Try.prog w3 = .ok () (w3.setRow wA.heap.size X) := storeCells_row U3 HS.out hX9.symm hX1; have hfin : Hid (VAt (w3.setRow wA.heap.size X) wA.heap.size 38 X ∧ wA.grownBy (w3.setRow wA.heap.size X) none ∧ wA.heap.size ≤ wA.heap.size) := ⟨U3.setRow _, vgrown_setRow (grown_trans KW2.out K3) _ _ (.inr (Nat.le_refl _)), Nat.le_refl _⟩)
        | (go_at_call 15; refine (HK.out _ _ _ ?_).mono ?_; (with_reducible exact HC2.out); rintro e w3 ⟨rfl, K3⟩; have hs3 : (storeCells ⟨w3.heap.size, 0, none⟩ X.toList).run Try.prog (w3.alloc (.cells #[.int .u32 0, .bool false, .bool false, .bool false, .int .u32 0, .int .i64 0, .int .i64 0, .int .i64 0, .int .i64 0] 38)) = .ok () ((w3.alloc (.cells #[.int .u32 0, .bool false, .bool false, .bool false, .int .u32 0, .int .i64 0, .int .i64 0, .int .i64 0, .int .i64 0] 38)).setRow w3.heap.size X) := storeCells_row (VAt.alloc w3 38 (vwA Vw.zero)) HS.out hX9.symm hX1; have hfin : Hid (VAt ((w3.alloc (.cells #[.int .u32 0, .bool false, .bool false, .bool false, .int .u32 0, .int .i64 0, .int .i64 0, .int .i64 0, .int .i64 0] 38)).setRow w3.heap.size X) w3.heap.size 38 X ∧ wA.grownBy ((w3.alloc (.cells #[.int .u32 0, .bool false, .bool false, .bool false, .int .u32 0, .int .i64 0, .int .i64 0, .int .i64 0, .int .i64 0] 38)).setRow w3.heap.size X) none ∧ wA.heap.size ≤ w3.heap.size) := ⟨(VAt.alloc w3 38 (vwA Vw.zero)).setRow _, vgrown_setRow (grown_trans (grown_trans KW2.out K3) (World.grownBy_alloc _ _ _)) _ _ (.inr (grown_trans KW2.out K3).size), (grown_trans KW2.out K3).size⟩)
        | (go_at_call 15; refine (HK.out _ _ _ ?_).mono ?_; (with_reducible exact HC2Z.out); rintro e w3 ⟨rfl, K3⟩; have U3 : VAt w3 w2.heap.size 38 (vwA Vw.zero) := (VAt.alloc w2 _ _).kept K3; have hs3 : (storeCells ⟨w2.heap.size, 0, none⟩ X.toList).run Try.prog w3 = .ok () (w3.setRow w2.heap.size X) := storeCells_row U3 HS.out hX9.symm hX1; have hfin : Hid (VAt (w3.setRow w2.heap.size X) w2.heap.size 38 X ∧ wA.grownBy (w3.setRow w2.heap.size X) none ∧ wA.heap.size ≤ w2.heap.size) := ⟨U3.setRow _, vgrown_setRow (grown_trans KW2.out (grown_trans (World.grownBy_alloc w2 (.cells #[.int .u32 0, .bool false, .bool false, .bool false, .int .u32 0, .int .i64 0, .int .i64 0, .int .i64 0, .int .i64 0] 38) none) K3)) _ _ (.inr KW2.out.size), KW2.out.size⟩))
      all_goals
        go_wp2
        go_meet
        exact ⟨_, rfl, rfl, hfin.out⟩
    case rest =>
      obtain ⟨V, rfl, rfl, VA, K4, hV⟩ := hcut
      have G4 := grown_trans G3 K4
      rw [← HX.out] at VA
      obtain ⟨c0, c1, c2, c3, c4, c5, c6, c7, c8⟩ := VA.nine
      have SC := show SAt _ C s a ca from ⟨SK.kept K4, HOK.out⟩
      obtain ⟨-, -, d2, d3, d4, d5, d6, d7⟩ := SC.eight
      obtain ⟨e0, -, -, e3⟩ := SC.four
      have hlR : 0 < R.length := by have := HLN.out; omega
      have HYc : Hid (Cells wc ao3 R) := HY.out.keptNone K4
      have HDc : Hid (Cells wc a s.data) := H.out.keptNone G4
      obtain ⟨g3, hg3⟩ : ∃ g3, ao3 = some ⟨g3, 0, none⟩ := by
        obtain ⟨g, cap', hv, -⟩ := owns_head HOW.out hlR
        simp only [Value.slice.injEq] at hv
        exact ⟨g, hv.1⟩
      subst hg3
      simp only [madeV] at c0 c1 c2 c3 c4 c5 c6 c7 c8
      clear x0 x1 x2 LK SK VA SC HK HS hX9 hX1 HX HY hc3 K4 G3
      generalize hwq : wc = wq at *
      clear hwq
      have B5 : Bx wq V C s a ca wq := ⟨c1, c2, c3, c4, d2, d3, d4, d5, e3, World.grownBy.refl _ _⟩
      have B5d := bx_drew B5
      obtain ⟨k, hk⟩ : ∃ k, R.length - s.data.length = k := ⟨_, rfl⟩
      have hk1 : s.data.length ≤ R.length := by have := HLN.out; omega
      have w1' : IntKind.i64.wrap ((R.length : Int) - (s.data.length : Int)) = (k : Int) := by rw [IntKind.wrap_i64]; omega
      have k0 : (0 : Int) ≤ (k : Int) := by omega
      have kR : (k : Int) ≤ (R.length : Int) := by omega
      have hRk : R.length - k = s.data.length := by omega
      have HRK : Hid (R.length - k = s.data.length) := hRk
      have hcap3 : R.length ≤ cap3 := by
        obtain ⟨ao', cap', e', -, hle, -⟩ := HOW.out.shape
        simp only [Value.slice.injEq] at e'
        obtain ⟨-, -, rfl⟩ := e'
        exact hle
      have HT : Hid (Cells wq (if cap3 = k then some ⟨g3, 0, none⟩ else some ⟨g3, k, none⟩) s.data) := cells_tail HYc.out HPRE.out hk hcap3
      go_upto_region 5 with fail
      go_cut [86] from 35 to 86 (fun t wx => t = .bool false ∧ wq.grownBy wx none)
      case first =>
        have hlt : ¬ (R.length : Int) < (s.data.length : Int) := by omega
        have hltd : decide ((R.length : Int) < (s.data.length : Int)) = false := by simp [hlt]
        go_region_held3 (fun W => W.cell? ⟨V, 1, none⟩ = some (.bool s.multi) ∧ W.cell? ⟨V, 2, none⟩ = some (.bool s.beg) ∧ W.cell? ⟨V, 3, none⟩ = some (.bool s.fin) ∧ W.cell? ⟨V, 4, none⟩ = some (.int .u32 (s.seq : Int)) ∧ W.cell? ⟨C, 2, none⟩ = some (.bool s.multi) ∧ W.cell? ⟨C, 3, none⟩ = some (.bool s.beg) ∧ W.cell? ⟨C, 4, none⟩ = some (.bool s.fin) ∧ W.cell? ⟨C, 5, none⟩ = some (.int .u32 (s.seq : Int)) ∧ W.cell? ⟨C, 43, none⟩ = some (.slice a s.data.length ca) ∧ wq.grownBy W none) (first | exact bx_call K (by assumption) | (with_reducible assumption) | exact B5d) (first | (go_at_call 12; (try rw [HRK.out]); refine (same_any _ a _ ca s.data _ (HT.out.keptNone (by assumption : Bx wq V C s a ca _).2.2.2.2.2.2.2.2.2) (HDc.out.keptNone (by assumption : Bx wq V C s a ca _).2.2.2.2.2.2.2.2.2) (by omega)).mono ?_; rintro e w' ⟨rfl, n5, hw5⟩; have K : World.grownBy _ w' none := (by rw [hw5]; exact grown_drewN _ n5 none); clear hw5; dsimp only))
        all_goals
          have K5 := (by assumption : Bx wq V C s a ca w').2.2.2.2.2.2.2.2.2
          (try generalize (if cap3 = k then (some ⟨g3, 0, none⟩ : Option Addr) else some ⟨g3, k, none⟩) = zz)
          go_wp2
          go_meet
          exact ⟨rfl, K5⟩
      case rest =>
        obtain ⟨rfl, K5⟩ := hcut
        generalize hw' : wc = w' at *
        clear hw'
        have G5 := grown_trans G4 K5
        have q0 := K5.cell c0 (by simp)
        have q5 := K5.cell c5 (by simp)
        have q6 := K5.cell c6 (by simp)
        have q7 := K5.cell c7 (by simp)
        have q8 := K5.cell c8 (by simp)
        have m2 := K5.cell d2 (by simp)
        have m3 := K5.cell d3 (by simp)
        have m6 := K5.cell d6 (by simp)
        have m7 := K5.cell d7 (by simp)
        have n0 := K5.cell e0 (by simp)
        have n3 := K5.cell e3 (by simp)
        clear c0 c1 c2 c3 c4 c5 c6 c7 c8 d2 d3 d4 d5 d6 d7 e0 e3 B5 B5d HT HRK hRk HYc HDc HOW G4 K5
        have hFT := HF.out
        have hLN := HLN.out
        clear HLN HF HPRE
        generalize hFF : (frontV l s).length = F at *
        clear hFF
        have hnx := hFT.next
        rcases (show (s.multi = true ∧ s.beg = false) ∨ saidB s = true from by cases h1 : s.multi <;> cases h2 : s.beg <;> simp [saidB, h1, h2]) with ⟨hmu, hbe⟩ | hsd
        · have hsd : saidB s = false := by simp [saidB, hmu, hbe]
          have hip : ipB s = false := by simp [ipB, hsd]
          have hpo := (hFT.bare hip).2.2.2
          rw [hsd, if_neg (by simp)] at q0
          rw [hip, if_neg (by simp)] at q6
          rw [hip, hpo, if_neg (by simp), if_neg (by simp)] at hLN
          rw [hmu] at m2
          rw [hbe] at m3
          have hkF : k = F := by omega
          subst hkF
          clear q7 q8 m6 m7 n0 hFT
          go_wp2_with fail
          refine (awake8_any _).mono ?_
          rintro e w6 ⟨rfl, K6⟩
          go_wp2
          go_ret
          exact ⟨rfl, grown_trans G5 K6⟩
        · rw [if_pos hsd] at q0
          rcases (show (ipB s = true ∧ s.proto = 33) ∨ (ipB s = true ∧ s.proto = 87) ∨ (ipB s = false ∧ s.proto ≠ 33 ∧ s.proto ≠ 87) from by
            by_cases h1 : s.proto = 33
            · left; simp [ipB, hsd, h1]
            · by_cases h2 : s.proto = 87
              · right; left; simp [ipB, hsd, h2]
              · right; right; simp [ipB, hsd, h1, h2]) with ⟨hip, hpr⟩ | ⟨hip, hpr⟩ | ⟨hip, hn1, hn2⟩
          · rw [if_pos hip, if_pos hpr] at q6 q8 hLN
            rw [if_pos hip, Int.toNat_of_nonneg hnx.1] at q7
            rw [hpr] at q0 m6
            have hr0 : w'.cell? ⟨V, 0, none⟩ = some (.int .u32 33) := q0
            have hs6 : w'.cell? ⟨C, 6, none⟩ = some (.int .u32 33) := m6
            have hr6 : w'.cell? ⟨V, 6, none⟩ = some (.int .i64 4) := q6
            obtain ⟨mm, hmm⟩ : ∃ mm, F + 20 = mm := ⟨_, rfl⟩
            rw [hmm] at q8
            have wf : IntKind.i64.wrap ((mm : Int) - 20) = (F : Int) := by rw [IntKind.wrap_i64]; omega
            clear q0 m6 q6 hFT
            cases hpo : s.ports with
            | true =>
              rw [hpo] at n0
              rw [hpo, if_pos rfl] at hLN
              have wg : IntKind.i64.wrap ((k : Int) - 4) = (mm : Int) := by rw [IntKind.wrap_i64]; omega
              cases hmu : s.multi with
              | false =>
                rw [hmu] at m2
                go_wp2_with fail
                refine (awake8_any _).mono ?_
                rintro e w6 ⟨rfl, K6⟩
                go_wp2
                go_ret
                exact ⟨rfl, grown_trans G5 K6⟩
              | true =>
                have hbe : s.beg = true := by simpa [saidB, hmu] using hsd
                rw [hmu] at m2
                rw [hbe] at m3
                go_wp2_with fail
                refine (awake8_any _).mono ?_
                rintro e w6 ⟨rfl, K6⟩
                go_wp2
                go_ret
                exact ⟨rfl, grown_trans G5 K6⟩
            | false =>
              rw [hpo] at n0
              rw [hpo, if_neg (by simp)] at hLN
              have hkm : k = mm := by omega
              subst hkm
              cases hmu : s.multi with
              | false =>
                rw [hmu] at m2
                go_wp2_with fail
                refine (awake8_any _).mono ?_
                rintro e w6 ⟨rfl, K6⟩
                go_wp2
                go_ret
                exact ⟨rfl, grown_trans G5 K6⟩
              | true =>
                have hbe : s.beg = true := by simpa [saidB, hmu] using hsd
                rw [hmu] at m2
                rw [hbe] at m3
                go_wp2_with fail
                refine (awake8_any _).mono ?_
                rintro e w6 ⟨rfl, K6⟩
                go_wp2
                go_ret
                exact ⟨rfl, grown_trans G5 K6⟩
          · rw [if_pos hip, if_neg (by omega)] at q6 q8 hLN
            rw [if_pos hip, Int.toNat_of_nonneg hnx.1] at q7
            rw [hpr] at q0 m6
            have hr0 : w'.cell? ⟨V, 0, none⟩ = some (.int .u32 87) := q0
            have hs6 : w'.cell? ⟨C, 6, none⟩ = some (.int .u32 87) := m6
            have hr6 : w'.cell? ⟨V, 6, none⟩ = some (.int .i64 6) := q6
            obtain ⟨mm, hmm⟩ : ∃ mm, F + 40 = mm := ⟨_, rfl⟩
            rw [hmm] at q8
            have wf : IntKind.i64.wrap ((mm : Int) - 40) = (F : Int) := by rw [IntKind.wrap_i64]; omega
            clear q0 m6 q6 hFT
            cases hpo : s.ports with
            | true =>
              rw [hpo] at n0
              rw [hpo, if_pos rfl] at hLN
              have wg : IntKind.i64.wrap ((k : Int) - 4) = (mm : Int) := by rw [IntKind.wrap_i64]; omega
              cases hmu : s.multi with
              | false =>
                rw [hmu] at m2
                go_wp2_with fail
                refine (awake8_any _).mono ?_
                rintro e w6 ⟨rfl, K6⟩
                go_wp2
                go_ret
                exact ⟨rfl, grown_trans G5 K6⟩
              | true =>
                have hbe : s.beg = true := by simpa [saidB, hmu] using hsd
                rw [hmu] at m2
                rw [hbe] at m3
                go_wp2_with fail
                refine (awake8_any _).mono ?_
                rintro e w6 ⟨rfl, K6⟩
                go_wp2
                go_ret
                exact ⟨rfl, grown_trans G5 K6⟩
            | false =>
              rw [hpo] at n0
              rw [hpo, if_neg (by simp)] at hLN
              have hkm : k = mm := by omega
              subst hkm
              cases hmu : s.multi with
              | false =>
                rw [hmu] at m2
                go_wp2_with fail
                refine (awake8_any _).mono ?_
                rintro e w6 ⟨rfl, K6⟩
                go_wp2
                go_ret
                exact ⟨rfl, grown_trans G5 K6⟩
              | true =>
                have hbe : s.beg = true := by simpa [saidB, hmu] using hsd
                rw [hmu] at m2
                rw [hbe] at m3
                go_wp2_with fail
                refine (awake8_any _).mono ?_
                rintro e w6 ⟨rfl, K6⟩
                go_wp2
                go_ret
                exact ⟨rfl, grown_trans G5 K6⟩
          · have hpo := (hFT.bare hip).2.2.2
            have hz : ¬ ipB s = true := by simp [hip]
            rw [if_neg hz] at q6 q7 q8
            rw [if_neg hz, hpo, if_neg (by simp)] at hLN
            rw [hpo] at n0
            have hr6 : w'.cell? ⟨V, 6, none⟩ = some (.int .i64 0) := q6
            have hr7 : w'.cell? ⟨V, 7, none⟩ = some (.int .i64 0) := q7
            have hr8 : w'.cell? ⟨V, 8, none⟩ = some (.int .i64 0) := q8
            have hp1 : ((s.proto : Int) == 33) = false := by rw [beq_eq_false_iff_ne]; omega
            have hp2 : ((s.proto : Int) == 87) = false := by rw [beq_eq_false_iff_ne]; omega
            have hkF : k = F := by omega
            subst hkF
            clear q6 q7 q8 m7 hFT
            cases hmu : s.multi with
            | false =>
              rw [hmu] at m2
              go_wp2_with fail
              refine (awake8_any _).mono ?_
              rintro e w6 ⟨rfl, K6⟩
              go_wp2
              go_ret
              exact ⟨rfl, grown_trans G5 K6⟩
            | true =>
              have hbe : s.beg = true := by simpa [saidB, hmu] using hsd
              rw [hmu] at m2
              rw [hbe] at m3
              go_wp2_with fail
              refine (awake8_any _).mono ?_
              rintro e w6 ⟨rfl, K6⟩
              go_wp2
              go_ret
              exact ⟨rfl, grown_trans G5 K6⟩

set_option maxRecDepth 100000 in
theorem lifted (os : Os) (started : os.Started) (H : Type) (enc : TypeId × Value → H) :
    ReturnsInHanded {} Try.checked os 4 .any (Rows.forgeLooksSpec.pre6 enc Try.prog Try.f4 Rows.forgeLooksRow.domain false) (Rows.forgeLooksSpec.post enc Try.prog Try.f4 false true false false) := by
  refine returnsInHanded_of_change_sized (C := Try.checked) own started (by kernel_rfl) Try.func4
    (ChangeSpec.witness6 (enc := enc) (C := Try.checked) false ⟨#[], #[.agg #[.bool false, .bool false, .int .i64 0], .agg #[.bool false, .bool false, .bool false, .bool false, .bool false, .int .u32 0, .int .u32 0, .int .i64 0, .int .u8 0, .int .u8 0, .int .u8 0, .int .u8 0, .int .u8 0, .int .u8 0, .int .u8 0, .int .u8 0, .int .u8 0, .int .u8 0, .int .u8 0, .int .u8 0, .int .u8 0, .int .u8 0, .int .u8 0, .int .u8 0, .int .u8 0, .int .u8 0, .int .u8 0, .int .u8 0, .int .u8 0, .int .u8 0, .int .u8 0, .int .u8 0, .int .u8 0, .int .u8 0, .int .u8 0, .int .u8 0, .int .u8 0, .int .u8 0, .int .u8 0, .int .u8 0, .bool false, .int .u32 0, .int .u32 0, .slice none 0 0]], []⟩ 8 (by kernel_rfl) (by kernel_rfl) (by kernel_rfl) (by kernel_rfl)) ?_
  intro W base args ds gs before hval0 hW hcnd hsz0 _
  have hsz : (DataW.weightsEach Try.prog (Try.f4.params.toList ++ Rows.forgeLooksSpec.plain.varTypes Try.prog) (ds ++ gs)).all (· ≤ reachBytes) = true := hsz0
  have hval : ∀ (j : Nat) t v, Try.f4.params[j]? = some t → args[j]? = some v → Value.okWide Try.prog W .any base t v := hval0
  have hW' := hW
  obtain ⟨p, q, hA0, hV, rfl, hfz, hnd⟩ := hW
  have hA : DataW.TrodAll enc Try.prog W 0 (fun _ => true) true Try.f4.params.toList args.toList ds p := hA0
  rw [Try.params4] at hA hval hsz
  obtain ⟨v0, vs0, d0, ds0, p0, q0, hargs, rfl, rfl, h0, r0⟩ := trodAll_cons hA
  obtain ⟨v1, vs1, d1, ds1, p1, q1, rfl, rfl, rfl, h1, r1⟩ := trodAll_cons r0
  obtain ⟨rfl, rfl, rfl⟩ := trodAll_nil r1
  obtain rfl : args = #[v0, v1] := by cases args; simp_all
  obtain ⟨rfl, rfl⟩ := trodVars_none hV
  have k0 := h0
  have lt0 : ∀ x ∈ p0, x.block < W.heap.size := by obtain ⟨m, hm⟩ := k0; exact DataW.trod_lt m _ _ _ hm
  obtain ⟨x0, rfl⟩ := open_link h0
  have k1 := h1
  have lt1 : ∀ x ∈ p1, x.block < W.heap.size := by obtain ⟨m, hm⟩ := k1; exact DataW.trod_lt m _ _ _ hm
  obtain ⟨s1, a1, cap1, rfl, hok1, hcells1, hnil1, hcp1, parts1, e1, rfl, hpp1, hdt1⟩ := open_spec h1
  have hlen1 := sized_spec hsz (j := 1) rfl rfl hpp1 hdt1
  clear hA0 hval0
  refine (walk x0 s1 a1 cap1 W hok1 hcells1 hnil1 hcp1 hlen1).mono fun e W' ⟨he, hg⟩ => ?_
  subst he
  have bel : Below W.heap.size W W' := (Below.refl _ _).grown hg (Nat.le_refl _) (by simp)
  exact ⟨_, rfl, _, _, _, [], _, [], hW', trodAll_mk1 (shut_bool Try.underlying4 _), (trodAll_cons_mk (Below.trod laidOut (by kernel_rfl) (of_decide_eq_true (by kernel_rfl)) k0 bel lt0) (trodAll_cons_mk (Below.trod laidOut (by kernel_rfl) (of_decide_eq_true (by kernel_rfl)) k1 bel lt1) trodAll_mk0)), rfl, bel.frame _, fun h => by cases h⟩

theorem over : Rows.ForgeLooksSaid :=
  OpenClaim.holds_of_wide 4 Try.f4 rfl rfl rfl rfl rfl rfl rfl ⟨rfl, rfl, rfl, rfl, rfl⟩ rfl rfl rfl rfl rfl (by kernel_rfl) Try.func4 (by kernel_rfl)
    (of_decide_eq_true (by kernel_rfl)) (by unfold Func.isWrapper; first | (rw [if_pos (by decide +kernel)]; kernel_rfl) | (rw [if_neg (by decide +kernel)]; exact ⟨rfl, rfl⟩))
    (fun os started H enc _ => lifted os started H enc)

end forgeLooks

theorem forgeLooks_holds : Rows.ForgeLooksSaid := forgeLooks.over
#print axioms forgeLooks_holds

end Go.Proofs.Ytfjjmeanmlimoaa
