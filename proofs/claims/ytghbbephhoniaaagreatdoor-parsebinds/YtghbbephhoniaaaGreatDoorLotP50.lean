import Derived.Test.YtghbbephhoniaaaGreatDoorLotP49
import Derived.Test.YtghbbephhoniaaaGreatDoorLotP36
import Derived.Deep.DeepCutAuto
import Derived.Test.YtghbbephhoniaaaGreatDoorLotP7
import Derived.Test.YtghbbephhoniaaaGreatDoorLotP8
import Derived.Test.YtghbbephhoniaaaGreatDoorLotP1
import Derived.Test.YtghbbephhoniaaaGreatDoorRows
import Derived.ProofKit
import Derived.OpenShut
import Derived.ShutString
import Derived.ChangeOld
import Derived.SizedLaws
import Derived.JoinedCond
import Derived.Test.YtghbbephhoniaaaGreatDoorCards
import Derived.Test.YtghbbephhoniaaaGreatDoorTie
import Derived.Test.YtghbbephhoniaaaGreatDoorLotP35
import Derived.Deep.DeepHandedRow
import Derived.Deep.DeepWitnessRowRef
import Derived.Stop.LaidErr
import Derived.SliceStrings
import Derived.Lay
namespace Go.Proofs.YtghbbephhoniaaaGreatDoor
open Go.RowKit
set_option maxRecDepth 100000
def prN (r : Except Er (List (Nd × Nat))) : List (Nd × Nat) := match r with
 | .ok ns => ns
 | .error _ => []
def prP (r : Except Er (List (Nd × Nat))) : Nat := match r with
 | .ok _ => 0
 | .error e => e.1
def prE (r : Except Er (List (Nd × Nat))) : Int := match r with
 | .ok _ => 0
 | .error e => e.2
def TabB (w : World) : Prop := Tab w ∧ TabA w
theorem TabB.grown {w w' : World} (T : TabB w) (G : w.grownBy w' none) : TabB w' := ⟨T.1.grown G, T.2.grown G⟩
theorem load_one {P : Program} {t : TypeId} {w : World} {g : Nat} {v : Value} (A : VAt w g t #[v]) (ha : (isAgg t).run P w = .ok false w) : (loadVar t ⟨g, 0, none⟩).run P w = .ok v w := by
 have hc : w.cell? ⟨g, 0, none⟩ = some v := A.cell 0
 simp [loadVar, Sem.run_bind, ha, go_sem, hc]
theorem ret_four {fn : Func} {p q r s : Tmp} (h : fn.results = #[.cell p 31, .cell q 24, .cell r 3, .cell s 33]) (tmps : Array Value) (w : World) (R : Nat) (a b d e : Value) (H : Res w R a b d e)
  (hp : tmps.getD p undef = .pointer (some ⟨R, 0, none⟩)) (hq : tmps.getD q undef = .pointer (some ⟨R + 1, 0, none⟩)) (hr : tmps.getD r undef = .pointer (some ⟨R + 2, 0, none⟩)) (hs : tmps.getD s undef = .pointer (some ⟨R + 3, 0, none⟩)) : (results fn tmps).run Tryz.prog w = .ok (.tuple #[a, b, d, e]) w := by
 have hp' : tmps[p]?.getD undef = .pointer (some ⟨R, 0, none⟩) := by simpa using hp
 have hq' : tmps[q]?.getD undef = .pointer (some ⟨R + 1, 0, none⟩) := by simpa using hq
 have hr' : tmps[r]?.getD undef = .pointer (some ⟨R + 2, 0, none⟩) := by simpa using hr
 have hs' : tmps[s]?.getD undef = .pointer (some ⟨R + 3, 0, none⟩) := by simpa using hs
 have h1 := load_one (P := Tryz.prog) H.t (run_isAgg_plain Tryz.underlying31 rfl w)
 have h2 := load_one (P := Tryz.prog) H.p (run_isAgg_plain Tryz.underlying24 rfl w)
 have h3 := load_one (P := Tryz.prog) H.n (run_isAgg_plain Tryz.underlying3 rfl w)
 have h4 := load_one (P := Tryz.prog) H.x (run_isAgg_plain Tryz.underlying33 rfl w)
 simp [results, h, hp', hq', hr', hs', asAddr, h1, h2, h3, h4, Sem.run_bind]
theorem four_blocks (w : World) : ∀ W, ((((w.alloc (.cells #[nilV] 31)).alloc (.cells #[nilV] 24)).alloc (.cells #[.int .i64 0] 3)).alloc (.cells #[.int .i64 0] 33)) = W → Res W w.heap.size nilV nilV (.int .i64 0) (.int .i64 0) ∧ w.grownBy W none ∧ W.heap.size = w.heap.size + 4 := by
 rintro W rfl
 have k1 := World.grownBy_alloc w (.cells #[nilV] 31) none
 have k2 := World.grownBy_alloc (w.alloc (.cells #[nilV] 31)) (.cells #[nilV] 24) none
 have k3 := World.grownBy_alloc ((w.alloc (.cells #[nilV] 31)).alloc (.cells #[nilV] 24)) (.cells #[.int .i64 0] 3) none
 have k4 := World.grownBy_alloc (((w.alloc (.cells #[nilV] 31)).alloc (.cells #[nilV] 24)).alloc (.cells #[.int .i64 0] 3)) (.cells #[.int .i64 0] 33) none
 have a1 := VAt.alloc w 31 #[nilV]
 have a2 := VAt.alloc (w.alloc (.cells #[nilV] 31)) 24 #[nilV]
 have a3 := VAt.alloc ((w.alloc (.cells #[nilV] 31)).alloc (.cells #[nilV] 24)) 3 #[.int .i64 0]
 have a4 := VAt.alloc (((w.alloc (.cells #[nilV] 31)).alloc (.cells #[nilV] 24)).alloc (.cells #[.int .i64 0] 3)) 33 #[.int .i64 0]
 rw [show (w.alloc (.cells #[nilV] 31)).heap.size = w.heap.size + 1 by simp] at a2
 rw [show ((w.alloc (.cells #[nilV] 31)).alloc (.cells #[nilV] 24)).heap.size = w.heap.size + 2 by simp] at a3
 rw [show (((w.alloc (.cells #[nilV] 31)).alloc (.cells #[nilV] 24)).alloc (.cells #[.int .i64 0] 3)).heap.size = w.heap.size + 3 by simp] at a4
 exact ⟨⟨((a1.kept k2).kept k3).kept k4, (a2.kept k3).kept k4, a3.kept k4, a4⟩, grown_trans (grown_trans (grown_trans k1 k2) k3) k4, by simp⟩
theorem grown_both {w1 w2 : World} (G : w1.grownBy w2 none) (g k : Nat) (v : Value) : (w1.setCell ⟨g, k, none⟩ v).grownBy (w2.setCell ⟨g, k, none⟩ v) none := by
 have s1 : (w1.setCell ⟨g, k, none⟩ v).heap.size = w1.heap.size := by simp [World.setCell]
 have s2 : (w2.setCell ⟨g, k, none⟩ v).heap.size = w2.heap.size := by simp [World.setCell]
 refine ⟨G.os, G.tape, G.output, by rw [s1, s2]; exact G.size, fun i hi _ => ?_⟩
 rw [s1] at hi
 have hb := G.block i hi (by simp)
 by_cases e : i = g
 ·subst e
  simp only [World.setCell, Array.getElem?_modify, hb]
 ·rw [setCell_ne _ _ _ _ _ e, setCell_ne _ _ _ _ _ e, hb]
theorem parse_told (ts : List Tk) : rowF (needF 1 ts) 1 0 ts ≠ .error exP := row_told _ 1 0 ts (by omega) (Nat.le_refl _)
set_option maxHeartbeats 8000000 in
theorem pparse_any (s : ByteArray) (hs : s.size ≤ 140737488355328) (w : World) (T : TabB w) :
  Calls Tryz.prog 7 #[.string s] w fun e w' => ∃ vt vp, e = .returned (.tuple #[vt, vp, .int .i64 (prP (parseV (sl s)) : Int), .int .i64 (prE (parseV (sl s)))]) ∧ NOwns w' w.heap.size vt ((prN (parseV (sl s))).map Prod.fst) ∧ ZOwns w' w.heap.size vp ((prN (parseV (sl s))).map plc) ∧ w.grownBy w' none := by
 have HT : Hid (TabB w) := T
 obtain ⟨ans, hans⟩ : ∃ a, parseV (sl s) = a := ⟨_, rfl⟩
 have HA : Hid (thenE (lexV (sl s)) parseT = ans) := hans
 rw [hans]
 clear T hans
 have hF := four_blocks w _ rfl
 unfold nilV at hF
 have hmf : ∀ (fn : Fn) (first cap : Array Value) (w : World), (Instr.makeFunc fn first cap).run Tryz.prog w = .ok (.func fn first cap) w := fun _ _ _ _ => rfl
 go_enter_defers Tryz.func7, Tryz.ntmps7
 go_upto_region 1 with fail
 generalize (((w.alloc (.cells #[.slice none 0 0] 31)).alloc (.cells #[.slice none 0 0] 24)).alloc (.cells #[.int .i64 0] 3)).alloc (.cells #[.int .i64 0] 33) = w1 at *
 rw [show w.heap.size + 1 + 1 + 1 = w.heap.size + 3 from rfl, show w.heap.size + 1 + 1 = w.heap.size + 2 from rfl]
 obtain ⟨R, hR⟩ : ∃ R, w.heap.size = R := ⟨_, rfl⟩
 obtain ⟨H1, G1, S1⟩ := hF
 rw [hR] at H1 S1 ⊢
 have HR : Hid (w.heap.size = R ∧ w1.heap.size = R + 4) := ⟨hR, S1⟩
 clear hR S1
 have CL := lex_any s hs w1 (HT.out.1.grown G1)
 obtain ⟨lx, hlx⟩ : ∃ l, lexV (sl s) = l := ⟨_, rfl⟩
 have HGD : Hid (∀ ts, lx = .ok ts → TksG ts ∧ ts.length ≤ 65537) := fun ts hts => lexV_good (hlx.trans hts)
 have HEE : Hid (∀ x, lx = .error x → (x.2 != 0) = true) := fun x hx => lexE_err (hlx.trans hx)
 rw [hlx] at CL HA
 clear hlx
 go_wp2_with fail
 refine CL.mono ?_
 rintro e w2 ⟨v, rfl, O2, G2⟩
 have H2 := H1.keep G2
 clear CL
 have r2 : w2.cell? ⟨R + 2, 0, none⟩ = some (.int .i64 0) := H2.n.cell 0
 have r3 : w2.cell? ⟨R + 3, 0, none⟩ = some (.int .i64 0) := H2.x.cell 0
 have f2 := H2.n.free 0
 have f3 := H2.x.free 0
 cases lx with
 | error x =>
  obtain ⟨lp, le⟩ := x
  have hz : (le != 0) = true := HEE.out _ rfl
  have HA3 : Hid (ans = .error (lp, le)) := HA.out.symm
  simp only [lexP, lexE]
  have H3 : Res ((w2.setCell ⟨R + 2, 0, none⟩ (.int .i64 (lp : Int))).setCell ⟨R + 3, 0, none⟩ (.int .i64 le)) R (.slice none 0 0) (.slice none 0 0) (.int .i64 (lp : Int)) (.int .i64 le) :=
   ⟨(H2.t.setOther _ (by omega)).setOther _ (by omega), (H2.p.setOther _ (by omega)).setOther _ (by omega), (H2.n.set 0 _).setOther _ (by omega), (H2.x.setOther _ (by omega)).set 0 _⟩
  have G3 : w.grownBy ((w2.setCell ⟨R + 2, 0, none⟩ (.int .i64 (lp : Int))).setCell ⟨R + 3, 0, none⟩ (.int .i64 le)) none := grown_setCell (grown_setCell (grown_trans G1 G2) _ _ (.inr (by show _ ≤ R + 2; have := HR.out; omega))) _ _ (.inr (by show _ ≤ R + 3; have := HR.out; omega))
  go_upto_region 3 with fail
  generalize (w2.setCell ⟨R + 2, 0, none⟩ (.int .i64 (lp : Int))).setCell ⟨R + 3, 0, none⟩ (.int .i64 le) = w3 at *
  clear r2 r3 f2 f3 H1 H2 G1 G2 O2
  have q0 : w3.cell? ⟨R, 0, none⟩ = some (.slice none 0 0) := H3.t.cell 0
  have q1 : w3.cell? ⟨R + 1, 0, none⟩ = some (.slice none 0 0) := H3.p.cell 0
  have q2 : w3.cell? ⟨R + 2, 0, none⟩ = some (.int .i64 (lp : Int)) := H3.n.cell 0
  have q3 : w3.cell? ⟨R + 3, 0, none⟩ = some (.int .i64 le) := H3.x.cell 0
  have g0 := H3.t.free 0
  have g1 := H3.p.free 0
  have g2 := H3.n.free 0
  have g3 := H3.x.free 0
  obtain ⟨h4, h5⟩ := H3.set (.slice none 0 0) (.slice none 0 0) (.int .i64 (lp : Int)) (.int .i64 le)
  have HQ : Hid (_ ∧ _ ∧ w.grownBy w3 none) := ⟨h4, h5, G3⟩
  clear H3 h4 h5 G3
  refine wp_region_noPanic ?_
  go_region
  refine NoPanic.normal ?_
  go_wp2
  have G6 : w.grownBy _ none := ((GB.non (S := R4 R) HQ.out.2.2).trans HQ.out.2.1 (fun _ _ h => h)).grown (fun x hx h => by have := HR.out; have := h.1; omega)
  refine ⟨_, ret_four rfl _ _ R _ _ _ _ (HQ.out.1.keep (grown_drewN _ 1 none)) rfl rfl rfl rfl, .slice none 0 0, .slice none 0 0, ?_, ?_, ?_, grown_trans G6 (grown_drewN _ 1 none)⟩
  ·rw [HA3.out]
   rfl
  ·rw [HA3.out]
   exact World.ownsRow_nil _ _ _ _
  ·rw [HA3.out]
   exact World.ownsRow_nil _ _ _ _
 | ok toks =>
  obtain ⟨hgd, hlen⟩ := HGD.out toks rfl
  rw [thenE_ok] at HA
  simp only [lexP, lexE, lexT] at O2 ⊢
  have H3 : Res ((w2.setCell ⟨R + 2, 0, none⟩ (.int .i64 0)).setCell ⟨R + 3, 0, none⟩ (.int .i64 0)) R (.slice none 0 0) (.slice none 0 0) (.int .i64 0) (.int .i64 0) :=
   ⟨(H2.t.setOther _ (by omega)).setOther _ (by omega), (H2.p.setOther _ (by omega)).setOther _ (by omega), (H2.n.set 0 _).setOther _ (by omega), (H2.x.setOther _ (by omega)).set 0 _⟩
  have GW : ((w1.setCell ⟨R + 2, 0, none⟩ (.int .i64 0)).setCell ⟨R + 3, 0, none⟩ (.int .i64 0)).grownBy ((w2.setCell ⟨R + 2, 0, none⟩ (.int .i64 0)).setCell ⟨R + 3, 0, none⟩ (.int .i64 0)) none := grown_both (grown_both G2 _ _ _) _ _ _
  have GX : w.grownBy ((w1.setCell ⟨R + 2, 0, none⟩ (.int .i64 0)).setCell ⟨R + 3, 0, none⟩ (.int .i64 0)) none := grown_setCell (grown_setCell G1 _ _ (.inr (by show _ ≤ R + 2; have := HR.out; omega))) _ _ (.inr (by show _ ≤ R + 3; have := HR.out; omega))
  have SX : ((w1.setCell ⟨R + 2, 0, none⟩ (.int .i64 0)).setCell ⟨R + 3, 0, none⟩ (.int .i64 0)).heap.size = R + 4 := by simp [World.setCell]; exact HR.out.2
  have OX : TOwns ((w2.setCell ⟨R + 2, 0, none⟩ (.int .i64 0)).setCell ⟨R + 3, 0, none⟩ (.int .i64 0)) (R + 4) v toks := by
   have hv : ∀ k, k < R + 4 → ¬ v.ownBlock = some k := fun k hk e => by
    have := (O2.lt k e).1
    have := HR.out
    omega
   have o1 : TOwns w2 (R + 4) v toks := by rw [← HR.out.2]; exact O2
   exact own_kept (own_kept o1 (grown_set w2 (R + 2) 0 _) (hv _ (by omega))) (grown_set _ (R + 3) 0 _) (hv _ (by omega))
  clear H1 H2 G1 G2 O2
  go_upto_region 4 with fail
  generalize (w2.setCell ⟨R + 2, 0, none⟩ (.int .i64 0)).setCell ⟨R + 3, 0, none⟩ (.int .i64 0) = w3 at *
  generalize (w1.setCell ⟨R + 2, 0, none⟩ (.int .i64 0)).setCell ⟨R + 3, 0, none⟩ (.int .i64 0) = wX at *
  clear r2 r3 f2 f3
  obtain ⟨va, vl, vc, hv⟩ := own_sl OX
  subst hv
  have K4 := World.grownBy_alloc w3 (.cells #[.slice va vl vc, .int .i64 0, .int .i64 0, .slice none 0 0, .slice none 0 0] 51) none
  have A4 := VAt.alloc w3 51 #[.slice va vl vc, .int .i64 0, .int .i64 0, .slice none 0 0, .slice none 0 0]
  have H4 := H3.keep K4
  have P4 : PS ⟨wX, w3.heap.size, .slice va vl vc, toks⟩ (w3.alloc (.cells #[.slice va vl vc, .int .i64 0, .int .i64 0, .slice none 0 0, .slice none 0 0] 51)) 0 (.slice none 0 0) (.slice none 0 0) toks 0 0 [] :=
   { tab := HT.out.2.grown GX, grown := grown_trans GW K4, blk := A4, new := GW.size, toks := by show TOwns _ wX.heap.size _ _; rw [SX]; exact owns_keptNone OX K4, drop := rfl, good := hgd, len := hlen, nest_le := by omega, bud_le := by simp; exact hlen, tree := World.ownsRow_nil _ _ _ _, places := World.ownsRow_nil _ _ _ _ }
  have HG0 : Hid (w.grownBy wX none ∧ wX.heap.size = R + 4) := ⟨GX, SX⟩
  have HGD2 : Hid (w3.heap.size ≥ R + 4) := by show _ ≤ _; rw [← SX]; exact GW.size
  clear K4 A4 H3 GW GX SX OX hgd hlen HGD HEE
  go_upto_region 6 with fail
  generalize w3.alloc (.cells #[.slice va vl vc, .int .i64 0, .int .i64 0, .slice none 0 0, .slice none 0 0] 51) = w4 at *
  generalize w3.heap.size = g at *
  have CO := rows_ok (c := ⟨wX, g, .slice va vl vc, toks⟩) (needF 1 toks) 1 (by omega) (by omega) w4 0 _ _ toks 0 0 [] P4 (parse_told toks)
  unfold methN at CO
  unfold parseT at HA
  have HFT : Hid (∀ x, foot g (.slice none 0 0) (.slice none 0 0) x → R + 4 ≤ x) := fun x hx => by have := P4.ge hx; have := HG0.out.2; simp only at *; omega
  have HP4 : Hid (PS ⟨wX, g, .slice va vl vc, toks⟩ w4 0 (.slice none 0 0) (.slice none 0 0) toks 0 0 []) := P4
  have HH4 : Hid (Res w4 R (.slice none 0 0) (.slice none 0 0) (.int .i64 0) (.int .i64 0)) := H4
  clear P4 H4
  generalize rowF (needF 1 toks) 1 0 toks = rr at *
  go_wp2_with fail
  refine CO.mono ?_
  clear CO
  cases rr with
  | error er =>
   have HA3 : Hid (ans = .error er) := HA.out.symm
   rintro e w5 ⟨rfl, G5⟩
   have H5 := HH4.out.gb G5 (fun x hx => .inr (by have := HFT.out x hx; omega))
   have GZ := grown_trans HG0.out.1 (HP4.out.gb G5)
   go_wp2
   refine leaves_cons (f := 13) (args := #[.pointer (some ⟨R, 0, none⟩), .pointer (some ⟨R + 1, 0, none⟩), .pointer (some ⟨R + 2, 0, none⟩), .pointer (some ⟨R + 3, 0, none⟩)]) (by simp) (by simp [go_sem]) ?_
   refine (pcatch_pan R er _ _ _ _ _ H5).mono ?_
   rintro e u' w'' ⟨rfl, rfl, H6, G6⟩
   have G7 : w.grownBy w'' none := ((GB.non (S := R4 R) GZ).trans G6 (fun _ _ h => h)).grown (fun x hx h => by have := HR.out; have := h.1; omega)
   refine ⟨_, ret_four rfl _ _ R _ _ _ _ H6 rfl rfl rfl rfl, nilV, nilV, ?_, ?_, ?_, G7⟩
   ·rw [HA3.out]
    rfl
   ·rw [HA3.out]
    exact World.ownsRow_nil _ _ _ _
   ·rw [HA3.out]
    exact World.ownsRow_nil _ _ _ _
  | ok v =>
   obtain ⟨ms, r5⟩ := v
   rw [thenE_ok] at HA
   simp only at HA
   rintro e w5 ⟨rfl, i5, vt5, vp5, P5, G5, F5⟩
   rw [List.nil_append] at P5
   have H5 := HH4.out.gb G5 (fun x hx => .inr (by have := HFT.out x hx; omega))
   have CE := end_any P5
   have HQ5 : Hid (PS ⟨wX, g, .slice va vl vc, toks⟩ w5 i5 vt5 vp5 r5 0 0 ms) := P5
   clear G5 F5 P5 HH4 HFT HP4
   go_wp2_with fail
   refine CE.mono ?_
   rintro e w6 ⟨G6, hcase⟩
   clear CE
   have H6 := H5.keep G6
   have Q6 := HQ5.out.keep G6
   have GZ := grown_trans HG0.out.1 Q6.grown
   rcases hcase with ⟨hk, rfl⟩ | ⟨hk, rfl⟩
   ·have HA3 : Hid (ans = .ok ms) := by show ans = _; rw [← HA.out, if_pos hk]
    clear HA hk H5
    obtain ⟨ta, tl, tc, ht⟩ := own_sl Q6.tree
    obtain ⟨pa, pl, pc, hp⟩ := own_sl Q6.places
    subst ht hp
    have q3 : w6.cell? ⟨g, 3, none⟩ = some (.slice ta tl tc) := Q6.blk.cell 3
    have q4 : w6.cell? ⟨g, 4, none⟩ = some (.slice pa pl pc) := Q6.blk.cell 4
    have a0 : w6.cell? ⟨R, 0, none⟩ = some (.slice none 0 0) := H6.t.cell 0
    have a1 : w6.cell? ⟨R + 1, 0, none⟩ = some (.slice none 0 0) := H6.p.cell 0
    have a2 : w6.cell? ⟨R + 2, 0, none⟩ = some (.int .i64 0) := H6.n.cell 0
    have a3 : w6.cell? ⟨R + 3, 0, none⟩ = some (.int .i64 0) := H6.x.cell 0
    have b0 := H6.t.free 0
    have b1 := H6.p.free 0
    have b2 := H6.n.free 0
    have b3 := H6.x.free 0
    have n0 : ¬ R = g := fun e => by have := HGD2.out; omega
    have n1 : ¬ R + 1 = g := fun e => by have := HGD2.out; omega
    have n2 : ¬ R + 2 = g := fun e => by have := HGD2.out; omega
    have n3 : ¬ R + 3 = g := fun e => by have := HGD2.out; omega
    obtain ⟨h7, g7⟩ := H6.set (.slice ta tl tc) (.slice pa pl pc) (.int .i64 0) (.int .i64 0)
    have hown : ∀ k, R4 R k → k < wX.heap.size := fun k hk => by have := hk.2; have := HG0.out.2; omega
    have HQ : Hid (_ ∧ _ ∧ _ ∧ _ ∧ w.grownBy w6 none) := ⟨h7, g7, g7.owns Q6.tree (fun x hx hr => by have := (Q6.tree.lt x hx).1; have := hown x hr; simp only at *; omega), g7.owns Q6.places (fun x hx hr => by have := (Q6.places.lt x hx).1; have := hown x hr; simp only at *; omega), GZ⟩
    clear H6 Q6 GZ h7 g7 hown HQ5 G6
    go_upto_region 8 with fail
    refine wp_region_noPanic ?_
    go_region
    refine NoPanic.normal ?_
    go_wp2
    refine leaves_cons (f := 13) (args := #[.pointer (some ⟨R, 0, none⟩), .pointer (some ⟨R + 1, 0, none⟩), .pointer (some ⟨R + 2, 0, none⟩), .pointer (some ⟨R + 3, 0, none⟩)]) (by simp) (by simp [go_sem]) ?_
    refine (pcatch_idle R _ _ _ _ _ (HQ.out.1.keep (grown_drewN _ 1 none))).mono ?_
    rintro e u' w'' ⟨rfl, rfl, H8, G8⟩
    have G9 : w.grownBy w'' none := grown_trans (((GB.non (S := R4 R) HQ.out.2.2.2.2).trans HQ.out.2.1 (fun _ _ h => h)).grown (fun x hx h => by have := HR.out; have := h.1; omega)) (grown_trans (grown_drewN _ 1 none) G8)
    refine ⟨_, ret_four rfl _ _ R _ _ _ _ H8 rfl rfl rfl rfl, .slice ta tl tc, .slice pa pl pc, ?_, ?_, ?_, G9⟩
    ·rw [HA3.out]
     rfl
    ·rw [HA3.out]
     exact owns_mono (owns_keptNone HQ.out.2.2.1 (grown_trans (grown_drewN _ 1 none) G8)) (by have := HR.out; have := HG0.out.2; omega)
    ·rw [HA3.out]
     exact owns_mono (owns_keptNone HQ.out.2.2.2.1 (grown_trans (grown_drewN _ 1 none) G8)) (by have := HR.out; have := HG0.out.2; omega)
   ·have HA3 : Hid (ans = .error (stuckE r5)) := by show ans = _; rw [← HA.out, if_neg hk]; rfl
    clear HA hk H5 HQ5 Q6 G6
    go_wp2
    refine leaves_cons (f := 13) (args := #[.pointer (some ⟨R, 0, none⟩), .pointer (some ⟨R + 1, 0, none⟩), .pointer (some ⟨R + 2, 0, none⟩), .pointer (some ⟨R + 3, 0, none⟩)]) (by simp) (by simp [go_sem]) ?_
    refine (pcatch_pan R (stuckE r5) _ _ _ _ _ H6).mono ?_
    rintro e u' w'' ⟨rfl, rfl, H6, G6⟩
    have G7 : w.grownBy w'' none := ((GB.non (S := R4 R) GZ).trans G6 (fun _ _ h => h)).grown (fun x hx h => by have := HR.out; have := h.1; omega)
    refine ⟨_, ret_four rfl _ _ R _ _ _ _ H6 rfl rfl rfl rfl, nilV, nilV, ?_, ?_, ?_, G7⟩
    ·rw [HA3.out]
     rfl
    ·rw [HA3.out]
     exact World.ownsRow_nil _ _ _ _
    ·rw [HA3.out]
     exact World.ownsRow_nil _ _ _ _
def wk11 : List (Nd × Nat) := [(wordN 2, 0), (wordN 5, 11), (ndK 9, 7), (ndK 7, 3)]
theorem p11a : parseV [105, 112, 32, 97, 110, 100, 32, 110, 111, 116, 32, 117, 100, 112] = .ok wk11 := by kernel_rfl
theorem p11b : parseV [105, 112, 32, 117, 100, 112] = .error (3, 111) := by kernel_rfl
theorem NOwns.nodes {w : World} {base : Nat} {v : Value} {xs : List Nd} (h : NOwns w base v xs) (hx : 0 < xs.length) : ∃ g cap, v = .slice (some ⟨g, 0, none⟩) xs.length cap ∧ ∀ i (hi : i < xs.length), w.rangeAt g (i * 24) xs[i].cells := by
 obtain ⟨g, cap, hv, -⟩ := owns_head h hx
 obtain ⟨ao, cap', hv', C, -⟩ := cv_of_row h
 rw [hv] at hv'
 simp only [Value.slice.injEq, true_and] at hv'
 obtain ⟨rfl, rfl⟩ := hv'
 refine ⟨g, cap, hv, fun i hi => ?_⟩
 obtain ⟨b, off, e, hc⟩ := C.nodes hi
 simp only [Option.some.injEq, Addr.mk.injEq] at e
 obtain ⟨rfl, rfl, -⟩ := e
 have := hc i hi
 simpa using this
theorem wpList_load_midH {P : Program} {ops : Array Oper} {rest : List Oper} {op : Oper} {a : Act} {w : World} {Q : Exit → Act → World → Prop} (hw : Region.wanted op (yielded ops a.tmps) = true) (ty : TypeId) (x : Operand) (ho : op.op = .load ty x)
  (b o : Nat) (hx : a.eval x = .pointer (some ⟨b, o, none⟩)) (cs : List Value) (d : TypeDesc) (hc : w.rangeAt b o cs)
  (hu : P.underlying ty = some d) (hd : d.isRow = true) (hi : (P.info? ty).map (·.size) = some cs.length)
  (h : wpList P ops Q rest (a.put op.dst (.agg cs.toArray)) w) : wpList P ops Q (op :: rest) a w :=
 BigFrame.wpList_want hw fun _ hK => wp_load_mid ty x ho b o hx cs d hc hu hd hi (hK _ _ h)
set_option maxHeartbeats 2000000 in
theorem awake11_any (w : World) (T : TabB w) : Calls Tryz.prog 9 #[] w fun e w' => e = .returned (.bool true) ∧ w.grownBy w' none := by
 have C1 := pparse_any ⟨#[105, 112, 32, 97, 110, 100, 32, 110, 111, 116, 32, 117, 100, 112]⟩ (by decide) w T
 rw [show sl ⟨#[105, 112, 32, 97, 110, 100, 32, 110, 111, 116, 32, 117, 100, 112]⟩ = [105, 112, 32, 97, 110, 100, 32, 110, 111, 116, 32, 117, 100, 112] from rfl, p11a] at C1
 have HC2 : Hid (∀ W, TabB W → Calls Tryz.prog 7 #[.string ⟨#[105, 112, 32, 117, 100, 112]⟩] W fun e w' => ∃ vt vp, e = .returned (.tuple #[vt, vp, .int .i64 3, .int .i64 111]) ∧ W.grownBy w' none) := fun W TW => by
  have := pparse_any ⟨#[105, 112, 32, 117, 100, 112]⟩ (by decide) W TW
  rw [show sl ⟨#[105, 112, 32, 117, 100, 112]⟩ = [105, 112, 32, 117, 100, 112] from rfl, p11b] at this
  exact this.mono fun e w' ⟨a, b, h1, _, _, h2⟩ => ⟨a, b, h1, h2⟩
 have HT : Hid (TabB w) := T
 simp only [prP, prE, prN] at C1
 clear T
 go_enter Tryz.func9, Tryz.ntmps9
 go_wp2_with fail
 refine C1.mono ?_
 rintro e w1 ⟨vt, vp, rfl, O1, Z1, G1⟩
 have C2 := HC2.out w1 (HT.out.grown G1)
 clear C1 HC2
 go_wp2_with fail
 refine C2.mono ?_
 rintro e w2 ⟨va, vb, rfl, G2⟩
 have O2 := owns_keptNone O1 G2
 have Z2 := owns_keptNone Z1 G2
 clear C2 O1 Z1
 obtain ⟨g, cap, hv, hc⟩ := NOwns.nodes O2 (by decide)
 obtain ⟨pa, pc, hp, PC, -⟩ := cv_of_row Z2
 have R0 := hc 0 (by decide)
 have R3 := hc 3 (by decide)
 subst hv hp
 have R0' : w2.rangeAt g 0 (wordN 2).cells := R0
 have k3 : w2.cell? ⟨g, 72, none⟩ = some (.int .i64 7) := R3 0 _ rfl
 have HC : Hid (CV w2 pa ([0, 11, 7, 3].map iv)) := PC
 clear R0 R3 hc O2 Z2 PC
 have HEQ := fun W => node_eq (wordN 2) W
 rw [wordN_cells] at R0' HEQ
 rw [show ((2 : Nat) : Int) = 2 from rfl] at R0' HEQ
 rw [show (wk11.map Prod.fst).length = 4 from rfl, show (wk11.map plc).length = 4 from rfl]
 have KA := World.grownBy_alloc w2 (.cells #[.int .i64 0, .int .i64 11, .int .i64 7, .int .i64 3] 3) none
 have CSI := zsame_any pa (some ⟨w2.heap.size, 0, none⟩) pc 4 [0, 11, 7, 3] (w2.alloc (.cells #[.int .i64 0, .int .i64 11, .int .i64 7, .int .i64 3] 3)) (HC.out.keptNone KA) (cv_lit w2 _ _) (by decide)
 rw [show ([0, 11, 7, 3] : List Int).length = 4 from rfl] at CSI
 have G3 := grown_trans (grown_trans G1 G2) KA
 clear HC KA G1 G2
 go_wp2_with (refine wpList_load_midH rfl 28 (.tmp 30) rfl g 0 rfl _ _ R0' Tryz.underlying28 rfl size28 ?_)
 refine CSI.mono ?_
 rintro e w3 ⟨rfl, n, rfl⟩
 clear CSI
 go_wp2
 go_ret
 exact ⟨rfl, grown_trans G3 (grown_drewN _ _ _)⟩
theorem lit_n2 (x y : Ng) (W : World) : (Instr.buildSlice 31 2 #[(0, .agg x.cells.toArray), (1, .agg y.cells.toArray)]).run Tryz.prog W = .ok (.slice (some ⟨W.heap.size, 0, none⟩) 2 2) (W.alloc (.cells (flatG [x, y]).toArray 28)) := by kernel_rfl

open Go.ChangeShapes Go.WideShapes Go.ChangeAt Go.RowKit
theorem own : ownKnob Tryz.prog.godebug = none := by kernel_rfl

open Go.ChangeShapes Go.WideShapes Go.ChangeAt Go.RowKit
def laidL : List (String × DataW Unit) := [("math/bits.deBruijn32tab", Rows.laid_math_bits_deBruijn32tab), ("math/bits.deBruijn64tab", Rows.laid_math_bits_deBruijn64tab), ("internal/strconv.uint64pow10", Rows.laid_internal_strconv_uint64pow10), ("strconv.ErrRange", Rows.laid_strconv_ErrRange), ("strconv.ErrSyntax", Rows.laid_strconv_ErrSyntax), ("riddle/lex.signs", Rows.laid_riddle_lex_signs)]
theorem sg_global : Tryz.prog.globalNamed "riddle/lex.signs" = some 0 := by kernel_rfl
theorem sg_type : (Tryz.prog.globals[0]?).map (·.type) = some 23 := by kernel_rfl
theorem sg_cells : Tryz.prog.cellsOf 9 = 1 := by kernel_rfl
theorem es_global : Tryz.prog.globalNamed "strconv.ErrSyntax" = some 1 := by kernel_rfl
theorem es_type : (Tryz.prog.globals[1]?).map (·.type) = some 94 := by kernel_rfl
theorem er_global : Tryz.prog.globalNamed "strconv.ErrRange" = some 2 := by kernel_rfl
theorem er_type : (Tryz.prog.globals[2]?).map (·.type) = some 94 := by kernel_rfl
theorem sg_data : (Rows.laid_riddle_lex_signs : DataW Unit) = .slice (signsL.map fun l => .lit (.string l)) [] := by kernel_rfl
theorem iface_at {W : World} {n nm : String} {d : DataW Unit} {r : List (String × DataW Unit)} {g : Nat} (h : laidMet Tryz.prog ((n, .iface nm d) :: r) W) (hg : Tryz.prog.globalNamed n = some g) (ht : (Tryz.prog.globals[g]?).map (·.type) = some 94) :
  ∃ t v, W.cell? ⟨g, 0, none⟩ = some (.iface t v) := by
 obtain ⟨ps, ⟨g', t', cs, fuel, p, q, hg', ht', hv, hd, _, _⟩, _⟩ := h
 obtain rfl := Option.some.inj (hg.symm.trans hg')
 obtain rfl := Option.some.inj (ht.symm.trans ht')
 obtain ⟨l⟩ := cs
 obtain ⟨f1, u, v, hl, -, -⟩ := iface_of_trod Tryz.underlying94 hd
 simp only at hl
 subst hl
 exact ⟨u, v, by simpa using World.var?_cell hg hv 0⟩
theorem signs_at {W : World} {r : List (String × DataW Unit)} (h : laidMet Tryz.prog (("riddle/lex.signs", Rows.laid_riddle_lex_signs) :: r) W) :
  ∃ ao cap, W.cell? ⟨0, 0, none⟩ = some (.slice ao 25 cap) ∧ CV W ao (signsL.map str) := by
 obtain ⟨ps, ⟨g', t', cs, fuel, p, q, hg', ht', hv, hd, _, _⟩, _⟩ := h
 obtain rfl := Option.some.inj (sg_global.symm.trans hg')
 obtain rfl := Option.some.inj (sg_type.symm.trans ht')
 obtain ⟨l⟩ := cs
 rw [sg_data] at hd
 have hlen : signsL.length = 25 := rfl
 rcases open_strings Tryz.underlying23 Tryz.underlying9 sg_cells hd with ⟨_, hx⟩ | ⟨a, len, cap, ss, hcs, _, hl, hm, hz, hx, hcell, hsz⟩
 ·simp at hx
 ·simp only at hcs
  subst hcs
  simp only [Prod.mk.injEq, DataW.slice.injEq] at hx
  have h1 := hx.1.1
  have hll : len = 25 := by
   have := congrArg List.length h1
   have hle : len ≤ ss.length := by rw [hz]; split <;> omega
   simp [strs, hlen] at this
   omega
  subst hll
  have hle : 25 ≤ ss.length := by rw [hz]; split <;> omega
  refine ⟨some a, cap, by simpa using World.var?_cell sg_global hv 0, fun h => (by cases h), fun ad had i hi => ?_⟩
  obtain rfl := Option.some.inj had
  rw [List.length_map, hlen] at hi
  have hc := hcell i (by omega)
  rw [hc]
  have h2 := congrArg (·[i]?) h1
  simp only [strs, List.getElem?_map, List.getElem?_take] at h2
  rw [if_pos hi, List.getElem?_eq_getElem (by omega : i < ss.length), List.getElem?_eq_getElem (by rw [hlen]; exact hi)] at h2
  simp only [Option.map_some, Option.some.injEq, DataW.lit.injEq, Lit.string.injEq] at h2
  rw [List.getElem_map, List.getD_eq_getElem?_getD, List.getElem?_eq_getElem (by omega : i < ss.length), Option.getD_some, h2, str]
theorem laid_tab {W : World} (h : laidMetH Tryz.prog laidL W) (_ : W.ShapedOpen Tryz.prog) : Tab W := by
 have h1 : laidMet Tryz.prog laidL W := h
 have h2 := h1.tail.tail.tail
 have h3 := h2.tail
 have h4 := h3.tail
 exact ⟨signs_at h4, iface_at h3 es_global es_type, iface_at h2 er_global er_type⟩

noncomputable def laidWorld (os : Os) : World := World.laidAll Tryz.prog os laidL
theorem laid_met (os : Os) (args : Array Value) : laidMet Tryz.prog laidL ((laidWorld os).forCall (fun _ _ => 0) ⟨#[], args, []⟩).memory :=
 laidMet_laidAll args (by kernel_rfl) (by kernel_rfl)

open Go.ChangeShapes Go.WideShapes Go.ChangeAt Go.RowKit
theorem laid_tabB {W : World} (h : laidMetH Tryz.prog laidL W) (hsh : W.ShapedOpen Tryz.prog) : TabB W :=
 ⟨laid_tab h hsh, cell_of_shapedOpen_int (zero := #[.int .i64 0]) (t := 3) hsh (of_decide_eq_true (by kernel_rfl)) (by kernel_rfl) rfl (by kernel_rfl) (by kernel_rfl) Tryz.underlying3⟩

end Go.Proofs.YtghbbephhoniaaaGreatDoor
