import Derived.Test.YtlfmddjppejmaaaGreatDoorqPsP
import Derived.Defers
import Derived.Recover
import Derived.Test.YtlfmddjppejmaaaGreatDoorqLotQ11
import Derived.Test.YtlfmddjppejmaaaGreatDoorqRfU
import Derived.Test.YtlfmddjppejmaaaGreatDoorqLotQ30
import Derived.Test.YtlfmddjppejmaaaGreatDoorqLotQ28
import Derived.Test.YtlfmddjppejmaaaGreatDoorqLotQ7
set_option maxHeartbeats 64000000
set_option maxRecDepth 100000
namespace Go.Proofs.YtlfmddjppejmaaaGreatDoor
open Go.RowKit
def B5 : Value := .slice none 0 0
structure Res (w : World) (R : Nat) (a b d e : Value) : Prop where
 t : VAt w R 22 #[a]
 p : VAt w (R + 1) 23 #[b]
 n : VAt w (R + 2) 3 #[d]
 x : VAt w (R + 3) 24 #[e]
theorem Res.keep {w w' : World} {R : Nat} {a b d e : Value} (h : Res w R a b d e) (G : w.grownBy w' none) : Res w' R a b d e := ⟨h.t.kept G, h.p.kept G, h.n.kept G, h.x.kept G⟩
theorem Res.gb {w w' : World} {R : Nat} {a b d e : Value} {S : Nat → Prop} (h : Res w R a b d e) (G : GB w w' S) (hS : ∀ x, S x → x < R ∨ R + 3 < x) : Res w' R a b d e :=
 ⟨G.vat h.t (fun e => by have := hS _ e; omega), G.vat h.p (fun e => by have := hS _ e; omega), G.vat h.n (fun e => by have := hS _ e; omega), G.vat h.x (fun e => by have := hS _ e; omega)⟩
def R4 (R x : Nat) : Prop := R ≤ x ∧ x ≤ R + 3
theorem Res.set {w : World} {R : Nat} {a b d e : Value} (h : Res w R a b d e) (a' b' d' e' : Value) :
  Res ((((w.setCell ⟨R, 0, none⟩ a').setCell ⟨R + 1, 0, none⟩ b').setCell ⟨R + 2, 0, none⟩ d').setCell ⟨R + 3, 0, none⟩ e') R a' b' d' e' ∧ GB w ((((w.setCell ⟨R, 0, none⟩ a').setCell ⟨R + 1, 0, none⟩ b').setCell ⟨R + 2, 0, none⟩ d').setCell ⟨R + 3, 0, none⟩ e') (R4 R) := by
 have t1 := h.t.set 0 a'
 have p2 := (h.p.setOther (k := R) (i := 0) a' (by omega)).set 0 b'
 have t2 := t1.setOther (k := R + 1) (i := 0) b' (by omega)
 have n3 := ((h.n.setOther (k := R) (i := 0) a' (by omega)).setOther (k := R + 1) (i := 0) b' (by omega)).set 0 d'
 have x4 := (((h.x.setOther (k := R) (i := 0) a' (by omega)).setOther (k := R + 1) (i := 0) b' (by omega)).setOther (k := R + 2) (i := 0) d' (by omega)).set 0 e'
 refine ⟨⟨(t2.setOther d' (by omega)).setOther e' (by omega), (p2.setOther d' (by omega)).setOther e' (by omega), n3.setOther e' (by omega), x4⟩, ?_⟩
 have g : ∀ (W : World) (k : Nat) (v : Value), R ≤ k → k ≤ R + 3 → GB W (W.setCell ⟨k, 0, none⟩ v) (R4 R) := fun W k v h1 h2 => GB.of (D3 W k 0 v) (fun x hx => by cases hx; exact ⟨h1, h2⟩)
 exact ((((g w R a' (by omega) (by omega)).trans (g _ (R + 1) b' (by omega) (by omega)) (fun _ _ h => h)).trans (g _ (R + 2) d' (by omega) (by omega)) (fun _ _ h => h)).trans (g _ (R + 3) e' (by omega) (by omega)) (fun _ _ h => h))
theorem a4V (R : Nat) (er : Er) (a b d e0 : Value) (w : World) (h : Res w R a b d e0) :
  CallsD Tryz.prog 16 #[.pointer (some ⟨R, 0, none⟩), .pointer (some ⟨R + 1, 0, none⟩), .pointer (some ⟨R + 2, 0, none⟩), .pointer (some ⟨R + 3, 0, none⟩)] (.panicking (M5 er)) w fun e u' w' =>
   e = .returned (.tuple #[]) ∧ u' = .panicking [{ v := .iface 46 (.agg #[.int .i64 (er.1 : Int), .int .i64 er.2]), recovered := true }] ∧ Res w' R B5 B5 (.int .i64 (er.1 : Int)) (.int .i64 er.2) ∧ GB w w' (R4 R) := by
 obtain ⟨ep, ex⟩ := er
 have hta : ∀ W : World, (Instr.typeAssert (.iface 46 (.agg #[.int .i64 (ep : Int), .int .i64 ex])) 20 46 true).run Tryz.prog W = .ok (.tuple #[.agg #[.int .i64 (ep : Int), .int .i64 ex], .bool true]) W := fun W => by kernel_rfl
 refine callsD_of_wpS Tryz.func16 rfl fun c₀ cs hu => ?_
 unfold M5 at hu
 apply wpS_seq
 apply wpS_region
 simp [wpOpsS, go_sem, recoverD, hu, hta, Tryz.ntmps16, Exit.thenS]
 refine wpS_of_wp ?_
 have K1 := World.grownBy_alloc w (.cells #[.int .i64 (ep : Int), .int .i64 ex] 46) none
 have B1 := VAt.alloc w 46 #[.int .i64 (ep : Int), .int .i64 ex]
 have H1 := h.keep K1
 have HL : Hid (R + 3 < w.heap.size) := h.x.lt
 clear hta h
 obtain ⟨T, hT⟩ : ∃ T, Tryz.f16 = T := ⟨_, rfl⟩
 have HT : Hid (T.results = #[]) := by show T.results = #[]; rw [← hT]; rfl
 rw [hT]
 clear hT
 have eT : (#[.pointer (some ⟨R, 0, none⟩), .pointer (some ⟨R + 1, 0, none⟩), .pointer (some ⟨R + 2, 0, none⟩), .pointer (some ⟨R + 3, 0, none⟩)] ++ (((((((Array.replicate 12 undef).setIfInBounds 3 (.iface 46 (.agg #[.int .i64 (ep : Int), .int .i64 ex]))).setIfInBounds 4 (.tuple #[.agg #[.int .i64 (ep : Int), .int .i64 ex], .bool true])).setIfInBounds 2 (.tuple #[.agg #[.int .i64 (ep : Int), .int .i64 ex], .bool true])).setIfInBounds 5 (.agg #[.int .i64 (ep : Int), .int .i64 ex])).setIfInBounds 6 (.bool true)).setIfInBounds 0 (.pointer (some ⟨w.heap.size, 0, none⟩))).setIfInBounds 1 (.bool true) : Array Value) =
  #[.pointer (some ⟨R, 0, none⟩), .pointer (some ⟨R + 1, 0, none⟩), .pointer (some ⟨R + 2, 0, none⟩), .pointer (some ⟨R + 3, 0, none⟩), .pointer (some ⟨w.heap.size, 0, none⟩), .bool true, .tuple #[.agg #[.int .i64 (ep : Int), .int .i64 ex], .bool true], .iface 46 (.agg #[.int .i64 (ep : Int), .int .i64 ex]), .tuple #[.agg #[.int .i64 (ep : Int), .int .i64 ex], .bool true], .agg #[.int .i64 (ep : Int), .int .i64 ex], .bool true, undef, undef, undef, undef, undef] := by kernel_rfl
 rw [eT]
 clear eT
 generalize w.alloc (.cells #[.int .i64 (ep : Int), .int .i64 ex] 46) = w1 at *
 generalize w.heap.size = V at *
 have b0 : w1.cell? ⟨V, 0, none⟩ = some (.int .i64 (ep : Int)) := B1.cell 0
 have b1 : w1.cell? ⟨V, 1, none⟩ = some (.int .i64 ex) := B1.cell 1
 have r0 : w1.cell? ⟨R, 0, none⟩ = some a := H1.t.cell 0
 have r1 : w1.cell? ⟨R + 1, 0, none⟩ = some b := H1.p.cell 0
 have r2 : w1.cell? ⟨R + 2, 0, none⟩ = some d := H1.n.cell 0
 have r3 : w1.cell? ⟨R + 3, 0, none⟩ = some e0 := H1.x.cell 0
 have f0 := H1.t.free 0
 have f1 := H1.p.free 0
 have f2 := H1.n.free 0
 have f3 := H1.x.free 0
 have HQ : Hid (Res w1 R a b d e0 ∧ w.grownBy w1 none) := ⟨H1, K1⟩
 have n0 : ¬ R = V := fun e => by have := HL.out; omega
 have n1 : ¬ R + 1 = V := fun e => by have := HL.out; omega
 have n2 : ¬ R + 2 = V := fun e => by have := HL.out; omega
 have n3 : ¬ R + 3 = V := fun e => by have := HL.out; omega
 clear K1 B1 H1
 go_wp2
 go_region
 go_wp2
 obtain ⟨h1, h2⟩ := HQ.out.1.set B5 B5 (.int .i64 (ep : Int)) (.int .i64 ex)
 exact ⟨rfl, _, rfl, _, results_none HT.out _ _ _, rfl, rfl, h1.keep (f8 _ 1 none), ((GB.non HQ.out.2).trans h2 (fun _ _ h => h)).trans (GB.non (S := R4 R) (f8 _ 1 none)) (fun _ _ h => h)⟩
theorem a8U (R : Nat) (a b d e0 : Value) (w : World) (h : Res w R a b d e0) :
  CallsD Tryz.prog 16 #[.pointer (some ⟨R, 0, none⟩), .pointer (some ⟨R + 1, 0, none⟩), .pointer (some ⟨R + 2, 0, none⟩), .pointer (some ⟨R + 3, 0, none⟩)] .returning w fun e u' w' => e = .returned (.tuple #[]) ∧ u' = .returning ∧ Res w' R a b d e0 ∧ w.grownBy w' none := by
 have hta : ∀ W : World, (Instr.typeAssert .nilIface 20 46 true).run Tryz.prog W = .ok (.tuple #[.agg #[.int .i64 0, .int .i64 0], .bool false]) W := fun W => by kernel_rfl
 refine callsD_of_wpS Tryz.func16 rfl fun c₀ cs hu => ?_
 apply wpS_seq
 apply wpS_region
 simp [wpOpsS, go_sem, recoverD, hu, hta, Tryz.ntmps16, Exit.thenS]
 refine wpS_of_wp ?_
 have K1 := World.grownBy_alloc w (.cells #[.int .i64 0, .int .i64 0] 46) none
 have HQ : Hid (Res (w.alloc (.cells #[.int .i64 0, .int .i64 0] 46)) R a b d e0 ∧ w.grownBy (w.alloc (.cells #[.int .i64 0, .int .i64 0] 46)) none) := ⟨h.keep K1, K1⟩
 clear hta h K1
 obtain ⟨T, hT⟩ : ∃ T, Tryz.f16 = T := ⟨_, rfl⟩
 have HT : Hid (T.results = #[]) := by show T.results = #[]; rw [← hT]; rfl
 rw [hT]
 clear hT
 have eT : (#[.pointer (some ⟨R, 0, none⟩), .pointer (some ⟨R + 1, 0, none⟩), .pointer (some ⟨R + 2, 0, none⟩), .pointer (some ⟨R + 3, 0, none⟩)] ++ (((((((Array.replicate 12 undef).setIfInBounds 3 .nilIface).setIfInBounds 4 (.tuple #[.agg #[.int .i64 0, .int .i64 0], .bool false])).setIfInBounds 2 (.tuple #[.agg #[.int .i64 0, .int .i64 0], .bool false])).setIfInBounds 5 (.agg #[.int .i64 0, .int .i64 0])).setIfInBounds 6 (.bool false)).setIfInBounds 0 (.pointer (some ⟨w.heap.size, 0, none⟩))).setIfInBounds 1 (.bool false) : Array Value) =
  #[.pointer (some ⟨R, 0, none⟩), .pointer (some ⟨R + 1, 0, none⟩), .pointer (some ⟨R + 2, 0, none⟩), .pointer (some ⟨R + 3, 0, none⟩), .pointer (some ⟨w.heap.size, 0, none⟩), .bool false, .tuple #[.agg #[.int .i64 0, .int .i64 0], .bool false], .nilIface, .tuple #[.agg #[.int .i64 0, .int .i64 0], .bool false], .agg #[.int .i64 0, .int .i64 0], .bool false, undef, undef, undef, undef, undef] := by kernel_rfl
 rw [eT]
 clear eT
 generalize w.alloc (.cells #[.int .i64 0, .int .i64 0] 46) = w1 at *
 generalize w.heap.size = V at *
 go_wp2
 exact ⟨rfl, _, by rw [← hu], _, results_none HT.out _ _ _, rfl, rfl, HQ.out.1, HQ.out.2⟩
def prN (r : Except Er (List (Nd × Nat))) : List (Nd × Nat) := match r with
 | .ok ns => ns
 | .error _ => []
def prP (r : Except Er (List (Nd × Nat))) : Nat := match r with
 | .ok _ => 0
 | .error e => e.1
def prE (r : Except Er (List (Nd × Nat))) : Int := match r with
 | .ok _ => 0
 | .error e => e.2
def S3 (w : World) : Prop := Tab w ∧ x5 w
theorem S3.grown {w w' : World} (T : S3 w) (G : w.grownBy w' none) : S3 w' := ⟨T.1.grown G, T.2.grown G⟩
theorem a1O {P : Program} {t : TypeId} {w : World} {g : Nat} {v : Value} (A : VAt w g t #[v]) (ha : (isAgg t).run P w = .ok false w) : (loadVar t ⟨g, 0, none⟩).run P w = .ok v w := by
 have hc : w.cell? ⟨g, 0, none⟩ = some v := A.cell 0
 simp [loadVar, Sem.run_bind, ha, go_sem, hc]
theorem a22 {fn : Func} {p q r s : Tmp} (h : fn.results = #[.cell p 22, .cell q 23, .cell r 3, .cell s 24]) (tmps : Array Value) (w : World) (R : Nat) (a b d e : Value) (H : Res w R a b d e)
  (hp : tmps.getD p undef = .pointer (some ⟨R, 0, none⟩)) (hq : tmps.getD q undef = .pointer (some ⟨R + 1, 0, none⟩)) (hr : tmps.getD r undef = .pointer (some ⟨R + 2, 0, none⟩)) (hs : tmps.getD s undef = .pointer (some ⟨R + 3, 0, none⟩)) : (results fn tmps).run Tryz.prog w = .ok (.tuple #[a, b, d, e]) w := by
 have hp' : tmps[p]?.getD undef = .pointer (some ⟨R, 0, none⟩) := by simpa using hp
 have hq' : tmps[q]?.getD undef = .pointer (some ⟨R + 1, 0, none⟩) := by simpa using hq
 have hr' : tmps[r]?.getD undef = .pointer (some ⟨R + 2, 0, none⟩) := by simpa using hr
 have hs' : tmps[s]?.getD undef = .pointer (some ⟨R + 3, 0, none⟩) := by simpa using hs
 have h1 := a1O (P := Tryz.prog) H.t (run_isAgg_plain Tryz.underlying22 rfl w)
 have h2 := a1O (P := Tryz.prog) H.p (run_isAgg_plain Tryz.underlying23 rfl w)
 have h3 := a1O (P := Tryz.prog) H.n (run_isAgg_plain Tryz.underlying3 rfl w)
 have h4 := a1O (P := Tryz.prog) H.x (run_isAgg_plain Tryz.underlying24 rfl w)
 simp [results, h, hp', hq', hr', hs', asAddr, h1, h2, h3, h4, Sem.run_bind]
theorem a73 (w : World) : ∀ W, ((((w.alloc (.cells #[B5] 22)).alloc (.cells #[B5] 23)).alloc (.cells #[.int .i64 0] 3)).alloc (.cells #[.int .i64 0] 24)) = W → Res W w.heap.size B5 B5 (.int .i64 0) (.int .i64 0) ∧ w.grownBy W none ∧ W.heap.size = w.heap.size + 4 := by
 rintro W rfl
 have k1 := World.grownBy_alloc w (.cells #[B5] 22) none
 have k2 := World.grownBy_alloc (w.alloc (.cells #[B5] 22)) (.cells #[B5] 23) none
 have k3 := World.grownBy_alloc ((w.alloc (.cells #[B5] 22)).alloc (.cells #[B5] 23)) (.cells #[.int .i64 0] 3) none
 have k4 := World.grownBy_alloc (((w.alloc (.cells #[B5] 22)).alloc (.cells #[B5] 23)).alloc (.cells #[.int .i64 0] 3)) (.cells #[.int .i64 0] 24) none
 have a1 := VAt.alloc w 22 #[B5]
 have a2 := VAt.alloc (w.alloc (.cells #[B5] 22)) 23 #[B5]
 have a3 := VAt.alloc ((w.alloc (.cells #[B5] 22)).alloc (.cells #[B5] 23)) 3 #[.int .i64 0]
 have a4 := VAt.alloc (((w.alloc (.cells #[B5] 22)).alloc (.cells #[B5] 23)).alloc (.cells #[.int .i64 0] 3)) 24 #[.int .i64 0]
 rw [show (w.alloc (.cells #[B5] 22)).heap.size = w.heap.size + 1 by simp] at a2
 rw [show ((w.alloc (.cells #[B5] 22)).alloc (.cells #[B5] 23)).heap.size = w.heap.size + 2 by simp] at a3
 rw [show (((w.alloc (.cells #[B5] 22)).alloc (.cells #[B5] 23)).alloc (.cells #[.int .i64 0] 3)).heap.size = w.heap.size + 3 by simp] at a4
 exact ⟨⟨((a1.kept k2).kept k3).kept k4, (a2.kept k3).kept k4, a3.kept k4, a4⟩, d5 (d5 (d5 k1 k2) k3) k4, by simp⟩
theorem a42 {w1 w2 : World} (G : w1.grownBy w2 none) (g k : Nat) (v : Value) : (w1.setCell ⟨g, k, none⟩ v).grownBy (w2.setCell ⟨g, k, none⟩ v) none := by
 have s1 : (w1.setCell ⟨g, k, none⟩ v).heap.size = w1.heap.size := by simp [World.setCell]
 have s2 : (w2.setCell ⟨g, k, none⟩ v).heap.size = w2.heap.size := by simp [World.setCell]
 refine ⟨G.os, G.tape, G.output, by rw [s1, s2]; exact G.size, fun i hi _ => ?_⟩
 rw [s1] at hi
 have hb := G.block i hi (by simp)
 by_cases e : i = g
 ·subst e
  simp only [World.setCell, Array.getElem?_modify, hb]
 ·rw [a5g _ _ _ _ _ e, a5g _ _ _ _ _ e, hb]
theorem a8x (ts : List Tk) : d7 (D4 1 ts) 1 0 ts ≠ .error exP := a34 _ 1 0 ts (by omega) (Nat.le_refl _)
theorem a2T (s : ByteArray) (hs : s.size ≤ 140737488355328) (w : World) (T : S3 w) :
  Calls Tryz.prog 5 #[.string s] w fun e w' => ∃ vt vp, e = .returned (.tuple #[vt, vp, .int .i64 (prP (J1 (sl s)) : Int), .int .i64 (prE (J1 (sl s)))]) ∧ S2 w' w.heap.size vt ((prN (J1 (sl s))).map Prod.fst) ∧ U6 w' w.heap.size vp ((prN (J1 (sl s))).map plc) ∧ w.grownBy w' none := by
 have HT : Hid (S3 w) := T
 obtain ⟨ans, hans⟩ : ∃ a, J1 (sl s) = a := ⟨_, rfl⟩
 have HA : Hid (d8 (E4 (sl s)) V7 = ans) := hans
 rw [hans]
 clear T hans
 have hF := a73 w _ rfl
 unfold B5 at hF
 have hmf : ∀ (fn : Fn) (first cap : Array Value) (w : World), (Instr.makeFunc fn first cap).run Tryz.prog w = .ok (.func fn first cap) w := fun _ _ _ _ => rfl
 go_enter_defers Tryz.func5, Tryz.ntmps5
 go_upto_region 1 with fail
 generalize (((w.alloc (.cells #[.slice none 0 0] 22)).alloc (.cells #[.slice none 0 0] 23)).alloc (.cells #[.int .i64 0] 3)).alloc (.cells #[.int .i64 0] 24) = w1 at *
 rw [show w.heap.size + 1 + 1 + 1 = w.heap.size + 3 from rfl, show w.heap.size + 1 + 1 = w.heap.size + 2 from rfl]
 obtain ⟨R, hR⟩ : ∃ R, w.heap.size = R := ⟨_, rfl⟩
 obtain ⟨H1, G1, S1⟩ := hF
 rw [hR] at H1 S1 ⊢
 have HR : Hid (w.heap.size = R ∧ w1.heap.size = R + 4) := ⟨hR, S1⟩
 clear hR S1
 have CL := a7C s hs w1 (HT.out.1.grown G1)
 obtain ⟨lx, hlx⟩ : ∃ l, E4 (sl s) = l := ⟨_, rfl⟩
 have HGD : Hid (∀ ts, lx = .ok ts → I0 ts ∧ ts.length ≤ 65537) := fun ts hts => a4j (hlx.trans hts)
 have HEE : Hid (∀ x, lx = .error x → (x.2 != 0) = true) := fun x hx => a4i (hlx.trans hx)
 rw [hlx] at CL HA
 clear hlx
 go_wp2_with fail
 refine CL.mono ?_
 rintro e w2 ⟨v, rfl, O2, G2⟩
 have H2 := H1.keep G2
 clear CL
 have r2 : w2.cell? ⟨R + 2, 0, none⟩ = some (.int .i64 0) := H2.n.cell 0
 have r3 : w2.cell? ⟨R + 3, 0, none⟩ = some (.int .i64 0) := H2.x.cell 0
 have f2 := H2.n.free 0
 have f3 := H2.x.free 0
 cases lx with
 | error x =>
  obtain ⟨lp, le⟩ := x
  have hz : (le != 0) = true := HEE.out _ rfl
  have HA3 : Hid (ans = .error (lp, le)) := HA.out.symm
  simp only [a0F, a0E]
  have H3 : Res ((w2.setCell ⟨R + 2, 0, none⟩ (.int .i64 (lp : Int))).setCell ⟨R + 3, 0, none⟩ (.int .i64 le)) R (.slice none 0 0) (.slice none 0 0) (.int .i64 (lp : Int)) (.int .i64 le) :=
   ⟨(H2.t.setOther _ (by omega)).setOther _ (by omega), (H2.p.setOther _ (by omega)).setOther _ (by omega), (H2.n.set 0 _).setOther _ (by omega), (H2.x.setOther _ (by omega)).set 0 _⟩
  have G3 : w.grownBy ((w2.setCell ⟨R + 2, 0, none⟩ (.int .i64 (lp : Int))).setCell ⟨R + 3, 0, none⟩ (.int .i64 le)) none := L5 (L5 (d5 G1 G2) _ _ (.inr (by show _ ≤ R + 2; have := HR.out; omega))) _ _ (.inr (by show _ ≤ R + 3; have := HR.out; omega))
  go_upto_region 3 with fail
  generalize (w2.setCell ⟨R + 2, 0, none⟩ (.int .i64 (lp : Int))).setCell ⟨R + 3, 0, none⟩ (.int .i64 le) = w3 at *
  clear r2 r3 f2 f3 H1 H2 G1 G2 O2
  have q0 : w3.cell? ⟨R, 0, none⟩ = some (.slice none 0 0) := H3.t.cell 0
  have q1 : w3.cell? ⟨R + 1, 0, none⟩ = some (.slice none 0 0) := H3.p.cell 0
  have q2 : w3.cell? ⟨R + 2, 0, none⟩ = some (.int .i64 (lp : Int)) := H3.n.cell 0
  have q3 : w3.cell? ⟨R + 3, 0, none⟩ = some (.int .i64 le) := H3.x.cell 0
  have g0 := H3.t.free 0
  have g1 := H3.p.free 0
  have g2 := H3.n.free 0
  have g3 := H3.x.free 0
  obtain ⟨h4, h5⟩ := H3.set (.slice none 0 0) (.slice none 0 0) (.int .i64 (lp : Int)) (.int .i64 le)
  have HQ : Hid (_ ∧ _ ∧ w.grownBy w3 none) := ⟨h4, h5, G3⟩
  clear H3 h4 h5 G3
  refine wp_region_noPanic ?_
  go_region
  refine NoPanic.normal ?_
  go_wp2
  have G6 : w.grownBy _ none := ((GB.non (S := R4 R) HQ.out.2.2).trans HQ.out.2.1 (fun _ _ h => h)).grown (fun x hx h => by have := HR.out; have := h.1; omega)
  refine ⟨_, a22 rfl _ _ R _ _ _ _ (HQ.out.1.keep (f8 _ 1 none)) rfl rfl rfl rfl, .slice none 0 0, .slice none 0 0, ?_, ?_, ?_, d5 G6 (f8 _ 1 none)⟩
  ·rw [HA3.out]
   rfl
  ·rw [HA3.out]
   exact World.ownsRow_nil _ _ _ _
  ·rw [HA3.out]
   exact World.ownsRow_nil _ _ _ _
 | ok toks =>
  obtain ⟨hgd, hlen⟩ := HGD.out toks rfl
  rw [q9] at HA
  simp only [a0F, a0E, a1N] at O2 ⊢
  have H3 : Res ((w2.setCell ⟨R + 2, 0, none⟩ (.int .i64 0)).setCell ⟨R + 3, 0, none⟩ (.int .i64 0)) R (.slice none 0 0) (.slice none 0 0) (.int .i64 0) (.int .i64 0) :=
   ⟨(H2.t.setOther _ (by omega)).setOther _ (by omega), (H2.p.setOther _ (by omega)).setOther _ (by omega), (H2.n.set 0 _).setOther _ (by omega), (H2.x.setOther _ (by omega)).set 0 _⟩
  have GW : ((w1.setCell ⟨R + 2, 0, none⟩ (.int .i64 0)).setCell ⟨R + 3, 0, none⟩ (.int .i64 0)).grownBy ((w2.setCell ⟨R + 2, 0, none⟩ (.int .i64 0)).setCell ⟨R + 3, 0, none⟩ (.int .i64 0)) none := a42 (a42 G2 _ _ _) _ _ _
  have GX : w.grownBy ((w1.setCell ⟨R + 2, 0, none⟩ (.int .i64 0)).setCell ⟨R + 3, 0, none⟩ (.int .i64 0)) none := L5 (L5 G1 _ _ (.inr (by show _ ≤ R + 2; have := HR.out; omega))) _ _ (.inr (by show _ ≤ R + 3; have := HR.out; omega))
  have SX : ((w1.setCell ⟨R + 2, 0, none⟩ (.int .i64 0)).setCell ⟨R + 3, 0, none⟩ (.int .i64 0)).heap.size = R + 4 := by simp [World.setCell]; exact HR.out.2
  have OX : D9 ((w2.setCell ⟨R + 2, 0, none⟩ (.int .i64 0)).setCell ⟨R + 3, 0, none⟩ (.int .i64 0)) (R + 4) v toks := by
   have hv : ∀ k, k < R + 4 → ¬ v.ownBlock = some k := fun k hk e => by
    have := (O2.lt k e).1
    have := HR.out
    omega
   have o1 : D9 w2 (R + 4) v toks := by rw [← HR.out.2]; exact O2
   exact H9 (H9 o1 (D3 w2 (R + 2) 0 _) (hv _ (by omega))) (D3 _ (R + 3) 0 _) (hv _ (by omega))
  clear H1 H2 G1 G2 O2
  go_upto_region 4 with fail
  generalize (w2.setCell ⟨R + 2, 0, none⟩ (.int .i64 0)).setCell ⟨R + 3, 0, none⟩ (.int .i64 0) = w3 at *
  generalize (w1.setCell ⟨R + 2, 0, none⟩ (.int .i64 0)).setCell ⟨R + 3, 0, none⟩ (.int .i64 0) = wX at *
  clear r2 r3 f2 f3
  obtain ⟨va, vl, vc, hv⟩ := S0 OX
  subst hv
  have K4 := World.grownBy_alloc w3 (.cells #[.slice va vl vc, .int .i64 0, .int .i64 0, .slice none 0 0, .slice none 0 0] 51) none
  have A4 := VAt.alloc w3 51 #[.slice va vl vc, .int .i64 0, .int .i64 0, .slice none 0 0, .slice none 0 0]
  have H4 := H3.keep K4
  have P4 : PS ⟨wX, w3.heap.size, .slice va vl vc, toks⟩ (w3.alloc (.cells #[.slice va vl vc, .int .i64 0, .int .i64 0, .slice none 0 0, .slice none 0 0] 51)) 0 (.slice none 0 0) (.slice none 0 0) toks 0 0 [] :=
   { tab := HT.out.2.grown GX, grown := d5 GW K4, blk := A4, new := GW.size, toks := by show D9 _ wX.heap.size _ _; rw [SX]; exact y8 OX K4, drop := rfl, good := hgd, len := hlen, nest_le := by omega, bud_le := by simp; exact hlen, tree := World.ownsRow_nil _ _ _ _, places := World.ownsRow_nil _ _ _ _ }
  have HG0 : Hid (w.grownBy wX none ∧ wX.heap.size = R + 4) := ⟨GX, SX⟩
  have HGD2 : Hid (w3.heap.size ≥ R + 4) := by show _ ≤ _; rw [← SX]; exact GW.size
  clear K4 A4 H3 GW GX SX OX hgd hlen HGD HEE
  go_upto_region 6 with fail
  generalize w3.alloc (.cells #[.slice va vl vc, .int .i64 0, .int .i64 0, .slice none 0 0, .slice none 0 0] 51) = w4 at *
  generalize w3.heap.size = g at *
  have CO := a5d (c := ⟨wX, g, .slice va vl vc, toks⟩) (D4 1 toks) 1 (by omega) (by omega) w4 0 _ _ toks 0 0 [] P4 (a8x toks)
  unfold a4v at CO
  unfold V7 at HA
  have HFT : Hid (∀ x, d3 g (.slice none 0 0) (.slice none 0 0) x → R + 4 ≤ x) := fun x hx => by have := P4.ge hx; have := HG0.out.2; simp only at *; omega
  have HP4 : Hid (PS ⟨wX, g, .slice va vl vc, toks⟩ w4 0 (.slice none 0 0) (.slice none 0 0) toks 0 0 []) := P4
  have HH4 : Hid (Res w4 R (.slice none 0 0) (.slice none 0 0) (.int .i64 0) (.int .i64 0)) := H4
  clear P4 H4
  generalize d7 (D4 1 toks) 1 0 toks = rr at *
  go_wp2_with fail
  refine CO.mono ?_
  clear CO
  cases rr with
  | error er =>
   have HA3 : Hid (ans = .error er) := HA.out.symm
   rintro e w5 ⟨rfl, G5⟩
   have H5 := HH4.out.gb G5 (fun x hx => .inr (by have := HFT.out x hx; omega))
   have GZ := d5 HG0.out.1 (HP4.out.gb G5)
   go_wp2
   refine leaves_cons (f := 16) (args := #[.pointer (some ⟨R, 0, none⟩), .pointer (some ⟨R + 1, 0, none⟩), .pointer (some ⟨R + 2, 0, none⟩), .pointer (some ⟨R + 3, 0, none⟩)]) (by simp) (by simp [go_sem]) ?_
   refine (a4V R er _ _ _ _ _ H5).mono ?_
   rintro e u' w'' ⟨rfl, rfl, H6, G6⟩
   have G7 : w.grownBy w'' none := ((GB.non (S := R4 R) GZ).trans G6 (fun _ _ h => h)).grown (fun x hx h => by have := HR.out; have := h.1; omega)
   refine ⟨_, a22 rfl _ _ R _ _ _ _ H6 rfl rfl rfl rfl, B5, B5, ?_, ?_, ?_, G7⟩
   ·rw [HA3.out]
    rfl
   ·rw [HA3.out]
    exact World.ownsRow_nil _ _ _ _
   ·rw [HA3.out]
    exact World.ownsRow_nil _ _ _ _
  | ok v =>
   obtain ⟨ms, r5⟩ := v
   rw [q9] at HA
   simp only at HA
   rintro e w5 ⟨rfl, i5, vt5, vp5, P5, G5, F5⟩
   rw [List.nil_append] at P5
   have H5 := HH4.out.gb G5 (fun x hx => .inr (by have := HFT.out x hx; omega))
   have CE := a6N P5
   have HQ5 : Hid (PS ⟨wX, g, .slice va vl vc, toks⟩ w5 i5 vt5 vp5 r5 0 0 ms) := P5
   clear G5 F5 P5 HH4 HFT HP4
   go_wp2_with fail
   refine CE.mono ?_
   rintro e w6 ⟨G6, hcase⟩
   clear CE
   have H6 := H5.keep G6
   have Q6 := HQ5.out.keep G6
   have GZ := d5 HG0.out.1 Q6.grown
   rcases hcase with ⟨hk, rfl⟩ | ⟨hk, rfl⟩
   ·have HA3 : Hid (ans = .ok ms) := by show ans = _; rw [← HA.out, if_pos hk]
    clear HA hk H5
    obtain ⟨ta, tl, tc, ht⟩ := S0 Q6.tree
    obtain ⟨pa, pl, pc, hp⟩ := S0 Q6.places
    subst ht hp
    have q3 : w6.cell? ⟨g, 3, none⟩ = some (.slice ta tl tc) := Q6.blk.cell 3
    have q4 : w6.cell? ⟨g, 4, none⟩ = some (.slice pa pl pc) := Q6.blk.cell 4
    have a0 : w6.cell? ⟨R, 0, none⟩ = some (.slice none 0 0) := H6.t.cell 0
    have a1 : w6.cell? ⟨R + 1, 0, none⟩ = some (.slice none 0 0) := H6.p.cell 0
    have a2 : w6.cell? ⟨R + 2, 0, none⟩ = some (.int .i64 0) := H6.n.cell 0
    have a3 : w6.cell? ⟨R + 3, 0, none⟩ = some (.int .i64 0) := H6.x.cell 0
    have b0 := H6.t.free 0
    have b1 := H6.p.free 0
    have b2 := H6.n.free 0
    have b3 := H6.x.free 0
    have n0 : ¬ R = g := fun e => by have := HGD2.out; omega
    have n1 : ¬ R + 1 = g := fun e => by have := HGD2.out; omega
    have n2 : ¬ R + 2 = g := fun e => by have := HGD2.out; omega
    have n3 : ¬ R + 3 = g := fun e => by have := HGD2.out; omega
    obtain ⟨h7, g7⟩ := H6.set (.slice ta tl tc) (.slice pa pl pc) (.int .i64 0) (.int .i64 0)
    have hown : ∀ k, R4 R k → k < wX.heap.size := fun k hk => by have := hk.2; have := HG0.out.2; omega
    have HQ : Hid (_ ∧ _ ∧ _ ∧ _ ∧ w.grownBy w6 none) := ⟨h7, g7, g7.owns Q6.tree (fun x hx hr => by have := (Q6.tree.lt x hx).1; have := hown x hr; simp only at *; omega), g7.owns Q6.places (fun x hx hr => by have := (Q6.places.lt x hx).1; have := hown x hr; simp only at *; omega), GZ⟩
    clear H6 Q6 GZ h7 g7 hown HQ5 G6
    go_upto_region 8 with fail
    refine wp_region_noPanic ?_
    go_region
    refine NoPanic.normal ?_
    go_wp2
    refine leaves_cons (f := 16) (args := #[.pointer (some ⟨R, 0, none⟩), .pointer (some ⟨R + 1, 0, none⟩), .pointer (some ⟨R + 2, 0, none⟩), .pointer (some ⟨R + 3, 0, none⟩)]) (by simp) (by simp [go_sem]) ?_
    refine (a8U R _ _ _ _ _ (HQ.out.1.keep (f8 _ 1 none))).mono ?_
    rintro e u' w'' ⟨rfl, rfl, H8, G8⟩
    have G9 : w.grownBy w'' none := d5 (((GB.non (S := R4 R) HQ.out.2.2.2.2).trans HQ.out.2.1 (fun _ _ h => h)).grown (fun x hx h => by have := HR.out; have := h.1; omega)) (d5 (f8 _ 1 none) G8)
    refine ⟨_, a22 rfl _ _ R _ _ _ _ H8 rfl rfl rfl rfl, .slice ta tl tc, .slice pa pl pc, ?_, ?_, ?_, G9⟩
    ·rw [HA3.out]
     rfl
    ·rw [HA3.out]
     exact a2O (y8 HQ.out.2.2.1 (d5 (f8 _ 1 none) G8)) (by have := HR.out; have := HG0.out.2; omega)
    ·rw [HA3.out]
     exact a2O (y8 HQ.out.2.2.2.1 (d5 (f8 _ 1 none) G8)) (by have := HR.out; have := HG0.out.2; omega)
   ·have HA3 : Hid (ans = .error (M4 r5)) := by show ans = _; rw [← HA.out, if_neg hk]; rfl
    clear HA hk H5 HQ5 Q6 G6
    go_wp2
    refine leaves_cons (f := 16) (args := #[.pointer (some ⟨R, 0, none⟩), .pointer (some ⟨R + 1, 0, none⟩), .pointer (some ⟨R + 2, 0, none⟩), .pointer (some ⟨R + 3, 0, none⟩)]) (by simp) (by simp [go_sem]) ?_
    refine (a4V R (M4 r5) _ _ _ _ _ H6).mono ?_
    rintro e u' w'' ⟨rfl, rfl, H6, G6⟩
    have G7 : w.grownBy w'' none := ((GB.non (S := R4 R) GZ).trans G6 (fun _ _ h => h)).grown (fun x hx h => by have := HR.out; have := h.1; omega)
    refine ⟨_, a22 rfl _ _ R _ _ _ _ H6 rfl rfl rfl rfl, B5, B5, ?_, ?_, ?_, G7⟩
    ·rw [HA3.out]
     rfl
    ·rw [HA3.out]
     exact World.ownsRow_nil _ _ _ _
    ·rw [HA3.out]
     exact World.ownsRow_nil _ _ _ _
theorem a21 {fn : Func} {t u v x : Tmp} (h : fn.results = #[.tmp t, .tmp u, .tmp v, .tmp x]) (tmps : Array Value) (P : Program) (w : World) :
  (results fn tmps).run P w = .ok (.tuple #[tmps.getD t undef, tmps.getD u undef, tmps.getD v undef, tmps.getD x undef]) w := by
 simp [results, h]
theorem a9V (c : PC) (f : Nat) : a17 c f := a5e (ae9 c) (a6o c) f
theorem ah7 {ts : List Tk} (h : (Rt.top ts).er = none) : V7 ts = .ok (Rt.top ts).ns := by
 cases hp : V7 ts with
 | ok ns => rw [((a28 ts).1 ns hp).2]
 | error e => rw [(a28 ts).2 e hp] at h; cases h
theorem ah6 {ts : List Tk} {x : Er} (h : (Rt.top ts).er = some x) : V7 ts = .error x := by
 cases hp : V7 ts with
 | ok ns => rw [((a28 ts).1 ns hp).1] at h; cases h
 | error e => rw [(a28 ts).2 e hp] at h; cases h; rfl
theorem a9b (s : ByteArray) (hs : s.size ≤ 140737488355328) (w : World) (T : x5 w) :
  Calls Tryz.prog 4 #[.string s] w fun e w' => ∃ vt vp, e = .returned (.tuple #[vt, vp, .int .i64 (prP (J1 (sl s)) : Int), .int .i64 (prE (J1 (sl s)))]) ∧ S2 w' w.heap.size vt ((prN (J1 (sl s))).map Prod.fst) ∧ U6 w' w.heap.size vp ((prN (J1 (sl s))).map plc) ∧ w.grownBy w' none ∧ (prN (J1 (sl s))).length ≤ 65537 := by
 have HT : Hid (x5 w) := T
 obtain ⟨ans, hans⟩ : ∃ a, J1 (sl s) = a := ⟨_, rfl⟩
 have HA : Hid (d8 (E4 (sl s)) V7 = ans) := hans
 rw [hans]
 clear T hans
 have CL := a99 s hs w
 have HF0 := fun k p x n W => (o8 k p x n W).1
 obtain ⟨lx, hlx⟩ : ∃ l, E4 (sl s) = l := ⟨_, rfl⟩
 have HGD : Hid (∀ ts, lx = .ok ts → I0 ts ∧ ts.length ≤ 65537) := fun ts hts => a4j (hlx.trans hts)
 have HEE : Hid (∀ x, lx = .error x → (x.2 != 0) = true) := fun x hx => a4i (hlx.trans hx)
 rw [hlx] at CL HA
 clear hlx
 go_enter Tryz.func4, Tryz.ntmps4
 go_wp2_with fail
 refine CL.mono ?_
 rintro e w2 ⟨v, rfl, O2, G2⟩
 clear CL
 cases lx with
 | error x =>
  obtain ⟨lp, le⟩ := x
  have hz : (le != 0) = true := HEE.out _ rfl
  have HA3 : Hid (ans = .error (lp, le)) := HA.out.symm
  have HG : Hid (w.grownBy w2 none) := G2
  simp only [a0F, a0E]
  clear O2 G2 HGD HEE HA
  go_wp2
  refine bodyPost_ret (a21 rfl _ _ _) rfl ⟨.slice none 0 0, .slice none 0 0, ?_, ?_, ?_, HG.out, by rw [HA3.out]; exact Nat.zero_le _⟩
  ·rw [HA3.out]
   rfl
  ·rw [HA3.out]
   exact World.ownsRow_nil _ _ _ _
  ·rw [HA3.out]
   exact World.ownsRow_nil _ _ _ _
 | ok toks =>
  obtain ⟨hgd, hlen⟩ := HGD.out toks rfl
  rw [q9] at HA
  simp only [a0F, a0E, a1N] at O2 ⊢
  obtain ⟨va, vl, vc, hv⟩ := S0 O2
  subst hv
  have K4 := World.grownBy_alloc w2 (.cells #[.slice va vl vc, .int .i64 0, .slice none 0 0, .slice none 0 0, .int .i64 0, .int .i64 0, .int .i64 0] 38) none
  have A4 := VAt.alloc w2 38 #[.slice va vl vc, .int .i64 0, .slice none 0 0, .slice none 0 0, .int .i64 0, .int .i64 0, .int .i64 0]
  have P4 : RS ⟨w, w2.heap.size, .slice va vl vc, toks⟩ (w2.alloc (.cells #[.slice va vl vc, .int .i64 0, .slice none 0 0, .slice none 0 0, .int .i64 0, .int .i64 0, .int .i64 0] 38)) 0 (.slice none 0 0) (.slice none 0 0) (Rt.start toks) 0 :=
   { tab := HT.out, mem := { grown := d5 G2 K4, blk := A4, new := G2.size, toks := y8 O2 K4, tree := World.ownsRow_nil _ _ _ _, places := World.ownsRow_nil _ _ _ _ }, drop := rfl, good := hgd, len := hlen, hi := by show (0 : Int) ≤ 200; decide, lo := by show (-1 : Int) ≤ 0; decide, lo0 := fun _ => Int.le_refl _, bud_le := fun _ => by show 0 + toks.length + 0 ≤ 65537; omega, erz := fun e h => by cases h }
  have HG0 : Hid (w.heap.size ≤ w2.heap.size) := G2.size
  clear K4 A4 O2 G2 HGD HEE hgd hlen
  go_upto_region 5 with fail
  generalize w2.alloc (.cells #[.slice va vl vc, .int .i64 0, .slice none 0 0, .slice none 0 0, .int .i64 0, .int .i64 0, .int .i64 0] 38) = w4 at *
  generalize w2.heap.size = g at *
  have HFT : Hid (∀ x, d3 g (.slice none 0 0) (.slice none 0 0) x → w.heap.size ≤ x) := fun x hx => P4.mem.ge hx
  have HG4 : Hid (w.grownBy w4 none) := P4.mem.grown
  have CO : d4 ⟨w, g, .slice va vl vc, toks⟩ 12 #[.pointer (some ⟨g, 0, none⟩), .int .i64 1] w4 (.slice none 0 0) (.slice none 0 0) (Rt.rows toks) 0 := a9V ⟨w, g, .slice va vl vc, toks⟩ (D4 1 toks) 1 w4 0 (.slice none 0 0) (.slice none 0 0) (Rt.start toks) 0 (by omega) (by omega) P4 (fun _ => Nat.le_refl _)
  have HTOP : Hid ((if (Rt.rows toks).er = none ∧ (Rt.rows toks).kind 0 = false then (Rt.rows toks).fail 111 else Rt.rows toks) = Rt.top toks) := rfl
  have HAT : Hid (((Rt.top toks).er = none → ans = .ok (Rt.top toks).ns) ∧ ∀ x, (Rt.top toks).er = some x → ans = .error x) := by
   refine ⟨fun h => ?_, fun x h => ?_⟩
   ·rw [← HA.out, ah7 h]
   ·rw [← HA.out, ah6 h]
  generalize Rt.top toks = tp at *
  generalize Rt.rows toks = q at *
  unfold d4 at CO
  clear P4 HA
  go_wp2_with fail
  refine CO.mono ?_
  rintro e w5 ⟨rfl, i5, vt5, vp5, P5, G5, F5⟩
  clear CO F5
  have HP5 : Hid (RS ⟨w, g, .slice va vl vc, toks⟩ w5 i5 vt5 vp5 q 0) := P5
  clear G5
  cases he : q.er with
  | some x =>
   have hn := P5.erC_ne he
   have q5 : w5.cell? ⟨g, 5, none⟩ = some (.int .i64 (erC q)) := P5.mem.blk.cell 5
   have q6 : w5.cell? ⟨g, 6, none⟩ = some (.int .i64 (erP q)) := P5.mem.blk.cell 6
   have HA3 : Hid (ans = .error x ∧ erC q = x.2 ∧ erP q = (x.1 : Int)) := by
    have h1 := HTOP.out
    rw [if_neg (by rw [he]; simp)] at h1
    exact ⟨HAT.out.2 x (by rw [← h1]; exact he), by unfold erC; rw [he], by unfold erP; rw [he]⟩
   have e0 : (erC q == 0) = false := by simp only [beq_eq_false_iff_ne]; omega
   have e1 : (erC q != 0) = true := by simp only [bne_iff_ne, ne_eq]; omega
   generalize erC q = ec at *
   generalize erP q = ep at *
   have HG5 : Hid (w.grownBy w5 none) := P5.mem.grown
   clear P5 HAT HTOP he hn HP5
   go_upto_region 9 with fail
   refine wp_region_noPanic ?_
   go_region
   refine NoPanic.normal ?_
   go_wp2
   refine bodyPost_ret (a21 rfl _ _ _) rfl ⟨.slice none 0 0, .slice none 0 0, ?_, ?_, ?_, d5 HG5.out (f8 _ 1 none), by rw [HA3.out.1]; exact Nat.zero_le _⟩
   ·rw [HA3.out.1, HA3.out.2.1, HA3.out.2.2]
    rfl
   ·rw [HA3.out.1]
    exact World.ownsRow_nil _ _ _ _
   ·rw [HA3.out.1]
    exact World.ownsRow_nil _ _ _ _
  | none =>
   have q5 : w5.cell? ⟨g, 5, none⟩ = some (.int .i64 0) := by have := P5.mem.blk.cell 5; rw [L3 he] at this; exact this
   have CN := E6 P5
   have HER : Hid (erC q = 0) := L3 he
   have HLN : Hid (q.ns.length ≤ 65537) := by have := P5.bud_le he; show q.ns.length ≤ 65537; omega
   have HFA : Hid (∀ W, w5.grownBy W none → Calls Tryz.prog 14 #[.pointer (some ⟨g, 0, none⟩), .int .i64 111] W fun e w' => e = .returned (.tuple #[]) ∧ c8 ⟨w, g, .slice va vl vc, toks⟩ W vt5 vp5 (q.fail 111) 0 w') := fun W G => M2 (P5.keep G) _ (by decide) (by decide)
   by_cases hk : q.now.kind = 0
   ·have k0 : ((q.now.kind : Int) != 0) = false := by rw [hk]; rfl
    have HA3 : Hid (ans = .ok q.ns) := by
     have hkk : q.kind 0 = true := by unfold Rt.kind; rw [he, hk]; rfl
     have h1 := HTOP.out
     rw [if_neg (by rw [hkk]; simp)] at h1
     have := HAT.out.1 (by rw [← h1]; exact he)
     rw [← h1] at this
     exact this
    generalize q.now = t at CN k0
    obtain ⟨tk, tp', tx, tn⟩ := t
    unfold tkC at CN
    simp only at CN k0
    clear HAT HTOP hk HFA P5 he
    go_wp2_with fail
    refine CN.mono ?_
    rintro e w6 ⟨rfl, G6⟩
    have P6 := HP5.out.keep G6
    clear CN q5
    obtain ⟨ta, tl, tc, ht⟩ := S0 P6.mem.tree
    obtain ⟨pa, pl, pc, hp⟩ := S0 P6.mem.places
    have q2 : w6.cell? ⟨g, 2, none⟩ = some vt5 := P6.mem.blk.cell 2
    have q3 : w6.cell? ⟨g, 3, none⟩ = some vp5 := P6.mem.blk.cell 3
    subst ht hp
    have q5 : w6.cell? ⟨g, 5, none⟩ = some (.int .i64 0) := by have := P6.mem.blk.cell 5; rw [HER.out] at this; exact this
    have HQ : Hid (S2 w6 w.heap.size (.slice ta tl tc) (q.ns.map Prod.fst) ∧ U6 w6 w.heap.size (.slice pa pl pc) (q.ns.map plc) ∧ w.grownBy w6 none) := ⟨P6.mem.tree, P6.mem.places, P6.mem.grown⟩
    clear P6 HP5 G6
    go_upto_region 10 with fail
    refine wp_region_noPanic ?_
    go_region
    refine NoPanic.normal ?_
    go_wp2
    refine bodyPost_ret (a21 rfl _ _ _) rfl ⟨.slice ta tl tc, .slice pa pl pc, ?_, ?_, ?_, d5 HQ.out.2.2 (f8 _ 1 none), by rw [HA3.out]; exact HLN.out⟩
    ·rw [HA3.out]
     rfl
    ·rw [HA3.out]
     exact y8 HQ.out.1 (f8 _ 1 none)
    ·rw [HA3.out]
     exact y8 HQ.out.2.1 (f8 _ 1 none)
   ·have k0 : ((q.now.kind : Int) != 0) = true := by simp only [bne_iff_ne, ne_eq]; omega
    have HTP : Hid (q.fail 111 = tp) := by
     have hkk : q.kind 0 = false := by unfold Rt.kind; rw [he]; simpa using hk
     have h1 := HTOP.out
     rw [if_pos ⟨he, hkk⟩] at h1
     exact h1
    generalize q.now = t at CN k0
    obtain ⟨tk, tp', tx, tn⟩ := t
    unfold tkC at CN
    simp only at CN k0
    clear HTOP hk P5 he HER
    go_wp2_with fail
    refine CN.mono ?_
    rintro e w6 ⟨rfl, G6⟩
    have CF := HFA.out w6 G6
    rw [HTP.out] at CF
    clear CN q5 HFA HP5 G6
    go_wp2_with fail
    refine CF.mono ?_
    rintro e w7 ⟨rfl, i7, vt7, vp7, P7, -, -⟩
    have hfe : tp.er ≠ none := by rw [← HTP.out]; exact a2m _ _
    cases he : tp.er with
    | none => exact absurd he hfe
    | some x =>
     have hn := P7.erC_ne he
     have q5 : w7.cell? ⟨g, 5, none⟩ = some (.int .i64 (erC tp)) := P7.mem.blk.cell 5
     have q6 : w7.cell? ⟨g, 6, none⟩ = some (.int .i64 (erP tp)) := P7.mem.blk.cell 6
     have HA3 : Hid (ans = .error x ∧ erC tp = x.2 ∧ erP tp = (x.1 : Int)) := ⟨HAT.out.2 x he, by unfold erC; rw [he], by unfold erP; rw [he]⟩
     have e1 : (erC tp != 0) = true := by simp only [bne_iff_ne, ne_eq]; omega
     have HG5 : Hid (w.grownBy w7 none) := P7.mem.grown
     clear CF P7 hfe hn HAT HTP he
     generalize erC tp = ec at *
     generalize erP tp = ep at *
     go_upto_region 9 with fail
     refine wp_region_noPanic ?_
     go_region
     refine NoPanic.normal ?_
     go_wp2
     refine bodyPost_ret (a21 rfl _ _ _) rfl ⟨.slice none 0 0, .slice none 0 0, ?_, ?_, ?_, d5 HG5.out (f8 _ 1 none), by rw [HA3.out.1]; exact Nat.zero_le _⟩
     ·rw [HA3.out.1, HA3.out.2.1, HA3.out.2.2]
      rfl
     ·rw [HA3.out.1]
      exact World.ownsRow_nil _ _ _ _
     ·rw [HA3.out.1]
      exact World.ownsRow_nil _ _ _ _

end Go.Proofs.YtlfmddjppejmaaaGreatDoor
