/-
  Package bundle as landed: what a piece's header says.
-/
import Derived.Test.YtkjofgnmjfngeaaLotBundleLost15
import Derived.Test.YtkjofgnmjfngeaaLotBundleLost16
import Derived.Shelf.Abstract
namespace Go.Proofs.Ytkjofgnmjfngeaa
open Go.RowKit
set_option maxRecDepth 100000

def stepM (i : Nat) : Nat := match i with
  | 0 => 25
  | 1 => 26
  | 2 => 27
  | _ => 28
theorem stepM_enters (i : Nat) : ∀ args w, (callFunc (stepM i) args).run Try.prog w = .ok (.enter (stepM i) args) w := by
  unfold stepM
  split
  · exact enters_of Try.func25 (by kernel_rfl) rfl
  · exact enters_of Try.func26 (by kernel_rfl) rfl
  · exact enters_of Try.func27 (by kernel_rfl) rfl
  · exact enters_of Try.func28 (by kernel_rfl) rfl
theorem bstep_any (i g : Nat) (v : Vw) (l : Lk) (a : Option Addr) (ca : Nat) (b : List UInt8) (w : World) (hi : i < 4) (h : WAt w g v l (.slice a b.length ca)) (ha : FrA w g a b) (hn : b.length ≤ 140737488355328) (hv : InvX b i v) (hl : 0 ≤ l.mp ∧ l.mp ≤ 2) :
    Calls Try.prog (stepM i) #[.pointer (some ⟨g, 0, none⟩)] w fun e w' => StepP w g l (.slice a b.length ca) (stepX l b i v) e w' := by
  have hs : i = 0 ∨ i = 1 ∨ i = 2 ∨ i = 3 := by omega
  rcases hs with rfl | rfl | rfl | rfl
  · exact length_any g v l a ca b.length w h
  · exact address_any g v l a ca b w h ha hn (by have := hv.2 (by omega); omega)
  · exact protocol_any g v l a ca b w h ha hn hv.1
  · exact header_any g v l a ca b w h ha hn hv.1 hl
def BRow (w : World) (P g : Nat) : Prop := ∀ k, k < 4 → w.cell? ⟨P, k, none⟩ = some (.func (.func (stepM k)) #[.pointer (some ⟨g, 0, none⟩)] #[])
theorem BRow.kept {w w' : World} {P g : Nat} (h : BRow w P g) (hne : P ≠ g) (G : w.grownBy w' (some g)) : BRow w' P g := fun k hk => G.cell (h k hk) (by simpa using hne)

/-- What is found of a piece. -/
def lookP (l : Lk) (b : List UInt8) : Except Int Vw := (pieceV l b).bind fun v => if v.multi = true then .ok v else .error 94
theorem piece_chain (l : Lk) (b : List UInt8) : chainX l b 4 0 Vw.zero = pieceV l b := by
  by_cases hl : 65535 < b.length
  · have e1 : pieceV l b = .error 71 := by rw [pieceV, if_pos hl]
    rw [e1, chain_err (by rw [stepX, if_pos hl])]
  · have e1 : pieceV l b = (plainV l b).bind fun p => (protoV l b p).bind fun q =>
      if l.mp = 0 ∨ q.1 ≠ 61 then .ok ⟨q.1, false, false, false, 0, q.2, 0, 0, 0⟩
      else (headV l b q.2).bind fun h => .ok ⟨q.1, true, h.1, h.2.1, h.2.2.1, h.2.2.2, 0, 0, 0⟩ := by rw [pieceV, if_neg hl]
    rw [e1, chain_ok (u := Vw.zero) (by rw [stepX, if_neg hl])]
    rcases except_cases (plainV l b) with ⟨e, hp⟩ | ⟨p, hp⟩
    · rw [bind_err hp, chain_err (i := 1) (show (plainV l b).bind _ = _ from bind_err hp)]
    · rw [bind_of hp, chain_ok (u := { Vw.zero with pos := p }) (by
        show (plainV l b).bind (fun p => Except.ok { Vw.zero with pos := Vw.zero.pos + p }) = _
        rw [bind_of hp]
        show Except.ok { Vw.zero with pos := 0 + p } = _
        rw [Nat.zero_add])]
      rcases except_cases (protoV l b p) with ⟨e, hq⟩ | ⟨q, hq⟩
      · rw [bind_err hq, chain_perr hq]
      · rw [bind_of hq, chain_pok hq]
        by_cases hm : l.mp = 0 ∨ q.1 ≠ 61
        · rw [if_pos hm, chain_h0 hm]
          rfl
        · rw [if_neg hm]
          rcases except_cases (headV l b q.2) with ⟨e, hh⟩ | ⟨h, hh⟩
          · rw [bind_err hh, chain_herr hm hh]
          · rw [bind_of hh, chain_hok hm hh]
            rfl

/-- A result row that lies in a block, and a number in a block of its own. -/
theorem bret_row_cell {P : Program} {fn : Func} {p q : Tmp} {ty te : TypeId} (h : fn.results = #[.cell p ty, .cell q te]) (tmps : Array Value) (w : World) (g e : Nat) (cs : Array Value) (d : TypeDesc) (k : IntKind) (v : Int) (hp : tmps.getD p undef = .pointer (some ⟨g, 0, none⟩)) (hq : tmps.getD q undef = .pointer (some ⟨e, 0, none⟩)) (A : VAt w g ty cs) (B : VAt w e te #[.int k v])
    (hu : P.underlying ty = some d) (hd : (match d with | .struct _ | .array _ _ => true | _ => false) = true) (hi : (P.info? ty).map (·.size) = some cs.size) (hv : P.underlying te = some (.int k)) : (results fn tmps).run P w = .ok (.tuple #[.agg cs, .int k v]) w := by
  have hp' : tmps[p]?.getD undef = .pointer (some ⟨g, 0, none⟩) := by simpa using hp
  have hq' : tmps[q]?.getD undef = .pointer (some ⟨e, 0, none⟩) := by simpa using hq
  have h1 := run_loadVar_row (P := P) w g ty ty cs (0, 0) _ A hu hd hi
  have h2 : (loadVar te ⟨e, 0, none⟩).run P w = .ok (.int k v) w := by
    have hc : w.cell? ⟨e, 0, none⟩ = some (.int k v) := B.cell 0
    have hag : (isAgg te).run P w = .ok false w := run_isAgg_plain hv rfl w
    simp [loadVar, Sem.run_bind, hag, go_sem, hc]
  simp [results, h, hp', hq', asAddr, h1, h2, Sem.run_bind]

/-- What lies beside a reader: the two results' blocks. -/
def BSides (w : World) (R E g : Nat) : Prop := VAt w R 58 (vwA Vw.zero) ∧ VAt w E 30 #[.int .i64 0] ∧ R ≠ g ∧ E ≠ g
theorem BSides.kept {w w' : World} {R E g : Nat} (h : BSides w R E g) (G : w.grownBy w' (some g)) : BSides w' R E g :=
  ⟨h.1.grown G (by simpa using h.2.2.1.symm), h.2.1.grown G (by simpa using h.2.2.2.symm), h.2.2⟩

theorem brange_view {w : World} {g : Nat} {v : Vw} {l : Lk} {s : Value} (h : WAt w g v l s) : w.rangeAt g 0 (vwA v).toList := by
  intro j u hu
  have := h.c j
  rw [Nat.zero_add, this]
  have hj : j < 9 := by
    have := (List.getElem?_eq_some_iff.1 hu).1
    simpa [vwA] using this
  have hs : j = 0 ∨ j = 1 ∨ j = 2 ∨ j = 3 ∨ j = 4 ∨ j = 5 ∨ j = 6 ∨ j = 7 ∨ j = 8 := by omega
  rcases hs with rfl | rfl | rfl | rfl | rfl | rfl | rfl | rfl | rfl <;> exact hu

theorem bexX_err {α : Type} (d : α) (e : Int) : exV d (.error e) = d ∧ exE (.error e : Except Int α) = e := ⟨rfl, rfl⟩
theorem bexX_ok {α : Type} (d a : α) : exV d (.ok a) = a ∧ exE (.ok a : Except Int α) = 0 := ⟨rfl, rfl⟩

theorem bsides_set {w w0 : World} {R E : Nat} {X : Array Value} {e0 : Int} (hR : VAt w R 58 X) (hE : VAt w E 30 #[.int .i64 e0]) (hne : R ≠ E) (Y : Array Value) (er : Int) (G : w0.grownBy w none) (h1 : w0.heap.size ≤ R) (h2 : w0.heap.size ≤ E) :
    VAt ((w.setRow R Y).setCell ⟨E, 0, none⟩ (.int .i64 er)) R 58 Y ∧ VAt ((w.setRow R Y).setCell ⟨E, 0, none⟩ (.int .i64 er)) E 30 #[.int .i64 er] ∧ w0.grownBy ((w.setRow R Y).setCell ⟨E, 0, none⟩ (.int .i64 er)) none := by
  have E1 := hE.grown (w' := w.setRow R Y) (vgrown_setRow (World.grownBy.refl w (some R)) R Y (.inl rfl)) (by simpa using hne)
  have R1 := hR.setRow Y
  have K : (w.setRow R Y).grownBy ((w.setRow R Y).setCell ⟨E, 0, none⟩ (.int .i64 er)) (some E) := grown_setCell (World.grownBy.refl _ _) _ _ (.inl rfl)
  exact ⟨R1.grown K (by simpa using hne.symm), E1.set 0 _, grown_setCell (vgrown_setRow G R Y (.inr h1)) _ _ (.inr h2)⟩

set_option maxHeartbeats 1000000 in
theorem bcatch_pan (R E : Nat) (er e0 : Int) (X : Array Value) (w : World) (hR : VAt w R 58 X) (hX : X.size = 9) (hE : VAt w E 30 #[.int .i64 e0]) (hne : R ≠ E) :
    CallsD Try.prog 23 #[.pointer (some ⟨R, 0, none⟩), .pointer (some ⟨E, 0, none⟩)] (.panicking (PanE er)) w fun e u' w' =>
      e = .returned (.tuple #[]) ∧ u' = .panicking [{ v := .iface 30 (.int .i64 er), recovered := true }] ∧ w' = (w.setRow R (vwA Vw.zero)).setCell ⟨E, 0, none⟩ (.int .i64 er) := by
  have hta : ∀ W : World, (Instr.typeAssert (.iface 30 (.int .i64 er)) 20 30 true).run Try.prog W = .ok (.tuple #[.int .i64 er, .bool true]) W := fun W => by kernel_rfl
  refine callsD_of_wpS Try.func23 rfl fun c₀ cs hu => ?_
  unfold PanE at hu
  apply wpS_seq
  apply wpS_region
  simp [wpOpsS, go_sem, recoverD, hu, hta, Try.ntmps23, Exit.thenS]
  refine wpS_of_wp ?_
  have HS : Hid ((Try.prog.info? 58).map (·.size) = some (vwA Vw.zero).size) := size58
  have HX : Hid (X.size = (vwA Vw.zero).size) := hX
  have RA := hR
  have E1 := hE.grown (w' := w.setRow R (vwA Vw.zero)) (vgrown_setRow (World.grownBy.refl w (some R)) R (vwA Vw.zero) (.inl rfl)) (by simpa using hne)
  have cE : (w.setRow R (vwA Vw.zero)).cell? ⟨E, 0, none⟩ = some (.int .i64 e0) := E1.cell 0
  have fE := E1.free 0
  clear hta hX hE E1 hR
  obtain ⟨T, hT⟩ : ∃ T, Try.f23 = T := ⟨_, rfl⟩
  have HT : Hid (T.results = #[]) := by show T.results = #[]; rw [← hT]; rfl
  rw [hT]
  clear hT
  have eT : (#[.pointer (some ⟨R, 0, none⟩), .pointer (some ⟨E, 0, none⟩)] ++ (((((((Array.replicate 10 undef).setIfInBounds 3 (.iface 30 (.int .i64 er))).setIfInBounds 4 (.tuple #[.int .i64 er, .bool true])).setIfInBounds 2 (.tuple #[.int .i64 er, .bool true])).setIfInBounds 5 (.int .i64 er)).setIfInBounds 6 (.bool true)).setIfInBounds 0 (.int .i64 er)).setIfInBounds 1 (.bool true) : Array Value) = #[.pointer (some ⟨R, 0, none⟩), .pointer (some ⟨E, 0, none⟩), .int .i64 er, .bool true, .tuple #[.int .i64 er, .bool true], .iface 30 (.int .i64 er), .tuple #[.int .i64 er, .bool true], .int .i64 er, .bool true, undef, undef, undef] := by kernel_rfl
  rw [eT]
  clear eT
  go_wp2_with (refine wpList_store_row rfl 58 (.tmp 0) (.tmp 10) rfl R (vwA Vw.zero) rfl rfl 58 X RA HS.out HX.out (vwA_all _) ?_)
  exact ⟨rfl, _, rfl, _, results_none HT.out _ _ _, rfl, rfl, rfl⟩

set_option maxHeartbeats 1000000 in
theorem bcatch_idle (R E : Nat) (w : World) :
    CallsD Try.prog 23 #[.pointer (some ⟨R, 0, none⟩), .pointer (some ⟨E, 0, none⟩)] .returning w fun e u' w' => e = .returned (.tuple #[]) ∧ u' = .returning ∧ w' = w := by
  have hta : ∀ W : World, (Instr.typeAssert .nilIface 20 30 true).run Try.prog W = .ok (.tuple #[.int .i64 0, .bool false]) W := fun W => by kernel_rfl
  refine callsD_of_wpS Try.func23 rfl fun c₀ cs hu => ?_
  apply wpS_seq
  apply wpS_region
  simp [wpOpsS, go_sem, recoverD, hu, hta, Try.ntmps23, Exit.thenS]
  refine wpS_of_wp ?_
  clear hta
  obtain ⟨T, hT⟩ : ∃ T, Try.f23 = T := ⟨_, rfl⟩
  have HT : Hid (T.results = #[]) := by show T.results = #[]; rw [← hT]; rfl
  rw [hT]
  clear hT
  have eT : (#[.pointer (some ⟨R, 0, none⟩), .pointer (some ⟨E, 0, none⟩)] ++ (((((((Array.replicate 10 undef).setIfInBounds 3 .nilIface).setIfInBounds 4 (.tuple #[.int .i64 0, .bool false])).setIfInBounds 2 (.tuple #[.int .i64 0, .bool false])).setIfInBounds 5 (.int .i64 0)).setIfInBounds 6 (.bool false)).setIfInBounds 0 (.int .i64 0)).setIfInBounds 1 (.bool false) : Array Value) = #[.pointer (some ⟨R, 0, none⟩), .pointer (some ⟨E, 0, none⟩), .int .i64 0, .bool false, .tuple #[.int .i64 0, .bool false], .nilIface, .tuple #[.int .i64 0, .bool false], .int .i64 0, .bool false, undef, undef, undef] := by kernel_rfl
  rw [eT]
  clear eT
  go_wp2
  exact ⟨rfl, _, by rw [← hu], _, results_none HT.out _ _ _, rfl, rfl, rfl⟩

set_option maxRecDepth 100000 in
set_option maxHeartbeats 4000000 in
theorem blook_any (l : Lk) (a : Option Addr) (ca : Nat) (b : List UInt8) (w : World) (hm : l.mp = 1 ∨ l.mp = 2) (ha : Cells w a b) (hn : b.length ≤ 140737488355328) :
    Calls Try.prog 18 #[.agg (lkA l), .slice a b.length ca] w fun e w' => e = .returned (.tuple #[.agg (vwA (exV Vw.zero (lookP l b))), .int .i64 (exE (lookP l b))]) ∧ w.grownBy w' none := by
  obtain ⟨LA, RA, EA, G0⟩ := three_blocks w l 26 58 30 (vwA Vw.zero) #[.int .i64 0]
  have HA : Hid (Cells w a b) := ha
  have HU : Hid (Under a b w.heap.size) := ha.under
  have HS : Hid (∀ v : Vw, (Try.prog.info? 58).map (·.size) = some (vwA v).size) := fun v => size58
  have HL : Hid ((Try.prog.info? 26).map (·.size) = some (lkA l).size) := size26
  have HD : Hid (chainX l b 4 0 Vw.zero = pieceV l b) := piece_chain l b
  have HLP : Hid (lookP l b = (pieceV l b).bind fun v => if v.multi = true then .ok v else .error 94) := rfl
  have HM : Hid (0 ≤ l.mp ∧ l.mp ≤ 2) := by show 0 ≤ l.mp ∧ l.mp ≤ 2; omega
  obtain ⟨ans, hans⟩ : ∃ ans, lookP l b = ans := ⟨_, rfl⟩
  obtain ⟨pc, hpc⟩ : ∃ pc, pieceV l b = pc := ⟨_, rfl⟩
  rw [hans, hpc] at HLP
  rw [hans]
  rw [hpc] at HD
  clear ha hans hpc hm
  go_enter_defers Try.func18, Try.ntmps18
  have hmf : ∀ (fn : Fn) (first cap : Array Value) (w : World), (Instr.makeFunc fn first cap).run Try.prog w = .ok (.func fn first cap) w := fun _ _ _ _ => rfl
  go_upto_region 2 with fail
  rw [show ((w.alloc (.cells (lkA l) 26)).alloc (.cells #[.int .u32 0, .bool false, .bool false, .bool false, .int .u32 0, .int .i64 0, .int .i64 0, .int .i64 0, .int .i64 0] 58)).alloc (.cells #[.int .i64 0] 30) = ((w.alloc (.cells (lkA l) 26)).alloc (.cells (vwA Vw.zero) 58)).alloc (.cells #[.int .i64 0] 30) from rfl]
  generalize ((w.alloc (.cells (lkA l) 26)).alloc (.cells (vwA Vw.zero) 58)).alloc (.cells #[.int .i64 0] 30) = w2 at *
  obtain ⟨L, hL⟩ : ∃ L, w.heap.size = L := ⟨_, rfl⟩
  obtain ⟨R, hR, hR2⟩ : ∃ R, w.heap.size + 1 = R ∧ w.heap.size ≤ R := ⟨_, rfl, by omega⟩
  obtain ⟨E, hE, hE2⟩ : ∃ E, w.heap.size + 1 + 1 = E ∧ w.heap.size ≤ E := ⟨_, rfl, by omega⟩
  have HRE : Hid (R ≠ E ∧ w.heap.size ≤ R ∧ w.heap.size ≤ E ∧ L ≠ E) := ⟨by omega, by omega, by omega, by omega⟩
  rw [show w.heap.size + 2 = w.heap.size + 1 + 1 from rfl, hE] at EA
  rw [hE, hR]
  rw [hR] at RA
  rw [hL] at LA ⊢
  clear hR hL hE hR2 hE2
  have OV := over_any l a b.length ca w2
  go_wp2_with (refine wpList_load_row rfl 26 (.tmp 2) rfl L rfl 26 (lkA l) (0, 0) _ LA Try.underlying26 rfl HL.out ?_)
  refine OV.mono ?_
  rintro e w3 ⟨g, rfl, W3, hg, K3⟩
  have SD : BSides w3 R E g := ⟨RA.kept K3, EA.kept K3, by have := RA.lt; omega, by have := EA.lt; omega⟩
  have G3 := grown_trans G0 K3
  have HG : Hid (w.heap.size ≤ g) := Nat.le_trans G0.size hg
  clear OV LA RA EA G0 K3 hg
  go_upto_region 4 with fail
  have FA := VAt.alloc w3 1 #[.func (.func 25) #[.pointer (some ⟨g, 0, none⟩)] #[], .func (.func 26) #[.pointer (some ⟨g, 0, none⟩)] #[], .func (.func 27) #[.pointer (some ⟨g, 0, none⟩)] #[], .func (.func 28) #[.pointer (some ⟨g, 0, none⟩)] #[]]
  have K4 := World.grownBy_alloc w3 (.cells #[.func (.func 25) #[.pointer (some ⟨g, 0, none⟩)] #[], .func (.func 26) #[.pointer (some ⟨g, 0, none⟩)] #[], .func (.func 27) #[.pointer (some ⟨g, 0, none⟩)] #[], .func (.func 28) #[.pointer (some ⟨g, 0, none⟩)] #[]] 1) none
  have RW : BRow (w3.alloc (.cells #[.func (.func 25) #[.pointer (some ⟨g, 0, none⟩)] #[], .func (.func 26) #[.pointer (some ⟨g, 0, none⟩)] #[], .func (.func 27) #[.pointer (some ⟨g, 0, none⟩)] #[], .func (.func 28) #[.pointer (some ⟨g, 0, none⟩)] #[]] 1)) w3.heap.size g := fun k hk => by
    have hs : k = 0 ∨ k = 1 ∨ k = 2 ∨ k = 3 := by omega
    rcases hs with rfl | rfl | rfl | rfl
    · exact FA.cell 0
    · exact FA.cell 1
    · exact FA.cell 2
    · exact FA.cell 3
  have HPG : Hid (w3.heap.size ≠ g) := by show w3.heap.size ≠ g; have := W3.lt; omega
  have W4 := W3.kept K4
  have SD4 := SD.kept (grown_mono K4)
  have G4 := grown_trans G3 K4
  clear FA K4 W3 SD G3
  generalize w3.alloc (.cells #[.func (.func 25) #[.pointer (some ⟨g, 0, none⟩)] #[], .func (.func 26) #[.pointer (some ⟨g, 0, none⟩)] #[], .func (.func 27) #[.pointer (some ⟨g, 0, none⟩)] #[], .func (.func 28) #[.pointer (some ⟨g, 0, none⟩)] #[]] 1) = w4 at *
  generalize w3.heap.size = P at *
  have HFR : Hid (∀ W, w4.grownBy W (some g) → FrA W g a b) := fun W K => by
    refine ⟨HA.out.keptNone (grown_trans_new G4 K (fun x hx => by have := HG.out; simp at hx; omega)), fun x hx hb => ?_⟩
    have := HU.out x hx hb
    have := HG.out
    omega
  clear HA HU
  go_loopw [23] (fun i wr => ∃ (k : Nat) (v : Vw), k ≤ 4 ∧ i = .int .i64 k ∧ InvX b k v ∧ Hid (chainX l b (4 - k) k v = pc) ∧ WAt wr g v l (.slice a b.length ca) ∧ w4.grownBy wr (some g)) (fun i _ => 4 - (intOf i).toNat)
  case atStart => exact ⟨0, Vw.zero, Nat.zero_le _, rfl, ⟨Nat.zero_le _, fun _ => rfl⟩, HD, W4, World.grownBy.refl _ _⟩
  case round =>
    clear HD W4
    obtain ⟨k, v, hk, rfl, hI, HCH, WV, K⟩ := hrel
    have SDr := SD4.kept K
    by_cases hlt : k < 4
    · have hl6 : (k : Int) < 4 := by omega
      have r1 := (RW.kept HPG.out K) k hlt
      have he := stepM_enters k
      have cS := bstep_any k g v l a ca b wr hlt WV (HFR.out wr K) hn hI HM.out
      have HN : Hid (∀ u, stepX l b k v = .ok u → InvX b (k + 1) u ∧ chainX l b (4 - (k + 1)) (k + 1) u = pc) := fun u hu => by
        refine ⟨step_inv (by omega) hI hu, ?_⟩
        have := HCH.out
        rw [show 4 - k = (4 - (k + 1)) + 1 by omega, chain_ok hu] at this
        exact this
      have HB : Hid (∀ er, stepX l b k v = .error er → ans = .error er) := fun er hu => by
        have := HCH.out
        rw [show 4 - k = (4 - (k + 1)) + 1 by omega, chain_err hu] at this
        have q := HLP.out
        rw [← this] at q
        exact q
      generalize stepM k = fn at *
      rcases except_cases (stepX l b k v) with ⟨er, hx⟩ | ⟨u, hx⟩
      · rw [hx] at cS
        have hans := HB.out er hx
        subst hans
        clear HN HB HCH hx hI WV
        go_wp2_with (go_at_fn fn; refine cS.mono ?_; rintro e w5 ⟨K5, rfl⟩)
        have S5 := SDr.kept K5
        have G5 : w.grownBy w5 none := grown_trans_new G4 (grown_trans K K5) (fun x hx => by have := HG.out; simp at hx; omega)
        refine leaves_cons (f := 23) (args := #[.pointer (some ⟨R, 0, none⟩), .pointer (some ⟨E, 0, none⟩)]) (by simp) (by simp [go_sem]) ?_
        refine (bcatch_pan R E er 0 (vwA Vw.zero) _ S5.1 rfl S5.2.1 HRE.out.1).mono ?_
        rintro e u' w'' ⟨rfl, rfl, rfl⟩
        obtain ⟨V6, E6, G6⟩ := bsides_set S5.1 S5.2.1 HRE.out.1 (vwA Vw.zero) er G5 HRE.out.2.1 HRE.out.2.2.1
        exact ⟨_, bret_row_cell rfl _ _ R E (vwA Vw.zero) _ .i64 er rfl rfl V6 E6 Try.underlying58 rfl (HS.out _) Try.underlying30, rfl, G6⟩
      · rw [hx] at cS
        obtain ⟨hI2, hC2⟩ := HN.out u hx
        have HI2 : Hid (InvX b (k + 1) u ∧ chainX l b (4 - (k + 1)) (k + 1) u = pc) := ⟨hI2, hC2⟩
        clear HN HB HCH hx hI WV hI2 hC2
        go_wp2_with (go_at_fn fn; refine cS.mono ?_; rintro e w5 ⟨K5, rfl, W5⟩)
        go_roundw
        case rel => exact ⟨k + 1, u, by omega, by go_num, HI2.out.1, HI2.out.2, W5, grown_trans K K5⟩
        case measure => simp [intOf]; omega
    · obtain rfl : k = 4 := by omega
      have hpc : pc = .ok v := HCH.out.symm
      subst hpc
      have G5 : w.grownBy wr none := grown_trans_new G4 K (fun x hx => by have := HG.out; simp at hx; omega)
      have RV := brange_view WV
      have RS := SDr.1
      have c1 : wr.cell? ⟨g, 1, none⟩ = some (.bool v.multi) := WV.c 1
      rw [show ((4 : Nat) : Int) = 4 from rfl]
      cases hmu : v.multi with
      | true =>
        rw [hmu] at c1
        have hans : ans = .ok v := by
          have q := HLP.out
          rw [q]
          show (if v.multi = true then Except.ok v else _) = _
          rw [if_pos hmu]
        subst hans
        obtain ⟨V6, E6, G6⟩ := bsides_set SDr.1 SDr.2.1 HRE.out.1 (vwA v) 0 G5 HRE.out.2.1 HRE.out.2.2.1
        have E5 := SDr.2.1.grown (w' := wr.setRow R (vwA v)) (vgrown_setRow (World.grownBy.refl wr (some R)) R (vwA v) (.inl rfl)) (by simpa using HRE.out.1)
        have cE : (wr.setRow R (vwA v)).cell? ⟨E, 0, none⟩ = some (.int .i64 0) := E5.cell 0
        have fE := E5.free 0
        clear HCH E5 hI hlt hk WV K SDr RW HFR HLP hmu
        go_wp2_with (first
          | refine wpList_load_mid rfl 58 (.tmp 39) rfl g 0 rfl (vwA v).toList _ RV Try.underlying58 rfl (HS.out _) ?_
          | refine wpList_store_row rfl 58 (.tmp 4) (.tmp 40) rfl R (vwA v) rfl rfl 58 _ RS (HS.out _) rfl (vwA_all _) ?_)
        refine leaves_cons (f := 23) (args := #[.pointer (some ⟨R, 0, none⟩), .pointer (some ⟨E, 0, none⟩)]) (by simp) (by simp [go_sem]) ?_
        refine (bcatch_idle R E _).mono ?_
        rintro e u' w'' ⟨rfl, rfl, rfl⟩
        exact ⟨_, bret_row_cell rfl _ _ R E (vwA v) _ .i64 0 rfl rfl V6 E6 Try.underlying58 rfl (HS.out _) Try.underlying30, rfl, G6⟩
      | false =>
        rw [hmu] at c1
        have hans : ans = .error 94 := by
          have q := HLP.out
          rw [q]
          show (if v.multi = true then Except.ok v else _) = _
          rw [if_neg (by rw [hmu]; simp)]
        subst hans
        obtain ⟨V6, E6, G6⟩ := bsides_set SDr.1 SDr.2.1 HRE.out.1 (vwA Vw.zero) 94 G5 HRE.out.2.1 HRE.out.2.2.1
        have E5 := SDr.2.1.grown (w' := wr.setRow R (vwA Vw.zero)) (vgrown_setRow (World.grownBy.refl wr (some R)) R (vwA Vw.zero) (.inl rfl)) (by simpa using HRE.out.1)
        have cE : (wr.setRow R (vwA Vw.zero)).cell? ⟨E, 0, none⟩ = some (.int .i64 0) := E5.cell 0
        have fE := E5.free 0
        clear HCH E5 hI hlt hk WV K SDr RW HFR HLP hmu RV
        go_wp2_with (refine wpList_store_row rfl 58 (.tmp 4) (.tmp 36) rfl R (vwA Vw.zero) rfl rfl 58 _ RS (HS.out _) rfl (vwA_all _) ?_)
        refine leaves_cons (f := 23) (args := #[.pointer (some ⟨R, 0, none⟩), .pointer (some ⟨E, 0, none⟩)]) (by simp) (by simp [go_sem]) ?_
        refine (bcatch_idle R E _).mono ?_
        rintro e u' w'' ⟨rfl, rfl, rfl⟩
        exact ⟨_, bret_row_cell rfl _ _ R E (vwA Vw.zero) _ .i64 94 rfl rfl V6 E6 Try.underlying58 rfl (HS.out _) Try.underlying30, rfl, G6⟩

end Go.Proofs.Ytkjofgnmjfngeaa
