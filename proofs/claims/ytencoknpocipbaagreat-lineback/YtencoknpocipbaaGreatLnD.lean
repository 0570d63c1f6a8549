/-
  Package line as landed: block.
-/
import Derived.Test.YtencoknpocipbaaGreatLnC
import Derived.Deep.MidRow
namespace Go.Proofs.YtencoknpocipbaaGreat
open Go.RowKit
open Go.Maps
set_option maxRecDepth 100000

def ja0 : In := ⟨5, 0, 0, 0⟩
/-- A block's instructions while goals are not filled in; its jumps. -/
def endR (b : Bk) : List In := if b.en = 2 then [] else [b.last]
def rawB (b : Bk) (d : List Int) : List In := b.code ++ (endR b ++ List.replicate d.length ja0)
def jaJ (p : Nat) (g : Int) : Jp := ⟨(p : Int), g, g, [], none, 0⟩
def jasJ : Nat → List Int → List Jp
  | _, [] => []
  | p, x :: r => jaJ p x :: jasJ (p + 1) r
def endJ (p : Nat) (b : Bk) (d : List Int) (da : Option Addr) (dc : Nat) : List Jp := if b.en = 3 then [⟨(p : Int), b.yes, b.no, d, da, dc⟩] else []
def jmpB (p : Nat) (b : Bk) (d : List Int) (da : Option Addr) (dc : Nat) : List Jp := endJ (p + b.code.length) b d da dc ++ jasJ (p + roomV b) d
theorem jasJ_snoc : ∀ (d : List Int) (p : Nat) (x : Int), jasJ p (d ++ [x]) = jasJ p d ++ [jaJ (p + d.length) x]
  | [], p, x => rfl
  | y :: r, p, x => by
    rw [List.cons_append, jasJ, jasJ, jasJ_snoc r (p + 1) x, List.length_cons, List.cons_append, show p + 1 + r.length = p + (r.length + 1) by omega]
theorem jasJ_len : ∀ (d : List Int) (p : Nat), (jasJ p d).length = d.length
  | [], _ => rfl
  | y :: r, p => by rw [jasJ, List.length_cons, jasJ_len, List.length_cons]

/-- A map written in a statement whose order is open. -/
theorem step_map {H : Type} {P : Program} {ops : Array Oper} {o : Oper} {a : Act} {w : World} {K : Act → World → Prop} {Q : Exit → Act → World → Prop} {E : Prop}
    (hgd : o.guard = none) (m x v : Operand) (t : TypeId) (hop : o.op = Op.mapUpdate t m x v)
    (k e : TypeId) (KY : Keyed P k) (ht : P.underlying t = some (.map k e)) (R : Value → Option (DataW H × List MemPlace)) (b n : Nat) (D : DataW H)
    (hm : a.eval m = .map (some b)) (hown : w.ownsMap P k R b n D) (hn : n < maxLen) (key val : Value) (kl : Lit) (hx : a.eval x = key) (hv : a.eval v = val) (hkey : keyOf P k key = some kl)
    (d : DataW H) (ps : List MemPlace) (hval : R val = some (d, ps))
    (hK : ∀ w', w'.ownsMap P k R b (n + 1) (D.put kl d) → w.grownBy w' (some b) → K (a.put o.dst undef) w') :
    if Region.wanted o (yielded ops a.tmps) = true then Oper.wp P o a w K Q else E := by
  have hw : Region.wanted o (yielded ops a.tmps) = true := by simp [Region.wanted, hgd]
  rw [if_pos hw]
  obtain ⟨w', hrun, r1, r2⟩ := hown.update KY ht hn hkey hval
  unfold Oper.wp
  simp [execOp, hop, hm, hx, hv, hrun, Result.andThen]
  exact hK w' r1 r2

theorem WS.mapped {w w' : World} {base W mb n : Nat} {pv jv : Value} {prog : List In} {js : List Jp} {D D' : DataW Unit} (h : WS w base W mb pv jv prog js n D) (M : MOwns w' mb (n + 1) D') (K : w.grownBy w' (some mb)) : WS w' base W mb pv jv prog js (n + 1) D' ∧ WG base w w' := by
  refine ⟨⟨h.cell.grown K (fun e => map_no h.mown h.cell (Option.some.inj e)), own_kept h.own K (fun e => ?_), own_kept h.jown K (fun e => ?_), M, h.wb, h.mbb, Nat.le_trans h.sz K.size⟩, WG.of (GB.of (S := fun x => x = mb) K fun x hx => (Option.some.inj hx).symm) fun x hx => ?_⟩
  · obtain ⟨cur, hg⟩ := own_kind h.own e
    exact map_no h.mown hg rfl
  · obtain ⟨cur, hg⟩ := own_kind h.jown e
    exact map_no h.mown hg rfl
  · subst hx
    exact ⟨h.mbb, nk_map h.mown⟩

theorem bk_range {w : World} {A : Nat} {b : Bk} {a : Option Addr} {ca : Nat} (V : VAt w A 56 (bkA b a ca)) : w.rangeAt A 2 b.last.cells := fun j v hv => by
  have hj : j < 4 := by
    have := (List.getElem?_eq_some_iff.1 hv).1
    simpa [In.cells] using this
  rw [V.cell (2 + j), ← hv]
  rcases (by omega : j = 0 ∨ j = 1 ∨ j = 2 ∨ j = 3) with rfl | rfl | rfl | rfl <;> rfl
theorem bld_jump (z y n : Int) (da : Option Addr) (dl dc : Nat) (W : World) : (Instr.build 86 #[(0, .int .i64 z), (1, .int .i64 y), (2, .int .i64 n), (3, .slice da dl dc)]).run Tryz.prog W = .ok (.agg #[.int .i64 z, .int .i64 y, .int .i64 n, .slice da dl dc]) W := by kernel_rfl
theorem wf_int (z : Nat) (h : z ≤ 1000000) : (Lit.int .i64 (z : Int)).wf = true := WalkArith.wf_i64 (by omega)

/-- What block leaves. -/
def LBlkP (w w' : World) (base W mb : Nat) (prog : List In) (js : List Jp) (n : Nat) (D : DataW Unit) : Prop := (∃ pv' jv', WS w' base W mb pv' jv' prog js n D) ∧ WG base w w'

set_option maxHeartbeats 8000000 in
theorem lblock_any (w : World) (base W mb n num : Nat) (pv jv : Value) (prog : List In) (js : List Jp) (D : DataW Unit) (H : WS w base W mb pv jv prog js n D) (b : Bk) (a : Option Addr) (ca : Nat) (hc : CV w a (flat b.code)) (hnone : a = none → b.code.length = 0 ∧ ca = 0)
    (d : List Int) (da : Option Addr) (dc : Nat) (hd : ZOwns w base (.slice da d.length dc) d) (hen : b.en = 1 ∨ b.en = 2 ∨ b.en = 3) (hl : prog.length + b.code.length ≤ 50000) (hdl : d.length ≤ 10000) (hj : js.length ≤ 50000) (hn : n ≤ 1000000) (hnum : num ≤ 1000000) :
    Calls Tryz.prog 14 #[.pointer (some ⟨W, 0, none⟩), .int .i64 (num : Int), bkV b a ca, .slice da d.length dc] w fun e w' => e = .returned (.tuple #[]) ∧ LBlkP w w' base W mb (prog ++ rawB b d) (js ++ jmpB prog.length b d da dc) (n + 1) (D.put (.int .i64 (num : Int)) (.lit (.int .i64 (prog.length : Int)))) := by
  obtain ⟨R, hR⟩ : ∃ R, (fun w' => LBlkP w w' base W mb (prog ++ rawB b d) (js ++ jmpB prog.length b d da dc) (n + 1) (D.put (.int .i64 (num : Int)) (.lit (.int .i64 (prog.length : Int))))) = R := ⟨_, rfl⟩
  have hR' : ∀ w', LBlkP w w' base W mb (prog ++ rawB b d) (js ++ jmpB prog.length b d da dc) (n + 1) (D.put (.int .i64 (num : Int)) (.lit (.int .i64 (prog.length : Int)))) = R w' := fun w' => by rw [← hR]
  simp only [hR']
  have HR : Hid (∀ w', LBlkP w w' base W mb (prog ++ rawB b d) (js ++ jmpB prog.length b d da dc) (n + 1) (D.put (.int .i64 (num : Int)) (.lit (.int .i64 (prog.length : Int)))) → R w') := fun w' h => (hR' w') ▸ h
  clear hR hR'
  have V0 := VAt.alloc w 56 (bkA b a ca)
  have G0 := World.grownBy_alloc w (.cells (bkA b a ca) 56) none
  obtain ⟨a0, k0, hpv⟩ := own_slice H.own
  subst hpv
  have HH : Hid (WS (w.alloc (.cells (bkA b a ca) 56)) base W mb (.slice a0 prog.length k0) jv prog js n D) := H.kept G0
  have HF : Hid (WG base w (w.alloc (.cells (bkA b a ca) 56))) := WG.non G0
  have HC : Hid (CV (w.alloc (.cells (bkA b a ca) 56)) a (flat b.code)) := hc.keptNone G0
  have HD : Hid (ZOwns (w.alloc (.cells (bkA b a ca) 56)) base (.slice da d.length dc) d) := owns_keptNone hd G0
  have HN : Hid (∀ y, (y = W ∨ (Value.slice a0 prog.length k0).ownBlock = some y ∨ jv.ownBlock = some y ∨ y = mb) → y < w.heap.size) := by
    intro y hy
    rcases hy with rfl | hy | hy | rfl
    · exact H.cell.lt
    · exact (H.own.lt y hy).2
    · exact (H.jown.lt y hy).2
    · exact H.mown.lt
  have HL : Hid ((prog.length + b.code.length ≤ 50000 ∧ d.length ≤ 10000) ∧ js.length ≤ 50000 ∧ n ≤ 1000000 ∧ num ≤ 1000000) := ⟨⟨hl, hdl⟩, hj, hn, hnum⟩
  have HNO : Hid (a = none → b.code.length = 0 ∧ ca = 0) := hnone
  have HEN : Hid (b.en = 1 ∨ b.en = 2 ∨ b.en = 3) := hen
  have HV : Hid (VAt (w.alloc (.cells (bkA b a ca) 56)) w.heap.size 56 (bkA b a ca)) := V0
  clear V0 G0 H hc hd hl hdl hj hn hnum hnone hen
  go_enter Tryz.func14, Tryz.ntmps14
  go_upto_region 1 with fail
  generalize w.alloc (.cells (bkA b a ca) 56) = w1 at *
  generalize w.heap.size = A at *
  refine wp_region_held_drew (S := fun W' => VAt W' W 47 #[.slice a0 prog.length k0, .map (some mb), jv]) (by kernel_rfl) (HH.out.cell) (fun hHeld => ?_)
  refine wpAnyH_take (i := 0) (v := .pointer (some ⟨W, 0, none⟩)) rfl (by kernel_rfl) (by kernel_rfl) (by kernel_rfl) (fun _ _ _ h => h) (Or.inl ⟨by rfl, fun W hW => ?_⟩) hHeld ?_
  · clear hW
    go_simp
  try simp only [Act.put, List.getElem_toArray, List.getElem_cons_zero, List.setIfInBounds_toArray, List.set_cons_zero, List.set_cons_succ]
  refine wpAnyH_take (i := 1) (v := .pointer (some ⟨W, 0, none⟩)) rfl (by kernel_rfl) (by kernel_rfl) (by kernel_rfl) (fun _ _ _ h => h) (Or.inl ⟨by rfl, fun W hW => ?_⟩) hHeld ?_
  · clear hW
    go_simp
  try simp only [Act.put, List.getElem_toArray, List.getElem_cons_zero, List.getElem_cons_succ, List.setIfInBounds_toArray, List.set_cons_zero, List.set_cons_succ]
  refine wpAnyH_take (i := 2) (v := .pointer (some ⟨W, 1, none⟩)) rfl (by kernel_rfl) (by kernel_rfl) (by kernel_rfl) (fun _ _ _ h => h) (Or.inl ⟨by rfl, fun W hW => ?_⟩) hHeld ?_
  · clear hW
    go_simp
  try simp only [Act.put, List.getElem_toArray, List.getElem_cons_zero, List.getElem_cons_succ, List.setIfInBounds_toArray, List.set_cons_zero, List.set_cons_succ]
  refine wpAnyH_take (i := 3) (v := .map (some mb)) rfl (by kernel_rfl) (by kernel_rfl) (by kernel_rfl) (fun _ _ _ h => h) (Or.inl ⟨by rfl, fun W hW => ?_⟩) hHeld ?_
  · have c := hW.cell 1
    clear hW
    go_simp
  try simp only [Act.put, List.getElem_toArray, List.getElem_cons_zero, List.getElem_cons_succ, List.setIfInBounds_toArray, List.set_cons_zero, List.set_cons_succ]
  refine wpAnyH_take (i := 4) (v := .int .i64 (num : Int)) rfl (by kernel_rfl) (by kernel_rfl) (by kernel_rfl) (fun _ _ _ h => h) (Or.inl ⟨by rfl, fun W hW => ?_⟩) hHeld ?_
  · clear hW
    go_simp
  try simp only [Act.put, List.getElem_toArray, List.getElem_cons_zero, List.getElem_cons_succ, List.setIfInBounds_toArray, List.set_cons_zero, List.set_cons_succ]
  refine wpAnyH_take (i := 5) (v := .pointer (some ⟨W, 0, none⟩)) rfl (by kernel_rfl) (by kernel_rfl) (by kernel_rfl) (fun _ _ _ h => h) (Or.inl ⟨by rfl, fun W hW => ?_⟩) hHeld ?_
  · clear hW
    go_simp
  try simp only [Act.put, List.getElem_toArray, List.getElem_cons_zero, List.getElem_cons_succ, List.setIfInBounds_toArray, List.set_cons_zero, List.set_cons_succ]
  refine wpAnyH_take (i := 6) (v := .pointer (some ⟨W, 0, none⟩)) rfl (by kernel_rfl) (by kernel_rfl) (by kernel_rfl) (fun _ _ _ h => h) (Or.inl ⟨by rfl, fun W hW => ?_⟩) hHeld ?_
  · clear hW
    go_simp
  try simp only [Act.put, List.getElem_toArray, List.getElem_cons_zero, List.getElem_cons_succ, List.setIfInBounds_toArray, List.set_cons_zero, List.set_cons_succ]
  refine wpAnyH_take (i := 7) (v := .pointer (some ⟨W, 0, none⟩)) rfl (by kernel_rfl) (by kernel_rfl) (by kernel_rfl) (fun _ _ _ h => h) (Or.inl ⟨by rfl, fun W hW => ?_⟩) hHeld ?_
  · clear hW
    go_simp
  try simp only [Act.put, List.getElem_toArray, List.getElem_cons_zero, List.getElem_cons_succ, List.setIfInBounds_toArray, List.set_cons_zero, List.set_cons_succ]
  refine wpAnyH_ready (rs := [8]) (by kernel_rfl) (by simp) (AllReadyH.cons rfl (fun K hK => ?_) AllReadyH.nil)
  go_simp
  refine (pend_any _ W prog.length k0 a0 (hHeld.cell 0)).mono ?_
  rintro e w2 ⟨rfl, rfl⟩
  go_wp2_with fail
  refine hK.out _ _ hHeld (fun hHeld => ?_)
  clear hK K
  try simp only [Act.put, List.getElem_toArray, List.getElem_cons_zero, List.getElem_cons_succ, List.setIfInBounds_toArray, List.set_cons_zero, List.set_cons_succ]
  refine wpAnyH_ready (rs := [9]) (by kernel_rfl) (by simp) (AllReadyH.cons rfl (fun K hK => ?_) AllReadyH.nil)
  refine step_map (by rfl) (.tmp 13) (.tmp 14) (.tmp 18) 43 (by rfl) 3 3 lkey Tryz.underlying43 (plainElem Tryz.prog 3) mb n D (by rfl) (HH.out.kept (grown_drewN w1 1 none)).mown (by have := HL.out.2.2.1; unfold maxLen; omega) (.int .i64 (num : Int)) (.int .i64 (prog.length : Int)) (.int .i64 (num : Int)) (by rfl) (by rfl) (keyOf_int_mk Tryz.underlying3 (wf_int num HL.out.2.2.2)) _ [] (plainElem_int Tryz.underlying3 (wf_int prog.length (by have := HL.out.1.1; omega))) ?_
  intro w2 M2 K2
  have Kd : w1.grownBy w1.drew none := grown_drewN w1 1 none
  obtain ⟨H2, F2⟩ := (HH.out.kept Kd).mapped M2 K2
  have F2' := HF.out.trans (WG.trans (WG.non Kd) F2)
  have hA2 : VAt w2 A 56 (bkA b a ca) := (HV.out.kept Kd).grown K2 (fun e => by have := HN.out mb (.inr (.inr (.inr rfl))); have := Option.some.inj e; omega)
  have hC2 : CV w2 a (flat b.code) := (HC.out.keptNone Kd).kept K2 (cv_map (HC.out.keptNone Kd) (HH.out.kept Kd).mown)
  have hD2 : ZOwns w2 base (.slice da d.length dc) d := WG.owns F2 (owns_keptNone HD.out Kd) (.inl rfl)
  have HV2 : Hid (VAt w2 A 56 (bkA b a ca)) := hA2
  have HC2 : Hid (CV w2 a (flat b.code)) := hC2
  have HD2 : Hid (ZOwns w2 base (.slice da d.length dc) d) := hD2
  have HH2 : Hid (WS w2 base W mb (.slice a0 prog.length k0) jv prog js (n + 1) (D.put (.int .i64 (num : Int)) (.lit (.int .i64 (prog.length : Int))))) := H2
  have HF2 : Hid (WG base w w2) := F2'
  refine hK.out _ _ H2.cell (fun hHeld => ?_)
  clear hK K hHeld M2 K2 H2 F2 F2' hA2 hC2 hD2 Kd HV HC HD HH HF
  try simp only [Act.put]
  refine wpAnyH_done (by kernel_rfl) ?_ _
  go_wp2_with fail
  generalize (D.put (.int .i64 (num : Int)) (.lit (.int .i64 (prog.length : Int)))) = D' at *
  refine wp_region_held_drew (S := fun W' => VAt W' A 56 (bkA b a ca)) (by kernel_rfl) (HV2.out) (fun hHeld => ?_)
  refine wpAnyH_take (i := 0) (v := .pointer (some ⟨W, 0, none⟩)) rfl (by kernel_rfl) (by kernel_rfl) (by kernel_rfl) (fun _ _ _ h => h) (Or.inl ⟨by rfl, fun W hW => ?_⟩) hHeld ?_
  · clear hW
    go_simp
  try simp only [Act.put, List.getElem_toArray, List.getElem_cons_zero, List.setIfInBounds_toArray, List.set_cons_zero, List.set_cons_succ]
  refine wpAnyH_take (i := 1) (v := .pointer (some ⟨W, 0, none⟩)) rfl (by kernel_rfl) (by kernel_rfl) (by kernel_rfl) (fun _ _ _ h => h) (Or.inl ⟨by rfl, fun W hW => ?_⟩) hHeld ?_
  · clear hW
    go_simp
  try simp only [Act.put, List.getElem_toArray, List.getElem_cons_zero, List.getElem_cons_succ, List.setIfInBounds_toArray, List.set_cons_zero, List.set_cons_succ]
  refine wpAnyH_take (i := 2) (v := .pointer (some ⟨W, 0, none⟩)) rfl (by kernel_rfl) (by kernel_rfl) (by kernel_rfl) (fun _ _ _ h => h) (Or.inl ⟨by rfl, fun W hW => ?_⟩) hHeld ?_
  · clear hW
    go_simp
  try simp only [Act.put, List.getElem_toArray, List.getElem_cons_zero, List.getElem_cons_succ, List.setIfInBounds_toArray, List.set_cons_zero, List.set_cons_succ]
  refine wpAnyH_take (i := 3) (v := .pointer (some ⟨A, 0, none⟩)) rfl (by kernel_rfl) (by kernel_rfl) (by kernel_rfl) (fun _ _ _ h => h) (Or.inl ⟨by rfl, fun W hW => ?_⟩) hHeld ?_
  · clear hW
    go_simp
  try simp only [Act.put, List.getElem_toArray, List.getElem_cons_zero, List.getElem_cons_succ, List.setIfInBounds_toArray, List.set_cons_zero, List.set_cons_succ]
  refine wpAnyH_take (i := 4) (v := .slice a b.code.length ca) rfl (by kernel_rfl) (by kernel_rfl) (by kernel_rfl) (fun _ _ _ h => h) (Or.inl ⟨by rfl, fun W hW => ?_⟩) hHeld ?_
  · have c := hW.cell 0
    clear hW
    go_simp
  try simp only [Act.put, List.getElem_toArray, List.getElem_cons_zero, List.getElem_cons_succ, List.setIfInBounds_toArray, List.set_cons_zero, List.set_cons_succ]
  refine wpAnyH_ready (rs := [5]) (by kernel_rfl) (by simp) (AllReadyH.cons rfl (fun K hK => ?_) AllReadyH.nil)
  go_simp
  refine (play_any _ base W _ (.map (some mb)) jv prog b.code a ca (HH2.out.kept (grown_drewN w2 1 none)).cell (HH2.out.kept (grown_drewN w2 1 none)).own (HC2.out.keptNone (grown_drewN w2 1 none)) HNO.out (HH2.out.kept (grown_drewN w2 1 none)).sz (by have := HL.out.1; omega)).mono ?_
  rintro e w3 ⟨rfl, L⟩
  have hA3 : VAt w3 A 56 (bkA b a ca) := L.fr.vat hHeld (fun e => e.elim (fun e => by have := HN.out A (.inl e); omega) (fun e => by have := HN.out A (.inr (.inl e)); omega))
  obtain ⟨⟨pv3, H3⟩, F3⟩ := (HH2.out.kept (grown_drewN w2 1 none)).lay L
  have HV3 : Hid (VAt w3 A 56 (bkA b a ca)) := hA3
  have HD3 : Hid (ZOwns w3 base (.slice da d.length dc) d) := WG.owns F3 (owns_keptNone HD2.out (grown_drewN w2 1 none)) (.inl rfl)
  have HF3 : Hid (WG base w w3) := HF2.out.trans (WG.trans (WG.non (grown_drewN w2 1 none)) F3)
  have HH3 : Hid (WS w3 base W mb pv3 jv (prog ++ b.code) js (n + 1) D') := H3
  have HN3 : Hid (∀ y, (y = W ∨ pv3.ownBlock = some y ∨ jv.ownBlock = some y) → y ≠ A) := by
    intro y hy e
    subst e
    rcases hy with hy | hy | hy
    · have := HN.out _ (.inl hy); omega
    · exact own_vat H3.own hA3 (by decide) hy
    · have := HN.out _ (.inr (.inr (.inl hy))); omega
  refine hK.out _ _ hA3 (fun hHeld => ?_)
  clear hK K hHeld hA3 H3 F3 L HH2 HF2 HC2 HD2 HV2 HNO HN
  try simp only [Act.put, List.getElem_toArray, List.getElem_cons_zero, List.getElem_cons_succ, List.setIfInBounds_toArray, List.set_cons_zero, List.set_cons_succ]
  refine wpAnyH_done (by kernel_rfl) ?_ _
  have c1 : w3.cell? ⟨A, 1, none⟩ = some (.int .i64 b.en) := HV3.out.cell 1
  obtain ⟨q3, k3, hpv⟩ := own_slice HH3.out.own
  subst hpv
  rcases HEN.out with h1 | h2 | h3
  · have HE0 : Hid (endR b = [b.last] ∧ (∀ z, endJ z b d da dc = []) ∧ roomV b = b.code.length + 1) := ⟨by rw [endR, if_neg (by omega)], fun z => by rw [endJ, if_neg (by omega)], by rw [roomV, sizeE, if_neg (by omega)]⟩
    rw [h1] at c1
    clear h1 HEN
    go_wp2_with fail
    refine wp_region_held_drew (S := fun W' => VAt W' A 56 (bkA b a ca)) (by kernel_rfl) (HV3.out) (fun hHeld => ?_)
    refine wpAnyH_take (i := 0) (v := .pointer (some ⟨W, 0, none⟩)) rfl (by kernel_rfl) (by kernel_rfl) (by kernel_rfl) (fun _ _ _ h => h) (Or.inl ⟨by rfl, fun W hW => ?_⟩) hHeld ?_
    · clear hW
      go_simp
    try simp only [Act.put, List.getElem_toArray, List.getElem_cons_zero, List.setIfInBounds_toArray, List.set_cons_zero, List.set_cons_succ]
    refine wpAnyH_take (i := 1) (v := .pointer (some ⟨W, 0, none⟩)) rfl (by kernel_rfl) (by kernel_rfl) (by kernel_rfl) (fun _ _ _ h => h) (Or.inl ⟨by rfl, fun W hW => ?_⟩) hHeld ?_
    · clear hW
      go_simp
    try simp only [Act.put, List.getElem_toArray, List.getElem_cons_zero, List.getElem_cons_succ, List.setIfInBounds_toArray, List.set_cons_zero, List.set_cons_succ]
    refine wpAnyH_take (i := 2) (v := .pointer (some ⟨W, 0, none⟩)) rfl (by kernel_rfl) (by kernel_rfl) (by kernel_rfl) (fun _ _ _ h => h) (Or.inl ⟨by rfl, fun W hW => ?_⟩) hHeld ?_
    · clear hW
      go_simp
    try simp only [Act.put, List.getElem_toArray, List.getElem_cons_zero, List.getElem_cons_succ, List.setIfInBounds_toArray, List.set_cons_zero, List.set_cons_succ]
    refine wpAnyH_take (i := 3) (v := .pointer (some ⟨A, 2, none⟩)) rfl (by kernel_rfl) (by kernel_rfl) (by kernel_rfl) (fun _ _ _ h => h) (Or.inl ⟨by rfl, fun W hW => ?_⟩) hHeld ?_
    · clear hW
      go_simp
    try simp only [Act.put, List.getElem_toArray, List.getElem_cons_zero, List.getElem_cons_succ, List.setIfInBounds_toArray, List.set_cons_zero, List.set_cons_succ]
    refine wpAnyH_take (i := 4) (v := .agg b.last.cells.toArray) rfl (by kernel_rfl) (by kernel_rfl) (by kernel_rfl) (fun _ _ _ h => h) (yieldsIf_load_mid (by rfl) _ _ rfl A 2 rfl b.last.cells _ (fun W' hW => bk_range hW) Tryz.underlying54 rfl (by kernel_rfl)) hHeld ?_
    try simp only [Act.put, List.getElem_toArray, List.getElem_cons_zero, List.getElem_cons_succ, List.setIfInBounds_toArray, List.set_cons_zero, List.set_cons_succ]
    refine wpAnyH_ready (rs := [5]) (by kernel_rfl) (by simp) (AllReadyH.cons rfl (fun K hK => ?_) AllReadyH.nil)
    refine step_lit (by rfl) 24 1 _ (by rfl) _ (by kernel_rfl) b.last.cells 54 (lit_insn18 b.last) ?_
    intro ad w4 C4 K4
    have K4' : w3.grownBy w4 none := grown_trans (grown_drewN w3 1 none) K4
    have C4' : CV w4 (some ad) (flat [b.last]) := by rw [flat_cons, flat_nil, List.append_nil]; exact C4
    have hA4 := HV3.out.kept K4'
    have HC4 : Hid (CV w4 (some ad) (flat [b.last])) := C4'
    have HK4 : Hid (w3.grownBy w4 none) := K4'
    refine hK.out _ _ hA4 (fun hHeld => ?_)
    clear hK K C4 K4 K4' C4' hA4
    try simp only [Act.put, List.getElem_toArray, List.getElem_cons_zero, List.getElem_cons_succ, List.setIfInBounds_toArray, List.set_cons_zero, List.set_cons_succ]
    refine wpAnyH_ready (rs := [6]) (by kernel_rfl) (by simp) (AllReadyH.cons rfl (fun K hK => ?_) AllReadyH.nil)
    go_simp
    refine (play_any w4 base W _ (.map (some mb)) jv (prog ++ b.code) [b.last] (some ad) 1 (HH3.out.kept HK4.out).cell (HH3.out.kept HK4.out).own HC4.out (fun h => by cases h) (HH3.out.kept HK4.out).sz (by have := HL.out.1; simp; omega)).mono ?_
    rintro e w5 ⟨rfl, L⟩
    have hA5 : VAt w5 A 56 (bkA b a ca) := L.fr.vat hHeld (fun e => e.elim (fun e => HN3.out A (.inl e) rfl) (fun e => HN3.out A (.inr (.inl e)) rfl))
    obtain ⟨⟨pv5, H5⟩, F5⟩ := (HH3.out.kept HK4.out).lay L
    have HDx : Hid (ZOwns w5 base (.slice da d.length dc) d) := WG.owns F5 (owns_keptNone HD3.out HK4.out) (.inl rfl)
    have HFx : Hid (WG base w w5) := HF3.out.trans (WG.trans (WG.non HK4.out) F5)
    have HHx : Hid (WS w5 base W mb pv5 jv (prog ++ b.code ++ [b.last]) js (n + 1) D') := H5
    refine hK.out _ _ hA5 (fun hHeld => ?_)
    clear hK K hHeld hA5 H5 F5 L HH3 HF3 HD3 HV3 HC4 HK4 HN3
    try simp only [Act.put, List.getElem_toArray, List.getElem_cons_zero, List.getElem_cons_succ, List.setIfInBounds_toArray, List.set_cons_zero, List.set_cons_succ]
    refine wpAnyH_done (by kernel_rfl) ?_ _
    go_wp2_with fail
    go_loopw [54] (fun i wr => ∃ k : Nat, k ≤ d.length ∧ i = .int .i64 k ∧ LBlkP w wr base W mb (prog ++ b.code ++ [b.last] ++ List.replicate k ja0) (js ++ jasJ (prog ++ b.code ++ [b.last]).length (d.take k)) (n + 1) D' ∧ ZOwns wr base (.slice da d.length dc) d) (fun i _ => d.length - (intOf i).toNat)
    case atStart => exact ⟨0, Nat.zero_le _, rfl, ⟨⟨_, _, by rw [List.take_zero, List.replicate_zero, List.append_nil, jasJ, List.append_nil]; exact HHx.out⟩, HFx.out⟩, HDx.out⟩
    case round =>
      obtain ⟨k, hk, rfl, ⟨⟨pv4, jv4, H4⟩, F4⟩, Z4⟩ := hrel
      by_cases hlt : k < d.length
      · have hl : (k : Int) < (d.length : Int) := by omega
        have HH4 : Hid (WS wr base W mb pv4 jv4 (prog ++ b.code ++ [b.last] ++ List.replicate k ja0) (js ++ jasJ (prog ++ b.code ++ [b.last]).length (d.take k)) (n + 1) D') := H4
        have HF4 : Hid (WG base w wr) := F4
        have HZ4 : Hid (ZOwns wr base (.slice da d.length dc) d) := Z4
        obtain ⟨db, dof, hda, hcell⟩ := (zcv Z4).ints hlt
        have c4 := hcell k hlt
        have HG : Hid (∀ y, y = d[k] → d.take (k + 1) = d.take k ++ [y]) := fun y hy => by rw [hy, List.take_append_getElem]
        generalize hgk : d[k] = gl at *
        clear hgk hcell Z4 F4
        subst hda
        obtain ⟨q5, k5, hpv⟩ := own_slice H4.own
        subst hpv
        have c5 : wr.cell? ⟨W, 0, none⟩ = some (.slice q5 (prog ++ b.code ++ [b.last] ++ List.replicate k ja0).length k5) := H4.cell.cell 0
        obtain ⟨PL, hPL⟩ : ∃ PL, (prog ++ b.code ++ [b.last] ++ List.replicate k ja0).length = PL := ⟨_, rfl⟩
        rw [hPL] at c5 HH4
        have HPL : Hid ((prog ++ b.code ++ [b.last] ++ List.replicate k ja0).length = PL) := hPL
        clear H4 hPL
        go_wp2_with fail
        refine (pend_any wr W PL k5 q5 c5).mono ?_
        rintro e w5 ⟨rfl, rfl⟩
        go_wp2_with fail
        refine (wleave_any _ base W mb (n + 1) _ jv4 _ _ D' HH4.out ja0 ⟨(PL : Int), gl, gl, [], none, 0⟩ (by have := HPL.out; have := HL.out; simp only [List.length_append, List.length_replicate, List.length_singleton] at *; omega) (by have := HL.out; simp only [List.length_append, jasJ_len, List.length_take] at *; omega)).mono ?_
        rintro e w6 ⟨rfl, ⟨pv6, jv6, H6⟩, F6⟩
        have HH6 : Hid (LBlkP w w6 base W mb (prog ++ b.code ++ [b.last] ++ List.replicate (k + 1) ja0) (js ++ jasJ (prog ++ b.code ++ [b.last]).length (d.take (k + 1))) (n + 1) D') := by
          refine ⟨⟨pv6, jv6, ?_⟩, HF4.out.trans F6⟩
          rw [HG.out gl rfl, jasJ_snoc, List.replicate_succ', ← List.append_assoc, ← List.append_assoc]
          have e1 : jaJ ((prog ++ b.code ++ [b.last]).length + (d.take k).length) gl = ⟨(PL : Int), gl, gl, [], none, 0⟩ := by
            unfold jaJ
            have := HPL.out
            rw [List.length_append, List.length_replicate] at this
            rw [List.length_take, Nat.min_eq_left (by omega), this]
          rw [e1]
          exact H6
        have HZ6 : Hid (ZOwns w6 base (.slice (some ⟨db, dof, none⟩) d.length dc) d) := WG.owns F6 HZ4.out (.inl rfl)
        have hdl : d.length ≤ 10000 := HL.out.1.2
        clear H6 F6 HH4 HF4 HZ4 HG HPL c4 c5
        go_wp2
        go_roundw
        case rel => exact ⟨k + 1, by omega, by go_num, HH6.out, HZ6.out⟩
        case measure => simp [intOf]; omega
      · have hl : ¬ (k : Int) < (d.length : Int) := by omega
        have ek : k = d.length := by omega
        have HE : Hid (R wr) := HR.out wr (by
          refine ⟨⟨pv4, jv4, ?_⟩, F4⟩
          rw [ek, List.take_of_length_le (Nat.le_refl _)] at H4
          obtain ⟨e1, e2, e3⟩ := HE0.out
          rw [rawB, jmpB, e1, e2, e3, List.nil_append, ← List.append_assoc, ← List.append_assoc]
          have e4 : (prog ++ b.code ++ [b.last]).length = prog.length + (b.code.length + 1) := by simp only [List.length_append, List.length_singleton]; omega
          rw [e4] at H4
          exact H4)
        clear H4 F4 Z4 ek
        go_wp2
        go_end0
        exact ⟨rfl, HE.out⟩
  · have HE0 : Hid (endR b = [] ∧ (∀ z, endJ z b d da dc = []) ∧ roomV b = b.code.length) := ⟨by rw [endR, if_pos h2], fun z => by rw [endJ, if_neg (by omega)], by rw [roomV, sizeE, if_pos h2]; rfl⟩
    rw [h2] at c1
    clear h2 HEN
    have HHx := HH3
    have HFx := HF3
    have HDx := HD3
    clear HH3 HF3 HD3
    go_wp2_with fail
    go_loopw [54] (fun i wr => ∃ k : Nat, k ≤ d.length ∧ i = .int .i64 k ∧ LBlkP w wr base W mb (prog ++ b.code ++ List.replicate k ja0) (js ++ jasJ (prog ++ b.code).length (d.take k)) (n + 1) D' ∧ ZOwns wr base (.slice da d.length dc) d) (fun i _ => d.length - (intOf i).toNat)
    case atStart => exact ⟨0, Nat.zero_le _, rfl, ⟨⟨_, _, by rw [List.take_zero, List.replicate_zero, List.append_nil, jasJ, List.append_nil]; exact HHx.out⟩, HFx.out⟩, HDx.out⟩
    case round =>
      obtain ⟨k, hk, rfl, ⟨⟨pv4, jv4, H4⟩, F4⟩, Z4⟩ := hrel
      by_cases hlt : k < d.length
      · have hl : (k : Int) < (d.length : Int) := by omega
        have HH4 : Hid (WS wr base W mb pv4 jv4 (prog ++ b.code ++ List.replicate k ja0) (js ++ jasJ (prog ++ b.code).length (d.take k)) (n + 1) D') := H4
        have HF4 : Hid (WG base w wr) := F4
        have HZ4 : Hid (ZOwns wr base (.slice da d.length dc) d) := Z4
        obtain ⟨db, dof, hda, hcell⟩ := (zcv Z4).ints hlt
        have c4 := hcell k hlt
        have HG : Hid (∀ y, y = d[k] → d.take (k + 1) = d.take k ++ [y]) := fun y hy => by rw [hy, List.take_append_getElem]
        generalize hgk : d[k] = gl at *
        clear hgk hcell Z4 F4
        subst hda
        obtain ⟨q5, k5, hpv⟩ := own_slice H4.own
        subst hpv
        have c5 : wr.cell? ⟨W, 0, none⟩ = some (.slice q5 (prog ++ b.code ++ List.replicate k ja0).length k5) := H4.cell.cell 0
        obtain ⟨PL, hPL⟩ : ∃ PL, (prog ++ b.code ++ List.replicate k ja0).length = PL := ⟨_, rfl⟩
        rw [hPL] at c5 HH4
        have HPL : Hid ((prog ++ b.code ++ List.replicate k ja0).length = PL) := hPL
        clear H4 hPL
        go_wp2_with fail
        refine (pend_any wr W PL k5 q5 c5).mono ?_
        rintro e w5 ⟨rfl, rfl⟩
        go_wp2_with fail
        refine (wleave_any _ base W mb (n + 1) _ jv4 _ _ D' HH4.out ja0 ⟨(PL : Int), gl, gl, [], none, 0⟩ (by have := HPL.out; have := HL.out; simp only [List.length_append, List.length_replicate] at *; omega) (by have := HL.out; simp only [List.length_append, jasJ_len, List.length_take] at *; omega)).mono ?_
        rintro e w6 ⟨rfl, ⟨pv6, jv6, H6⟩, F6⟩
        have HH6 : Hid (LBlkP w w6 base W mb (prog ++ b.code ++ List.replicate (k + 1) ja0) (js ++ jasJ (prog ++ b.code).length (d.take (k + 1))) (n + 1) D') := by
          refine ⟨⟨pv6, jv6, ?_⟩, HF4.out.trans F6⟩
          rw [HG.out gl rfl, jasJ_snoc, List.replicate_succ', ← List.append_assoc, ← List.append_assoc]
          have e1 : jaJ ((prog ++ b.code).length + (d.take k).length) gl = ⟨(PL : Int), gl, gl, [], none, 0⟩ := by
            unfold jaJ
            have := HPL.out
            rw [List.length_append, List.length_replicate] at this
            rw [List.length_take, Nat.min_eq_left (by omega), this]
          rw [e1]
          exact H6
        have HZ6 : Hid (ZOwns w6 base (.slice (some ⟨db, dof, none⟩) d.length dc) d) := WG.owns F6 HZ4.out (.inl rfl)
        have hdl : d.length ≤ 10000 := HL.out.1.2
        clear H6 F6 HH4 HF4 HZ4 HG HPL c4 c5
        go_wp2
        go_roundw
        case rel => exact ⟨k + 1, by omega, by go_num, HH6.out, HZ6.out⟩
        case measure => simp [intOf]; omega
      · have hl : ¬ (k : Int) < (d.length : Int) := by omega
        have ek : k = d.length := by omega
        have HE : Hid (R wr) := HR.out wr (by
          refine ⟨⟨pv4, jv4, ?_⟩, F4⟩
          rw [ek, List.take_of_length_le (Nat.le_refl _)] at H4
          obtain ⟨e1, e2, e3⟩ := HE0.out
          rw [rawB, jmpB, e1, e2, e3, List.nil_append, List.nil_append, ← List.append_assoc]
          rw [List.length_append] at H4
          exact H4)
        clear H4 F4 Z4 ek
        go_wp2
        go_end0
        exact ⟨rfl, HE.out⟩
  · have HE0 : Hid (endR b = [b.last] ∧ (∀ z : Nat, endJ z b d da dc = [⟨(z : Int), b.yes, b.no, d, da, dc⟩]) ∧ roomV b = b.code.length + 1) := ⟨by rw [endR, if_neg (by omega)], fun z => by rw [endJ, if_pos h3], by rw [roomV, sizeE, if_neg (by omega)]⟩
    rw [h3] at c1
    clear h3 HEN
    obtain ⟨PL, hPL⟩ : ∃ PL, (prog ++ b.code).length = PL := ⟨_, rfl⟩
    rw [hPL] at HH3 HN3
    have HPL : Hid ((prog ++ b.code).length = PL) := hPL
    clear hPL
    go_wp2_with fail
    refine wp_region_held_drew (S := fun W' => VAt W' A 56 (bkA b a ca)) (by kernel_rfl) (HV3.out) (fun hHeld => ?_)
    refine wpAnyH_take (i := 0) (v := .pointer (some ⟨W, 0, none⟩)) rfl (by kernel_rfl) (by kernel_rfl) (by kernel_rfl) (fun _ _ _ h => h) (Or.inl ⟨by rfl, fun W hW => ?_⟩) hHeld ?_
    · clear hW
      go_simp
    try simp only [Act.put, List.getElem_toArray, List.getElem_cons_zero, List.setIfInBounds_toArray, List.set_cons_zero, List.set_cons_succ]
    refine wpAnyH_take (i := 1) (v := .pointer (some ⟨A, 2, none⟩)) rfl (by kernel_rfl) (by kernel_rfl) (by kernel_rfl) (fun _ _ _ h => h) (Or.inl ⟨by rfl, fun W hW => ?_⟩) hHeld ?_
    · clear hW
      go_simp
    try simp only [Act.put, List.getElem_toArray, List.getElem_cons_zero, List.getElem_cons_succ, List.setIfInBounds_toArray, List.set_cons_zero, List.set_cons_succ]
    refine wpAnyH_take (i := 2) (v := .agg b.last.cells.toArray) rfl (by kernel_rfl) (by kernel_rfl) (by kernel_rfl) (fun _ _ _ h => h) (yieldsIf_load_mid (by rfl) _ _ rfl A 2 rfl b.last.cells _ (fun W' hW => bk_range hW) Tryz.underlying54 rfl (by kernel_rfl)) hHeld ?_
    try simp only [Act.put, List.getElem_toArray, List.getElem_cons_zero, List.getElem_cons_succ, List.setIfInBounds_toArray, List.set_cons_zero, List.set_cons_succ]
    refine wpAnyH_take (i := 3) (v := .pointer (some ⟨W, 0, none⟩)) rfl (by kernel_rfl) (by kernel_rfl) (by kernel_rfl) (fun _ _ _ h => h) (Or.inl ⟨by rfl, fun W hW => ?_⟩) hHeld ?_
    · clear hW
      go_simp
    try simp only [Act.put, List.getElem_toArray, List.getElem_cons_zero, List.getElem_cons_succ, List.setIfInBounds_toArray, List.set_cons_zero, List.set_cons_succ]
    refine wpAnyH_take (i := 4) (v := .pointer (some ⟨W, 0, none⟩)) rfl (by kernel_rfl) (by kernel_rfl) (by kernel_rfl) (fun _ _ _ h => h) (Or.inl ⟨by rfl, fun W hW => ?_⟩) hHeld ?_
    · clear hW
      go_simp
    try simp only [Act.put, List.getElem_toArray, List.getElem_cons_zero, List.getElem_cons_succ, List.setIfInBounds_toArray, List.set_cons_zero, List.set_cons_succ]
    refine wpAnyH_take (i := 5) (v := .pointer (some ⟨W, 0, none⟩)) rfl (by kernel_rfl) (by kernel_rfl) (by kernel_rfl) (fun _ _ _ h => h) (Or.inl ⟨by rfl, fun W hW => ?_⟩) hHeld ?_
    · clear hW
      go_simp
    try simp only [Act.put, List.getElem_toArray, List.getElem_cons_zero, List.getElem_cons_succ, List.setIfInBounds_toArray, List.set_cons_zero, List.set_cons_succ]
    refine wpAnyH_take (i := 7) (v := .pointer (some ⟨A, 6, none⟩)) rfl (by kernel_rfl) (by kernel_rfl) (by kernel_rfl) (fun _ _ _ h => h) (Or.inl ⟨by rfl, fun W hW => ?_⟩) hHeld ?_
    · clear hW
      go_simp
    try simp only [Act.put, List.getElem_toArray, List.getElem_cons_zero, List.getElem_cons_succ, List.setIfInBounds_toArray, List.set_cons_zero, List.set_cons_succ]
    refine wpAnyH_take (i := 8) (v := .int .i64 b.yes) rfl (by kernel_rfl) (by kernel_rfl) (by kernel_rfl) (fun _ _ _ h => h) (Or.inl ⟨by rfl, fun W hW => ?_⟩) hHeld ?_
    · have c := hW.cell 6
      clear hW
      go_simp
    try simp only [Act.put, List.getElem_toArray, List.getElem_cons_zero, List.getElem_cons_succ, List.setIfInBounds_toArray, List.set_cons_zero, List.set_cons_succ]
    refine wpAnyH_take (i := 9) (v := .pointer (some ⟨A, 7, none⟩)) rfl (by kernel_rfl) (by kernel_rfl) (by kernel_rfl) (fun _ _ _ h => h) (Or.inl ⟨by rfl, fun W hW => ?_⟩) hHeld ?_
    · clear hW
      go_simp
    try simp only [Act.put, List.getElem_toArray, List.getElem_cons_zero, List.getElem_cons_succ, List.setIfInBounds_toArray, List.set_cons_zero, List.set_cons_succ]
    refine wpAnyH_take (i := 10) (v := .int .i64 b.no) rfl (by kernel_rfl) (by kernel_rfl) (by kernel_rfl) (fun _ _ _ h => h) (Or.inl ⟨by rfl, fun W hW => ?_⟩) hHeld ?_
    · have c := hW.cell 7
      clear hW
      go_simp
    try simp only [Act.put, List.getElem_toArray, List.getElem_cons_zero, List.getElem_cons_succ, List.setIfInBounds_toArray, List.set_cons_zero, List.set_cons_succ]
    refine wpAnyH_take (i := 11) (v := .slice da d.length dc) rfl (by kernel_rfl) (by kernel_rfl) (by kernel_rfl) (fun _ _ _ h => h) (Or.inl ⟨by rfl, fun W hW => ?_⟩) hHeld ?_
    · clear hW
      go_simp
    try simp only [Act.put, List.getElem_toArray, List.getElem_cons_zero, List.getElem_cons_succ, List.setIfInBounds_toArray, List.set_cons_zero, List.set_cons_succ]
    refine wpAnyH_ready (rs := [6]) (by kernel_rfl) (by simp) (AllReadyH.cons rfl (fun K hK => ?_) AllReadyH.nil)
    go_simp
    refine (pend_any _ W PL k3 q3 ((HH3.out.kept (grown_drewN w3 1 none)).cell.cell 0)).mono ?_
    rintro e w4 ⟨rfl, rfl⟩
    go_wp2_with fail
    refine hK.out _ _ hHeld (fun hHeld => ?_)
    clear hK K
    try simp only [Act.put, List.getElem_toArray, List.getElem_cons_zero, List.getElem_cons_succ, List.setIfInBounds_toArray, List.set_cons_zero, List.set_cons_succ]
    refine wpAnyH_take (i := 12) (v := .agg #[.int .i64 (PL : Int), .int .i64 b.yes, .int .i64 b.no, .slice da d.length dc]) rfl (by kernel_rfl) (by kernel_rfl) (by kernel_rfl) (fun _ _ _ h => h) (yieldsIf_bld (by rfl) 86 _ (by rfl) #[(0, .int .i64 (PL : Int)), (1, .int .i64 b.yes), (2, .int .i64 b.no), (3, .slice da d.length dc)] (by kernel_rfl) (.agg #[.int .i64 (PL : Int), .int .i64 b.yes, .int .i64 b.no, .slice da d.length dc]) (bld_jump _ _ _ _ _ _)) hHeld ?_
    try simp only [Act.put, List.getElem_toArray, List.getElem_cons_zero, List.getElem_cons_succ, List.setIfInBounds_toArray, List.set_cons_zero, List.set_cons_succ]
    refine wpAnyH_ready (rs := [13]) (by kernel_rfl) (by simp) (AllReadyH.cons rfl (fun K hK => ?_) AllReadyH.nil)
    go_simp
    refine (wleave_any _ base W mb (n + 1) _ jv _ _ D' (HH3.out.kept (grown_drewN w3 1 none)) b.last ⟨(PL : Int), b.yes, b.no, d, da, dc⟩ (by have := HPL.out; have := HL.out; simp only [List.length_append] at *; omega) (by have := HL.out; omega)).mono ?_
    rintro e w5 ⟨rfl, ⟨pv5, jv5, H5⟩, F5⟩
    have HDx : Hid (ZOwns w5 base (.slice da d.length dc) d) := WG.owns F5 (owns_keptNone HD3.out (grown_drewN w3 1 none)) (.inl rfl)
    have HFx : Hid (WG base w w5) := HF3.out.trans (WG.trans (WG.non (grown_drewN w3 1 none)) F5)
    have HHx : Hid (WS w5 base W mb pv5 jv5 (prog ++ b.code ++ [b.last]) (js ++ [⟨(PL : Int), b.yes, b.no, d, da, dc⟩]) (n + 1) D') := H5
    have hA5 : VAt w5 A 56 (bkA b a ca) := WG.vat F5 hHeld (.inr (.inr rfl))
    refine hK.out _ _ hA5 (fun hHeld => ?_)
    clear hK K hHeld hA5 H5 F5 HH3 HF3 HD3 HV3 HN3
    try simp only [Act.put, List.getElem_toArray, List.getElem_cons_zero, List.getElem_cons_succ, List.setIfInBounds_toArray, List.set_cons_zero, List.set_cons_succ]
    refine wpAnyH_done (by kernel_rfl) ?_ _
    obtain ⟨JJ, hJJ⟩ : ∃ JJ, js ++ [⟨(PL : Int), b.yes, b.no, d, da, dc⟩] = JJ := ⟨_, rfl⟩
    rw [hJJ] at HHx
    have HJJ : Hid (js ++ [⟨(PL : Int), b.yes, b.no, d, da, dc⟩] = JJ ∧ JJ.length ≤ 50001) := ⟨hJJ, by rw [← hJJ]; have := HL.out.2.1; simp; omega⟩
    clear hJJ
    go_wp2_with fail
    go_loopw [54] (fun i wr => ∃ k : Nat, k ≤ d.length ∧ i = .int .i64 k ∧ LBlkP w wr base W mb (prog ++ b.code ++ [b.last] ++ List.replicate k ja0) (JJ ++ jasJ (prog ++ b.code ++ [b.last]).length (d.take k)) (n + 1) D' ∧ ZOwns wr base (.slice da d.length dc) d) (fun i _ => d.length - (intOf i).toNat)
    case atStart => exact ⟨0, Nat.zero_le _, rfl, ⟨⟨_, _, by rw [List.take_zero, List.replicate_zero, List.append_nil, jasJ, List.append_nil]; exact HHx.out⟩, HFx.out⟩, HDx.out⟩
    case round =>
      obtain ⟨k, hk, rfl, ⟨⟨pv4, jv4, H4⟩, F4⟩, Z4⟩ := hrel
      by_cases hlt : k < d.length
      · have hl : (k : Int) < (d.length : Int) := by omega
        have HH4 : Hid (WS wr base W mb pv4 jv4 (prog ++ b.code ++ [b.last] ++ List.replicate k ja0) (JJ ++ jasJ (prog ++ b.code ++ [b.last]).length (d.take k)) (n + 1) D') := H4
        have HF4 : Hid (WG base w wr) := F4
        have HZ4 : Hid (ZOwns wr base (.slice da d.length dc) d) := Z4
        obtain ⟨db, dof, hda, hcell⟩ := (zcv Z4).ints hlt
        have c4 := hcell k hlt
        have HG : Hid (∀ y, y = d[k] → d.take (k + 1) = d.take k ++ [y]) := fun y hy => by rw [hy, List.take_append_getElem]
        generalize hgk : d[k] = gl at *
        clear hgk hcell Z4 F4
        subst hda
        obtain ⟨q5, k5, hpv⟩ := own_slice H4.own
        subst hpv
        have c5 : wr.cell? ⟨W, 0, none⟩ = some (.slice q5 (prog ++ b.code ++ [b.last] ++ List.replicate k ja0).length k5) := H4.cell.cell 0
        obtain ⟨PL, hPL⟩ : ∃ PL, (prog ++ b.code ++ [b.last] ++ List.replicate k ja0).length = PL := ⟨_, rfl⟩
        rw [hPL] at c5 HH4
        have HPL : Hid ((prog ++ b.code ++ [b.last] ++ List.replicate k ja0).length = PL) := hPL
        clear H4 hPL
        go_wp2_with fail
        refine (pend_any wr W PL k5 q5 c5).mono ?_
        rintro e w5 ⟨rfl, rfl⟩
        go_wp2_with fail
        refine (wleave_any _ base W mb (n + 1) _ jv4 _ _ D' HH4.out ja0 ⟨(PL : Int), gl, gl, [], none, 0⟩ (by have := HPL.out; have := HL.out; simp only [List.length_append, List.length_replicate, List.length_singleton] at *; omega) (by have := HL.out; have := HJJ.out.2; simp only [List.length_append, jasJ_len, List.length_take] at *; omega)).mono ?_
        rintro e w6 ⟨rfl, ⟨pv6, jv6, H6⟩, F6⟩
        have HH6 : Hid (LBlkP w w6 base W mb (prog ++ b.code ++ [b.last] ++ List.replicate (k + 1) ja0) (JJ ++ jasJ (prog ++ b.code ++ [b.last]).length (d.take (k + 1))) (n + 1) D') := by
          refine ⟨⟨pv6, jv6, ?_⟩, HF4.out.trans F6⟩
          rw [HG.out gl rfl, jasJ_snoc, List.replicate_succ', ← List.append_assoc, ← List.append_assoc]
          have e1 : jaJ ((prog ++ b.code ++ [b.last]).length + (d.take k).length) gl = ⟨(PL : Int), gl, gl, [], none, 0⟩ := by
            unfold jaJ
            have := HPL.out
            rw [List.length_append, List.length_replicate] at this
            rw [List.length_take, Nat.min_eq_left (by omega), this]
          rw [e1]
          exact H6
        have HZ6 : Hid (ZOwns w6 base (.slice (some ⟨db, dof, none⟩) d.length dc) d) := WG.owns F6 HZ4.out (.inl rfl)
        have hdl : d.length ≤ 10000 := HL.out.1.2
        clear H6 F6 HH4 HF4 HZ4 HG HPL c4 c5
        go_wp2
        go_roundw
        case rel => exact ⟨k + 1, by omega, by go_num, HH6.out, HZ6.out⟩
        case measure => simp [intOf]; omega
      · have hl : ¬ (k : Int) < (d.length : Int) := by omega
        have ek : k = d.length := by omega
        have HE : Hid (R wr) := HR.out wr (by
          refine ⟨⟨pv4, jv4, ?_⟩, F4⟩
          rw [ek, List.take_of_length_le (Nat.le_refl _)] at H4
          obtain ⟨e1, e2, e3⟩ := HE0.out
          have e5 := HPL.out
          rw [List.length_append] at e5
          rw [rawB, jmpB, e1, e2, e3, ← List.append_assoc, ← List.append_assoc, ← List.append_assoc, e5, HJJ.out.1]
          have e4 : (prog ++ b.code ++ [b.last]).length = prog.length + (b.code.length + 1) := by simp only [List.length_append, List.length_singleton]; omega
          rw [e4] at H4
          exact H4)
        clear H4 F4 Z4 ek
        go_wp2
        go_end0
        exact ⟨rfl, HE.out⟩

end Go.Proofs.YtencoknpocipbaaGreat
