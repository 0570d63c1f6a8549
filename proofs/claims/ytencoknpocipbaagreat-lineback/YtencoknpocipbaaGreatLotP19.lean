/-
  Package line as landed: fill. The document's own answers for chapter 15: what is wrong with a graph. Codes of instructions: those that are plain, those that return. No Go text here.
-/
import Derived.Test.YtencoknpocipbaaGreatLnE
import Derived.Test.YtencoknpocipbaaGreatLotP5
import Derived.Test.YtencoknpocipbaaGreatLotP12
import Derived.Test.YtencoknpocipbaaGreatLotP6
namespace Go.Proofs.YtencoknpocipbaaGreat
open Go.RowKit
open Go.Maps
set_option maxRecDepth 100000

/-- A jump with its goals filled in. -/
def filled (pl : Int → Int) (x : In) (j : Jp) : In :=
  if ((x.code.toNat : Int) == 5) = true then ⟨x.code, x.jt, x.jf, u32I (leapL pl j.d j.yes j.at')⟩ else ⟨x.code, u8I (leapL pl j.d j.yes j.at'), u8I (leapL pl j.d j.no j.at'), x.k⟩
def fillJ (pl : Int → Int) (P : List In) (j : Jp) : List In := P.set j.at'.toNat (filled pl (P.getD j.at'.toNat zIn) j)
theorem fillJ_len (pl : Int → Int) (P : List In) (j : Jp) : (fillJ pl P j).length = P.length := by simp [fillJ]
theorem jfold_len (pl : Int → Int) : ∀ (js : List Jp) (P : List In), (js.foldl (fillJ pl) P).length = P.length
  | [], _ => rfl
  | j :: r, P => by rw [List.foldl_cons, jfold_len pl r, fillJ_len]

/-- A goal whose place stands in the map. -/
def Gok (pl : Int → Int) (D : DataW Unit) (d : List Int) (g : Int) : Prop := ∃ pg : Int, D.atKey (.int .i64 g) (.lit (.int .i64 0)) = .lit (.int .i64 pg) ∧ (g ∉ d → pl g = pg) ∧ 0 ≤ pg ∧ pg ≤ 1000000 ∧ (Lit.int .i64 g).wf = true
structure JOk (w : World) (base : Nat) (pl : Int → Int) (D : DataW Unit) (N : Nat) (j : Jp) : Prop where
  own : ZOwns w base j.dv j.d
  place : ∃ m : Nat, j.at' = (m : Int) ∧ m < N
  dl : j.d.length ≤ 10000
  yes : Gok pl D j.d j.yes
  no : Gok pl D j.d j.no
theorem JOk.kept {w w' : World} {base N : Nat} {pl : Int → Int} {D : DataW Unit} {j : Jp} (h : JOk w base pl D N j) (F : WG base w w') : JOk w' base pl D N j := ⟨WG.owns F h.own (.inl rfl), h.place, h.dl, h.yes, h.no⟩

theorem flatJ_get (xs : List Jp) (i k : Nat) (hi : i < xs.length) (hk : k < 4) : (flatJ xs)[i * 4 + k]? = (xs[i].cells)[k]? := by
  induction xs generalizing i with
  | nil => simp at hi
  | cons x xs ih =>
    have hl : x.cells.length = 4 := rfl
    rw [flatJ, List.flatMap_cons]
    cases i with
    | zero => rw [List.getElem?_append_left (by omega)]; simp
    | succ i =>
      have := ih i (by simpa using hi)
      rw [flatJ] at this
      rw [List.getElem?_append_right (by omega), hl, show (i + 1) * 4 + k - 4 = i * 4 + k by omega, this]
      simp
theorem CV.jumps {w : World} {ao : Option Addr} {xs : List Jp} (h : CV w ao (flatJ xs)) {k : Nat} (hk : k < xs.length) :
    ∃ b off, ao = some ⟨b, off, none⟩ ∧ ∀ i v, xs[k].cells[i]? = some v → w.cell? ⟨b, off + k * 4 + i, none⟩ = some v := by
  have hl := flatJ_len xs
  obtain ⟨b, off, hao, hc⟩ := h.addr (k := k * 4) (by omega)
  refine ⟨b, off, hao, fun i v hv => ?_⟩
  have hi : i < 4 := (List.getElem?_eq_some_iff.1 hv).1
  rw [← flatJ_get xs k i hk hi] at hv
  rw [Nat.add_assoc, hc (k * 4 + i) (by omega), ← hv, List.getElem?_eq_getElem (by omega)]

/-- One cell of one instruction. -/
theorem flat_set {k : Nat} (hk : k < 4) (u : Value) : ∀ (xs : List In) (i : Nat) (x' : In), i < xs.length → (∀ x, xs[i]? = some x → x'.cells = x.cells.set k u) → (flat xs).set (i * 4 + k) u = flat (xs.set i x')
  | [], i, x', h, _ => by simp at h
  | x :: xs, 0, x', _, h => by
    have e := h x rfl
    rw [flat_cons, List.set_cons_zero, flat_cons, e, Nat.zero_mul, Nat.zero_add, List.set_append_left _ _ (by show k < 4; exact hk)]
  | x :: xs, i + 1, x', hi, h => by
    have hl : x.cells.length = 4 := rfl
    rw [flat_cons, List.set_cons_succ, flat_cons, List.set_append_right _ _ (by omega), hl, show (i + 1) * 4 + k - 4 = i * 4 + k by omega, flat_set hk u xs i x' (by simpa using hi) (by simpa using h)]

theorem WS.put {w : World} {base W mb n g cap m i N : Nat} {jv : Value} {prog : List In} {js : List Jp} {D : DataW Unit} (h : WS w base W mb (.slice (some ⟨g, 0, none⟩) N cap) jv prog js n D) (hN : N = prog.length) (hi : i < 4) (hm : m < prog.length) (x' : In) (u : Value) (hx : x'.cells = prog[m].cells.set i u) :
    WS (w.setCell ⟨g, m * 4 + i, none⟩ u) base W mb (.slice (some ⟨g, 0, none⟩) N cap) jv (prog.set m x') js n D ∧ WG base w (w.setCell ⟨g, m * 4 + i, none⟩ u) := by
  subst hN
  obtain ⟨O, G⟩ := World.ownsRow.stored h.own (m * 4 + i) u
  have e := flat_set hi u prog m x' hm (fun x hx' => by
    rw [List.getElem?_eq_getElem hm] at hx'
    have := Option.some.inj hx'
    rw [← this]
    exact hx)
  rw [e] at O
  have hg : (Value.slice (some ⟨g, 0, none⟩) prog.length cap).ownBlock = some g := rfl
  refine ⟨⟨h.cell.grown G (fun e => own_vat h.own h.cell insn_ne_w (hg.trans e)), ?_, own_kept h.jown G (fun e => own_other h.jown h.own jump_ne_i e hg), h.mown.kept G (fun e => ?_), h.wb, h.mbb, Nat.le_trans h.sz G.size⟩, WG.of (GB.of (S := fun x => x = g) G fun x hx => (Option.some.inj hx).symm) fun x hx => ?_⟩
  · show (w.setCell _ u).ownsRow base _ 4 _ (prog.set m x').length (flat (prog.set m x'))
    rw [List.length_set]
    exact O
  · obtain ⟨cur, hc⟩ := own_kind h.own hg
    exact map_no h.mown hc (Option.some.inj e)
  · subst hx
    exact own_nk h.own (by decide) (by decide) hg

theorem wrap_u32I (v : Int) : IntKind.u32.wrap v = ((u32I v).toNat : Int) := by
  unfold u32I
  rw [UInt32.toNat_ofNat', IntKind.wrap_u32]
  omega
theorem wrap_u8I (v : Int) : IntKind.u8.wrap v = ((u8I v).toNat : Int) := by
  unfold u8I
  rw [UInt8.toNat_ofNat', IntKind.wrap_u8]
  omega

set_option maxHeartbeats 8000000 in
theorem fill_any (w : World) (base W mb n : Nat) (pv jv : Value) (prog : List In) (js : List Jp) (D : DataW Unit) (H : WS w base W mb pv jv prog js n D) (pl : Int → Int) (hJ : ∀ j ∈ js, JOk w base pl D prog.length j) (hN : prog.length ≤ 100000) (hjl : js.length ≤ 100000) :
    Calls Tryz.prog 15 #[.pointer (some ⟨W, 0, none⟩)] w fun e w' => e = .returned (.tuple #[]) ∧ WS w' base W mb pv jv (js.foldl (fillJ pl) prog) js n D ∧ WG base w w' := by
  obtain ⟨ja, jc, hjv⟩ := own_slice H.jown
  subst hjv
  have c2 : w.cell? ⟨W, 2, none⟩ = some (.slice ja js.length jc) := H.cell.cell 2
  have HH : Hid (WS w base W mb pv (.slice ja js.length jc) prog js n D) := H
  have HJ : Hid (∀ j ∈ js, JOk w base pl D prog.length j) := hJ
  have HN : Hid (prog.length ≤ 100000) := hN
  clear H hJ hN
  go_enter Tryz.func15, Tryz.ntmps15
  go_wp2
  clear c2
  go_loopw [12] (fun i wr => ∃ k : Nat, k ≤ js.length ∧ i = .int .i64 k ∧ WS wr base W mb pv (.slice ja js.length jc) ((js.take k).foldl (fillJ pl) prog) js n D ∧ WG base w wr) (fun i _ => js.length - (intOf i).toNat)
  case atStart => exact ⟨0, Nat.zero_le _, rfl, HH.out, WG.non (World.grownBy.refl _ _)⟩
  case round =>
    obtain ⟨k, hk, rfl, H1, F1⟩ := hrel
    by_cases hlt : k < js.length
    · have hl : (k : Int) < (js.length : Int) := by omega
      have J1 := (HJ.out js[k] (List.getElem_mem hlt)).kept F1
      obtain ⟨hq1, hq2, hq3, hq4, hq5⟩ := J1
      obtain ⟨m, hm, hmN⟩ := hq2
      obtain ⟨py, y1, y2, y3, y4, y5⟩ := hq4
      obtain ⟨pn, n1, n2, n3, n4, n5⟩ := hq5
      obtain ⟨PR, hPR⟩ : ∃ PR, (js.take k).foldl (fillJ pl) prog = PR := ⟨_, rfl⟩
      have hPL : PR.length = prog.length := by rw [← hPR, jfold_len]
      have HNX : Hid ((js.take (k + 1)).foldl (fillJ pl) prog = fillJ pl PR js[k]) := by
        show _ = _
        rw [← List.take_append_getElem hlt, List.foldl_append, hPR]
        rfl
      rw [hPR] at H1
      clear hPR
      obtain ⟨jb, jo, hja, hcell⟩ := (CV.jumps (xs := js) (by obtain ⟨q1, q2, q3, q4, -⟩ := cv_of_row H1.jown; injection q3 with e; subst e; exact q4) hlt)
      generalize js[k] = j at *
      obtain ⟨at', yes, no, d, da, dc⟩ := j
      simp only at hm hq3 y1 y2 n1 n2 hcell
      subst hm
      have j0 : wr.cell? ⟨jb, jo + k * 4, none⟩ = some (.int .i64 (m : Int)) := hcell 0 _ rfl
      have j1 : wr.cell? ⟨jb, jo + k * 4 + 1, none⟩ = some (.int .i64 yes) := hcell 1 _ rfl
      have j2 : wr.cell? ⟨jb, jo + k * 4 + 2, none⟩ = some (.int .i64 no) := hcell 2 _ rfl
      have j3 : wr.cell? ⟨jb, jo + k * 4 + 3, none⟩ = some (.slice da d.length dc) := hcell 3 _ rfl
      clear hcell
      subst hja
      have V1 := VAt.alloc wr 86 #[.int .i64 (m : Int), .int .i64 yes, .int .i64 no, .slice da d.length dc]
      have K1 := World.grownBy_alloc wr (.cells #[.int .i64 (m : Int), .int .i64 yes, .int .i64 no, .slice da d.length dc] 86) none
      have HLY : Hid (∀ W' : World, wr.grownBy W' none → Calls Tryz.prog 30 #[.pointer (some ⟨W, 0, none⟩), .agg #[.int .i64 (m : Int), .int .i64 yes, .int .i64 no, .slice da d.length dc], .int .i64 yes] W' fun e w' => e = .returned (.int .i64 (leapL pl d yes (m : Int))) ∧ W'.grownBy w' none) := fun W' K => leap_any W' base W mb n _ _ _ js D (H1.kept K) ⟨(m : Int), yes, no, d, da, dc⟩ yes py pl (zcv (owns_keptNone hq1 K)) (by simp only; omega) y5 y1 y2 ⟨y3, y4, by simp only; omega, by have := HN.out; simp only; omega⟩
      have HLN : Hid (∀ W' : World, wr.grownBy W' none → Calls Tryz.prog 30 #[.pointer (some ⟨W, 0, none⟩), .agg #[.int .i64 (m : Int), .int .i64 yes, .int .i64 no, .slice da d.length dc], .int .i64 no] W' fun e w' => e = .returned (.int .i64 (leapL pl d no (m : Int))) ∧ W'.grownBy w' none) := fun W' K => leap_any W' base W mb n _ _ _ js D (H1.kept K) ⟨(m : Int), yes, no, d, da, dc⟩ no pn pl (zcv (owns_keptNone hq1 K)) (by simp only; omega) n5 n1 n2 ⟨n3, n4, by simp only; omega, by have := HN.out; simp only; omega⟩
      have HH1 : Hid (WS wr base W mb pv (.slice (some ⟨jb, jo, none⟩) js.length jc) PR js n D ∧ WG base w wr ∧ PR.length = prog.length ∧ m < PR.length) := ⟨H1, F1, hPL, by omega⟩
      clear H1 F1 hPL hmN y1 y2 y3 y4 y5 n1 n2 n3 n4 n5 hq1 hq3
      go_upto_region 3 with fail
      have HV1 : Hid (VAt (wr.alloc (.cells #[.int .i64 (m : Int), .int .i64 yes, .int .i64 no, .slice da d.length dc] 86)) wr.heap.size 86 #[.int .i64 (m : Int), .int .i64 yes, .int .i64 no, .slice da d.length dc] ∧ wr.grownBy (wr.alloc (.cells #[.int .i64 (m : Int), .int .i64 yes, .int .i64 no, .slice da d.length dc] 86)) none) := ⟨V1, K1⟩
      clear V1 K1 j0 j1 j2 j3
      generalize wr.alloc (.cells #[.int .i64 (m : Int), .int .i64 yes, .int .i64 no, .slice da d.length dc] 86) = w1 at *
      generalize wr.heap.size = B at *
      obtain ⟨LY, hLY⟩ : ∃ z, leapL pl d yes (m : Int) = z := ⟨_, rfl⟩
      obtain ⟨LN, hLN⟩ : ∃ z, leapL pl d no (m : Int) = z := ⟨_, rfl⟩
      rw [hLY] at HLY
      rw [hLN] at HLN
      have HFI : Hid (∀ x : In, filled pl x ⟨(m : Int), yes, no, d, da, dc⟩ = if ((x.code.toNat : Int) == 5) = true then ⟨x.code, x.jt, x.jf, u32I LY⟩ else ⟨x.code, u8I LY, u8I LN, x.k⟩) := fun x => by rw [← hLY, ← hLN]; rfl
      clear hLY hLN
      refine wp_region_held_drew (S := fun W' => w1.grownBy W' none) (by kernel_rfl) (grown_drewN w1 1 none) (fun hHeld => ?_)
      refine wpAnyH_take (i := 0) (v := .pointer (some ⟨W, 0, none⟩)) rfl (by kernel_rfl) (by kernel_rfl) (by kernel_rfl) (fun _ _ _ h => h) (Or.inl ⟨by rfl, fun W hW => ?_⟩) hHeld ?_
      · clear hW
        go_simp
      try simp only [Act.put, List.getElem_toArray, List.getElem_cons_zero, List.setIfInBounds_toArray, List.set_cons_zero, List.set_cons_succ]
      refine wpAnyH_take (i := 1) (v := .agg (#[.int .i64 (m : Int), .int .i64 yes, .int .i64 no, .slice da d.length dc])) rfl (by kernel_rfl) (by kernel_rfl) (by kernel_rfl) (fun _ _ _ h => h) (gyieldsIf_load_row (by rfl) _ _ rfl B rfl 86 (#[.int .i64 (m : Int), .int .i64 yes, .int .i64 no, .slice da d.length dc]) _ (fun W hW => HV1.out.1.kept hW) Tryz.underlying86 rfl (by kernel_rfl)) hHeld ?_
      try simp only [Act.put, List.getElem_toArray, List.getElem_cons_zero, List.getElem_cons_succ, List.setIfInBounds_toArray, List.set_cons_zero, List.set_cons_succ]
      refine wpAnyH_take (i := 2) (v := .pointer (some ⟨B, 1, none⟩)) rfl (by kernel_rfl) (by kernel_rfl) (by kernel_rfl) (fun _ _ _ h => h) (Or.inl ⟨by rfl, fun W hW => ?_⟩) hHeld ?_
      · clear hW
        go_simp
      try simp only [Act.put, List.getElem_toArray, List.getElem_cons_zero, List.getElem_cons_succ, List.setIfInBounds_toArray, List.set_cons_zero, List.set_cons_succ]
      refine wpAnyH_take (i := 3) (v := .int .i64 yes) rfl (by kernel_rfl) (by kernel_rfl) (by kernel_rfl) (fun _ _ _ h => h) (Or.inl ⟨by rfl, fun W hW => ?_⟩) hHeld ?_
      · have c := (HV1.out.1.kept hW).cell 1
        clear hW
        go_simp
      try simp only [Act.put, List.getElem_toArray, List.getElem_cons_zero, List.getElem_cons_succ, List.setIfInBounds_toArray, List.set_cons_zero, List.set_cons_succ]
      refine wpAnyH_take (i := 5) (v := .pointer (some ⟨W, 0, none⟩)) rfl (by kernel_rfl) (by kernel_rfl) (by kernel_rfl) (fun _ _ _ h => h) (Or.inl ⟨by rfl, fun W hW => ?_⟩) hHeld ?_
      · clear hW
        go_simp
      try simp only [Act.put, List.getElem_toArray, List.getElem_cons_zero, List.getElem_cons_succ, List.setIfInBounds_toArray, List.set_cons_zero, List.set_cons_succ]
      refine wpAnyH_take (i := 6) (v := .agg (#[.int .i64 (m : Int), .int .i64 yes, .int .i64 no, .slice da d.length dc])) rfl (by kernel_rfl) (by kernel_rfl) (by kernel_rfl) (fun _ _ _ h => h) (gyieldsIf_load_row (by rfl) _ _ rfl B rfl 86 (#[.int .i64 (m : Int), .int .i64 yes, .int .i64 no, .slice da d.length dc]) _ (fun W hW => HV1.out.1.kept hW) Tryz.underlying86 rfl (by kernel_rfl)) hHeld ?_
      try simp only [Act.put, List.getElem_toArray, List.getElem_cons_zero, List.getElem_cons_succ, List.setIfInBounds_toArray, List.set_cons_zero, List.set_cons_succ]
      refine wpAnyH_take (i := 7) (v := .pointer (some ⟨B, 2, none⟩)) rfl (by kernel_rfl) (by kernel_rfl) (by kernel_rfl) (fun _ _ _ h => h) (Or.inl ⟨by rfl, fun W hW => ?_⟩) hHeld ?_
      · clear hW
        go_simp
      try simp only [Act.put, List.getElem_toArray, List.getElem_cons_zero, List.getElem_cons_succ, List.setIfInBounds_toArray, List.set_cons_zero, List.set_cons_succ]
      refine wpAnyH_take (i := 8) (v := .int .i64 no) rfl (by kernel_rfl) (by kernel_rfl) (by kernel_rfl) (fun _ _ _ h => h) (Or.inl ⟨by rfl, fun W hW => ?_⟩) hHeld ?_
      · have c := (HV1.out.1.kept hW).cell 2
        clear hW
        go_simp
      try simp only [Act.put, List.getElem_toArray, List.getElem_cons_zero, List.getElem_cons_succ, List.setIfInBounds_toArray, List.set_cons_zero, List.set_cons_succ]
      refine wpAnyH_ready (rs := [4]) (by kernel_rfl) (by simp) (AllReadyH.cons rfl (fun K hK => ?_) AllReadyH.nil)
      go_simp
      refine (HLY.out _ (grown_trans HV1.out.2 hHeld)).mono ?_
      rintro e w2 ⟨rfl, K2⟩
      have hHd := grown_trans hHeld K2
      go_wp2_with fail
      refine hK.out _ _ (grown_trans hHeld K2) (fun hHeld => ?_)
      clear hK K
      try simp only [Act.put, List.getElem_toArray, List.getElem_cons_zero, List.getElem_cons_succ, List.setIfInBounds_toArray, List.set_cons_zero, List.set_cons_succ]
      refine wpAnyH_ready (rs := [9]) (by kernel_rfl) (by simp) (AllReadyH.cons rfl (fun K hK => ?_) AllReadyH.nil)
      go_simp
      refine (HLN.out _ (grown_trans HV1.out.2 hHeld)).mono ?_
      rintro e w3 ⟨rfl, K3⟩
      have HK3 : Hid (w1.grownBy w3 none) := grown_trans hHeld K3
      go_wp2_with fail
      refine hK.out _ _ (grown_trans hHeld K3) (fun hHeld => ?_)
      clear hK K
      try simp only [Act.put, List.getElem_toArray, List.getElem_cons_zero, List.getElem_cons_succ, List.setIfInBounds_toArray, List.set_cons_zero, List.set_cons_succ]
      refine wpAnyH_take (i := 10) (v := .int .i64 LY) rfl (by kernel_rfl) (by kernel_rfl) (by kernel_rfl) (fun _ _ _ h => h) (Or.inl ⟨by rfl, fun W hW => ?_⟩) hHeld ?_
      · clear hW
        go_simp
      try simp only [Act.put, List.getElem_toArray, List.getElem_cons_zero, List.getElem_cons_succ, List.setIfInBounds_toArray, List.set_cons_zero, List.set_cons_succ]
      refine wpAnyH_take (i := 11) (v := .int .i64 LN) rfl (by kernel_rfl) (by kernel_rfl) (by kernel_rfl) (fun _ _ _ h => h) (Or.inl ⟨by rfl, fun W hW => ?_⟩) hHeld ?_
      · clear hW
        go_simp
      try simp only [Act.put, List.getElem_toArray, List.getElem_cons_zero, List.getElem_cons_succ, List.setIfInBounds_toArray, List.set_cons_zero, List.set_cons_succ]
      refine wpAnyH_done (by kernel_rfl) ?_ _
      clear hHeld hHd K2 K3
      go_wp2_with fail
      have HV3 : Hid (VAt w3 B 86 #[.int .i64 (m : Int), .int .i64 yes, .int .i64 no, .slice da d.length dc]) := HV1.out.1.kept HK3.out
      have HH3 : Hid (WS w3 base W mb pv (.slice (some ⟨jb, jo, none⟩) js.length jc) PR js n D) := HH1.out.1.kept (grown_trans HV1.out.2 HK3.out)
      have HF3 : Hid (WG base w w3) := HH1.out.2.1.trans (WG.non (grown_trans HV1.out.2 HK3.out))
      have HLM : Hid (PR.length = prog.length ∧ m < PR.length) := HH1.out.2.2
      clear HH1 HV1 HK3 HLY HLN
      obtain ⟨pb, pc, hpv, hcells⟩ : ∃ pb pc, pv = .slice (some ⟨pb, 0, none⟩) PR.length pc ∧ CV w3 (some ⟨pb, 0, none⟩) (flat PR) := by
        rcases HH3.out.own.2 with ⟨h, h0⟩ | ⟨g, cap, cur, h, -⟩
        · have := HLM.out.2; omega
        · refine ⟨g, cap, h, ?_⟩
          obtain ⟨q1, q2, q3, q4, -⟩ := cv_of_row HH3.out.own
          rw [h] at q3
          injection q3 with e
          subst e
          exact q4
      subst hpv
      have cP : w3.cell? ⟨W, 0, none⟩ = some (.slice (some ⟨pb, 0, none⟩) PR.length pc) := HH3.out.cell.cell 0
      have cA : w3.cell? ⟨B, 0, none⟩ = some (.int .i64 (m : Int)) := HV3.out.cell 0
      have hm1 : (m : Int) < (PR.length : Int) := by have := HLM.out.2; omega
      have HCV : Hid (CV w3 (some ⟨pb, 0, none⟩) (flat PR)) := hcells
      clear hcells
      go_quiet (fail)
      have K4 := grown_drewN w3 nq none
      generalize w3.drewN nq = w4 at *
      have H4 := HH3.out.kept K4
      have F4 := HF3.out.trans (WG.non K4)
      obtain ⟨b5, o5, e5, h5⟩ := (HCV.out.keptNone K4).insns HLM.out.2
      injection e5 with e5
      injection e5 with e5 e6
      subst e5 e6
      obtain ⟨x0, x1, x2, x3⟩ := h5 m HLM.out.2
      have hx : PR.getD m zIn = PR[m]'HLM.out.2 := by
        rw [List.getD_eq_getElem?_getD, List.getElem?_eq_getElem HLM.out.2]
        rfl
      have hNX := HNX.out
      rw [fillJ, show ((⟨(m : Int), yes, no, d, da, dc⟩ : Jp).at').toNat = m from rfl, hx, HFI.out] at hNX
      have hPT : ∀ (i : Nat) (x' : In) (u : Value), i < 4 → x'.cells = (PR[m]'HLM.out.2).cells.set i u → WS (w4.setCell ⟨pb, m * 4 + i, none⟩ u) base W mb (.slice (some ⟨pb, 0, none⟩) PR.length pc) (.slice (some ⟨jb, jo, none⟩) js.length jc) (PR.set m x') js n D ∧ WG base w4 (w4.setCell ⟨pb, m * 4 + i, none⟩ u) := fun i x' u hi hx => H4.put rfl hi HLM.out.2 x' u hx
      obtain ⟨cur, hcur⟩ := own_kind H4.own (show (Value.slice (some ⟨pb, 0, none⟩) PR.length pc).ownBlock = some pb from rfl)
      have hfz : ∀ i, w4.frozen? ⟨pb, i, none⟩ = false := fun i => VAt.free (t := 54) (cs := cur) hcur i
      have g1 := hfz (m * 4 + 1)
      have g2 := hfz (m * 4 + 2)
      have g3 := hfz (m * 4 + 3)
      have q1 : IntKind.u32.wrap LY = ((u32I LY).toNat : Int) := wrap_u32I LY
      have q2 : IntKind.u8.wrap LY = ((u8I LY).toNat : Int) := wrap_u8I LY
      have q3 : IntKind.u8.wrap LN = ((u8I LN).toNat : Int) := wrap_u8I LN
      clear h5 hcur hfz HCV HH3 HF3 HV3 cP cA K4 HNX HFI hx
      simp only [Nat.zero_add] at x0 x1 x2 x3
      have hset : ∀ y z : In, (PR.set m y).set m z = PR.set m z := fun y z => by simp
      by_cases h5 : (((PR[m]'HLM.out.2).code.toNat : Int) == 5) = true
      · rw [if_pos h5] at hNX
        obtain ⟨H5, F5⟩ := hPT 3 ⟨(PR[m]'HLM.out.2).code, (PR[m]'HLM.out.2).jt, (PR[m]'HLM.out.2).jf, u32I LY⟩ (.int .u32 ((u32I LY).toNat : Int)) (by omega) rfl
        rw [← hNX] at H5
        have HE : Hid (WS (w4.setCell ⟨pb, m * 4 + 3, none⟩ (.int .u32 ((u32I LY).toNat : Int))) base W mb (.slice (some ⟨pb, 0, none⟩) PR.length pc) (.slice (some ⟨jb, jo, none⟩) js.length jc) ((js.take (k + 1)).foldl (fillJ pl) prog) js n D ∧ WG base w (w4.setCell ⟨pb, m * 4 + 3, none⟩ (.int .u32 ((u32I LY).toNat : Int)))) := ⟨H5, F4.trans F5⟩
        clear H5 F5 hPT hNX hset H4 F4
        generalize (PR[m]'HLM.out.2) = x at *
        generalize u32I LY = z at *
        have h5' : ((x.code.toNat : Int)) = 5 := beq_iff_eq.1 h5
        rw [h5'] at x0
        clear h5 h5' HLM
        go_wp2
        go_roundw
        case rel => exact ⟨k + 1, by omega, by go_num, HE.out.1, HE.out.2⟩
        case measure => simp [intOf]; omega
      · have h5' : (((PR[m]'HLM.out.2).code.toNat : Int) == 5) = false := by simpa using h5
        rw [if_neg h5] at hNX
        obtain ⟨H5, F5⟩ := hPT 1 ⟨(PR[m]'HLM.out.2).code, u8I LY, (PR[m]'HLM.out.2).jf, (PR[m]'HLM.out.2).k⟩ (.int .u8 ((u8I LY).toNat : Int)) (by omega) rfl
        have hl5 : (PR.set m ⟨(PR[m]'HLM.out.2).code, u8I LY, (PR[m]'HLM.out.2).jf, (PR[m]'HLM.out.2).k⟩).length = PR.length := by simp
        obtain ⟨H6, F6⟩ := H5.put (i := 2) (m := m) hl5.symm (by omega) (by rw [hl5]; exact HLM.out.2) ⟨(PR[m]'HLM.out.2).code, u8I LY, u8I LN, (PR[m]'HLM.out.2).k⟩ (.int .u8 ((u8I LN).toNat : Int)) (by rw [List.getElem_set_self]; rfl)
        rw [hset, ← hNX] at H6
        have HE : Hid (WS ((w4.setCell ⟨pb, m * 4 + 1, none⟩ (.int .u8 ((u8I LY).toNat : Int))).setCell ⟨pb, m * 4 + 2, none⟩ (.int .u8 ((u8I LN).toNat : Int))) base W mb (.slice (some ⟨pb, 0, none⟩) PR.length pc) (.slice (some ⟨jb, jo, none⟩) js.length jc) ((js.take (k + 1)).foldl (fillJ pl) prog) js n D ∧ WG base w ((w4.setCell ⟨pb, m * 4 + 1, none⟩ (.int .u8 ((u8I LY).toNat : Int))).setCell ⟨pb, m * 4 + 2, none⟩ (.int .u8 ((u8I LN).toNat : Int)))) := ⟨H6, F4.trans (F5.trans F6)⟩
        clear H5 F5 H6 F6 hPT hNX hset H4 F4 hl5 h5
        generalize (PR[m]'HLM.out.2) = x at *
        generalize u8I LY = zy at *
        generalize u8I LN = zn at *
        clear HLM
        go_wp2
        go_roundw
        case rel => exact ⟨k + 1, by omega, by go_num, HE.out.1, HE.out.2⟩
        case measure => simp [intOf]; omega
    · have hl : ¬ (k : Int) < (js.length : Int) := by omega
      have ek : k = js.length := by omega
      rw [ek, List.take_of_length_le (Nat.le_refl _)] at H1
      have HE : Hid (WS wr base W mb pv (.slice ja js.length jc) (js.foldl (fillJ pl) prog) js n D ∧ WG base w wr) := ⟨H1, F1⟩
      clear H1 F1 ek
      go_wp2
      go_end0
      exact ⟨rfl, HE.out⟩

end Go.Proofs.YtencoknpocipbaaGreat

namespace Go.Proofs.YtencoknpocipbaaGreat
open Go.RowKit
set_option maxRecDepth 100000

theorem box8_alloc0 (w : World) (b : Bk) (a : Option Addr) (ca : Nat) : Box8 w w.heap.size b.en b.last.code.toNat b.last.jt.toNat b.last.jf.toNat b.last.k.toNat b.yes b.no (w.alloc (.cells (bkA b a ca) 56)) := by
  have h := cv_lit w 56 (bkA b a ca).toList
  exact ⟨h.2 _ rfl 1 (by simp), h.2 _ rfl 2 (by simp), h.2 _ rfl 3 (by simp), h.2 _ rfl 4 (by simp), h.2 _ rfl 5 (by simp), h.2 _ rfl 6 (by simp), h.2 _ rfl 7 (by simp), World.grownBy_alloc _ _ _⟩

theorem class6_ret (c : Int) : (classV c == 6) = retB c := by
  cases hk : knownB c with
  | false =>
    have h1 : classV c = -1 := by rw [classV, if_neg (by rw [hk]; simp)]
    rw [h1]
    cases hr : retB c with
    | false => rfl
    | true =>
      exfalso
      simp only [retB, Bool.or_eq_true, beq_iff_eq] at hr
      rcases hr with rfl | rfl
      · exact absurd hk (by decide)
      · exact absurd hk (by decide)
  | true =>
    have := known_all (fun c => (classV c == 6) == retB c) (by decide +kernel) hk
    exact beq_iff_eq.1 this
theorem usesJ_jump (c : Int) : usesJ c = jumpB c := by
  unfold usesJ knownB
  cases jumpB c <;> simp
/-- Is a Last without what it does not look at? -/
theorem bare_eq (x : In) : inEq x (bareV x) = (x.jt == 0 && x.jf == 0 && (usesK x.code.toNat || x.k == 0)) := by
  unfold inEq bareV
  cases hu : usesK x.code.toNat with
  | true => simp
  | false => simp

attribute [local go_sem high] insn_eql

end Go.Proofs.YtencoknpocipbaaGreat

namespace Go.Proofs.YtencoknpocipbaaGreat
open Go.RowKit
set_option maxRecDepth 100000

theorem plain_codes {x : In} (h : leavesB x = false) : ((x.code.toNat : Int) == 6) = false ∧ ((x.code.toNat : Int) == 22) = false ∧ ((x.code.toNat : Int) == 5) = false ∧ jumpB (x.code.toNat : Int) = false := by
  have h0 : (classV x.code.toNat == 5) = false ∧ (classV x.code.toNat == 6) = false := by
    rw [leavesB, Bool.or_eq_false_iff] at h
    exact h
  refine ⟨?_, ?_, ?_, ?_⟩
  · cases e : ((x.code.toNat : Int) == 6) with
    | false => rfl
    | true => rw [beq_iff_eq.1 e] at h0; exact absurd h0.2 (by decide)
  · cases e : ((x.code.toNat : Int) == 22) with
    | false => rfl
    | true => rw [beq_iff_eq.1 e] at h0; exact absurd h0.2 (by decide)
  · cases e : ((x.code.toNat : Int) == 5) with
    | false => rfl
    | true => rw [beq_iff_eq.1 e] at h0; exact absurd h0.1 (by decide)
  · cases e : jumpB (x.code.toNat : Int) with
    | false => rfl
    | true =>
      simp only [jumpB, Bool.or_eq_true, beq_iff_eq] at e
      rcases e with ((((((e | e) | e) | e) | e) | e) | e) | e <;> (rw [e] at h0; exact absurd h0.1 (by decide))

theorem leaves5 {x : In} (h : leavesB x = true) (h6 : (classV x.code.toNat == 6) = false) : classV x.code.toNat = 5 := by
  rw [leavesB, h6, Bool.or_false] at h
  simpa using h

theorem ret_codes {x : In} (h6 : (classV x.code.toNat == 6) = true) : ((x.code.toNat : Int) == 6) = true ∨ (((x.code.toNat : Int) == 6) = false ∧ ((x.code.toNat : Int) == 22) = true) := by
  rw [class6_ret] at h6
  simp only [retB, Bool.or_eq_true] at h6
  rcases h6 with h | h
  · exact .inl h
  · cases e : ((x.code.toNat : Int) == 6) with
    | true => exact .inl rfl
    | false => exact .inr ⟨rfl, h⟩

theorem not_ret {x : In} (h6 : (classV x.code.toNat == 6) = false) : ((x.code.toNat : Int) == 6) = false ∧ ((x.code.toNat : Int) == 22) = false := by
  rw [class6_ret] at h6
  simp only [retB, Bool.or_eq_false_iff] at h6
  exact h6

end Go.Proofs.YtencoknpocipbaaGreat
