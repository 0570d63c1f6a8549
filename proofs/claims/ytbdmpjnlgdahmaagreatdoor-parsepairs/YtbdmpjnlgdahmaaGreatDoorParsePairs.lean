/-
  For every two strings (of such size as the form itself says of each argument) riddlelaw11.ParsePairs returns true and leaves what was there as it was: no condition of ours.
-/
import Derived.Test.YtbdmpjnlgdahmaaGreatDoorLotP51
import Derived.Test.YtbdmpjnlgdahmaaGreatDoorLotP22
import Derived.Test.YtbdmpjnlgdahmaaGreatDoorLotP49
import Derived.Test.YtbdmpjnlgdahmaaGreatDoorLotP26
import Derived.Test.YtbdmpjnlgdahmaaGreatDoorLotP50
import Derived.BigQuiet
namespace Go.Proofs.YtbdmpjnlgdahmaaGreatDoor
open Go.ChangeShapes Go.WideShapes Go.ChangeAt Go.RowKit
open Go.ChangeMaps (open_string shut_string)
set_option maxRecDepth 100000
namespace parsePairs

theorem er_not {s : List UInt8} {x : Er} (hp : parseV s = .error x) : ¬ x.2 = 0 := fun h0 => by
  cases hx : lexV s with
  | error y =>
    have := lexE_err hx
    unfold parseV at hp
    rw [hx, thenE_er] at hp
    cases hp
    rw [h0] at this
    cases this
  | ok ts =>
    have := er_code (parse_er hx hp)
    rw [h0] at this
    simp at this
/-- What is read of a source is not much, and something. -/
theorem few {s : List UInt8} {ns : List (Nd × Nat)} (hp : parseV s = .ok ns) : ns.length ≤ 65537 ∧ 0 < ns.length := by
  unfold parseV at hp
  obtain ⟨ts, h, hp⟩ := thenE_inv hp
  obtain ⟨-, us, e, h1, -⟩ := lexV_toks h
  have h2 := parse_len hp
  have h3 : ts.length = us.length + 1 := by rw [e]; simp
  refine ⟨by omega, ?_⟩
  rcases parse_out (lexV_good h).1.1 with ⟨ms, h4, h5⟩ | ⟨x, h4, -⟩
  · rw [hp] at h4
    cases h4
    exact List.length_pos_iff.2 h5
  · rw [hp] at h4
    cases h4
def ndsL : List Nd := sgL.map Prod.snd
def sgsV : List Value := sgL.map fun q => str q.1

/-- A literal in a statement whose order is open, and where it lies. -/
theorem step_lit2 {P : Program} {ops : Array Oper} {o : Oper} {a : Act} {w : World} {K : Act → World → Prop} {Q : Exit → Act → World → Prop} {E : Prop}
    (hgd : o.guard = none) (t : TypeId) (n : Nat) (ps : Array (Nat × Operand)) (ho : o.op = .buildSlice t n ps) (qs : Array (Nat × Value)) (hq : ps.map (fun (i, x) => (i, a.eval x)) = qs) (cs : List Value) (e : TypeId)
    (hr : ∀ W : World, (Instr.buildSlice t n qs).run P W = .ok (.slice (some ⟨W.heap.size, 0, none⟩) n n) (W.alloc (.cells cs.toArray e)))
    (hK : ∀ ad w', CV w' (some ad) cs → w.grownBy w' none → ad.block = w.heap.size → ad.block < w'.heap.size → K (a.put o.dst (.slice (some ad) n n)) w') :
    if Region.wanted o (yielded ops a.tmps) = true then Oper.wp P o a w K Q else E := by
  have hw : Region.wanted o (yielded ops a.tmps) = true := by simp [Region.wanted, hgd]
  rw [if_pos hw]
  unfold Oper.wp execOp
  have hr' := hr w
  rw [← hq] at hr'
  simp only [ho, Sem.run_bind, Sem.run_pure, Result.andThen_ok, hr']
  exact hK _ _ (cv_lit w e cs) (World.grownBy_alloc _ _ _) rfl (by simp)
theorem wpList_lit {P : Program} {ops : Array Oper} {rest : List Oper} {op : Oper} {a : Act} {w : World} {Q : Exit → Act → World → Prop} (hw : Region.wanted op (yielded ops a.tmps) = true)
    (t : TypeId) (n : Nat) (ps : Array (Nat × Operand)) (ho : op.op = .buildSlice t n ps) (qs : Array (Nat × Value)) (hq : ps.map (fun (i, x) => (i, a.eval x)) = qs) (cs : List Value) (e : TypeId)
    (hr : ∀ W : World, (Instr.buildSlice t n qs).run P W = .ok (.slice (some ⟨W.heap.size, 0, none⟩) n n) (W.alloc (.cells cs.toArray e)))
    (h : ∀ V w', CV w' (some ⟨V, 0, none⟩) cs → w.grownBy w' none → wpList P ops Q rest (a.put op.dst (.slice (some ⟨V, 0, none⟩) n n)) w') : wpList P ops Q (op :: rest) a w :=
  BigFrame.wpList_want hw fun _ hK => by
    unfold Oper.wp execOp
    have hr' := hr w
    rw [← hq] at hr'
    simp only [ho, Sem.run_bind, Sem.run_pure, Result.andThen_ok, hr']
    exact hK _ _ (h _ _ (cv_lit w e cs) (World.grownBy_alloc _ _ _))
theorem own_ge {w : World} {base e size n x : Nat} {v : Value} {vs : List Value} (h : w.ownsRow base e size v n vs) (hx : v.ownBlock = some x) : base ≤ x := by
  obtain ⟨ao, cap, -, -, -, -, -, h1, h2⟩ := cv_of_row h
  rw [hx] at h2
  cases ao with
  | none => cases h2
  | some ad =>
    have := (h1 ad rfl).1
    simp only [Option.map_some, Option.some.injEq] at h2
    omega
theorem lit8 (W : World) : (Instr.buildSlice 22 8 #[(0, .agg (ndK 7).cells.toArray), (1, .agg (ndK 8).cells.toArray), (2, .agg ({ ndK 6 with op := 1 } : Nd).cells.toArray), (3, .agg ({ ndK 6 with op := 6 } : Nd).cells.toArray), (4, .agg ({ ndK 4 with op := 1 } : Nd).cells.toArray), (5, .agg ({ ndK 4 with op := 5 } : Nd).cells.toArray), (6, .agg ({ ndK 4 with op := 9 } : Nd).cells.toArray), (7, .agg ({ ndK 4 with op := 7 } : Nd).cells.toArray)]).run Tryz.prog W = .ok (.slice (some ⟨W.heap.size, 0, none⟩) 8 8) (W.alloc (.cells (flatN ndsL).toArray 46)) := by kernel_rfl

set_option maxRecDepth 100000 in
set_option maxHeartbeats 16000000 in
theorem walk (s t : ByteArray) (w : World) (hs : s.size ≤ 140737488351232) (ht : t.size ≤ 140737488351232) (T : TabB w) :
    Calls Tryz.prog 7 #[.string s, .string t] w fun e w' => e = .returned (.bool true) ∧ w.grownBy w' none := by
  have HT : Hid (TabB w) := T
  clear T
  have hw1 : IntKind.i64.wrap ((s.size : Int) + (t.size : Int)) = (s.size : Int) + (t.size : Int) := by rw [IntKind.wrap_i64]; omega
  have C0 := pparse_any s (by omega) w HT.out
  have HC1 : Hid (∀ W : World, TabB W → Calls Tryz.prog 10 #[.string t] W fun e w' => ∃ vt vp, e = .returned (.tuple #[vt, vp, .int .i64 (prP (parseV (sl t)) : Int), .int .i64 (prE (parseV (sl t)))]) ∧ NOwns w' W.heap.size vt ((prN (parseV (sl t))).map Prod.fst) ∧ ZOwns w' W.heap.size vp ((prN (parseV (sl t))).map plc) ∧ W.grownBy w' none) := fun W TW => pparse_any t (by omega) W TW
  cases hp : parseV (sl s) with
  | error y =>
    rw [hp] at C0
    have hz := er_not hp
    obtain ⟨p, e⟩ := y
    simp only [prP, prE, prN, List.map_nil] at C0 hz
    have hz' : (e == 0) = false := by simpa using hz
    obtain ⟨P2, hP2⟩ : ∃ P, prP (parseV (sl t)) = P := ⟨_, rfl⟩
    obtain ⟨E2, hE2⟩ : ∃ P, prE (parseV (sl t)) = P := ⟨_, rfl⟩
    rw [hP2, hE2] at HC1
    clear hp hP2 hE2
    go_enter Tryz.func7, Tryz.ntmps7
    go_wp2_with fail
    refine C0.mono ?_
    rintro e w1 ⟨vt, vp, rfl, -, -, K1⟩
    clear C0
    go_wp2_with fail
    refine (HC1.out _ (HT.out.grown (by assumption))).mono ?_
    rintro e w2 ⟨v2, v3, rfl, -, -, K2⟩
    have G2 := grown_trans K1 K2
    clear HC1 K1 K2
    go_wp2_with fail
    refine (awake11_any _ (HT.out.grown (by assumption))).mono ?_
    rintro e w3 ⟨rfl, K3⟩
    go_wp2
    go_ret
    exact ⟨rfl, grown_trans G2 K3⟩
  | ok ns =>
    rw [hp] at C0
    simp only [prP, prE, prN] at C0
    cases hq : parseV (sl t) with
    | error y =>
      rw [hq] at HC1
      have hz := er_not hq
      obtain ⟨p, e⟩ := y
      simp only [prP, prE, prN, List.map_nil] at HC1 hz
      have hz' : (e == 0) = false := by simpa using hz
      clear hp hq
      go_enter Tryz.func7, Tryz.ntmps7
      go_wp2_with fail
      refine C0.mono ?_
      rintro e w1 ⟨vt, vp, rfl, -, -, K1⟩
      clear C0
      go_wp2_with fail
      refine (HC1.out _ (HT.out.grown (by assumption))).mono ?_
      rintro e w2 ⟨v2, v3, rfl, -, -, K2⟩
      have G2 := grown_trans K1 K2
      clear HC1 K1 K2
      go_wp2_with fail
      refine (awake11_any _ (HT.out.grown (by assumption))).mono ?_
      rintro e w3 ⟨rfl, K3⟩
      go_wp2
      go_ret
      exact ⟨rfl, grown_trans G2 K3⟩
    | ok ms =>
      rw [hq] at HC1
      simp only [prP, prE, prN] at HC1
      by_cases hbig : (6000 : Int) < (s.size : Int) + (t.size : Int)
      · clear hp hq
        go_enter Tryz.func7, Tryz.ntmps7
        go_wp2_with fail
        refine C0.mono ?_
        rintro e w1 ⟨vt, vp, rfl, -, -, K1⟩
        clear C0
        go_wp2_with fail
        refine (HC1.out _ (HT.out.grown (by assumption))).mono ?_
        rintro e w2 ⟨v2, v3, rfl, -, -, K2⟩
        have G2 := grown_trans K1 K2
        clear HC1 K1 K2
        go_wp2_with fail
        refine (awake11_any _ (HT.out.grown (by assumption))).mono ?_
        rintro e w3 ⟨rfl, K3⟩
        go_wp2
        go_ret
        exact ⟨rfl, grown_trans G2 K3⟩
      have hb2 : decide ((6000 : Int) < (s.size : Int) + (t.size : Int)) = false := decide_eq_false hbig
      have hsz : s.size + t.size ≤ 6000 := by omega
      obtain ⟨hA1, hA2⟩ := few hp
      obtain ⟨hB1, hB2⟩ := few hq
      have HPP : Hid (∀ q ∈ sgL, (∃ ks, parseV (pairS (sl s) q.1 (sl t)) = .ok ks ∧ ks.map Prod.fst = ns.map Prod.fst ++ ms.map Prod.fst ++ [q.2]) ∨ ∃ p, parseV (pairS (sl s) q.1 (sl t)) = .error (p, 113)) := fun q hm => by
        obtain ⟨k, j, hx⟩ := sg_ok q hm
        exact pair_parse (by rw [sl_len, sl_len]; exact hsz) hx hp hq
      clear hp hq hbig hs ht
      go_enter Tryz.func7, Tryz.ntmps7
      go_wp2_with fail
      refine C0.mono ?_
      rintro e w1 ⟨vt, vp, rfl, O1, Z1, K1⟩
      clear C0 Z1
      go_wp2_with fail
      refine (HC1.out _ (HT.out.grown (by assumption))).mono ?_
      rintro e w2 ⟨v2, v3, rfl, O2, Z2, K2⟩
      have HG2 : Hid (w.grownBy w2 none) := grown_trans K1 K2
      have O1' := owns_keptNone O1 K2
      obtain ⟨g1, c1, rfl, -⟩ := NOwns.nodes O1' (by rw [List.length_map]; exact hA2)
      obtain ⟨g2, c2, rfl, -⟩ := NOwns.nodes O2 (by rw [List.length_map]; exact hB2)
      have HO : Hid (NOwns w2 w.heap.size (.slice (some ⟨g1, 0, none⟩) (ns.map Prod.fst).length c1) (ns.map Prod.fst) ∧ NOwns w2 w1.heap.size (.slice (some ⟨g2, 0, none⟩) (ms.map Prod.fst).length c2) (ms.map Prod.fst)) := ⟨O1', O2⟩
      simp only [List.length_map] at HO ⊢
      obtain ⟨LA, hLA⟩ : ∃ L, ns.length = L := ⟨_, rfl⟩
      obtain ⟨LB, hLB⟩ : ∃ L, ms.length = L := ⟨_, rfl⟩
      have HLL : Hid (ns.length = LA ∧ ms.length = LB) := ⟨hLA, hLB⟩
      rw [hLA, hLB] at HO
      rw [hLA] at hA1 hA2 ⊢
      rw [hLB] at hB1 hB2 ⊢
      clear HC1 K1 K2 O1 O1' O2 Z2 hLA hLB
      have L8 := lit8
      have CS0 := cv_lit w2 9 sgsV
      have KS0 := World.grownBy_alloc w2 (.cells sgsV.toArray 9) none
      go_upto_region 8 with (refine wpList_lit rfl 22 8 _ rfl _ (by kernel_rfl) (flatN ndsL) 46 L8 ?_; intro VN w3 CN K3)
      have HCN : Hid (CV w3 (some ⟨VN, 0, none⟩) (flatN ndsL)) := CN
      have K3' : (w2.alloc (.cells sgsV.toArray 9)).grownBy w3 none := K3
      have HCS : Hid (CV w3 (some ⟨w2.heap.size, 0, none⟩) sgsV) := CS0.keptNone K3'
      have K23 := grown_trans KS0 K3'
      have HK3 : Hid (w.grownBy w3 none) := grown_trans HG2.out K23
      have HCA : Hid (CV w3 (some ⟨g1, 0, none⟩) (flatN (ns.map Prod.fst))) := by
        obtain ⟨ao, cc, e, C, -⟩ := cv_of_row HO.out.1
        simp only [Value.slice.injEq] at e
        rw [e.1]
        exact C.keptNone K23
      have HCB : Hid (CV w3 (some ⟨g2, 0, none⟩) (flatN (ms.map Prod.fst))) := by
        obtain ⟨ao, cc, e, C, -⟩ := cv_of_row HO.out.2
        simp only [Value.slice.injEq] at e
        rw [e.1]
        exact C.keptNone K23
      have HLM : Hid ((ns.map Prod.fst).length = LA ∧ (ms.map Prod.fst).length = LB) := by
        show _ ∧ _
        rw [List.length_map, List.length_map]; exact HLL.out
      clear L8 CN K3 K3' CS0 KS0 K23 HO HG2 HLL
      generalize w2.heap.size = VS at *
      generalize ns.map Prod.fst = A at *
      generalize ms.map Prod.fst = B at *
      go_loopw [15] (fun x wr => ∃ i : Nat, i ≤ 8 ∧ x = .int .i64 i ∧ Hid (w3.grownBy wr none)) (fun x _ => 8 - (intOf x).toNat)
      case atStart => exact ⟨0, Nat.zero_le _, rfl, World.grownBy.refl _ _⟩
      case round =>
        obtain ⟨i, hi, rfl, HW⟩ := hrel
        have z0 : (0 : Int) ≤ (i : Int) := by omega
        have w9 : IntKind.i64.wrap ((i : Int) + 1) = (i : Int) + 1 := by rw [IntKind.wrap_i64]; omega
        by_cases hlt : i < 8
        · have hl : (i : Int) < 8 := by omega
          have hil : i < sgL.length := hlt
          have hpp := HPP.out _ (List.getElem_mem hil)
          have cs1 : wr.cell? ⟨VS, i, none⟩ = some (str (sgL[i]'hil).1) := by
            have := (HCS.out.keptNone HW.out).2 ⟨VS, 0, none⟩ rfl i (by simpa [sgsV] using hil)
            simp only [sgsV, List.getElem_map] at this
            rw [Addr.add_mid, Nat.zero_add] at this
            exact this
          have HRN : Hid (∀ W : World, w3.grownBy W none → W.rangeAt VN (i * 24) (sgL[i]'hil).2.cells) := fun W hW => by
            obtain ⟨b, o, e, h⟩ := (HCN.out.keptNone hW).nodes (k := i) (by simpa [ndsL] using hil)
            simp only [Option.some.injEq, Addr.mk.injEq] at e
            obtain ⟨rfl, rfl, -⟩ := e
            have := h i (by simpa [ndsL] using hil)
            simpa [ndsL] using this
          have hx3 : (sgL[i]'hil).1.length ≤ 3 := by
            obtain ⟨k, j, hx⟩ := sg_ok _ (List.getElem_mem hil)
            exact hx.2.2.2.2.2.1
          generalize sgL[i]'hil = q at *
          obtain ⟨x, nd⟩ := q
          simp only at *
          obtain ⟨xb, hxb⟩ : ∃ xb : ByteArray, ⟨x.toArray⟩ = xb := ⟨_, rfl⟩
          have hxs : xb.size ≤ 3 := by rw [← hxb, ← sl_len, sl_str]; exact hx3
          have cs2 : wr.cell? ⟨VS, i, none⟩ = some (.string xb) := by rw [cs1, ← hxb]
          have hsl : sl ((⟨#[40]⟩ : ByteArray) ++ s ++ ⟨#[41]⟩ ++ xb ++ ⟨#[40]⟩ ++ t ++ ⟨#[41]⟩) = pairS (sl s) x (sl t) := by
            simp only [sl_cat, ← hxb, sl_str, pairS]
            simp [sl]
          have CX := pparse_any ((⟨#[40]⟩ : ByteArray) ++ s ++ ⟨#[41]⟩ ++ xb ++ ⟨#[40]⟩ ++ t ++ ⟨#[41]⟩) (by
            rw [← sl_len, hsl]
            simp only [pairS, List.length_cons, List.length_append, List.length_nil, sl_len]
            omega) wr (HT.out.grown (grown_trans HK3.out HW.out))
          rw [hsl] at CX
          clear hsl cs1 hxb hx3 hil
          rcases hpp with ⟨ks, hk1, hk2⟩ | ⟨p, hk1⟩
          · rw [hk1] at CX
            simp only [prP, prE, prN] at CX
            rw [hk2] at CX
            clear hk1 hk2
            go_wp2_with fail
            refine CX.mono ?_
            rintro e w4 ⟨v3, v4, rfl, O4, Z4, K4⟩
            obtain ⟨a3, c3, rfl, CZ, -⟩ := cv_of_row O4
            have HCZ : Hid (CV w4 a3 (flatN (A ++ B ++ [nd]))) := CZ
            have HW4 : Hid (w3.grownBy w4 none) := grown_trans HW.out K4
            have hABn : (A ++ B ++ [nd]).length = LA + LB + 1 := by rw [List.length_append, List.length_append, HLM.out.1, HLM.out.2]; rfl
            rw [hABn]
            have HCP : Hid (∀ W, w4.grownBy W none → Calls Tryz.prog 20 #[.slice (some ⟨g1, 0, none⟩) LA c1] W fun e w' => ∃ v, e = .returned v ∧ w'.ownsRow W.heap.size 46 24 v LA (flatN A) ∧ W.grownBy w' none) := fun W hW => by
              have := ncopy_any (some ⟨g1, 0, none⟩) c1 A W (HCA.out.keptNone (grown_trans HW4.out hW)) (fun e => by cases e) (by rw [HLM.out.1]; omega)
              rw [HLM.out.1] at this
              exact this.mono fun e w' ⟨v, h1, h2, h3⟩ => ⟨v, h1, by have h2' : w'.ownsRow W.heap.size 46 24 v A.length (flatN A) := h2; rw [HLM.out.1] at h2'; exact h2', h3⟩
            have HBV : Hid (∀ W, w4.grownBy W none → CV W (some ⟨g2, 0, none⟩) (flatN B)) := fun W hW => HCB.out.keptNone (grown_trans HW4.out hW)
            have HRV : Hid (∀ W, w4.grownBy W none → W.rangeAt VN (i * 24) nd.cells) := fun W hW => HRN.out W (grown_trans HW4.out hW)
            have HFL : Hid (flatN (A ++ B ++ [nd]) = flatN A ++ flatN B ++ nd.cells) := by
              show _ = _
              rw [flatN_append, flatN_append, flatN_one1]
            have HLN : Hid (∀ W : World, (Instr.buildSlice 22 1 #[(0, .agg nd.cells.toArray)]).run Tryz.prog W = .ok (.slice (some ⟨W.heap.size, 0, none⟩) 1 1) (W.alloc (.cells nd.cells.toArray 46))) := lit_node nd
            have HSN : Hid ((Tryz.prog.info? 46).map (·.size) = some nd.cells.length ∧ nd.cells.length = 24 ∧ ∀ u ∈ nd.cells, u.oneCell' = true) := ⟨size46, rfl, nd.cells_one⟩
            have HSAME : Hid (∀ W a6 c6, w4.grownBy W none → CV W a6 (flatN A ++ flatN B ++ nd.cells) → Calls Tryz.prog 11 #[.slice a3 (LA + LB + 1) c3, .slice a6 (LA + LB + 1) c6] W fun e w' => e = .returned (.bool true) ∧ ∃ n, w' = W.drewN n) := fun W a6 c6 hW hC => by
              have := nsame_any a3 a6 c3 c6 (A ++ B ++ [nd]) W (HCZ.out.keptNone hW) (by rw [HFL.out]; exact hC) (by rw [hABn]; omega)
              rw [hABn] at this
              exact this
            have hfa : (flatN A).length = LA * 24 := by rw [flatN_len, HLM.out.1]
            have hfb : (flatN B).length = LB * 24 := by rw [flatN_len, HLM.out.2]
            have HF : Hid ((flatN A).length = LA * 24 ∧ (flatN B).length = LB * 24 ∧ (∀ u ∈ flatN B, u.oneCell' = true)) := ⟨hfa, hfb, flatN_one B⟩
            clear CX O4 Z4 K4 CZ hfa hfb hABn HRN HCZ cs2 HFL
            generalize nd.cells = cs at *
            generalize flatN A = FA at *
            generalize flatN B = FB at *
            obtain ⟨i0, hi0, hz0, hz1, hz2⟩ := info_parts info46
            go_upto_region 12 with fail
            refine wp_region_held_drew (S := fun W => w4.grownBy W none) (by kernel_rfl) (grown_drewN w4 1 none) (fun hHeld => ?_)
            refine wpAnyH_take (i := 0) (v := .slice (some ⟨g1, 0, none⟩) LA c1) rfl (by kernel_rfl) (by kernel_rfl) (by kernel_rfl) (fun _ _ _ h => h) (Or.inl ⟨by rfl, fun W hW => ?_⟩) hHeld ?_
            · clear hW
              go_simp
            try simp only [Act.put, List.getElem_toArray, List.getElem_cons_zero, List.setIfInBounds_toArray, List.set_cons_zero, List.set_cons_succ]
            refine wpAnyH_take (i := 2) (v := .slice (some ⟨g2, 0, none⟩) LB c2) rfl (by kernel_rfl) (by kernel_rfl) (by kernel_rfl) (fun _ _ _ h => h) (Or.inl ⟨by rfl, fun W hW => ?_⟩) hHeld ?_
            · clear hW
              go_simp
            try simp only [Act.put, List.getElem_toArray, List.getElem_cons_zero, List.getElem_cons_succ, List.setIfInBounds_toArray, List.set_cons_zero, List.set_cons_succ]
            refine wpAnyH_take (i := 4) (v := .slice (some ⟨VN, 0, none⟩) 8 8) rfl (by kernel_rfl) (by kernel_rfl) (by kernel_rfl) (fun _ _ _ h => h) (Or.inl ⟨by rfl, fun W hW => ?_⟩) hHeld ?_
            · clear hW
              go_simp
            try simp only [Act.put, List.getElem_toArray, List.getElem_cons_zero, List.getElem_cons_succ, List.setIfInBounds_toArray, List.set_cons_zero, List.set_cons_succ]
            refine wpAnyH_take (i := 5) (v := .int .i64 (i : Int)) rfl (by kernel_rfl) (by kernel_rfl) (by kernel_rfl) (fun _ _ _ h => h) (Or.inl ⟨by rfl, fun W hW => ?_⟩) hHeld ?_
            · clear hW
              go_simp
            try simp only [Act.put, List.getElem_toArray, List.getElem_cons_zero, List.getElem_cons_succ, List.setIfInBounds_toArray, List.set_cons_zero, List.set_cons_succ]
            refine wpAnyH_take (i := 6) (v := .pointer (some ⟨VN, i * 24, none⟩)) rfl (by kernel_rfl) (by kernel_rfl) (by kernel_rfl) (fun _ _ _ h => h) (Or.inl ⟨by rfl, fun W hW => ?_⟩) hHeld ?_
            · clear hW
              go_simp
            try simp only [Act.put, List.getElem_toArray, List.getElem_cons_zero, List.getElem_cons_succ, List.setIfInBounds_toArray, List.set_cons_zero, List.set_cons_succ]
            refine wpAnyH_take (i := 7) (v := .agg cs.toArray) rfl (by kernel_rfl) (by kernel_rfl) (by kernel_rfl) (fun _ _ _ h => h) (yieldsIf_load_mid (by rfl) _ _ rfl _ _ rfl cs _ (fun W hW => HRV.out W hW) Tryz.underlying46 rfl HSN.out.1) hHeld ?_
            try simp only [Act.put, List.getElem_toArray, List.getElem_cons_zero, List.getElem_cons_succ, List.setIfInBounds_toArray, List.set_cons_zero, List.set_cons_succ]
            refine wpAnyH_ready (rs := [1, 8]) (by kernel_rfl) (by simp) (AllReadyH.cons rfl (fun K hK => ?_) (AllReadyH.cons rfl (fun K hK => ?_) AllReadyH.nil))
            · skip
              go_simp
              refine (HCP.out _ hHeld).mono ?_
              rintro e wc ⟨vc, rfl, OC, KC⟩
              have hbs : w4.heap.size ≤ _ := hHeld.size
              go_wp2_with fail
              refine hK.out _ _ (grown_trans hHeld KC) (fun hHeld => ?_)
              clear hK K
              try simp only [Act.put, List.getElem_toArray, List.getElem_cons_zero, List.getElem_cons_succ, List.setIfInBounds_toArray, List.set_cons_zero, List.set_cons_succ]
              refine wpAnyH_ready (rs := [3, 8]) (by kernel_rfl) (by simp) (AllReadyH.cons rfl (fun K hK => ?_) (AllReadyH.cons rfl (fun K hK => ?_) AllReadyH.nil))
              · skip
                have hbc : w4.heap.size ≤ _ ∧ _ ≤ _ := ⟨hbs, KC.size⟩
                refine step_append_own (by rfl) (.tmp 87) (.tmp 88) 22 (by rfl) 46 i0 _ 24 72 Tryz.underlying22 hi0 hz0 hz1 hz2 rfl (by decide) _ vc LA FA (by rfl) OC ⟨g2, 0, none⟩ LB c2 FB (by rfl) HF.out.2.1 (HBV.out _ hHeld) HF.out.2.2 (by unfold maxLen; omega) (by omega) (KC.size) ?_
                intro v5 w5 O5 K5 B5
                refine hK.out _ _ (grown_trans_new hHeld K5 (fun x hx => Nat.le_trans hbs (own_ge OC hx))) (fun hHeld => ?_)
                clear hK K
                try simp only [Act.put, List.getElem_toArray, List.getElem_cons_zero, List.getElem_cons_succ, List.setIfInBounds_toArray, List.set_cons_zero, List.set_cons_succ]
                refine wpAnyH_ready (rs := [8]) (by kernel_rfl) (by simp) (AllReadyH.cons rfl (fun K hK => ?_) AllReadyH.nil)
                refine step_lit2 (by rfl) 22 1 _ (by rfl) _ (by kernel_rfl) cs 46 HLN.out ?_
                intro adl wl CL KL hal hal2
                have O5b := owns_keptNone O5 KL
                refine hK.out _ _ (grown_trans hHeld KL) (fun hHeld => ?_)
                clear hK K
                try simp only [Act.put, List.getElem_toArray, List.getElem_cons_zero, List.getElem_cons_succ, List.setIfInBounds_toArray, List.set_cons_zero, List.set_cons_succ]
                refine wpAnyH_ready (rs := [9]) (by kernel_rfl) (by simp) (AllReadyH.cons rfl (fun K hK => ?_) AllReadyH.nil)
                refine step_append_own (by rfl) (.tmp 89) (.tmp 94) 22 (by rfl) 46 i0 _ 24 72 Tryz.underlying22 hi0 hz0 hz1 hz2 rfl (by decide) _ v5 (LA + LB) (FA ++ FB) (by rfl) O5b adl 1 1 cs (by rfl) HSN.out.2.1 CL HSN.out.2.2 (by unfold maxLen; omega) (by omega) (by have := KC.size; have := K5.size; have := KL.size; omega) ?_
                intro v6 w6 O6 K6 B6
                have H6 := grown_trans_new hHeld K6 (fun x hx => Nat.le_trans hbs (own_ge O5 hx))
                obtain ⟨a6, c6, rfl, C6, -⟩ := cv_of_row O6
                refine hK.out _ _ H6 (fun hHeld => ?_)
                clear hK K
                try simp only [Act.put, List.getElem_toArray, List.getElem_cons_zero, List.getElem_cons_succ, List.setIfInBounds_toArray, List.set_cons_zero, List.set_cons_succ]
                refine wpAnyH_take (i := 10) (v := .slice a6 (LA + LB + 1) c6) rfl (by kernel_rfl) (by kernel_rfl) (by kernel_rfl) (fun _ _ _ h => h) (Or.inl ⟨by rfl, fun W hW => ?_⟩) hHeld ?_
                · clear hW
                  go_simp
                try simp only [Act.put, List.getElem_toArray, List.getElem_cons_zero, List.getElem_cons_succ, List.setIfInBounds_toArray, List.set_cons_zero, List.set_cons_succ]
                refine wpAnyH_done (by kernel_rfl) ?_ _
                have CSM := HSAME.out _ a6 c6 hHeld (by assumption)
                have G6 := grown_trans HW4.out hHeld
                clear hHeld C6 O6 HCP HBV HRV HLN HSN HSAME HF hi0 hz0 hz1 hz2 i0 HW HCN HCS HCA HCB HPP
                go_wp2_with fail
                refine CSM.mono ?_
                rintro e w7 ⟨rfl, n7, rfl⟩
                have HG7 : Hid (w3.grownBy (w6.drewN n7) none) := grown_trans G6 (grown_drewN w6 n7 none)
                clear CSM G6
                go_wp2
                go_roundw
                case rel => exact ⟨i + 1, by omega, by go_num, HG7⟩
                case measure => simp [intOf]; omega
              · skip
                refine step_lit2 (by rfl) 22 1 _ (by rfl) _ (by kernel_rfl) cs 46 HLN.out ?_
                intro adl wl CL KL hal hal2
                have OC2 := owns_keptNone OC KL
                have hlo : ∀ x, vc.ownBlock = some x → adl.block ≠ x := fun x hx => by have := OC.lt x hx; omega
                refine hK.out _ _ (grown_trans hHeld KL) (fun hHeld => ?_)
                clear hK K
                try simp only [Act.put, List.getElem_toArray, List.getElem_cons_zero, List.getElem_cons_succ, List.setIfInBounds_toArray, List.set_cons_zero, List.set_cons_succ]
                refine wpAnyH_ready (rs := [3]) (by kernel_rfl) (by simp) (AllReadyH.cons rfl (fun K hK => ?_) AllReadyH.nil)
                have hbc : w4.heap.size ≤ _ ∧ _ ≤ _ := ⟨hbs, KC.size⟩
                refine step_append_own (by rfl) (.tmp 87) (.tmp 88) 22 (by rfl) 46 i0 _ 24 72 Tryz.underlying22 hi0 hz0 hz1 hz2 rfl (by decide) _ vc LA FA (by rfl) OC2 ⟨g2, 0, none⟩ LB c2 FB (by rfl) HF.out.2.1 (HBV.out _ hHeld) HF.out.2.2 (by unfold maxLen; omega) (by omega) (by have := KC.size; have := KL.size; omega) ?_
                intro v5 w5 O5 K5 B5
                have CL3 := CL.kept K5 (fun ad had _ e => by have := Option.some.inj had; subst this; exact hlo _ e.symm rfl)
                refine hK.out _ _ (grown_trans_new hHeld K5 (fun x hx => Nat.le_trans hbs (own_ge OC hx))) (fun hHeld => ?_)
                clear hK K
                try simp only [Act.put, List.getElem_toArray, List.getElem_cons_zero, List.getElem_cons_succ, List.setIfInBounds_toArray, List.set_cons_zero, List.set_cons_succ]
                refine wpAnyH_ready (rs := [9]) (by kernel_rfl) (by simp) (AllReadyH.cons rfl (fun K hK => ?_) AllReadyH.nil)
                refine step_append_own (by rfl) (.tmp 89) (.tmp 94) 22 (by rfl) 46 i0 _ 24 72 Tryz.underlying22 hi0 hz0 hz1 hz2 rfl (by decide) _ v5 (LA + LB) (FA ++ FB) (by rfl) O5 adl 1 1 cs (by rfl) HSN.out.2.1 CL3 HSN.out.2.2 (by unfold maxLen; omega) (by omega) (by have := KC.size; have := KL.size; have := K5.size; omega) ?_
                intro v6 w6 O6 K6 B6
                have H6 := grown_trans_new hHeld K6 (fun x hx => Nat.le_trans hbs (own_ge O5 hx))
                obtain ⟨a6, c6, rfl, C6, -⟩ := cv_of_row O6
                refine hK.out _ _ H6 (fun hHeld => ?_)
                clear hK K
                try simp only [Act.put, List.getElem_toArray, List.getElem_cons_zero, List.getElem_cons_succ, List.setIfInBounds_toArray, List.set_cons_zero, List.set_cons_succ]
                refine wpAnyH_take (i := 10) (v := .slice a6 (LA + LB + 1) c6) rfl (by kernel_rfl) (by kernel_rfl) (by kernel_rfl) (fun _ _ _ h => h) (Or.inl ⟨by rfl, fun W hW => ?_⟩) hHeld ?_
                · clear hW
                  go_simp
                try simp only [Act.put, List.getElem_toArray, List.getElem_cons_zero, List.getElem_cons_succ, List.setIfInBounds_toArray, List.set_cons_zero, List.set_cons_succ]
                refine wpAnyH_done (by kernel_rfl) ?_ _
                have CSM := HSAME.out _ a6 c6 hHeld (by assumption)
                have G6 := grown_trans HW4.out hHeld
                clear hHeld C6 O6 HCP HBV HRV HLN HSN HSAME HF hi0 hz0 hz1 hz2 i0 HW HCN HCS HCA HCB HPP
                go_wp2_with fail
                refine CSM.mono ?_
                rintro e w7 ⟨rfl, n7, rfl⟩
                have HG7 : Hid (w3.grownBy (w6.drewN n7) none) := grown_trans G6 (grown_drewN w6 n7 none)
                clear CSM G6
                go_wp2
                go_roundw
                case rel => exact ⟨i + 1, by omega, by go_num, HG7⟩
                case measure => simp [intOf]; omega
            · skip
              refine step_lit2 (by rfl) 22 1 _ (by rfl) _ (by kernel_rfl) cs 46 HLN.out ?_
              intro adl wl CL KL hal hal2
              refine hK.out _ _ (grown_trans hHeld KL) (fun hHeld => ?_)
              clear hK K
              try simp only [Act.put, List.getElem_toArray, List.getElem_cons_zero, List.getElem_cons_succ, List.setIfInBounds_toArray, List.set_cons_zero, List.set_cons_succ]
              refine wpAnyH_ready (rs := [1]) (by kernel_rfl) (by simp) (AllReadyH.cons rfl (fun K hK => ?_) AllReadyH.nil)
              go_simp
              refine (HCP.out _ hHeld).mono ?_
              rintro e wc ⟨vc, rfl, OC, KC⟩
              have hbs : w4.heap.size ≤ _ := hHeld.size
              have CL2 := CL.keptNone KC
              have hlo : ∀ x, vc.ownBlock = some x → adl.block ≠ x := fun x hx => by have := own_ge OC hx; omega
              go_wp2_with fail
              refine hK.out _ _ (grown_trans hHeld KC) (fun hHeld => ?_)
              clear hK K
              try simp only [Act.put, List.getElem_toArray, List.getElem_cons_zero, List.getElem_cons_succ, List.setIfInBounds_toArray, List.set_cons_zero, List.set_cons_succ]
              refine wpAnyH_ready (rs := [3]) (by kernel_rfl) (by simp) (AllReadyH.cons rfl (fun K hK => ?_) AllReadyH.nil)
              have hbc : w4.heap.size ≤ _ ∧ _ ≤ _ := ⟨hbs, KC.size⟩
              refine step_append_own (by rfl) (.tmp 87) (.tmp 88) 22 (by rfl) 46 i0 _ 24 72 Tryz.underlying22 hi0 hz0 hz1 hz2 rfl (by decide) _ vc LA FA (by rfl) OC ⟨g2, 0, none⟩ LB c2 FB (by rfl) HF.out.2.1 (HBV.out _ hHeld) HF.out.2.2 (by unfold maxLen; omega) (by omega) (KC.size) ?_
              intro v5 w5 O5 K5 B5
              have CL3 := CL2.kept K5 (fun ad had _ e => by have := Option.some.inj had; subst this; exact hlo _ e.symm rfl)
              refine hK.out _ _ (grown_trans_new hHeld K5 (fun x hx => Nat.le_trans hbs (own_ge OC hx))) (fun hHeld => ?_)
              clear hK K
              try simp only [Act.put, List.getElem_toArray, List.getElem_cons_zero, List.getElem_cons_succ, List.setIfInBounds_toArray, List.set_cons_zero, List.set_cons_succ]
              refine wpAnyH_ready (rs := [9]) (by kernel_rfl) (by simp) (AllReadyH.cons rfl (fun K hK => ?_) AllReadyH.nil)
              refine step_append_own (by rfl) (.tmp 89) (.tmp 94) 22 (by rfl) 46 i0 _ 24 72 Tryz.underlying22 hi0 hz0 hz1 hz2 rfl (by decide) _ v5 (LA + LB) (FA ++ FB) (by rfl) O5 adl 1 1 cs (by rfl) HSN.out.2.1 CL3 HSN.out.2.2 (by unfold maxLen; omega) (by omega) (by have := KC.size; have := K5.size; omega) ?_
              intro v6 w6 O6 K6 B6
              have H6 := grown_trans_new hHeld K6 (fun x hx => Nat.le_trans hbs (own_ge O5 hx))
              obtain ⟨a6, c6, rfl, C6, -⟩ := cv_of_row O6
              refine hK.out _ _ H6 (fun hHeld => ?_)
              clear hK K
              try simp only [Act.put, List.getElem_toArray, List.getElem_cons_zero, List.getElem_cons_succ, List.setIfInBounds_toArray, List.set_cons_zero, List.set_cons_succ]
              refine wpAnyH_take (i := 10) (v := .slice a6 (LA + LB + 1) c6) rfl (by kernel_rfl) (by kernel_rfl) (by kernel_rfl) (fun _ _ _ h => h) (Or.inl ⟨by rfl, fun W hW => ?_⟩) hHeld ?_
              · clear hW
                go_simp
              try simp only [Act.put, List.getElem_toArray, List.getElem_cons_zero, List.getElem_cons_succ, List.setIfInBounds_toArray, List.set_cons_zero, List.set_cons_succ]
              refine wpAnyH_done (by kernel_rfl) ?_ _
              have CSM := HSAME.out _ a6 c6 hHeld (by assumption)
              have G6 := grown_trans HW4.out hHeld
              clear hHeld C6 O6 HCP HBV HRV HLN HSN HSAME HF hi0 hz0 hz1 hz2 i0 HW HCN HCS HCA HCB HPP
              go_wp2_with fail
              refine CSM.mono ?_
              rintro e w7 ⟨rfl, n7, rfl⟩
              have HG7 : Hid (w3.grownBy (w6.drewN n7) none) := grown_trans G6 (grown_drewN w6 n7 none)
              clear CSM G6
              go_wp2
              go_roundw
              case rel => exact ⟨i + 1, by omega, by go_num, HG7⟩
              case measure => simp [intOf]; omega
          · rw [hk1] at CX
            simp only [prP, prE, prN, List.map_nil] at CX
            clear hk1 HRN
            go_wp2_with fail
            refine CX.mono ?_
            rintro e w4 ⟨v3, v4, rfl, -, -, K4⟩
            have HW4 : Hid (w3.grownBy w4 none) := grown_trans HW.out K4
            clear CX K4 HW cs2
            go_wp2
            go_roundw
            case rel => exact ⟨i + 1, by omega, by go_num, HW4⟩
            case measure => simp [intOf]; omega
        obtain rfl : i = 8 := by omega
        have G := grown_trans HK3.out HW.out
        clear HW hlt
        go_wp2_with fail
        refine (awake11_any _ (HT.out.grown (by assumption))).mono ?_
        rintro e w7 ⟨rfl, K7⟩
        go_wp2
        go_ret
        exact ⟨rfl, grown_trans G K7⟩

set_option maxRecDepth 100000 in
theorem lifted (os : Os) (started : os.Started) (H : Type) (enc : TypeId × Value → H) (F : Stop.Interp) :
    ReturnsInHanded {} Tryz.checked os 7 .any ((OpenSpec.ofChange Rows.parsePairsSpec).preRow enc Tryz.prog Tryz.f7 Rows.parsePairsRow.domain false Rows.parsePairsRow.laid) (((OpenSpec.ofChange Rows.parsePairsSpec).at F).post enc Tryz.prog Tryz.f7 false true false false) := by
  have hx : DataW.whole enc Tryz.prog ((laidWorld os).forCall (fun _ _ => 0) ⟨#[], #[.string .empty, .string .empty], []⟩).memory Tryz.f7.params.toList Rows.parsePairsSpec.vars false (#[.string .empty, .string .empty] : Array Value).toList 8 = some ([.lit (.string []), .lit (.string [])], [], []) := by kernel_rfl
  refine returnsInHanded_of_row (C := Tryz.checked) (s := (OpenSpec.ofChange Rows.parsePairsSpec)) own started (by kernel_rfl) Tryz.func7
    (witness_row_atRef (enc := enc) (C := Tryz.checked) false (laidWorld os) #[.string .empty, .string .empty] (World.laidAll_os _ _ _) (by kernel_rfl) (by kernel_rfl) (by kernel_rfl)
      (OpenSpec.preRow_of_cond 8 hx (by kernel_rfl) (fun k hk => by cases hk) (by kernel_rfl) (laid_met os _))) ?_
  intro W base args ds gs before hval0 hW hcnd hcond hsz0 hL hsh _
  have hsz : (DataW.weightsEach Tryz.prog (Tryz.f7.params.toList ++ Rows.parsePairsSpec.plain.varTypes Tryz.prog) (ds ++ gs)).all (· ≤ reachBytes) = true := hsz0
  have T : TabB W := laid_tabB hL hsh
  have hval : ∀ (j : Nat) t v, Tryz.f7.params[j]? = some t → args[j]? = some v → Value.okWide Tryz.prog W .any base t v := hval0
  have hW' := hW
  obtain ⟨p, q, hA0, hV, rfl, hfz, hnd⟩ := hW
  have hA : DataW.TrodAll enc Tryz.prog W 0 (fun _ => true) true Tryz.f7.params.toList args.toList ds p := hA0
  rw [Tryz.params7] at hA hval hsz
  obtain ⟨v0, vs0, d0, ds0, p0, q0, hargs, rfl, rfl, h0, r0⟩ := trodAll_cons hA
  obtain ⟨v1, vs1, d1, ds1, p1, q1, rfl, rfl, rfl, h1, r1⟩ := trodAll_cons r0
  obtain ⟨rfl, rfl, rfl⟩ := trodAll_nil r1
  obtain rfl : args = #[v0, v1] := by cases args; simp_all
  obtain ⟨rfl, rfl⟩ := trodVars_none hV
  obtain ⟨s0, rfl, rfl, rfl, hs0⟩ := open_string Tryz.underlying9 (hval 0 9 v0 rfl rfl) h0
  obtain ⟨s1, rfl, rfl, rfl, hs1⟩ := open_string Tryz.underlying9 (hval 1 9 v1 rfl rfl) h1
  have hlen0 : s0.size ≤ 140737488351232 := by
    have h := sized_string hsz (j := 0) (t := 9) rfl rfl
    unfold reachBytes at h
    have e : s0.data.toList.length = s0.size := by rw [Array.length_toList]; rfl
    omega
  have hlen1 : s1.size ≤ 140737488351232 := by
    have h := sized_string hsz (j := 1) (t := 9) rfl rfl
    unfold reachBytes at h
    have e : s1.data.toList.length = s1.size := by rw [Array.length_toList]; rfl
    omega
  clear hA0 hval0
  refine (walk s0 s1 W hlen0 hlen1 T).mono fun e W' ⟨he, hg⟩ => ?_
  subst he
  have bel : Below W.heap.size W W' := (Below.refl _ _).grown hg (Nat.le_refl _) (by simp)
  exact ⟨_, rfl, _, _, _, [], _, [], hW', trodAll_mk1 (shut_bool Tryz.underlying4 _), (trodAll_cons_mk (shut_string Tryz.underlying9 hs0) (trodAll_cons_mk (shut_string Tryz.underlying9 hs1) trodAll_mk0)), rfl, bel.frame _, fun h => by cases h⟩

theorem over : Rows.ParsePairsSaid :=
  OpenClaim.holds_of_cond 7 Tryz.f7 rfl rfl rfl rfl rfl rfl rfl ⟨rfl, rfl, rfl, rfl, rfl⟩ rfl rfl rfl rfl rfl (by kernel_rfl) Tryz.func7 (by kernel_rfl)
    (of_decide_eq_true (by kernel_rfl)) (by unfold Func.isWrapper; first | (rw [if_pos (by decide +kernel)]; kernel_rfl) | (rw [if_neg (by decide +kernel)]; exact ⟨rfl, rfl⟩))
    (fun os started H enc _ F => by rw [OpenClaim.pre_eq_preRow]; exact lifted os started H enc F)

theorem plain (f : FuncId) (fn : Func) (hf : Tryz.pinned.checked.prog.funcNamed "riddle/riddlelaw11.ParsePairs" = some f) (hfn : Tryz.pinned.checked.prog.funcs[f]? = some fn) :
    true = Tryz.pinned.checked.prog.looks [] ∧ ∀ (j : Nat) t, fn.params[j]? = some t → Tryz.pinned.checked.prog.wantsStandIn t = false := by
  obtain rfl : f = 7 := Option.some.inj ((show Tryz.prog.funcNamed "riddle/riddlelaw11.ParsePairs" = some 7 by kernel_rfl).symm.trans hf) |>.symm
  obtain rfl : fn = Tryz.f7 := (Option.some.inj (Tryz.func7.symm.trans hfn)).symm
  refine ⟨by kernel_rfl, fun j t ht => ?_⟩
  rw [Tryz.params7] at ht
  have ht2 := Array.mem_of_getElem? ht
  simp only [List.mem_toArray, List.mem_cons, List.not_mem_nil, or_false] at ht2
  rcases ht2 with rfl | rfl
  · exact (show Tryz.prog.wantsStandIn 9 = false by kernel_rfl)
  · exact (show Tryz.prog.wantsStandIn 9 = false by kernel_rfl)

theorem card : Rows.ParsePairsCardSaid :=
  Claim7.holds_tied_plain_at .later [] _ _ _ _ over (fun _ h => by cases h) (by kernel_rfl) (fun _ h => by cases h) parsePairs_row_tie rfl ⟨rfl, rfl⟩ (by kernel_rfl) rfl plain (by kernel_rfl)

end parsePairs

theorem parsePairs_holds : Rows.ParsePairsCardSaid := parsePairs.card
#print axioms parsePairs_holds

end Go.Proofs.YtbdmpjnlgdahmaaGreatDoor
