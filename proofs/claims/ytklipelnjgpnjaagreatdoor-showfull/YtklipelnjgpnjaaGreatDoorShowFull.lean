/-
 For every list of nodes (of such size as the form itself says of it) riddlelaw13.ShowFull returns true and leaves what was there as it was: no condition of ours.
-/
import Derived.Test.YtklipelnjgpnjaaGreatDoorLotF45
import Derived.Test.YtklipelnjgpnjaaGreatDoorLotF15
import Derived.Test.YtklipelnjgpnjaaGreatDoorLotF14
import Derived.Deep.DeepCutAuto
import Derived.Deep.QuietTactic
import Derived.BigQuiet
namespace Go.Proofs.YtklipelnjgpnjaaGreatDoor
open Go.ChangeShapes Go.WideShapes Go.ChangeAt Go.RowKit
set_option maxRecDepth 100000
namespace showFull
theorem nl_item {w : World} {base : Nat} {v : Value} {vs : List Value} {pss : List (List Ng)} (h : NLv w base v vs pss) {i : Nat} (hi : i < pss.length) : ∃ g cap ao ca, v = .slice (some ⟨g, 0, none⟩) pss.length cap ∧ w.cell? ⟨g, i, none⟩ = some (.slice ao (pss.getD i []).length ca) ∧ CV w ao (flatG (pss.getD i [])) ∧ (ao = none → ca = 0) := by
 have O := h.2.2.1 i hi
 obtain ⟨ao, ca, hv, C, -, -, h0', -⟩ := cv_of_row O
 have hr := h.1
 rcases h.1.2 with ⟨-, h0⟩ | ⟨g, cap, cur, hv2, -⟩
 ·omega
 ·rw [hv2] at hr
  have hc := hr.cellAt i (by have := h.2.1; omega)
  refine ⟨g, cap, ao, ca, hv2, ?_, C, h0'⟩
  rw [hc, ← hv, List.getD_eq_getElem?_getD, List.getElem?_eq_getElem (by have := h.2.1; omega)]
  rfl
theorem nl_kept {w w' : World} {base : Nat} {v : Value} {vs : List Value} {pss : List (List Ng)} (h : NLv w base v vs pss) (G : w.grownBy w' none) : NLv w' base v vs pss :=
 ⟨h.1.kept G (by cases v.ownBlock <;> simp), h.2.1, fun i hi => World.ownsRow.kept (h.2.2.1 i hi) G (by cases (vs.getD i tynilV).ownBlock <;> simp), h.2.2.2⟩
theorem leafA (l p m : List UInt8) : Value.string ((⟨l.toArray⟩ : ByteArray) ++ ((⟨#[40]⟩ : ByteArray) ++ (⟨p.toArray⟩ : ByteArray) ++ (⟨#[41]⟩ : ByteArray)) ++ (⟨m.toArray⟩ : ByteArray)) = .string ⟨(l ++ ([40] ++ p ++ [41]) ++ m).toArray⟩ := by
 rw [← cat, ← cat, ← cat, ← cat]
theorem leafB (l p : List UInt8) : Value.string ((⟨l.toArray⟩ : ByteArray) ++ ((⟨#[40]⟩ : ByteArray) ++ (⟨p.toArray⟩ : ByteArray) ++ (⟨#[41]⟩ : ByteArray))) = .string ⟨(l ++ ([40] ++ p ++ [41]) ++ []).toArray⟩ := by
 rw [List.append_nil, ← cat, ← cat, ← cat]
theorem leafC (l p m : List UInt8) : Value.string ((⟨l.toArray⟩ : ByteArray) ++ (⟨p.toArray⟩ : ByteArray) ++ (⟨m.toArray⟩ : ByteArray)) = .string ⟨(l ++ p ++ m).toArray⟩ := by
 rw [← cat, ← cat]
theorem leafD (l p : List UInt8) : Value.string ((⟨l.toArray⟩ : ByteArray) ++ (⟨p.toArray⟩ : ByteArray)) = .string ⟨(l ++ p ++ []).toArray⟩ := by
 rw [List.append_nil, ← cat]
theorem alloc_nd (w : World) : w.alloc (.cells #[.int .i64 0, .int .i64 0, .int .u32 0, .int .u32 0, .int .i64 0, .int .i64 0, .int .i64 0, .int .u8 0, .int .u8 0, .int .u8 0, .int .u8 0, .int .u8 0, .int .u8 0, .int .u8 0, .int .u8 0, .int .u8 0, .int .u8 0, .int .u8 0, .int .u8 0, .int .u8 0, .int .u8 0, .int .u8 0, .int .u8 0, .int .i64 0] 43) = w.alloc (.cells nd0.cells.toArray 43) := rfl
theorem showR_is (T : Tr) : (∃ s : ByteArray, ∃ e : Int, e ≠ 0 ∧ showR true T = .tuple #[.string s, .int .i64 e]) ∨ ((T.txt true).2 ≤ 200 ∧ showR true T = .tuple #[str (T.txt true).1, .int .i64 0]) := by
 unfold showR
 split
 ·exact .inl ⟨_, 131, by decide, rfl⟩
 ·exact .inr ⟨by omega, rfl⟩
/-- What Full answers: a text of a filter, or an error. -/
theorem full_is (t : List Ng) (w : World) (TA : TabA w) (hal : t.length * 72 ≤ 140737488351232) (hn : ∀ x ∈ t, x.n ≤ 4294967295) (hmm : ∀ x ∈ t, x.m ≤ 4294967295) :
  (∃ s : ByteArray, ∃ e : Int, e ≠ 0 ∧ ∀ (ao : Option Addr) (cap : Nat) W, w.grownBy W none → CV W ao (flatG t) → Calls Tryz.prog 13 #[.slice ao t.length cap] W fun e' w' => e' = .returned (.tuple #[.string s, .int .i64 e]) ∧ W.grownBy w' none) ∨
  (∃ T : Tr, T.Wf ∧ T.flat = t ∧ (checkG t).2 = 0 ∧ (T.txt true).2 ≤ 200 ∧ ∀ (ao : Option Addr) (cap : Nat) W, w.grownBy W none → CV W ao (flatG t) → Calls Tryz.prog 13 #[.slice ao t.length cap] W fun e' w' => e' = .returned (.tuple #[str (T.txt true).1, .int .i64 0]) ∧ W.grownBy w' none) := by
 by_cases hok : (checkG t).2 = 0
 ·obtain ⟨U, hU, hf⟩ := filt_tree hok
  rcases showR_is U with ⟨s, e, he, h1⟩ | ⟨hd, h1⟩
  ·refine .inl ⟨s, e, he, fun ao cap W G C => ?_⟩
   rw [← h1]
   exact show_ok_F ao cap t U hU hf hok hn hmm W (TA.grown G) C
  ·refine .inr ⟨U, hU, hf, hok, hd, fun ao cap W G C => ?_⟩
   rw [← h1]
   exact show_ok_F ao cap t U hU hf hok hn hmm W (TA.grown G) C
 ·exact .inl ⟨⟨#[]⟩, 130, by decide, fun ao cap W _ C => show_no_F ao cap t hok (by omega) hn W C⟩

/-- The parts' texts, one by one. -/
theorem kid_full {T : Tr} {w : World} (TA : TabA w) (hw : T.Wf) (hok : (checkG T.flat).2 = 0) (hd : (T.txt true).2 ≤ 200) (hn : ∀ x ∈ T.flat, x.n ≤ 4294967295) (hmm : ∀ x ∈ T.flat, x.m ≤ 4294967295) (h : T.root.kind = 7 ∨ T.root.kind = 8 ∨ T.root.kind = 9) {P : Tr} (hP : P ∈ T.kids) :
  ∀ (ao : Option Addr) (cap : Nat) W, w.grownBy W none → CV W ao (flatG P.flat) → Calls Tryz.prog 13 #[.slice ao P.flat.length cap] W fun e' w' => e' = .returned (.tuple #[str (P.txt true).1, .int .i64 0]) ∧ W.grownBy w' none := fun ao cap W G C => by
 have hty := (filt_typed hok hw rfl).1
 have hde := (full_text hw hty h).2 P hP
 have h1 : showR true P = .tuple #[str (P.txt true).1, .int .i64 0] := by
  unfold showR
  rw [if_neg (by omega)]
 have hsub := kids_mem hP
 rw [← h1]
 exact show_ok_F ao cap P.flat P (T.kids_wf hw P hP) rfl (kids_filt hw hok h P hP) (fun x hx => hn x (hsub x hx)) (fun x hx => hmm x (hsub x hx)) W (TA.grown G) C
set_option maxRecDepth 100000 in
set_option maxHeartbeats 16000000 in
theorem walk (a : Option Addr) (ca : Nat) (t : List Ng) (w : World) (hA : CV w a (flatG t)) (ha0 : a = none → ca = 0) (_hac : t.length ≤ ca) (_hax : ca ≤ maxLen) (hal : t.length * 72 ≤ 140737488351232) (hao : ∀ x ∈ t, x.ok) (T : TabA w) :
  Calls Tryz.prog 8 #[.slice a t.length ca] w fun e w' => e = .returned (.bool true) ∧ w.grownBy w' none := by
 have HA : Hid (CV w a (flatG t)) := hA
 have HT : Hid (TabA w) := T
 have HCN : Hid (∀ W, w.grownBy W none → Calls Tryz.prog 15 #[.slice a t.length ca] W fun e w' => ∃ v, e = .returned v ∧ NgOwns w' W.heap.size v t ∧ W.grownBy w' none) := fun W K => gcopy_any a ca t W (hA.keptNone K) ha0 (by omega)
 have HCP : Hid (∀ (ao : Option Addr) (cap : Nat) W, CV W ao (flatG t) → t.length ≤ cap → cap ≤ maxLen → Calls Tryz.prog 19 #[.slice ao t.length cap] W fun e w' => ∃ v, partsR (partsG t) v e ∧ partsW (partsG t) w' W.heap.size v ∧ W.grownBy w' none) := fun ao cap W C h1 h2 => parts_any ao cap t W C h1 h2 (by omega)
 have hfi := full_is t w T hal (fun x hx => (hao x hx).1) (fun x hx => (hao x hx).2.1)
 have HN : Hid ((∀ x ∈ t, x.n ≤ 4294967295) ∧ (∀ x ∈ t, x.m ≤ 4294967295)) := ⟨fun x hx => (hao x hx).1, fun x hx => (hao x hx).2.1⟩
 have HAL : Hid (t.length * 72 ≤ 140737488351232) := hal
 clear hA ha0 hao T
 have G0 : Hid (w.grownBy w none) := World.grownBy.refl _ _
 rcases hfi with ⟨s, e, he, hF⟩ | ⟨T, hw, hf, hok, hd, hF⟩
 ·have HF : Hid (∀ (ao : Option Addr) (cap : Nat) W, w.grownBy W none → CV W ao (flatG t) → Calls Tryz.prog 13 #[.slice ao t.length cap] W fun e' w' => e' = .returned (.tuple #[.string s, .int .i64 e]) ∧ W.grownBy w' none) := hF
  have hEb : (e != 0) = true := by rw [bne_iff_ne]; exact he
  clear hF he hal
  go_enter Tryz.func8, Tryz.ntmps8
  go_wp2_with fail
  refine (HCN.out w G0.out).mono ?_
  rintro e1 w1 ⟨v1, rfl, O1, K1⟩
  obtain ⟨a1, c1, rfl, D1, hl1, hm1, -⟩ := cv_of_row O1
  have HC1 : Hid (Calls _ _ _ _ _) := HF.out a1 c1 w1 K1 D1
  have G1 : Hid (w.grownBy w1 none) := K1
  clear O1 D1 hl1 hm1 K1 G0 HF
  go_wp2_with fail
  refine HC1.out.mono ?_
  rintro e2 w2 ⟨rfl, K2⟩
  have G2 : Hid (w.grownBy w2 none) := grown_trans G1.out K2
  clear HC1 K2 G1
  go_wp2_with fail
  refine (HCN.out w2 G2.out).mono ?_
  rintro e3 w3 ⟨v3, rfl, O3, K3⟩
  obtain ⟨a3, c3, rfl, D3, hl3, hm3, -⟩ := cv_of_row O3
  have HC3 : Hid (Calls _ _ _ _ _) := HCP.out a3 c3 w3 D3 hl3 hm3
  have G3 : Hid (w.grownBy w3 none) := grown_trans G2.out K3
  clear O3 D3 hl3 hm3 K3 G2 HCN HCP
  go_wp2_with fail
  refine HC3.out.mono ?_
  rintro e4 w4 ⟨v4, hR, -, K4⟩
  have G4 : Hid (w.grownBy w4 none) := grown_trans G3.out K4
  obtain ⟨u4, b4, rfl⟩ : ∃ u b, e4 = .returned (.tuple #[u, .bool b]) := by
   unfold partsR at hR
   split at hR <;> exact ⟨_, _, hR⟩
  clear HC3 K4 G3 hR
  go_wp2_with fail
  refine (awake13_any _ (HT.out.grown G4.out)).mono ?_
  rintro e9 w9 ⟨rfl, K9⟩
  go_wp2
  go_ret
  exact ⟨rfl, grown_trans G4.out K9⟩
 ·have HF : Hid (∀ (ao : Option Addr) (cap : Nat) W, w.grownBy W none → CV W ao (flatG t) → Calls Tryz.prog 13 #[.slice ao t.length cap] W fun e' w' => e' = .returned (.tuple #[str (T.txt true).1, .int .i64 0]) ∧ W.grownBy w' none) := hF
  obtain ⟨SB, hSB⟩ : ∃ SB : ByteArray, str (T.txt true).1 = .string SB := ⟨_, rfl⟩
  have HSB : Hid (SB = ⟨(T.txt true).1.toArray⟩) := (Value.string.inj hSB).symm
  rw [hSB] at HF
  clear hSB
  have hp : partsG t = some (T.kids.map Tr.flat) := by rw [← hf]; exact tr_parts hw
  rw [hp] at HCP
  have HTT : Hid (T.Wf ∧ T.flat = t ∧ (checkG t).2 = 0 ∧ (T.txt true).2 ≤ 200) := ⟨hw, hf, hok, hd⟩
  have hkl : T.kids.length ≤ 2 := by
   have := T.kids_len hw
   exact arG_le this
  have ht0 : 0 < t.length := by rw [← hf]; exact List.length_pos_iff.2 T.flat_ne
  clear hF hp hw hok hd
  go_enter Tryz.func8, Tryz.ntmps8
  go_wp2_with fail
  refine (HCN.out w G0.out).mono ?_
  rintro e1 w1 ⟨v1, rfl, O1, K1⟩
  obtain ⟨a1, c1, rfl, D1, hl1, hm1, -⟩ := cv_of_row O1
  have HC1 : Hid (Calls _ _ _ _ _) := HF.out a1 c1 w1 K1 D1
  have G1 : Hid (w.grownBy w1 none) := K1
  clear O1 D1 hl1 hm1 K1 G0 HF
  go_wp2_with fail
  refine HC1.out.mono ?_
  rintro e2 w2 ⟨rfl, K2⟩
  have G2 : Hid (w.grownBy w2 none) := grown_trans G1.out K2
  clear HC1 K2 G1
  go_wp2_with fail
  refine (HCN.out w2 G2.out).mono ?_
  rintro e3 w3 ⟨v3, rfl, O3, K3⟩
  obtain ⟨a3, c3, rfl, D3, hl3, hm3, -⟩ := cv_of_row O3
  have HC3 : Hid (Calls _ _ _ _ _) := HCP.out a3 c3 w3 D3 hl3 hm3
  have G3 : Hid (w.grownBy w3 none) := grown_trans G2.out K3
  clear O3 D3 hl3 hm3 K3 G2 HCN HCP
  go_wp2_with fail
  refine HC3.out.mono ?_
  rintro e4 w4 ⟨v4, hR, hW, K4⟩
  have HG4 : Hid (w.grownBy w4 none) := grown_trans G3.out K4
  simp only [partsR, partsW] at hR hW
  subst hR
  obtain ⟨vs, NL⟩ := hW
  obtain ⟨aP, cP, rfl, -⟩ := cv_of_row NL.1
  have HNL : Hid (NLv w4 w3.heap.size (.slice aP (T.kids.map Tr.flat).length cP) vs (T.kids.map Tr.flat)) := NL
  clear NL HC3 G3 K4
  by_cases h300 : 300 < t.length
  ·have hdec : (300 : Int) < (t.length : Int) := by omega
   clear h300
   go_wp2_with fail
   refine (awake13_any _ (HT.out.grown HG4.out)).mono ?_
   rintro e9 w9 ⟨rfl, K9⟩
   go_wp2
   go_ret
   exact ⟨rfl, grown_trans HG4.out K9⟩
  have hdec : ¬ (300 : Int) < (t.length : Int) := by omega
  obtain ⟨m, hm⟩ : ∃ m, t.length = m + 1 := ⟨t.length - 1, by omega⟩
  have hlast : t[m]'(by omega) = T.root := by
   obtain ⟨l, h1⟩ := T.flat_last
   have h2 : t = l ++ [T.root] := HTT.out.2.1.symm.trans h1
   have h3 : l.length = m := by
    have := congrArg List.length h2
    rw [List.length_append, List.length_singleton] at this
    omega
   simp only [h2, ← h3, List.getElem_append_right (Nat.le_refl _), Nat.sub_self]
   rfl
  have HNT : Hid ((∀ x ∈ T.flat, x.n ≤ 4294967295) ∧ (∀ x ∈ T.flat, x.m ≤ 4294967295) ∧ (checkG T.flat).2 = 0) := ⟨fun x hx => HN.out.1 x (HTT.out.2.1 ▸ hx), fun x hx => HN.out.2 x (HTT.out.2.1 ▸ hx), HTT.out.2.1.symm ▸ HTT.out.2.2.1⟩
  obtain ⟨b, o, rfl, hcn⟩ := HA.out.ngs (k := m) (by omega)
  have hr0 := hcn m (by omega)
  rw [hlast] at hr0
  have HRX : w4.rangeAt b (o + m * 24) T.root.cells := fun i v hi => HG4.out.cell (hr0 i v hi) (by simp)
  have w1' : IntKind.i64.wrap ((t.length : Int) - 1) = (m : Int) := by rw [IntKind.wrap_i64]; omega
  have hl : (m : Int) < (t.length : Int) := by omega
  have z0 : (0 : Int) ≤ (m : Int) := by omega
  have V4 : VAt (w4.alloc (.cells nd0.cells.toArray 43)) w4.heap.size 43 nd0.cells.toArray := VAt.alloc _ _ _
  have KA : w4.grownBy (w4.alloc (.cells nd0.cells.toArray 43)) none := World.grownBy_alloc _ _ _
  have HRA : Hid ((Tryz.prog.info? 43).map (·.size) = some T.root.cells.length ∧ nd0.cells.toArray.size = T.root.cells.toArray.size ∧ T.root.cells.toArray.all (·.oneCell') = true) := by
   refine ⟨ng_len _, rfl, ?_⟩
   rw [Array.all_eq_true_iff_forall_mem]
   intro x hx
   exact Ng.cells_one _ x (by simpa using hx)
  have HK : Hid (T.root.cells.toArray[0]? = some (.int .i64 T.root.kind)) := rfl
  obtain ⟨cs, hcs⟩ : ∃ cs, T.root.cells = cs := ⟨_, rfl⟩
  rw [hcs] at HRX HRA HK
  clear hcs hcn hr0 hlast h300
  go_upto_region 7 with (first | refine wpList_load_mid rfl 43 (.tmp 40) rfl b (o + m * 24) (by simp [Act.eval]) cs _ HRX Tryz.underlying43 rfl HRA.out.1 ?_ | refine wpList_load_midG rfl 43 (.tmp 40) rfl b (o + m * 24) (by simp [Act.eval]) cs _ HRX Tryz.underlying43 rfl HRA.out.1 ?_ | refine wpList_store_row rfl 43 (.tmp 8) (.tmp 41) rfl w4.heap.size cs.toArray rfl rfl 43 _ V4 (by rw [List.size_toArray]; exact HRA.out.1) HRA.out.2.1 HRA.out.2.2 ?_)
  rw [alloc_nd]
  have V5 : VAt ((w4.alloc (.cells nd0.cells.toArray 43)).setRow w4.heap.size cs.toArray) w4.heap.size 43 cs.toArray := V4.setRow _
  have K5 : w4.grownBy ((w4.alloc (.cells nd0.cells.toArray 43)).setRow w4.heap.size cs.toArray) none := vgrown_setRow KA _ _ (.inr (Nat.le_refl _))
  have HG5 : Hid (w.grownBy ((w4.alloc (.cells nd0.cells.toArray 43)).setRow w4.heap.size cs.toArray) none) := grown_trans HG4.out K5
  have HNL5 : Hid (NLv ((w4.alloc (.cells nd0.cells.toArray 43)).setRow w4.heap.size cs.toArray) w3.heap.size (.slice aP (T.kids.map Tr.flat).length cP) vs (T.kids.map Tr.flat)) := nl_kept HNL.out K5
  clear K5 KA V4 HNL HRX HRA
  generalize (w4.alloc (.cells nd0.cells.toArray 43)).setRow w4.heap.size cs.toArray = w5 at *
  generalize w4.heap.size = B8 at *
  have HK8 : Hid (∀ W, w5.grownBy W none → W.cell? ⟨B8, 0, none⟩ = some (.int .i64 T.root.kind)) := fun W K => K.cell (by rw [V5.cell 0]; exact HK.out) (by simp)
  have c8 := HK8.out w5 (World.grownBy.refl _ _)
  have HKD : Hid (T.root.kind = T.root.kind) := rfl
  obtain ⟨kd, hkd⟩ : ∃ kd, T.root.kind = kd := ⟨_, rfl⟩
  rw [hkd] at c8 HK8
  have HKD : Hid (T.root.kind = kd) := hkd
  clear hkd V5 HK hm w1' hl z0 w1
  by_cases h789 : kd = 7 ∨ kd = 8 ∨ kd = 9
  ·have HKT : Hid (T.root.kind = 7 ∨ T.root.kind = 8 ∨ T.root.kind = 9) := HKD.out.symm ▸ h789
   have HKF : Hid (∀ P ∈ T.kids, ∀ (ao : Option Addr) (cap : Nat) W, w.grownBy W none → CV W ao (flatG P.flat) → Calls Tryz.prog 13 #[.slice ao P.flat.length cap] W fun e' w' => e' = .returned (.tuple #[str (P.txt true).1, .int .i64 0]) ∧ W.grownBy w' none) := fun P hP => kid_full HT.out HTT.out.1 HNT.out.2.2 HTT.out.2.2.2 HNT.out.1 HNT.out.2.1 HKT.out hP
   have HTX : Hid ((T.txt true).1 = (if kd = 9 then [110, 111, 116, 32] else []) ++ laidT kd T.kids) := by
    have := (full_text HTT.out.1 (filt_typed HNT.out.2.2 HTT.out.1 rfl).1 HKT.out).1
    rw [HKD.out] at this
    exact this
   have HLEN : Hid (T.kids.length ≤ 2 ∧ ∀ P ∈ T.kids, P.flat.length ≤ 300) := ⟨hkl, fun P hP => by
    have h1 := HTT.out.2.1
    have h2 : P.flat.length ≤ T.flat.length := by
     rw [T.kids_flat, List.length_append]
     have := List.Sublist.length_le (List.sublist_flatten_of_mem (List.mem_map_of_mem (f := Tr.flat) hP))
     omega
    rw [h1] at h2
    omega⟩
   have HKW : Hid (∀ P ∈ T.kids, arG P.root.kind = some P.kids.length) := fun P hP => Tr.kids_len (T.kids_wf HTT.out.1 P hP)
   have HCAT : Hid (SB = ⟨((if kd = 9 then [110, 111, 116, 32] else []) ++ laidT kd T.kids).toArray⟩) := by show SB = _; rw [← HTX.out]; exact HSB.out
   have HSTEP : Hid (∀ k (h : k < T.kids.length), laidT kd (T.kids.take (k + 1)) = laidT kd (T.kids.take k) ++ partT T.kids[k] ++ (if k = 0 then midT kd else [])) := fun k h => laid_more h
   have HF0 : Hid (laidT kd (T.kids.take 0) = []) := rfl
   have HFL : Hid (∀ k, (laidT kd (T.kids.take k)).length ≤ 1000000) := fun k => laid_len (by rw [List.length_take]; have := HLEN.out.1; omega) (fun P hP => HLEN.out.2 P (List.mem_of_mem_take hP))
   have HPL : Hid (∀ P ∈ T.kids, (P.txt true).1.length ≤ 480000) := fun P hP => by
    have h1 := (txt_len true P).1
    have h2 := HLEN.out.2 P hP
    omega
   clear HTX HSB HKT HNT HTT HKD hf hal hkl ht0 hdec HN HAL
   generalize T.kids = ks at *
   obtain ⟨F, hFF⟩ : ∃ F, laidT kd = F := ⟨_, rfl⟩
   rw [hFF] at HCAT HSTEP HF0 HFL
   clear hFF
   rcases h789 with rfl | rfl | rfl
   all_goals
    go_wp2
    go_loopw [7, 9] (fun want i wr => ∃ (k : Nat) (l : List UInt8), k ≤ ks.length ∧ i = .int .i64 (k : Int) ∧ want = .string ⟨l.toArray⟩ ∧ Hid (l = F (ks.take k) ∧ w5.grownBy wr none)) (fun _ i _ => ks.length - (intOf i).toNat)
    case atStart => exact ⟨0, [], Nat.zero_le _, rfl, rfl, ⟨HF0.out.symm, World.grownBy.refl _ _⟩⟩
    case round =>
     obtain ⟨k, l, hk, rfl, rfl, HR⟩ := hrel
     by_cases hlt : k < ks.length
     ·obtain ⟨P, hP⟩ : ∃ P, ks[k] = P := ⟨_, rfl⟩
      have hPm : P ∈ ks := hP ▸ List.getElem_mem hlt
      obtain ⟨g, c6, ao, ck, e6, hcell, CVP, -⟩ := nl_item (nl_kept HNL5.out HR.out.2) (i := k) (by rw [List.length_map]; exact hlt)
      have hqe : (ks.map Tr.flat).getD k [] = P.flat := by rw [List.getD_eq_getElem?_getD, List.getElem?_map, List.getElem?_eq_getElem hlt, hP]; rfl
      rw [hqe] at hcell CVP
      simp only [Value.slice.injEq] at e6
      obtain ⟨rfl, -, rfl⟩ := e6
      obtain ⟨q, hq⟩ : ∃ q, P.flat.length = q + 1 := ⟨P.flat.length - 1, by have := List.length_pos_iff.2 P.flat_ne; omega⟩
      obtain ⟨bq, oq, rfl, hcq⟩ := CVP.ngs (k := q) (by omega)
      have hlq : P.flat[q]'(by omega) = P.root := by
       obtain ⟨z, h1⟩ := P.flat_last
       have h3 : z.length = q := by
        have := congrArg List.length h1
        rw [List.length_append, List.length_singleton] at this
        omega
       simp only [h1, ← h3, List.getElem_append_right (Nat.le_refl _), Nat.sub_self]
       rfl
      have kq0 : wr.cell? ⟨bq, oq + q * 24, none⟩ = some (.int .i64 P.root.kind) := by
       have := hcq q (by omega) 0 (.int .i64 P.root.kind) (by rw [hlq]; rfl)
       rwa [Nat.add_zero] at this
      have hcall := HKF.out P hPm (some ⟨bq, oq, none⟩) ck wr (grown_trans HG5.out HR.out.2) CVP
      have HNEW := HSTEP.out k hlt
      have hll := HFL.out k
      rw [← HR.out.1] at hll
      have hpl := HPL.out P hPm
      rw [← HR.out.1, hP] at HNEW
      unfold partT at HNEW
      obtain ⟨n, hn⟩ : ∃ n, P.flat.length = n := ⟨_, rfl⟩
      have hnq : n = q + 1 := hn.symm.trans hq
      rw [hn] at hcall hcell
      obtain ⟨px, hpx⟩ : ∃ px, (P.txt true).1 = px := ⟨_, rfl⟩
      obtain ⟨rk, hrk⟩ : ∃ rk, P.root.kind = rk := ⟨_, rfl⟩
      rw [hpx] at hcall HNEW hpl
      rw [hrk] at HNEW kq0
      have HN1 : Hid (F (ks.take (k + 1)) = l ++ (if 0 < arI rk then [40] ++ px ++ [41] else px) ++ (if k = 0 then midT _ else [])) := HNEW
      have HC : Hid (Calls Tryz.prog 13 #[.slice (some ⟨bq, oq, none⟩) n ck] wr fun e' w' => e' = .returned (.tuple #[.string ⟨px.toArray⟩, .int .i64 0]) ∧ wr.grownBy w' none) := hcall
      have HW : Hid (∀ W, wr.grownBy W none → W.cell? ⟨g, k, none⟩ = some (.slice (some ⟨bq, oq, none⟩) n ck) ∧ W.cell? ⟨bq, oq + q * 24, none⟩ = some (.int .i64 rk)) := fun W K => ⟨K.cell hcell (by simp), K.cell kq0 (by simp)⟩
      have hq3 := HLEN.out.2 P hPm
      rw [hq] at hq3
      have hl : (k : Int) < (ks.length : Int) := by omega
      have zk : (0 : Int) ≤ (k : Int) := by omega
      have hk2 := HLEN.out.1
      have wk1 : IntKind.i64.wrap ((k : Int) + 1) = (k : Int) + 1 := by rw [IntKind.wrap_i64]; omega
      have wq1 : IntKind.i64.wrap ((n : Int) - 1) = (q : Int) := by rw [IntKind.wrap_i64]; omega
      have lq1 : (q : Int) < (n : Int) := by omega
      have zq1 : (0 : Int) ≤ (q : Int) := by omega
      have CA := fun W => arity12_any rk W
      clear hcall HNEW hpx hrk kq0 hlq hcq hq hq3 CVP hqe hPm hP hn hnq
      go_wp2_with fail
      refine HC.out.mono ?_
      rintro e6 w6 ⟨rfl, K6⟩
      obtain ⟨ck1, kq1⟩ := HW.out w6 K6
      have HG6 : Hid (w5.grownBy w6 none) := grown_trans HR.out.2 K6
      clear hcell HC HW K6
      go_upto_region 15 with fail
      go_quiet ((go_at_call 20; exact Calls.quiet_of_same (CA _)))
      generalize hDR : w6.drewN nq = w7 at *
      have HG7 : Hid (w5.grownBy w7 none) := by
       show w5.grownBy w7 none
       rw [← hDR]
       exact grown_trans HG6.out (grown_drewN w6 nq none)
      have c8r := HK8.out w7 HG7.out
      clear hDR HG6 ck1 kq1 CA
      by_cases hA : 0 < arI rk
      ·by_cases k0 : k = 0
       ·subst k0
        go_wp2
        all_goals first | (exfalso; omega) | skip
        go_roundw
        case rel => exact ⟨1, F (ks.take 1), by omega, by go_num, by rw [HN1.out, if_pos hA, if_pos rfl]; first | exact leafA _ _ _ | exact leafB _ _, ⟨rfl, HG7.out⟩⟩
        case measure => simp [intOf]; omega
       ·have e0 : ((k : Int) == 0) = false := by rw [beq_eq_false_iff_ne]; omega
        go_wp2
        all_goals first | (exfalso; omega) | skip
        go_roundw
        case rel => exact ⟨k + 1, F (ks.take (k + 1)), by omega, by go_num, by rw [HN1.out, if_pos hA, if_neg k0]; exact leafB _ _, ⟨rfl, HG7.out⟩⟩
        case measure => simp [intOf]; omega
      ·by_cases k0 : k = 0
       ·subst k0
        go_wp2
        all_goals first | (exfalso; omega) | skip
        go_roundw
        case rel => exact ⟨1, F (ks.take 1), by omega, by go_num, by rw [HN1.out, if_neg hA, if_pos rfl]; first | exact leafC _ _ _ | exact leafD _ _, ⟨rfl, HG7.out⟩⟩
        case measure => simp [intOf]; omega
       ·have e0 : ((k : Int) == 0) = false := by rw [beq_eq_false_iff_ne]; omega
        go_wp2
        all_goals first | (exfalso; omega) | skip
        go_roundw
        case rel => exact ⟨k + 1, F (ks.take (k + 1)), by omega, by go_num, by rw [HN1.out, if_neg hA, if_neg k0]; exact leafD _ _, ⟨rfl, HG7.out⟩⟩
        case measure => simp [intOf]; omega
     ·obtain rfl : k = ks.length := by omega
      have hl' : ¬ (ks.length : Int) < (ks.length : Int) := by omega
      have c8r := HK8.out wr HR.out.2
      have hcat := HCAT.out
      have hll := HFL.out ks.length
      rw [← HR.out.1] at hll
      rw [← List.take_length (l := ks), ← HR.out.1] at hcat
      have HAW : Hid (Calls _ _ _ _ _) := awake13_any wr (HT.out.grown (grown_trans HG5.out HR.out.2))
      have HGR : Hid (w.grownBy wr none) := grown_trans HG5.out HR.out.2
      first
       | (obtain rfl : SB = ⟨l.toArray⟩ := hcat)
       | (obtain rfl : SB = (⟨#[110, 111, 116, 32]⟩ : ByteArray) ++ (⟨l.toArray⟩ : ByteArray) := by rw [hcat]; exact (cat _ _).symm)
      clear hlt
      try clear hcat
      go_wp2_with fail
      all_goals first | (exfalso; omega) | skip
      refine HAW.out.mono ?_
      rintro e9 w9 ⟨rfl, K9⟩
      go_wp2
      go_ret
      exact ⟨rfl, grown_trans HGR.out K9⟩
  ·obtain ⟨h7, h8, h9⟩ : kd ≠ 7 ∧ kd ≠ 8 ∧ kd ≠ 9 := by omega
   have n7 : (kd != 7) = true := by rw [bne_iff_ne]; exact h7
   have n8 : (kd != 8) = true := by rw [bne_iff_ne]; exact h8
   have n9 : (kd != 9) = true := by rw [bne_iff_ne]; exact h9
   clear h7 h8 h9 h789
   go_wp2_with fail
   refine (awake13_any _ (HT.out.grown HG5.out)).mono ?_
   rintro e9 w9 ⟨rfl, K9⟩
   go_wp2
   go_ret
   exact ⟨rfl, grown_trans HG5.out K9⟩
set_option maxRecDepth 100000 in
theorem lifted (os : Os) (started : os.Started) (H : Type) (enc : TypeId × Value → H) (F : Stop.Interp) :
  ReturnsInHanded {} Tryz.checked os 8 .any ((OpenSpec.ofChange Rows.showFullSpec).preRow enc Tryz.prog Tryz.f8 Rows.showFullRow.domain false Rows.showFullRow.laid) (((OpenSpec.ofChange Rows.showFullSpec).at F).post enc Tryz.prog Tryz.f8 false true false false) := by
 have hx : DataW.whole enc Tryz.prog ((laidWorld os).forCall (fun _ _ => 0) ⟨#[], #[.slice none 0 0], []⟩).memory Tryz.f8.params.toList Rows.showFullSpec.vars false (#[.slice none 0 0] : Array Value).toList 8 = some ([.nil], [], []) := by kernel_rfl
 refine returnsInHanded_of_row (C := Tryz.checked) (s := (OpenSpec.ofChange Rows.showFullSpec)) own started (by kernel_rfl) Tryz.func8
  (witness_row_atRef (enc := enc) (C := Tryz.checked) false (laidWorld os) #[.slice none 0 0] (World.laidAll_os _ _ _) (by kernel_rfl) (by kernel_rfl) (by kernel_rfl)
   (OpenSpec.preRow_of_cond 8 hx (by kernel_rfl) (fun k hk => by cases hk) (by kernel_rfl) (laid_met os _))) ?_
 intro W base args ds gs before hval0 hW hcnd hcond hsz0 hL hsh _
 have hsz : (DataW.weightsEach Tryz.prog (Tryz.f8.params.toList ++ Rows.showFullSpec.plain.varTypes Tryz.prog) (ds ++ gs)).all (· ≤ reachBytes) = true := hsz0
 have T : TabB W := laid_tabB hL hsh
 have hval : ∀ (j : Nat) t v, Tryz.f8.params[j]? = some t → args[j]? = some v → Value.okWide Tryz.prog W .any base t v := hval0
 have hW' := hW
 obtain ⟨p, q, hA0, hV, rfl, hfz, hnd⟩ := hW
 have hA : DataW.TrodAll enc Tryz.prog W 0 (fun _ => true) true Tryz.f8.params.toList args.toList ds p := hA0
 rw [Tryz.params8] at hA hval hsz
 obtain ⟨v0, vs0, d0, ds0, p0, q0, hargs, rfl, rfl, h0, r0⟩ := trodAll_cons hA
 obtain ⟨rfl, rfl, rfl⟩ := trodAll_nil r0
 obtain rfl : args = #[v0] := by cases args; simp_all
 obtain ⟨rfl, rfl⟩ := trodVars_none hV
 obtain ⟨a0, len0, cap0, rfl⟩ := okWide_slice Tryz.underlying22 (hval 0 22 v0 rfl rfl)
 have k0 := h0
 have lt0 : ∀ x ∈ p0, x.block < W.heap.size := by obtain ⟨m, hm⟩ := k0; exact DataW.trod_lt m _ _ _ hm
 obtain ⟨xs0, rfl, hcells0, hnil0, hcp0, hok0, hdat0⟩ := open_nodes h0
 have hlen0 : xs0.length * 72 ≤ 140737488351232 := by
  rcases hdat0 with ⟨_, rfl⟩ | ⟨elems, spare, rfl, hle⟩
  ·simp
  ·have := sized_slice hsz (j := 0) (t := 22) (e := 43) rfl rfl Tryz.underlying22
   rw [bytes43] at this
   unfold reachBytes at this
   omega
 clear hA0 hval0
 refine (walk a0 cap0 xs0 W hcells0 hnil0 hcp0.1 hcp0.2 (by omega) hok0 T).mono fun e W' ⟨he, hg⟩ => ?_
 subst he
 have bel : Below W.heap.size W W' := (Below.refl _ _).grown hg (Nat.le_refl _) (by simp)
 exact ⟨_, rfl, _, _, _, [], _, [], hW', trodAll_mk1 (shut_bool Tryz.underlying4 _), (trodAll_cons_mk (Below.trod laidOut (by kernel_rfl) (of_decide_eq_true (by kernel_rfl)) k0 bel lt0) trodAll_mk0), rfl, bel.frame _, fun h => by cases h⟩
theorem over : Rows.ShowFullSaid :=
 OpenClaim.holds_of_cond 8 Tryz.f8 rfl rfl rfl rfl rfl rfl rfl ⟨rfl, rfl, rfl, rfl, rfl⟩ rfl rfl rfl rfl rfl (by kernel_rfl) Tryz.func8 (by kernel_rfl)
  (of_decide_eq_true (by kernel_rfl)) (by unfold Func.isWrapper; first | (rw [if_pos (by decide +kernel)]; kernel_rfl) | (rw [if_neg (by decide +kernel)]; exact ⟨rfl, rfl⟩))
  (fun os started H enc _ F => by rw [OpenClaim.pre_eq_preRow]; exact lifted os started H enc F)
theorem plain (f : FuncId) (fn : Func) (hf : Tryz.pinned.checked.prog.funcNamed "riddle/riddlelaw13.ShowFull" = some f) (hfn : Tryz.pinned.checked.prog.funcs[f]? = some fn) :
  true = Tryz.pinned.checked.prog.looks [] ∧ ∀ (j : Nat) t, fn.params[j]? = some t → Tryz.pinned.checked.prog.wantsStandIn t = false := by
 obtain rfl : f = 8 := Option.some.inj ((show Tryz.prog.funcNamed "riddle/riddlelaw13.ShowFull" = some 8 by kernel_rfl).symm.trans hf) |>.symm
 obtain rfl : fn = Tryz.f8 := (Option.some.inj (Tryz.func8.symm.trans hfn)).symm
 refine ⟨by kernel_rfl, fun j t ht => ?_⟩
 rw [Tryz.params8] at ht
 have ht2 := Array.mem_of_getElem? ht
 simp only [List.mem_toArray, List.mem_cons, List.not_mem_nil, or_false] at ht2
 rcases ht2 with rfl
 ·exact (show Tryz.prog.wantsStandIn 22 = false by kernel_rfl)
theorem card : Rows.ShowFullCardSaid :=
 Claim7.holds_tied_plain_at .later [] _ _ _ _ over (fun _ h => by cases h) (by kernel_rfl) (fun _ h => by cases h) showFull_row_tie rfl ⟨rfl, rfl⟩ (by kernel_rfl) rfl plain (by kernel_rfl)

end showFull
theorem showFull_holds : Rows.ShowFullCardSaid := showFull.card
#print axioms showFull_holds

end Go.Proofs.YtklipelnjgpnjaaGreatDoor
