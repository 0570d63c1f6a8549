import Derived.Test.YtklipelnjgpnjaaGreatDoorLotF13
import Derived.Deep.QuietTactic
import Derived.Test.YtklipelnjgpnjaaGreatDoorLotF2
import Derived.Test.YtklipelnjgpnjaaGreatDoorLotF8
import Derived.Test.YtklipelnjgpnjaaGreatDoorLotF5
import Derived.Deep.MidRow
namespace Go.Proofs.YtklipelnjgpnjaaGreatDoor
open Go.RowKit
set_option maxRecDepth 100000
def Pt.ok (p : Pt) : Prop := (p.fixed = false → p.val = 0) ∧ (p.truth = true → p.fixed = false)
def checkR (t : List Ng) : Value := .tuple #[.int .i64 ((checkG t).1 : Int), .int .i64 (checkG t).2]
set_option maxHeartbeats 2000000 in
theorem check12_any (ao : Option Addr) (cap : Nat) (t : List Ng) (w : World) (C : CV w ao (flatG t)) (hm : t.length * 72 ≤ 140737488355328) (hn : ∀ x ∈ t, x.n ≤ 4294967295) :
  Calls Tryz.prog 16 #[.slice ao t.length cap] w fun e w' => e = .returned (checkR t) ∧ w.grownBy w' none := by
 have HC : Hid (CV w ao (flatG t)) := C
 obtain ⟨E, hE⟩ : ∃ E, checkR t = E := ⟨_, rfl⟩
 rw [hE]
 have HE : Hid (checkR t = E) := hE
 have HNN : Hid (∀ x ∈ t, x.n ≤ 4294967295) := hn
 clear C hE hn
 go_enter Tryz.func16, Tryz.ntmps16
 go_wp2_with fail
 refine (rules_any _).mono ?_
 rintro e w1 ⟨R, rfl, T, K1⟩
 have CW := walk_any ao cap t R w1 T (HC.out.keptNone K1) hm HNN.out
 have HT : Hid (TabT R w1) := T
 have HK1 : Hid (w.grownBy w1 none) := K1
 clear T K1
 go_wp2_with fail
 refine CW.mono ?_
 rintro e w2 ⟨v, hR, O, K2⟩
 clear CW
 cases hwk : walkG [] 0 t with
 | error er =>
  obtain ⟨k, er⟩ := er
  rw [hwk] at hR
  simp only [walkR] at hR
  subst hR
  have h3 := walkG_er t [] 0 hwk
  have e1 : (er != 0) = true := by rw [bne_iff_ne]; omega
  have HF : Hid (E = .tuple #[.int .i64 (k : Int), .int .i64 er]) := by
   show E = _
   rw [← HE.out, checkR, checkG, hwk]
  have G := grown_trans HK1.out K2
  clear O hwk h3
  go_wp2
  go_ret2
  exact ⟨by rw [HF.out]; rfl, G⟩
 | ok st =>
  rw [hwk] at hR O
  simp only [walkR] at hR
  subst hR
  have HO : Hid (POwns w2 w1.heap.size v st) := O
  obtain ⟨aL, cL, rfl, CL, -⟩ := cv_of_row O
  have HG : Hid (w.grownBy w2 none) := grown_trans HK1.out K2
  have HCK : Hid (checkG t = if st.length ≠ 1 then (t.length, (120 : Int)) else if (st.getD 0 pt0).truth = false then (t.length - 1, 121) else match heavyG 0 0 t with | some k => (k, (126 : Int)) | none => (0, 0)) := by
   show _ = _
   rw [checkG, hwk]
   rfl
  have hlen := walkG_len t [] st 0 hwk
  simp only [walkL, List.length_nil, Nat.zero_add] at hlen CL ⊢
  by_cases h1 : st.length = 1
  ·match st, h1 with
   | [p], _ =>
    obtain ⟨b, o, rfl, hc⟩ := CL.pts ptC_len (k := 0) (by simp)
    have c0 := hc 0 (by simp) 0 (.int .i64 (if p.truth = true then 0 else 1)) rfl
    simp only [Nat.zero_mul, Nat.add_zero] at c0
    have hl1 : 1 ≤ t.length := by simpa using hlen
    rw [show [p].length = 1 from rfl]
    clear CL hc O hlen hwk HO
    cases hp : p.truth with
    | false =>
     rw [hp] at c0
     have HF : Hid (E = .tuple #[.int .i64 ((t.length - 1 : Nat) : Int), .int .i64 121]) := by
      show E = _
      rw [← HE.out, checkR, HCK.out]
      simp [hp]
     have q : ((t.length - 1 : Nat) : Int) = (t.length : Int) - 1 := by omega
     have w3 : IntKind.i64.wrap ((t.length : Int) - 1) = (t.length : Int) - 1 := by rw [IntKind.wrap_i64]; omega
     rw [q] at HF
     clear q HCK hp
     go_wp2
     go_ret2
     exact ⟨by rw [HF.out]; rfl, HG.out⟩
    | true =>
     rw [hp] at c0
     have HF : Hid (checkG t = match heavyG 0 0 t with | some k => (k, (126 : Int)) | none => (0, 0)) := by
      show _ = _
      rw [HCK.out]
      simp [hp]
     have CH := heavy_any ao cap t R w2 (HT.out.kept K2) (HC.out.keptNone HG.out) hm
     clear HCK hp
     go_wp2_with fail
     refine CH.mono ?_
     rintro e w3 ⟨rfl, K3⟩
     have G3 := grown_trans HG.out K3
     clear CH K3
     cases hh : heavyG 0 0 t with
     | none =>
      have HF2 : Hid (E = .tuple #[.int .i64 0, .int .i64 0]) := by
       show E = _
       rw [← HE.out, checkR, HF.out, hh]
       rfl
      simp only [heavyR]
      clear hh HF
      go_wp2
      go_ret2
      exact ⟨by rw [HF2.out]; rfl, G3⟩
     | some q =>
      have HF2 : Hid (E = .tuple #[.int .i64 (q : Int), .int .i64 126]) := by
       show E = _
       rw [← HE.out, checkR, HF.out, hh]
      simp only [heavyR]
      clear hh HF
      go_wp2
      go_ret2
      exact ⟨by rw [HF2.out]; rfl, G3⟩
  ·have e1 : ((st.length : Int) != 1) = true := by rw [bne_iff_ne]; omega
   have HF : Hid (E = .tuple #[.int .i64 (t.length : Int), .int .i64 120]) := by
    show E = _
    rw [← HE.out, checkR, HCK.out, if_pos h1]
   clear h1 CL O hwk HO HCK hlen
   go_wp2
   go_ret2
   exact ⟨by rw [HF.out]; rfl, HG.out⟩
def ZSpoilRel (w : World) (row : Option Nat) (g g' n n' : Nat) (wr : World) : Prop := BlkN wr 3 g n ∧ BlkN wr 3 g' n' ∧ w.grownBy wr row
theorem ZSpoilRel.set {w wr : World} {row : Option Nat} {g g' n n' : Nat} (h : ZSpoilRel w row g g' n n' wr) {p : Addr} (hp : row = some p.block ∨ w.heap.size ≤ p.block) (u : Value) : ZSpoilRel w row g g' n n' (wr.setCell p u) :=
 ⟨h.1.setCell _ _, h.2.1.setCell _ _, grown_setCell h.2.2 _ _ hp⟩
def sv (n : Nat) : Value := .int .i64 (n : Int)
abbrev TsOwns (w : World) (base : Nat) (v : Value) (ss : List Nat) : Prop := w.ownsRow base 3 1 v ss.length (ss.map sv)
theorem sv_one (ss : List Nat) : ∀ u ∈ ss.map sv, u.oneCell' = true := by
 intro u hu
 obtain ⟨n, -, rfl⟩ := List.mem_map.1 hu
 rfl
theorem info_int : (Tryz.prog.info? 3).map (fun i => (i.zero, i.size, i.bytes)) = some (some (.int .i64 0), 1, 8) := by kernel_rfl
theorem lit_one_int (z : Int) (W : World) : (Instr.buildSlice 33 1 #[(0, .int .i64 z)]).run Tryz.prog W = .ok (.slice (some ⟨W.heap.size, 0, none⟩) 1 1) (W.alloc (.cells [.int .i64 z].toArray 3)) := by kernel_rfl
theorem startsG_none {t : List Ng} {ss : List Nat} {k : Nat} (hk : k < t.length) (h : arG t[k].kind = none) : startsG ss k (t.drop k) = none := by
 rw [List.drop_eq_getElem_cons hk, startsG, h]
theorem startsG_few {t : List Ng} {ss : List Nat} {k a : Nat} (hk : k < t.length) (h : arG t[k].kind = some a) (hl : ss.length < a) : startsG ss k (t.drop k) = none := by
 rw [List.drop_eq_getElem_cons hk, startsG, h]
 simp only
 rw [if_pos hl]
theorem startsG_leaf {t : List Ng} {ss : List Nat} {k : Nat} (hk : k < t.length) (h : arG t[k].kind = some 0) : startsG ss k (t.drop k) = startsG (ss ++ [k]) (k + 1) (t.drop (k + 1)) := by
 rw [List.drop_eq_getElem_cons hk, startsG, h]
 simp only [Nat.not_lt_zero, if_false, if_true]
theorem startsG_node {t : List Ng} {ss : List Nat} {k a : Nat} (hk : k < t.length) (h : arG t[k].kind = some a) (hl : ¬ ss.length < a) (ha : a ≠ 0) : startsG ss k (t.drop k) = startsG (ss.take (ss.length - a + 1)) (k + 1) (t.drop (k + 1)) := by
 rw [List.drop_eq_getElem_cons hk, startsG, h]
 simp only
 rw [if_neg hl, if_neg ha]
def startR (x : Option (List Nat)) (v : Value) (e : Ending) : Prop := match x with
 | none => e = .returned (.tuple #[.slice none 0 0, .bool false])
 | some _ => e = .returned (.tuple #[v, .bool true])
set_option maxHeartbeats 8000000 in
theorem starts_any (ao : Option Addr) (cap : Nat) (t : List Ng) (R : RT) (w : World) (T : TabT R w) (C : CV w ao (flatG t)) (hm : t.length * 72 ≤ 140737488355328) :
  Calls Tryz.prog 36 #[.slice (some ⟨R.g, 0, none⟩) 17 17, .slice ao t.length cap] w fun e w' => ∃ v, startR (startsG [] 0 t) v e ∧ TsOwns w' w.heap.size v ((startsG [] 0 t).getD []) ∧ w.grownBy w' none := by
 have HC : Hid (CV w ao (flatG t)) := C
 have HT : Hid (TabT R w) := T
 obtain ⟨i0, hi0, hz0, hz1, hz2⟩ := info_parts info_int
 have HI : Hid _ := hi0
 have HI1 : Hid _ := hz0
 have HI2 : Hid _ := hz1
 have HI3 : Hid _ := hz2
 clear C T hi0 hz0 hz1 hz2
 go_enter Tryz.func36, Tryz.ntmps36
 go_wp2
 go_loopw [6, 14] (fun v i wr => ∃ (k : Nat) (ss : List Nat), k ≤ t.length ∧ ss.length ≤ k ∧ i = .int .i64 k ∧ Hid (TsOwns wr w.heap.size v ss ∧ startsG [] 0 t = startsG ss k (t.drop k) ∧ w.grownBy wr none)) (fun _ i _ => t.length - (intOf i).toNat)
 case atStart => exact ⟨0, [], Nat.zero_le _, Nat.le_refl _, rfl, World.ownsRow_nil _ _ _ _, rfl, World.grownBy.refl _ _⟩
 case round =>
  obtain ⟨k, ss, hk, hst, rfl, HI4⟩ := hrel
  by_cases hlt : k < t.length
  ·obtain ⟨O, hw, G⟩ := HI4.out
   obtain ⟨b, o, rfl, hc⟩ := (HC.out.keptNone G).ngs hlt
   have HR : Hid (wr.rangeAt b (o + k * 24) t[k].cells) := hc k hlt
   have HZ : Hid ((Tryz.prog.info? 43).map (·.size) = some t[k].cells.length ∧ (Tryz.prog.info? 43).map (·.size) = some t[k].cells.toArray.size ∧ 24 = t[k].cells.toArray.size ∧ t[k].cells.toArray.all (·.oneCell') = true) := ⟨ng_len _, ng_size _, rfl, ng_all _⟩
   have K2 := World.grownBy_alloc wr (.cells t[k].cells.toArray 43) none
   have c0 : (wr.alloc (.cells t[k].cells.toArray 43)).cell? ⟨wr.heap.size, 0, none⟩ = some (.int .i64 t[k].kind) := (NB.alloc wr t[k]).kind
   have HO2 : Hid (TsOwns (wr.alloc (.cells t[k].cells.toArray 43)) w.heap.size u6 ss) := owns_keptNone O K2
   have G2 := grown_trans G K2
   have HQ1 : Hid (arG t[k].kind = none → startsG [] 0 t = none) := fun h => by rw [hw]; exact startsG_none hlt h
   have HQ2 : Hid (∀ a, arG t[k].kind = some a → ss.length < a → startsG [] 0 t = none) := fun a h h2 => by rw [hw]; exact startsG_few hlt h h2
   have HQ3 : Hid (arG t[k].kind = some 0 → startsG [] 0 t = startsG (ss ++ [k]) (k + 1) (t.drop (k + 1))) := fun h => by rw [hw]; exact startsG_leaf hlt h
   have HQ4 : Hid (∀ a, arG t[k].kind = some a → ¬ ss.length < a → a ≠ 0 → startsG [] 0 t = startsG (ss.take (ss.length - a + 1)) (k + 1) (t.drop (k + 1))) := fun a h h2 h3 => by rw [hw]; exact startsG_node hlt h h2 h3
   obtain ⟨aL, cL, rfl, -, hb1, hb2, -, -, -⟩ := cv_of_row O
   have hl : (k : Int) < (t.length : Int) := by omega
   have z0 : (0 : Int) ≤ (k : Int) := by omega
   have w3 : IntKind.i64.wrap ((k : Int) + 1) = (k : Int) + 1 := by rw [IntKind.wrap_i64]; omega
   have hcL : cL ≤ 9223372036854775807 := by unfold maxLen at hb2; omega
   clear hc hw G O HI4 hb2
   generalize t[k].kind = xk at *
   generalize t[k].cells = cs at *
   go_upto_region 5 with (first | refine wpList_load_mid rfl 43 (.tmp 17) rfl b (o + k * 24) (by simp [Act.eval]) cs _ HR.out Tryz.underlying43 rfl HZ.out.1 ?_ | refine wpList_store_row rfl 43 (.tmp 8) (.tmp 18) rfl wr.heap.size cs.toArray rfl rfl 43 _ (heap_alloc_new wr _) HZ.out.2.1 HZ.out.2.2.1 HZ.out.2.2.2 ?_)
   rw [World.setRow_alloc_new]
   generalize wr.alloc (.cells cs.toArray 43) = w2 at *
   generalize wr.heap.size = N at *
   clear HR K2 HZ
   cases ha : arG xk with
   | none =>
    have CR := ruleOf_no R xk ha
    have HF : Hid (startsG [] 0 t = none) := HQ1.out ha
    clear ha HQ1 HQ2 HQ3 HQ4
    go_wp2_with fail
    refine (CR _).mono ?_
    rintro e w4 ⟨rfl, K4⟩
    have K5 := World.grownBy_alloc w4 (.cells rule0.toArray 77) none
    have V5 := VAt.alloc w4 77 rule0.toArray
    clear CR
    go_upto_region 6 with (refine wpList_store_row rfl 77 (.tmp 9) (.tmp 24) rfl w4.heap.size rule0.toArray rfl rfl 77 _ (heap_alloc_new w4 _) size_rule rfl rule0_all ?_)
    rw [World.setRow_alloc_new]
    have G5 := grown_trans (grown_trans G2 K4) K5
    generalize w4.alloc (.cells rule0.toArray 77) = w5 at *
    generalize w4.heap.size = P at *
    have d0 : w5.cell? ⟨P, 0, none⟩ = some (.slice none 0 0) := V5.cell 0
    clear K4 K5 V5 G2 c0 HO2
    have q1 : IntKind.i64.wrap (ss.length : Int) = (ss.length : Int) := by rw [IntKind.wrap_i64]; omega
    go_wp2
    go_ret2
    refine ⟨.slice none 0 0, ?_, ?_, G5⟩
    ·rw [HF.out]; rfl
    ·rw [HF.out]; exact World.ownsRow_nil _ _ _ _
   | some a =>
    have hin := arG_in ha
    obtain ⟨kn, hkn⟩ : ∃ kn : Nat, xk = kn := Int.eq_ofNat_of_zero_le (by omega)
    have h1 : 1 ≤ kn := by omega
    have h2 : kn ≤ 16 := by omega
    have CR := ruleOf_ok R kn h1 h2 w2 (HT.out.kept G2)
    obtain ⟨tao, tcap, htk, -⟩ := takes_cv HT.out (hkn ▸ ha)
    have HRL : Hid ((Tryz.prog.info? 77).map (·.size) = some (ruleC R kn).toArray.size ∧ 7 = (ruleC R kn).toArray.size ∧ (ruleC R kn).toArray.all (·.oneCell') = true ∧ (ruleC R kn).toArray[0]? = some (.slice tao a tcap)) := ⟨size_rule, rfl, ruleC_all HT.out h1 h2, by rw [← htk]; rfl⟩
    have HHA : Hid (arG xk = some a) := ha
    have hale := arG_le ha
    rw [hkn] at c0
    obtain ⟨rs, hrs⟩ : ∃ rs, (ruleC R kn).toArray = rs := ⟨_, rfl⟩
    rw [hrs] at CR HRL
    clear hrs hkn hin h1 h2 ha htk
    go_wp2_with fail
    refine CR.mono ?_
    rintro e w4 ⟨rfl, K4⟩
    have K5 := World.grownBy_alloc w4 (.cells rs 77) none
    have V5 := VAt.alloc w4 77 rs
    have HO5 : Hid (TsOwns (w4.alloc (.cells rs 77)) w.heap.size (.slice aL ss.length cL) ss) := owns_keptNone (owns_keptNone HO2.out K4) K5
    have G5 := grown_trans (grown_trans G2 K4) K5
    clear CR HO2 c0 K4 G2
    go_upto_region 6 with (refine wpList_store_row rfl 77 (.tmp 9) (.tmp 24) rfl w4.heap.size rs rfl rfl 77 _ (heap_alloc_new w4 _) HRL.out.1 HRL.out.2.1 HRL.out.2.2.1 ?_)
    rw [World.setRow_alloc_new]
    clear K5
    generalize w4.alloc (.cells rs 77) = w5 at *
    generalize w4.heap.size = P at *
    have d0 : w5.cell? ⟨P, 0, none⟩ = some (.slice tao a tcap) := by rw [V5.cell 0]; exact HRL.out.2.2.2
    clear V5 HRL
    by_cases hfew : ss.length < a
    ·have HF : Hid (startsG [] 0 t = none) := HQ2.out _ HHA.out hfew
     have q1 : IntKind.i64.wrap ((ss.length : Int) - (a : Int)) = (ss.length : Int) - (a : Int) := by rw [IntKind.wrap_i64]; omega
     have q2 : (ss.length : Int) - (a : Int) < 0 := by omega
     clear HQ1 HQ2 HQ3 HQ4 hfew
     go_wp2
     go_ret2
     refine ⟨.slice none 0 0, ?_, ?_, G5⟩
     ·rw [HF.out]; rfl
     ·rw [HF.out]; exact World.ownsRow_nil _ _ _ _
    ·obtain ⟨f, hf⟩ : ∃ f, f = ss.length - a := ⟨_, rfl⟩
     have q1 : IntKind.i64.wrap ((ss.length : Int) - (a : Int)) = (f : Int) := by rw [IntKind.wrap_i64]; omega
     have q2 : ¬ (f : Int) < 0 := by omega
     by_cases ha0 : a = 0
     ·subst ha0
      have HF : Hid _ := HQ3.out HHA.out
      have e5 : ((0 : Nat) : Int) = 0 := rfl
      have HLE : Hid (ss.length + 1 ≤ maxLen ∧ (ss.length + 1) * 8 ≤ 140737488355328) := by refine ⟨?_, ?_⟩ <;> (try unfold maxLen) <;> omega
      have HBS : Hid (w.heap.size ≤ w5.heap.size) := G5.size
      obtain rfl : f = ss.length := by omega
      rw [e5] at *
      have HG5 : Hid (w.grownBy w5 none) := G5
      have hLI := lit_one_int (k : Int)
      clear HQ1 HQ2 HQ3 HQ4 hfew hf G5
      go_wp2_with (first | (refine wpList_lit (by rfl) 33 1 _ rfl _ (by kernel_rfl) [.int .i64 (k : Int)] 3 hLI ?_; intro V wl CL KL) | (at_builtin; refine wpList_append_cv rfl (.tmp 42) (.tmp 44) 33 rfl 3 i0 _ 1 8 Tryz.underlying33 HI.out HI1.out HI2.out HI3.out rfl (by decide) w.heap.size _ ss.length (ss.map sv) rfl (owns_keptNone HO5.out KL) (some ⟨V, 0, none⟩) 1 1 [.int .i64 (k : Int)] rfl rfl (by simp) CL (sv_one [k]) HLE.out.1 HLE.out.2 (Nat.le_trans HBS.out KL.size) ?_; intro v9 w9 O9 K9; have HFIN : Hid (TsOwns w9 w.heap.size v9 (ss ++ [k]) ∧ startsG [] 0 t = startsG (ss ++ [k]) (k + 1) (t.drop (k + 1)) ∧ w.grownBy w9 none) := ⟨(by unfold TsOwns; rw [List.length_append, List.map_append]; exact O9), HF.out, grown_trans_new (grown_trans HG5.out KL) K9 (fun x hx => (HO5.out.lt x hx).1)⟩; clear O9 K9 CL KL))
      go_roundw
      case rel => exact ⟨k + 1, ss ++ [k], by omega, by rw [List.length_append, List.length_singleton]; omega, by go_num, HFIN⟩
      case measure => simp [intOf]; omega
     ·have e5 : ((a : Int) == 0) = false := by simpa using ha0
      have HF : Hid _ := HQ4.out _ HHA.out hfew ha0
      rw [← hf] at HF
      obtain ⟨g, cap', hvv, hcc, hcm, -, -⟩ := owns_head HO5.out (by omega)
      simp only [Value.slice.injEq] at hvv
      obtain ⟨rfl, -, rfl⟩ := hvv
      have HFIN : Hid (TsOwns w5 w.heap.size (.slice (some ⟨g, 0, none⟩) (f + 1) cL) (ss.take (f + 1)) ∧ startsG [] 0 t = startsG (ss.take (f + 1)) (k + 1) (t.drop (k + 1)) ∧ w.grownBy w5 none) := by
       refine ⟨?_, HF.out, G5⟩
       have := owns_take HO5.out (m := f + 1) (by omega)
       unfold TsOwns
       rw [List.length_take, Nat.min_eq_left (by omega), List.map_take]
       rw [Nat.mul_one] at this
       exact this
      have w4' : IntKind.i64.wrap ((f : Int) + 1) = ((f + 1 : Nat) : Int) := by rw [IntKind.wrap_i64]; omega
      have hle1 : ((f + 1 : Nat) : Int) ≤ (cL : Int) := by omega
      have hle2 : (0 : Int) ≤ ((f + 1 : Nat) : Int) := by omega
      have hle3 : ¬ cL < f + 1 := by omega
      have HLT : Hid ((ss.take (f + 1)).length ≤ k + 1) := by show List.length _ ≤ _; rw [List.length_take]; omega
      obtain ⟨f1, hf1⟩ : ∃ f1, f + 1 = f1 := ⟨_, rfl⟩
      rw [hf1] at HFIN HLT w4' hle1 hle2 hle3
      clear HQ1 HQ2 HQ3 HQ4 hfew ha0 HF hf hcc hcm hf1 G5
      go_wp2
      go_roundw
      case rel => exact ⟨k + 1, ss.take f1, by omega, HLT.out, by go_num, HFIN⟩
      case measure => simp [intOf]; omega
  ·obtain ⟨O, hw, G⟩ := HI4.out
   have HF : Hid (startsG [] 0 t = some ss) := by
    rw [List.drop_eq_nil_of_le (by omega)] at hw
    exact hw
   clear hw HI4
   go_wp2
   go_ret2
   refine ⟨u6, ?_, ?_, G⟩
   ·rw [HF.out]; rfl
   ·rw [HF.out]; exact O
theorem setCells_blk {w : World} {e : TypeId} {g n : Nat} (b : Nat) : ∀ (vs : List Value) (o : Nat) (w : World), BlkN w e g n → BlkN (w.setCells b o vs) e g n
 | [], _, _, h => h
 | v :: r, o, _, h => setCells_blk (w := w) b r (o + 1) _ (h.setCell _ v)
theorem setCells_grown {w : World} {row : Option Nat} (b : Nat) (hp : row = some b ∨ w.heap.size ≤ b) : ∀ (vs : List Value) (o : Nat) (W : World), w.grownBy W row → w.grownBy (W.setCells b o vs) row
 | [], _, _, h => h
 | v :: r, o, _, h => setCells_grown b hp r (o + 1) _ (grown_setCell h ⟨b, o, none⟩ v hp)
def GSpoilRel (w : World) (row : Option Nat) (g g' n n' : Nat) (wr : World) : Prop := BlkN wr 43 g n ∧ BlkN wr 43 g' n' ∧ w.grownBy wr row
theorem GSpoilRel.set {w wr : World} {row : Option Nat} {g g' n n' : Nat} (h : GSpoilRel w row g g' n n' wr) {b : Nat} (o : Nat) (vs : List Value) (hp : row = some b ∨ w.heap.size ≤ b) : GSpoilRel w row g g' n n' (wr.setCells b o vs) :=
 ⟨setCells_blk (w := w) b vs o wr h.1, setCells_blk (w := w) b vs o wr h.2.1, setCells_grown b hp vs o wr h.2.2⟩
def piecesG (t : List Ng) (ss : List Nat) (last : Nat) : List (List Ng) := List.zipWith (fun a b => (t.take b).drop a) ss (ss.tail ++ [last])
def partsG (t : List Ng) : Option (List (List Ng)) :=
 match t.getLast? with
 | none => none
 | some x => match arG x.kind with
  | none => none
  | some a => match startsG [] 0 (t.take (t.length - 1)) with
   | none => none
   | some ss => if ss.length = a then some (piecesG t ss (t.length - 1)) else none
theorem starts_incr : ∀ (l : List Ng) (ss ss' : List Nat) (k : Nat), startsG ss k l = some ss' → ss.Pairwise (· < ·) → (∀ s ∈ ss, s < k) → ss'.Pairwise (· < ·) ∧ ∀ s ∈ ss', s < k + l.length
 | [], ss, ss', k, h, h1, h2 => by cases h; exact ⟨h1, fun s hs => h2 s hs⟩
 | x :: l, ss, ss', k, h, h1, h2 => by
  simp only [startsG] at h
  split at h
  ·cases h
  ·rename_i a _
   split at h
   ·cases h
   ·split at h
    ·have := starts_incr l _ ss' (k + 1) h (List.pairwise_append.2 ⟨h1, List.pairwise_singleton _ _, fun y hy z hz => by rw [List.mem_singleton.1 hz]; exact h2 y hy⟩) (fun s hs => by
      rcases List.mem_append.1 hs with hs | hs
      ·have := h2 s hs; omega
      ·rw [List.mem_singleton.1 hs]; omega)
     exact ⟨this.1, fun s hs => by have := this.2 s hs; rw [List.length_cons]; omega⟩
    ·have := starts_incr l _ ss' (k + 1) h (h1.sublist (List.take_sublist _ _)) (fun s hs => by have := h2 s (List.mem_of_mem_take hs); omega)
     exact ⟨this.1, fun s hs => by have := this.2 s hs; rw [List.length_cons]; omega⟩
theorem ends_get {ss : List Nat} {last i : Nat} (hi : i < ss.length) (h1 : ss.Pairwise (· < ·)) (h2 : ∀ s ∈ ss, s < last) : ∃ e, (ss ++ [last])[i + 1]? = some e ∧ (ss.tail ++ [last])[i]? = some e ∧ ss[i] < e ∧ e ≤ last := by
 by_cases h : i + 1 < ss.length
 ·refine ⟨ss[i + 1], by rw [List.getElem?_append_left h, List.getElem?_eq_getElem h], ?_, ?_, ?_⟩
  ·rw [List.getElem?_append_left (by rw [List.length_tail]; omega), List.getElem?_tail, List.getElem?_eq_getElem h]
  ·exact List.pairwise_iff_getElem.1 h1 i (i + 1) hi h (by omega)
  ·exact Nat.le_of_lt (h2 _ (List.getElem_mem h))
 ·refine ⟨last, ?_, ?_, h2 _ (List.getElem_mem hi), Nat.le_refl _⟩
  ·rw [List.getElem?_append_right (by omega), show i + 1 - ss.length = 0 by omega]; rfl
  ·rw [List.getElem?_append_right (by rw [List.length_tail]; omega), List.length_tail, show i - (ss.length - 1) = 0 by omega]; rfl
theorem pieces_get {t : List Ng} {ss : List Nat} {last i e : Nat} (hi : i < ss.length) (he : (ss.tail ++ [last])[i]? = some e) : (piecesG t ss last).getD i [] = (t.take e).drop ss[i] := by
 unfold piecesG
 rw [List.getD_eq_getElem?_getD, List.getElem?_zipWith, he, List.getElem?_eq_getElem hi]
 rfl
theorem pieces_len {t : List Ng} {ss : List Nat} {last : Nat} : (piecesG t ss last).length = ss.length := by
 unfold piecesG
 rw [List.length_zipWith, List.length_append, List.length_tail, List.length_singleton]
 omega
def tynilV : Value := .slice none 0 0
def NLv (w : World) (base : Nat) (v : Value) (vs : List Value) (pss : List (List Ng)) : Prop :=
 w.ownsRow base 22 1 v pss.length vs ∧ vs.length = pss.length ∧ (∀ i, i < pss.length → NgOwns w base (vs.getD i tynilV) (pss.getD i [])) ∧
  ∀ i j, i < j → j < pss.length → ∀ x, (vs.getD i tynilV).ownBlock = some x → (vs.getD j tynilV).ownBlock ≠ some x
def partsR (x : Option (List (List Ng))) (v : Value) (e : Ending) : Prop := match x with
 | none => e = .returned (.tuple #[tynilV, .bool false])
 | some _ => e = .returned (.tuple #[v, .bool true])
def partsW (x : Option (List (List Ng))) (w : World) (base : Nat) (v : Value) : Prop := match x with
 | none => True
 | some pss => ∃ vs, NLv w base v vs pss
set_option maxHeartbeats 1000000 in
theorem clone_any (ad : Addr) (ca : Nat) (xs : List Ng) (w : World) (ha : CV w (some ad) (flatG xs)) (hm : xs.length * 72 ≤ 140737488355328) :
  Calls Tryz.prog 37 #[.slice (some ad) xs.length ca] w fun e w' => ∃ v, e = .returned v ∧ NgOwns w' w.heap.size v xs ∧ w.grownBy w' none := by
 obtain ⟨i0, hi, hz0, hz1, hz2⟩ := info_parts info43
 have H : Hid (CV w (some ad) (flatG xs)) := ha
 have HNQ : ∀ W : World, (binOp .eql 22 (.slice (some ad) xs.length ca) (.slice none 0 0)).run Tryz.prog W = .ok (.bool false) W := fun W => by kernel_rfl
 clear ha
 go_enter Tryz.func37, Tryz.ntmps37
 go_wp2_with (at_builtin; refine wpList_append_cv rfl (.tmp 5) (.tmp 6) 22 rfl 43 i0 _ 24 72 Tryz.underlying22 hi hz0 hz1 hz2 rfl (by decide) w.heap.size _ 0 [] rfl ?q1 (some ad) xs.length ca (flatG xs) rfl (flatG_len xs) (by simp) ?q2 (flatG_one xs) ?q3 ?q4 ?q5 ?q6)
 case q1 => exact World.ownsRow_made w #[] 0 (Nat.le_refl _) (Nat.zero_le _) rfl
 case q2 => exact H.out.keptNone (World.grownBy_alloc _ _ _)
 case q3 => unfold maxLen; omega
 case q4 => omega
 case q5 => simp
 case q6 =>
  intro v' w' h1 h2
  have G : w.grownBy w' none := grown_trans_new (World.grownBy_alloc w _ _) h2 (by intro x hx; simp [Value.ownBlock] at hx; omega)
  have O : NgOwns w' w.heap.size v' xs := by simpa using h1
  clear h2 h1
  go_wp2
  go_ret
  exact ⟨v', rfl, O, G⟩
theorem cv_takeG {w : World} {ad : Addr} {t : List Ng} (h : CV w (some ad) (flatG t)) (n : Nat) : CV w (some ad) (flatG (t.take n)) := by
 refine ⟨fun e => (by cases e), fun ad' had i hi => ?_⟩
 have e : flatG t = flatG (t.take n) ++ flatG (t.drop n) := by rw [← flatG_append, List.take_append_drop]
 have := h.2 ad' had i (by rw [e, List.length_append]; omega)
 rw [this]
 congr 1
 simp only [e, List.getElem_append_left hi]
theorem cv_dropG {w : World} {b o : Nat} {t : List Ng} (h : CV w (some ⟨b, o, none⟩) (flatG t)) (n : Nat) (hn : n ≤ t.length) : CV w (some ⟨b, o + n * 24, none⟩) (flatG (t.drop n)) := by
 refine ⟨fun e => (by cases e), fun ad had i hi => ?_⟩
 cases had
 have hl : (flatG (t.take n)).length = n * 24 := by rw [flatG_len, List.length_take, Nat.min_eq_left hn]
 have e : flatG t = flatG (t.take n) ++ flatG (t.drop n) := by rw [← flatG_append, List.take_append_drop]
 have := h.2 _ rfl (n * 24 + i) (by rw [e, List.length_append]; omega)
 rw [Addr.add_lit] at this
 rw [Addr.add_lit, Nat.add_assoc, this]
 congr 1
 simp only [e]
 rw [List.getElem_append_right (by omega)]
 congr 1
 omega
theorem checkG_er {t : List Ng} {x : Nat × Int} (h : walkG [] 0 t = .error x) : checkG t = x := by rw [checkG, h]
theorem stepG_frame {x : Ng} {st s : List Pt} (st0 : List Pt) (h : stepG x st = .ok s) : stepG x (st0 ++ st) = .ok (st0 ++ s) := by
 unfold stepG at h ⊢
 split at h
 ·cases h
 ·rename_i a ha
  split at h
  ·cases h
  ·rename_i hl
   have hd : (st0 ++ st).drop ((st0 ++ st).length - a) = st.drop (st.length - a) := by
    rw [List.length_append, show st0.length + st.length - a = st0.length + (st.length - a) by omega, List.drop_append, List.drop_eq_nil_of_le (by omega), List.nil_append, Nat.add_sub_cancel_left]
   have ht : (st0 ++ st).take ((st0 ++ st).length - a) = st0 ++ st.take (st.length - a) := by
    rw [List.length_append, show st0.length + st.length - a = st0.length + (st.length - a) by omega, List.take_append, List.take_of_length_le (by omega), Nat.add_sub_cancel_left]
   split at h
   ·cases h
   ·rename_i hf
    cases h
    rw [if_neg (by rw [List.length_append]; omega), hd, if_neg hf, ht, List.append_assoc]
theorem walkG_frame : ∀ (l : List Ng) (st s st0 : List Pt) (k k' : Nat), walkG st k l = .ok s → walkG (st0 ++ st) k' l = .ok (st0 ++ s)
 | [], st, s, st0, k, k', h => by cases h; rfl
 | x :: l, st, s, st0, k, k', h => by
  simp only [walkG] at h ⊢
  cases hs : stepG x st with
  | error e => rw [hs] at h; cases h
  | ok s1 =>
   rw [hs] at h
   rw [stepG_frame st0 hs]
   exact walkG_frame l s1 s st0 (k + 1) (k' + 1) h
theorem heavy_none : ∀ (l : List Ng) (w k : Nat), heavyG w k l = none ↔ (l = [] ∨ w + weightG l ≤ 3000)
 | [], w, k => by simp [heavyG]
 | x :: l, w, k => by
  have e : weightG (x :: l) = weighG x + weightG l := by simp [weightG]
  simp only [heavyG]
  by_cases h : 3000 < w + weighG x
  ·rw [if_pos h]
   constructor
   ·intro h2; cases h2
   ·intro h2; rcases h2 with h2 | h2
    ·cases h2
    ·omega
  ·rw [if_neg h, heavy_none l (w + weighG x) (k + 1)]
   constructor
   ·rintro (rfl | h2)
    ·right; rw [e]; simp [weightG]; omega
    ·right; omega
   ·rintro (h2 | h2)
    ·cases h2
    ·right; omega
theorem filt_iff {t : List Ng} : (checkG t).2 = 0 ↔ ∃ p, walkG [] 0 t = .ok [p] ∧ p.truth = true ∧ weightG t ≤ 3000 := by
 constructor
 ·intro h
  cases hw : walkG [] 0 t with
  | error x =>
   obtain ⟨k, e⟩ := x
   rw [checkG_er hw] at h
   have := walkG_er t [] 0 hw
   simp only at h
   omega
  | ok st =>
   rw [checkG, hw] at h
   simp only at h
   split at h
   ·cases h
   ·rename_i hl
    split at h
    ·cases h
    ·rename_i ht
     match st, hl with
     | [p], _ =>
      refine ⟨p, rfl, by simpa using ht, ?_⟩
      cases hh : heavyG 0 0 t with
      | some q => rw [hh] at h; cases h
      | none =>
       rcases (heavy_none t 0 0).1 hh with rfl | h2
       ·simp [weightG]
       ·omega
     | [], hl => exact absurd (by simp) hl
     | _ :: _ :: _, hl => exact absurd (by simp) hl
 ·rintro ⟨p, hw, hp, hwt⟩
  rw [checkG, hw]
  simp only [List.length_singleton, ne_eq, not_true_eq_false, if_false, List.getD_cons_zero, hp]
  rw [(heavy_none t 0 0).2 (.inr (by omega))]
  rfl
theorem weighG_pos {x : Ng} (h : 1 ≤ x.kind ∧ x.kind ≤ 16) : 1 ≤ weighG x := by
 obtain ⟨k, hk⟩ : ∃ k : Nat, x.kind = k := Int.eq_ofNat_of_zero_le (by omega)
 unfold weighG
 rw [hk]
 rcases sixteen (k := k) (by omega) (by omega) with rfl | rfl | rfl | rfl | rfl | rfl | rfl | rfl | rfl | rfl | rfl | rfl | rfl | rfl | rfl | rfl
 all_goals first
  | exact Nat.le_refl 1
  | (show 1 ≤ (_ : Nat); simp; done)
  | (simp; split <;> omega)
theorem walkG_weighs : ∀ (l : List Ng) (st s : List Pt) (k : Nat), walkG st k l = .ok s → l.length ≤ weightG l
 | [], _, _, _, _ => Nat.le_refl _
 | x :: l, st, s, k, h => by
  simp only [walkG] at h
  cases hs : stepG x st with
  | error e => rw [hs] at h; cases h
  | ok s1 =>
   rw [hs] at h
   have := walkG_weighs l s1 s (k + 1) h
   have hx : 1 ≤ weighG x := by
    unfold stepG at hs
    split at hs
    ·cases hs
    ·rename_i a ha
     exact weighG_pos (arG_in ha)
   have e : weightG (x :: l) = weighG x + weightG l := by simp [weightG]
   rw [List.length_cons]
   omega
theorem walkG_snoc {t : List Ng} {st : List Pt} (x : Ng) (h : walkG [] 0 t = .ok st) : walkG [] 0 (t ++ [x]) = match stepG x st with | .error e => .error (t.length, e) | .ok s => .ok s := by
 rw [walkG_app, h]
 simp only [walkG, Nat.zero_add]
 cases stepG x st <;> rfl

end Go.Proofs.YtklipelnjgpnjaaGreatDoor
