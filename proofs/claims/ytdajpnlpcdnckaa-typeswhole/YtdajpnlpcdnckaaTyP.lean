/-
  Package types as landed: where each of the trees begins that are left.
-/
import Derived.Test.YtdajpnlpcdnckaaTyW
import Derived.Test.YtdajpnlpcdnckaaLotP26
namespace Go.Proofs.Ytdajpnlpcdnckaa
open Go.RowKit
set_option maxRecDepth 100000

def sv (n : Nat) : Value := .int .i64 (n : Int)
abbrev TsOwns (w : World) (base : Nat) (v : Value) (ss : List Nat) : Prop := w.ownsRow base 3 1 v ss.length (ss.map sv)
theorem sv_one (ss : List Nat) : ∀ u ∈ ss.map sv, u.oneCell' = true := by
  intro u hu
  obtain ⟨n, -, rfl⟩ := List.mem_map.1 hu
  rfl
theorem info_int : (Try.prog.info? 3).map (fun i => (i.zero, i.size, i.bytes)) = some (some (.int .i64 0), 1, 8) := by kernel_rfl
theorem lit_one_int (z : Int) (W : World) : (Instr.buildSlice 61 1 #[(0, .int .i64 z)]).run Try.prog W = .ok (.slice (some ⟨W.heap.size, 0, none⟩) 1 1) (W.alloc (.cells [.int .i64 z].toArray 3)) := by kernel_rfl

theorem startsG_none {t : List Ng} {ss : List Nat} {k : Nat} (hk : k < t.length) (h : arG t[k].kind = none) : startsG ss k (t.drop k) = none := by
  rw [List.drop_eq_getElem_cons hk, startsG, h]
theorem startsG_few {t : List Ng} {ss : List Nat} {k a : Nat} (hk : k < t.length) (h : arG t[k].kind = some a) (hl : ss.length < a) : startsG ss k (t.drop k) = none := by
  rw [List.drop_eq_getElem_cons hk, startsG, h]
  simp only
  rw [if_pos hl]
theorem startsG_leaf {t : List Ng} {ss : List Nat} {k : Nat} (hk : k < t.length) (h : arG t[k].kind = some 0) : startsG ss k (t.drop k) = startsG (ss ++ [k]) (k + 1) (t.drop (k + 1)) := by
  rw [List.drop_eq_getElem_cons hk, startsG, h]
  simp only [Nat.not_lt_zero, if_false, if_true]
theorem startsG_node {t : List Ng} {ss : List Nat} {k a : Nat} (hk : k < t.length) (h : arG t[k].kind = some a) (hl : ¬ ss.length < a) (ha : a ≠ 0) : startsG ss k (t.drop k) = startsG (ss.take (ss.length - a + 1)) (k + 1) (t.drop (k + 1)) := by
  rw [List.drop_eq_getElem_cons hk, startsG, h]
  simp only
  rw [if_neg hl, if_neg ha]

/-- What startsOf tells. -/
def startR (x : Option (List Nat)) (v : Value) (e : Ending) : Prop := match x with
  | none => e = .returned (.tuple #[.slice none 0 0, .bool false])
  | some _ => e = .returned (.tuple #[v, .bool true])

set_option maxHeartbeats 8000000 in
theorem starts_any (ao : Option Addr) (cap : Nat) (t : List Ng) (R : RT) (w : World) (T : TabT R w) (C : CV w ao (flatG t)) (hm : t.length * 72 ≤ 140737488355328) :
    Calls Try.prog 34 #[.slice (some ⟨R.g, 0, none⟩) 17 17, .slice ao t.length cap] w fun e w' => ∃ v, startR (startsG [] 0 t) v e ∧ TsOwns w' w.heap.size v ((startsG [] 0 t).getD []) ∧ w.grownBy w' none := by
  have HC : Hid (CV w ao (flatG t)) := C
  have HT : Hid (TabT R w) := T
  obtain ⟨i0, hi0, hz0, hz1, hz2⟩ := info_parts info_int
  have HI : Hid _ := hi0
  have HI1 : Hid _ := hz0
  have HI2 : Hid _ := hz1
  have HI3 : Hid _ := hz2
  clear C T hi0 hz0 hz1 hz2
  go_enter Try.func34, Try.ntmps34
  go_wp2
  go_loopw [6, 14] (fun v i wr => ∃ (k : Nat) (ss : List Nat), k ≤ t.length ∧ ss.length ≤ k ∧ i = .int .i64 k ∧ Hid (TsOwns wr w.heap.size v ss ∧ startsG [] 0 t = startsG ss k (t.drop k) ∧ w.grownBy wr none)) (fun _ i _ => t.length - (intOf i).toNat)
  case atStart => exact ⟨0, [], Nat.zero_le _, Nat.le_refl _, rfl, World.ownsRow_nil _ _ _ _, rfl, World.grownBy.refl _ _⟩
  case round =>
    obtain ⟨k, ss, hk, hst, rfl, HI4⟩ := hrel
    by_cases hlt : k < t.length
    · obtain ⟨O, hw, G⟩ := HI4.out
      obtain ⟨b, o, rfl, hc⟩ := (HC.out.keptNone G).ngs hlt
      have HR : Hid (wr.rangeAt b (o + k * 24) t[k].cells) := hc k hlt
      have HZ : Hid ((Try.prog.info? 40).map (·.size) = some t[k].cells.length ∧ (Try.prog.info? 40).map (·.size) = some t[k].cells.toArray.size ∧ 24 = t[k].cells.toArray.size ∧ t[k].cells.toArray.all (·.oneCell') = true) := ⟨ng_len _, ng_size _, rfl, ng_all _⟩
      have K2 := World.grownBy_alloc wr (.cells t[k].cells.toArray 40) none
      have c0 : (wr.alloc (.cells t[k].cells.toArray 40)).cell? ⟨wr.heap.size, 0, none⟩ = some (.int .i64 t[k].kind) := (NB.alloc wr t[k]).kind
      have HO2 : Hid (TsOwns (wr.alloc (.cells t[k].cells.toArray 40)) w.heap.size u6 ss) := owns_keptNone O K2
      have G2 := grown_trans G K2
      have HQ1 : Hid (arG t[k].kind = none → startsG [] 0 t = none) := fun h => by rw [hw]; exact startsG_none hlt h
      have HQ2 : Hid (∀ a, arG t[k].kind = some a → ss.length < a → startsG [] 0 t = none) := fun a h h2 => by rw [hw]; exact startsG_few hlt h h2
      have HQ3 : Hid (arG t[k].kind = some 0 → startsG [] 0 t = startsG (ss ++ [k]) (k + 1) (t.drop (k + 1))) := fun h => by rw [hw]; exact startsG_leaf hlt h
      have HQ4 : Hid (∀ a, arG t[k].kind = some a → ¬ ss.length < a → a ≠ 0 → startsG [] 0 t = startsG (ss.take (ss.length - a + 1)) (k + 1) (t.drop (k + 1))) := fun a h h2 h3 => by rw [hw]; exact startsG_node hlt h h2 h3
      obtain ⟨aL, cL, rfl, -, hb1, hb2, -, -, -⟩ := cv_of_row O
      have hl : (k : Int) < (t.length : Int) := by omega
      have z0 : (0 : Int) ≤ (k : Int) := by omega
      have w3 : IntKind.i64.wrap ((k : Int) + 1) = (k : Int) + 1 := by rw [IntKind.wrap_i64]; omega
      have hcL : cL ≤ 9223372036854775807 := by unfold maxLen at hb2; omega
      clear hc hw G O HI4 hb2
      generalize t[k].kind = xk at *
      generalize t[k].cells = cs at *
      go_upto_region 5 with (first | refine wpList_load_mid rfl 40 (.tmp 17) rfl b (o + k * 24) (by simp [Act.eval]) cs _ HR.out Try.underlying40 rfl HZ.out.1 ?_ | refine wpList_store_row rfl 40 (.tmp 8) (.tmp 18) rfl wr.heap.size cs.toArray rfl rfl 40 _ (heap_alloc_new wr _) HZ.out.2.1 HZ.out.2.2.1 HZ.out.2.2.2 ?_)
      rw [World.setRow_alloc_new]
      generalize wr.alloc (.cells cs.toArray 40) = w2 at *
      generalize wr.heap.size = N at *
      clear HR K2 HZ
      cases ha : arG xk with
      | none =>
        have CR := ruleOf_no R xk ha
        have HF : Hid (startsG [] 0 t = none) := HQ1.out ha
        clear ha HQ1 HQ2 HQ3 HQ4
        go_wp2_with fail
        refine (CR _).mono ?_
        rintro e w4 ⟨rfl, K4⟩
        have K5 := World.grownBy_alloc w4 (.cells rule0.toArray 67) none
        have V5 := VAt.alloc w4 67 rule0.toArray
        clear CR
        go_upto_region 6 with (refine wpList_store_row rfl 67 (.tmp 9) (.tmp 24) rfl w4.heap.size rule0.toArray rfl rfl 67 _ (heap_alloc_new w4 _) size_rule rfl rule0_all ?_)
        rw [World.setRow_alloc_new]
        have G5 := grown_trans (grown_trans G2 K4) K5
        generalize w4.alloc (.cells rule0.toArray 67) = w5 at *
        generalize w4.heap.size = P at *
        have d0 : w5.cell? ⟨P, 0, none⟩ = some (.slice none 0 0) := V5.cell 0
        clear K4 K5 V5 G2 c0 HO2
        have q1 : IntKind.i64.wrap (ss.length : Int) = (ss.length : Int) := by rw [IntKind.wrap_i64]; omega
        go_wp2
        go_ret2
        refine ⟨.slice none 0 0, ?_, ?_, G5⟩
        · rw [HF.out]; rfl
        · rw [HF.out]; exact World.ownsRow_nil _ _ _ _
      | some a =>
        have hin := arG_in ha
        obtain ⟨kn, hkn⟩ : ∃ kn : Nat, xk = kn := Int.eq_ofNat_of_zero_le (by omega)
        have h1 : 1 ≤ kn := by omega
        have h2 : kn ≤ 16 := by omega
        have CR := ruleOf_ok R kn h1 h2 w2 (HT.out.kept G2)
        obtain ⟨tao, tcap, htk, -⟩ := takes_cv HT.out (hkn ▸ ha)
        have HRL : Hid ((Try.prog.info? 67).map (·.size) = some (ruleC R kn).toArray.size ∧ 7 = (ruleC R kn).toArray.size ∧ (ruleC R kn).toArray.all (·.oneCell') = true ∧ (ruleC R kn).toArray[0]? = some (.slice tao a tcap)) := ⟨size_rule, rfl, ruleC_all HT.out h1 h2, by rw [← htk]; rfl⟩
        have HHA : Hid (arG xk = some a) := ha
        have hale := arG_le ha
        rw [hkn] at c0
        obtain ⟨rs, hrs⟩ : ∃ rs, (ruleC R kn).toArray = rs := ⟨_, rfl⟩
        rw [hrs] at CR HRL
        clear hrs hkn hin h1 h2 ha htk
        go_wp2_with fail
        refine CR.mono ?_
        rintro e w4 ⟨rfl, K4⟩
        have K5 := World.grownBy_alloc w4 (.cells rs 67) none
        have V5 := VAt.alloc w4 67 rs
        have HO5 : Hid (TsOwns (w4.alloc (.cells rs 67)) w.heap.size (.slice aL ss.length cL) ss) := owns_keptNone (owns_keptNone HO2.out K4) K5
        have G5 := grown_trans (grown_trans G2 K4) K5
        clear CR HO2 c0 K4 G2
        go_upto_region 6 with (refine wpList_store_row rfl 67 (.tmp 9) (.tmp 24) rfl w4.heap.size rs rfl rfl 67 _ (heap_alloc_new w4 _) HRL.out.1 HRL.out.2.1 HRL.out.2.2.1 ?_)
        rw [World.setRow_alloc_new]
        clear K5
        generalize w4.alloc (.cells rs 67) = w5 at *
        generalize w4.heap.size = P at *
        have d0 : w5.cell? ⟨P, 0, none⟩ = some (.slice tao a tcap) := by rw [V5.cell 0]; exact HRL.out.2.2.2
        clear V5 HRL
        by_cases hfew : ss.length < a
        · have HF : Hid (startsG [] 0 t = none) := HQ2.out _ HHA.out hfew
          have q1 : IntKind.i64.wrap ((ss.length : Int) - (a : Int)) = (ss.length : Int) - (a : Int) := by rw [IntKind.wrap_i64]; omega
          have q2 : (ss.length : Int) - (a : Int) < 0 := by omega
          clear HQ1 HQ2 HQ3 HQ4 hfew
          go_wp2
          go_ret2
          refine ⟨.slice none 0 0, ?_, ?_, G5⟩
          · rw [HF.out]; rfl
          · rw [HF.out]; exact World.ownsRow_nil _ _ _ _
        · obtain ⟨f, hf⟩ : ∃ f, f = ss.length - a := ⟨_, rfl⟩
          have q1 : IntKind.i64.wrap ((ss.length : Int) - (a : Int)) = (f : Int) := by rw [IntKind.wrap_i64]; omega
          have q2 : ¬ (f : Int) < 0 := by omega
          by_cases ha0 : a = 0
          · subst ha0
            have HF : Hid _ := HQ3.out HHA.out
            have e5 : ((0 : Nat) : Int) = 0 := rfl
            have HLE : Hid (ss.length + 1 ≤ maxLen ∧ (ss.length + 1) * 8 ≤ 140737488355328) := by refine ⟨?_, ?_⟩ <;> (try unfold maxLen) <;> omega
            have HBS : Hid (w.heap.size ≤ w5.heap.size) := G5.size
            obtain rfl : f = ss.length := by omega
            rw [e5] at *
            have HG5 : Hid (w.grownBy w5 none) := G5
            have hLI := lit_one_int (k : Int)
            clear HQ1 HQ2 HQ3 HQ4 hfew hf G5
            go_wp2_with (first | (refine wpList_lit (by rfl) 61 1 _ rfl _ (by kernel_rfl) [.int .i64 (k : Int)] 3 hLI ?_; intro V wl CL KL) | (at_builtin; refine wpList_append_cv rfl (.tmp 42) (.tmp 44) 61 rfl 3 i0 _ 1 8 Try.underlying61 HI.out HI1.out HI2.out HI3.out rfl (by decide) w.heap.size _ ss.length (ss.map sv) rfl (owns_keptNone HO5.out KL) (some ⟨V, 0, none⟩) 1 1 [.int .i64 (k : Int)] rfl rfl (by simp) CL (sv_one [k]) HLE.out.1 HLE.out.2 (Nat.le_trans HBS.out KL.size) ?_; intro v9 w9 O9 K9; have HFIN : Hid (TsOwns w9 w.heap.size v9 (ss ++ [k]) ∧ startsG [] 0 t = startsG (ss ++ [k]) (k + 1) (t.drop (k + 1)) ∧ w.grownBy w9 none) := ⟨(by unfold TsOwns; rw [List.length_append, List.map_append]; exact O9), HF.out, grown_trans_new (grown_trans HG5.out KL) K9 (fun x hx => (HO5.out.lt x hx).1)⟩; clear O9 K9 CL KL))
            go_roundw
            case rel => exact ⟨k + 1, ss ++ [k], by omega, by rw [List.length_append, List.length_singleton]; omega, by go_num, HFIN⟩
            case measure => simp [intOf]; omega
          · have e5 : ((a : Int) == 0) = false := by simpa using ha0
            have HF : Hid _ := HQ4.out _ HHA.out hfew ha0
            rw [← hf] at HF
            obtain ⟨g, cap', hvv, hcc, hcm, -, -⟩ := owns_head HO5.out (by omega)
            simp only [Value.slice.injEq] at hvv
            obtain ⟨rfl, -, rfl⟩ := hvv
            have HFIN : Hid (TsOwns w5 w.heap.size (.slice (some ⟨g, 0, none⟩) (f + 1) cL) (ss.take (f + 1)) ∧ startsG [] 0 t = startsG (ss.take (f + 1)) (k + 1) (t.drop (k + 1)) ∧ w.grownBy w5 none) := by
              refine ⟨?_, HF.out, G5⟩
              have := owns_take HO5.out (m := f + 1) (by omega)
              unfold TsOwns
              rw [List.length_take, Nat.min_eq_left (by omega), List.map_take]
              rw [Nat.mul_one] at this
              exact this
            have w4' : IntKind.i64.wrap ((f : Int) + 1) = ((f + 1 : Nat) : Int) := by rw [IntKind.wrap_i64]; omega
            have hle1 : ((f + 1 : Nat) : Int) ≤ (cL : Int) := by omega
            have hle2 : (0 : Int) ≤ ((f + 1 : Nat) : Int) := by omega
            have hle3 : ¬ cL < f + 1 := by omega
            have HLT : Hid ((ss.take (f + 1)).length ≤ k + 1) := by show List.length _ ≤ _; rw [List.length_take]; omega
            obtain ⟨f1, hf1⟩ : ∃ f1, f + 1 = f1 := ⟨_, rfl⟩
            rw [hf1] at HFIN HLT w4' hle1 hle2 hle3
            clear HQ1 HQ2 HQ3 HQ4 hfew ha0 HF hf hcc hcm hf1 G5
            go_wp2
            go_roundw
            case rel => exact ⟨k + 1, ss.take f1, by omega, HLT.out, by go_num, HFIN⟩
            case measure => simp [intOf]; omega
    · obtain ⟨O, hw, G⟩ := HI4.out
      have HF : Hid (startsG [] 0 t = some ss) := by
        rw [List.drop_eq_nil_of_le (by omega)] at hw
        exact hw
      clear hw HI4
      go_wp2
      go_ret2
      refine ⟨u6, ?_, ?_, G⟩
      · rw [HF.out]; rfl
      · rw [HF.out]; exact O

end Go.Proofs.Ytdajpnlpcdnckaa
