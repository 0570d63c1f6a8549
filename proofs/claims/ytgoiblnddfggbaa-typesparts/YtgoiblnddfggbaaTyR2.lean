/-
  Package types as landed: Parts, its walk.
-/
import Derived.Test.YtgoiblnddfggbaaLotP24
namespace Go.Proofs.Ytgoiblnddfggbaa
open Go.RowKit
set_option maxRecDepth 100000

theorem info_nodes : (Try.prog.info? 22).map (fun i => (i.zero, i.size, i.bytes)) = some (some (.slice none 0 0), 1, 24) := by kernel_rfl
theorem partsG_some {t : List Ng} {x : Ng} {a : Nat} {ss : List Nat} (h1 : t.getLast? = some x) (h2 : arG x.kind = some a) (h3 : startsG [] 0 (t.take (t.length - 1)) = some ss) (h4 : ss.length = a) : partsG t = some (piecesG t ss (t.length - 1)) := by
  rw [partsG, h1]
  simp only
  rw [h2]
  simp only
  rw [h3]
  simp only
  rw [if_pos h4]
theorem partsG_n1 {t : List Ng} {x : Ng} (h1 : t.getLast? = some x) (h2 : arG x.kind = none) : partsG t = none := by
  rw [partsG, h1]
  simp only
  rw [h2]
theorem partsG_n2 {t : List Ng} {x : Ng} {a : Nat} (h1 : t.getLast? = some x) (h2 : arG x.kind = some a) (h3 : startsG [] 0 (t.take (t.length - 1)) = none) : partsG t = none := by
  rw [partsG, h1]
  simp only
  rw [h2]
  simp only
  rw [h3]
theorem partsG_n3 {t : List Ng} {x : Ng} {a : Nat} {ss : List Nat} (h1 : t.getLast? = some x) (h2 : arG x.kind = some a) (h3 : startsG [] 0 (t.take (t.length - 1)) = some ss) (h4 : ¬ ss.length = a) : partsG t = none := by
  rw [partsG, h1]
  simp only
  rw [h2]
  simp only
  rw [h3]
  simp only
  rw [if_neg h4]
theorem getD_app_lt {α : Type} (xs ys : List α) (d : α) (i : Nat) (h : i < xs.length) : (xs ++ ys).getD i d = xs.getD i d := by
  rw [List.getD_eq_getElem?_getD, List.getD_eq_getElem?_getD, List.getElem?_append_left h]

theorem own_kept' {w w' : World} {base e size n base' e' size' n' : Nat} {v v' : Value} {vs vs' : List Value} (h : w.ownsRow base e size v n vs) (O : w.ownsRow base' e' size' v' n' vs') (he : e ≠ e') (K : w.grownBy w' v'.ownBlock) : w'.ownsRow base e size v n vs := by
  refine h.kept K ?_
  by_cases hv : v.ownBlock = none
  · exact .inl hv
  · right
    intro e
    obtain ⟨x, hx⟩ := Option.ne_none_iff_exists'.1 hv
    exact own_other h O he hx (e ▸ hx)
/-- What stands while the parts are laid down: the row, as far as it has come. -/
structure PL (w wr : World) (g8 c8 g9 c9 G n : Nat) (ss : List Nat) (last : Nat) (pss : List (List Ng)) (us : List Value) : Prop where
  grown : w.grownBy wr none
  starts : TsOwns wr w.heap.size (.slice (some ⟨g8, 0, none⟩) ss.length c8) ss
  ends : wr.ownsRow w.heap.size 3 1 (.slice (some ⟨g9, 0, none⟩) (ss.length + 1) c9) (ss.length + 1) ((ss ++ [last]).map sv)
  row : wr.ownsRow w.heap.size 22 1 (.slice (some ⟨G, 0, none⟩) n n) n (us ++ List.replicate (n - us.length) nilV)
  each : ∀ j, j < us.length → NgOwns wr w.heap.size (us.getD j nilV) (pss.getD j [])
  apart : ∀ i j, i < j → j < us.length → ∀ x, (us.getD i nilV).ownBlock = some x → (us.getD j nilV).ownBlock ≠ some x
section
variable {w wr wr' : World} {g8 c8 g9 c9 G n : Nat} {ss : List Nat} {last : Nat} {pss : List (List Ng)} {us : List Value}
theorem PL.keep (h : PL w wr g8 c8 g9 c9 G n ss last pss us) (K : wr.grownBy wr' none) : PL w wr' g8 c8 g9 c9 G n ss last pss us :=
  { h with grown := grown_trans h.grown K, starts := owns_keptNone h.starts K, ends := owns_keptNone h.ends K, row := owns_keptNone h.row K, each := fun j hj => owns_keptNone (h.each j hj) K }
theorem grown_setN (W : World) (g j : Nat) (v : Value) : W.grownBy (W.setCell ⟨g, j, none⟩ v) (some g) := grown_setCell (World.grownBy.refl W (some g)) _ _ (.inl rfl)
/-- A part is laid down. -/
theorem PL.lay (h : PL w wr g8 c8 g9 c9 G n ss last pss us) {v : Value} (hv : NgOwns wr w.heap.size v (pss.getD us.length [])) (hap : ∀ j, j < us.length → ∀ x, (us.getD j nilV).ownBlock = some x → v.ownBlock ≠ some x) (hn : us.length < n) :
    PL w (wr.setCell ⟨G, us.length, none⟩ v) g8 c8 g9 c9 G n ss last pss (us ++ [v]) := by
  have K := grown_setN wr G us.length v
  have hG : w.heap.size ≤ G := (h.row.lt G rfl).1
  have ns := own_other h.row h.starts (by decide) (x := G) rfl
  have ne := own_other h.row h.ends (by decide) (x := G) rfl
  have hnode : ∀ {u : Value} {xs : List Ng}, NgOwns wr w.heap.size u xs → NgOwns (wr.setCell ⟨G, us.length, none⟩ v) w.heap.size u xs := fun O => own_kept O K (own_other h.row O (by decide) (x := G) rfl)
  refine ⟨grown_trans_new h.grown K (fun x hx => by cases hx; exact hG), own_kept h.starts K ns, own_kept h.ends K ne, ?_, ?_, ?_⟩
  · have := (h.row.stored us.length v).1
    rw [List.set_append_right _ _ (Nat.le_refl _), Nat.sub_self, show n - us.length = (n - (us.length + 1)) + 1 by omega, List.replicate_succ, List.set_cons_zero] at this
    rw [List.length_append, List.length_singleton, List.append_assoc]
    exact this
  · intro j hj
    rw [List.length_append, List.length_singleton] at hj
    by_cases e : j < us.length
    · rw [getD_app_lt _ _ _ _ e]
      exact hnode (h.each j e)
    · obtain rfl : j = us.length := by omega
      rw [List.getD_eq_getElem?_getD, List.getElem?_append_right (Nat.le_refl _), Nat.sub_self]
      exact hnode hv
  · intro i j hij hj x hx
    rw [List.length_append, List.length_singleton] at hj
    rw [getD_app_lt _ _ _ _ (by omega)] at hx
    by_cases e : j < us.length
    · rw [getD_app_lt _ _ _ _ e]
      exact h.apart i j hij e x hx
    · obtain rfl : j = us.length := by omega
      rw [List.getD_eq_getElem?_getD, List.getElem?_append_right (Nat.le_refl _), Nat.sub_self]
      exact hap i hij x hx
end

set_option maxHeartbeats 8000000 in
theorem parts_any (ao : Option Addr) (cap : Nat) (t : List Ng) (w : World) (C : CV w ao (flatG t)) (hcap : t.length ≤ cap) (hcm : cap ≤ maxLen) (hm : t.length * 72 ≤ 140737488355328) :
    Calls Try.prog 16 #[.slice ao t.length cap] w fun e w' => ∃ v, partsR (partsG t) v e ∧ partsW (partsG t) w' w.heap.size v ∧ w.grownBy w' none := by
  have HC : Hid (CV w ao (flatG t)) := C
  have hcm2 : cap ≤ 9223372036854775807 := by unfold maxLen at hcm; omega
  clear C hcm
  cases hgl : t.getLast? with
  | none =>
    have ht : t = [] := List.getLast?_eq_none_iff.1 hgl
    subst ht
    rw [show partsG [] = none from rfl]
    clear HC
    go_enter Try.func16, Try.ntmps16
    go_wp2
    go_ret2
    exact ⟨nilV, rfl, trivial, World.grownBy.refl _ _⟩
  | some x =>
    have hne : t ≠ [] := by intro e; rw [e] at hgl; cases hgl
    have hl0 : 0 < t.length := List.length_pos_iff.2 hne
    obtain ⟨L, hL⟩ : ∃ L, t.length = L + 1 := ⟨t.length - 1, by omega⟩
    have hLt : L < t.length := by omega
    have hx : t[L] = x := by
      rw [List.getLast?_eq_getElem?, show t.length - 1 = L by omega, List.getElem?_eq_getElem hLt] at hgl
      exact Option.some.inj hgl
    have hL1 : t.length - 1 = L := by omega
    have HGL : Hid (t.getLast? = some x) := hgl
    have HL1 : Hid (t.length - 1 = L) := hL1
    have HBL : Hid ((t.take L).length = L) := by show List.length _ = _; rw [List.length_take]; omega
    have e0 : ((t.length : Int) == 0) = false := by rw [beq_eq_false_iff_ne]; omega
    have w1' : IntKind.i64.wrap ((t.length : Int) - 1) = (L : Int) := by rw [IntKind.wrap_i64]; omega
    obtain ⟨E, hE⟩ : ∃ E, partsG t = E := ⟨_, rfl⟩
    rw [hE]
    have HE : Hid (partsG t = E) := hE
    obtain ⟨b, o, rfl, -⟩ := HC.out.ngs hLt
    have HK : Hid (x = t[L]) := hx.symm
    have hl : (L : Int) < (t.length : Int) := by omega
    have z0 : (0 : Int) ≤ (L : Int) := by omega
    have hlc : (L : Int) ≤ (cap : Int) := by omega
    have hlc2 : ¬ cap < L := by omega
    clear hE hgl hne hl0 hL1 hx hL
    go_enter Try.func16, Try.ntmps16
    go_wp2_with fail
    refine (rules_any _).mono ?_
    rintro e w1 ⟨R, rfl, T, K1⟩
    have HT : Hid (TabT R w1) := T
    have HG1 : Hid (w.grownBy w1 none) := K1
    have c0 : w1.cell? ⟨b, o + L * 24, none⟩ = some (.int .i64 x.kind) := by
      obtain ⟨b', o', e', hc⟩ := (HC.out.keptNone K1).ngs hLt
      simp only [Option.some.injEq, Addr.mk.injEq] at e'
      obtain ⟨rfl, rfl, -⟩ := e'
      have := hc L hLt 0 (.int .i64 t[L].kind) rfl
      rw [Nat.add_zero] at this
      rw [HK.out]
      exact this
    clear T K1 HK
    cases ha : arG x.kind with
    | none =>
      have CR := ruleOf_no R x.kind ha w1
      have HF : Hid (E = none) := by show E = _; rw [← HE.out]; exact partsG_n1 HGL.out ha
      have HCB := HC.out
      generalize x.kind = xk at *
      clear ha
      go_wp2_with fail
      refine CR.mono ?_
      rintro e w4 ⟨rfl, K4⟩
      have K5 := World.grownBy_alloc w4 (.cells rule0.toArray 65) none
      clear CR
      go_upto_region 6 with (refine wpList_store_row rfl 65 (.tmp 6) (.tmp 29) rfl w4.heap.size rule0.toArray rfl rfl 65 _ (heap_alloc_new w4 _) size_rule rfl rule0_all ?_)
      rw [World.setRow_alloc_new]
      have G5 := grown_trans (grown_trans HG1.out K4) K5
      have T5 := HT.out.kept (grown_trans K4 K5)
      generalize w4.alloc (.cells rule0.toArray 65) = w5 at *
      generalize w4.heap.size = P at *
      have CS := starts_any (some ⟨b, o, none⟩) cap (t.take L) R w5 T5 (cv_takeG (HCB.keptNone G5) L) (by rw [HBL.out]; omega)
      rw [HBL.out] at CS
      clear K4 K5 T5 HCB c0
      go_wp2_with fail
      refine CS.mono ?_
      rintro e w6 ⟨v6, hR6, -, K6⟩
      have G6 := grown_trans G5 K6
      clear CS K6 G5
      cases hss : startsG [] 0 (t.take L) with
      | none =>
        rw [hss] at hR6
        simp only [startR] at hR6
        subst hR6
        go_wp2
        go_ret2
        exact ⟨nilV, by rw [HF.out]; rfl, by rw [HF.out]; trivial, G6⟩
      | some ss =>
        rw [hss] at hR6
        simp only [startR] at hR6
        subst hR6
        go_wp2
        go_ret2
        exact ⟨nilV, by rw [HF.out]; rfl, by rw [HF.out]; trivial, G6⟩
    | some a =>
      have hin := arG_in ha
      obtain ⟨kn, hkn⟩ : ∃ kn : Nat, x.kind = kn := Int.eq_ofNat_of_zero_le (by omega)
      have h1 : 1 ≤ kn := by omega
      have h2 : kn ≤ 16 := by omega
      have CR := ruleOf_ok R kn h1 h2 w1 HT.out
      obtain ⟨tao, tcap, htk, -⟩ := takes_cv HT.out (hkn ▸ ha)
      have HRL : Hid ((Try.prog.info? 65).map (·.size) = some (ruleC R kn).toArray.size ∧ 7 = (ruleC R kn).toArray.size ∧ (ruleC R kn).toArray.all (·.oneCell') = true ∧ (ruleC R kn).toArray[0]? = some (.slice tao a tcap)) := ⟨size_rule, rfl, ruleC_all HT.out h1 h2, by rw [← htk]; rfl⟩
      have HHA : Hid (arG x.kind = some a) := ha
      have hale := arG_le ha
      rw [hkn] at c0
      obtain ⟨rs, hrs⟩ : ∃ rs, (ruleC R kn).toArray = rs := ⟨_, rfl⟩
      rw [hrs] at CR HRL
      have HCB := HC.out
      clear hrs hkn hin h1 h2 ha htk
      go_wp2_with fail
      refine CR.mono ?_
      rintro e w4 ⟨rfl, K4⟩
      have K5 := World.grownBy_alloc w4 (.cells rs 65) none
      have V5 := VAt.alloc w4 65 rs
      clear CR
      go_upto_region 6 with (refine wpList_store_row rfl 65 (.tmp 6) (.tmp 29) rfl w4.heap.size rs rfl rfl 65 _ (heap_alloc_new w4 _) HRL.out.1 HRL.out.2.1 HRL.out.2.2.1 ?_)
      rw [World.setRow_alloc_new]
      have G5 := grown_trans (grown_trans HG1.out K4) K5
      have T5 := HT.out.kept (grown_trans K4 K5)
      generalize w4.alloc (.cells rs 65) = w5 at *
      generalize w4.heap.size = P at *
      have CS := starts_any (some ⟨b, o, none⟩) cap (t.take L) R w5 T5 (cv_takeG (HCB.keptNone G5) L) (by rw [HBL.out]; omega)
      rw [HBL.out] at CS
      clear K4 K5 T5 HCB c0
      go_wp2_with fail
      refine CS.mono ?_
      rintro e w6 ⟨v6, hR6, O6, K6⟩
      have G6 := grown_trans G5 K6
      have O6' := owns_mono O6 G5.size
      have d0 : w6.cell? ⟨P, 0, none⟩ = some (.slice tao a tcap) := by rw [(V5.kept K6).cell 0]; exact HRL.out.2.2.2
      clear CS K6 G5 V5 HRL O6
      cases hss : startsG [] 0 (t.take L) with
      | none =>
        rw [hss] at hR6
        simp only [startR] at hR6
        subst hR6
        have HF : Hid (E = none) := by show E = _; rw [← HE.out]; exact partsG_n2 HGL.out HHA.out (by rw [HL1.out]; exact hss)
        clear hss O6'
        go_wp2
        go_ret2
        exact ⟨nilV, by rw [HF.out]; rfl, by rw [HF.out]; trivial, G6⟩
      | some ss =>
        rw [hss] at hR6 O6'
        simp only [startR] at hR6
        subst hR6
        have hOS : TsOwns w6 w.heap.size v6 ss := O6'
        obtain ⟨a6, c6, rfl, -, hb1, hb2, -, -, -⟩ := cv_of_row hOS
        have HOS : Hid (TsOwns w6 w.heap.size (.slice a6 ss.length c6) ss) := hOS
        clear O6' hOS
        by_cases hsa : ss.length = a
        · have HF : Hid (E = some (piecesG t ss L)) := by show E = _; rw [← HE.out, partsG_some HGL.out HHA.out (by rw [HL1.out]; exact hss) hsa, HL1.out]
          have e7 : ((ss.length : Int) != (a : Int)) = false := by rw [hsa]; simp
          have HIN := starts_incr (t.take L) [] ss 0 hss List.Pairwise.nil (fun s hs => by cases hs)
          rw [HBL.out, Nat.zero_add] at HIN
          have HHI : Hid _ := HIN
          have hsl : ss.length ≤ 2 := by omega
          obtain ⟨i0, hi0, hz0, hz1, hz2⟩ := info_parts info_nodes
          obtain ⟨j0, hj0, hy0, hy1, hy2⟩ := info_parts info_int
          have HJ : Hid (Try.prog.info? 3 = some j0 ∧ j0.zero = some (.int .i64 0) ∧ j0.size = 1 ∧ j0.bytes = 8) := ⟨hj0, hy0, hy1, hy2⟩
          have hLI := lit_one_int (L : Int)
          have HG6 : Hid (w.grownBy w6 none) := G6
          have hc6 : c6 ≤ 9223372036854775807 := by unfold maxLen at hb2; omega
          clear hss HIN hj0 hy0 hy1 hy2 G6 hb2
          obtain ⟨n, hn⟩ : ∃ n, ss.length = n := ⟨_, rfl⟩
          have HN : Hid (ss.length = n) := hn
          rw [hn] at HOS hb1 hsl e7 ⊢
          clear hsa hn
          have HQ1 : Hid (i0.bytes * n ≤ 140737488355328) := by show i0.bytes * n ≤ _; rw [hz2]; omega
          go_upto_region 10 with (at_make; refine wpList_make_full _ rfl (.tmp 54) (.tmp 54) 34 rfl w6.heap.size 22 i0 (.slice none 0 0) 1 Try.underlying34 hi0 hz0 hz1 .i64 .i64 (n : Int) (n : Int) n rfl rfl rfl rfl ?q1 ?q2 ?q3 ?q4)
          case q1 => first | exact HQ1.out | (rw [hz2]; omega)
          case q2 => unfold maxLen; omega
          case q3 => exact Nat.le_refl _
          case q4 =>
          intro w7 h7 K7
          have R7 : w7.ownsRow w.heap.size 22 1 (.slice (some ⟨w6.heap.size, 0, none⟩) n n) n (List.replicate n nilV) := by
            rw [toList_madeCells_one] at h7
            exact owns_mono h7 HG6.out.size
          obtain ⟨G, hG⟩ : ∃ G, w6.heap.size = G := ⟨_, rfl⟩
          rw [hG] at R7 ⊢
          have HR7 : Hid (w7.ownsRow w.heap.size 22 1 (.slice (some ⟨G, 0, none⟩) n n) n (List.replicate n nilV)) := R7
          have HO7 : Hid (w7.ownsRow w.heap.size 3 1 (.slice a6 n c6) n (ss.map sv)) := by
            have := owns_keptNone HOS.out K7
            rw [HN.out] at this
            exact this
          have HG7 : Hid (w.grownBy w7 none) := grown_trans HG6.out K7
          have HLE : Hid (n + 1 ≤ maxLen ∧ (n + 1) * 8 ≤ 140737488355328) := by refine ⟨?_, ?_⟩ <;> (try unfold maxLen) <;> omega
          clear h7 K7 R7 hG HOS HG6 HQ1 hi0 hz0 hz1 hz2
          go_upto_region 10 with fail
          go_upto_region 11 with (first | (refine wpList_lit (by rfl) 59 1 _ rfl _ (by kernel_rfl) [.int .i64 (L : Int)] 3 hLI ?_; intro V wl CL KL) | (at_builtin; refine wpList_append_keep rfl (.tmp 56) (.tmp 58) 59 rfl 3 j0 _ 1 8 Try.underlying59 HJ.out.1 HJ.out.2.1 HJ.out.2.2.1 HJ.out.2.2.2 rfl (by decide) w.heap.size _ n (ss.map sv) rfl (owns_keptNone HO7.out KL) ⟨V, 0, none⟩ 1 1 [.int .i64 (L : Int)] rfl rfl CL (sv_one [L]) HLE.out.1 HLE.out.2 (Nat.le_trans HG7.out.size KL.size) ?_; intro v9 w9 O9 O8 K9; have HG9 : Hid (w.grownBy w9 none) := grown_trans_new (grown_trans HG7.out KL) K9 (fun x hx => (HO7.out.lt x hx).1); have HR9 : Hid (w9.ownsRow w.heap.size 22 1 (.slice (some ⟨G, 0, none⟩) n n) n (List.replicate n nilV)) := own_kept' (owns_keptNone HR7.out KL) (owns_keptNone HO7.out KL) (by decide) K9; obtain ⟨g9, c9, hv9, hc9, hcm9, -, -⟩ := owns_head O9 (by omega); subst hv9; have HO9 : Hid (w9.ownsRow w.heap.size 3 1 (.slice (some ⟨g9, 0, none⟩) (n + 1) c9) (n + 1) (ss.map sv ++ [.int .i64 (L : Int)])) := O9; have HO8 : Hid (w9.ownsRow w.heap.size 3 1 (.slice a6 n c6) n (ss.map sv)) := O8; have hc9' : ¬ (c9 : Int) < 1 := (by omega); have hc9'' : c9 ≤ 9223372036854775807 := (by unfold maxLen at hcm9; omega); clear O9 O8 K9 CL KL hcm9))
          clear d0 HT HG1 HR7 HO7 HG7 hLI HLE HJ e7
          by_cases hn0 : n = 0
          · subst hn0
            have HS0 : Hid (ss = []) := List.eq_nil_of_length_eq_zero HN.out
            generalize (if c9 = 1 then some (⟨g9, 0, none⟩ : Addr) else some ⟨g9, 1, none⟩) = ea at *
            go_wp2
            go_loopw [63] (fun i wr => i = .int .i64 0 ∧ wr = w9) (fun _ _ => 0)
            case atStart => exact ⟨rfl, rfl⟩
            case round =>
              obtain ⟨rfl, rfl⟩ := hrel
              go_wp2
              go_ret2
              refine ⟨_, by rw [HF.out]; rfl, ?_, HG9.out⟩
              rw [HF.out, HS0.out]
              exact ⟨[], HR9.out, rfl, fun i hi => absurd hi (Nat.not_lt_zero i), fun i j _ hj => absurd hj (Nat.not_lt_zero j)⟩
          · obtain ⟨g8, c8, hv8, hc8, hcm8, -, -⟩ := owns_head HO8.out (by omega)
            simp only [Value.slice.injEq] at hv8
            obtain ⟨rfl, -, rfl⟩ := hv8
            have hc91 : ¬ c9 = 1 := by omega
            have HPL : Hid (PL w w9 g8 c6 g9 c9 G n ss L (piecesG t ss L) []) := by
              have h8 := HO8.out
              have h9 := HO9.out
              rw [← HN.out] at h8 h9
              refine ⟨HG9.out, h8, ?_, ?_, fun j hj => absurd hj (Nat.not_lt_zero j), fun i j _ hj => absurd hj (Nat.not_lt_zero j)⟩
              · rw [List.map_append]; exact h9
              · rw [List.nil_append, List.length_nil, Nat.sub_zero]; exact HR9.out
            have HPN : Hid ((piecesG t ss L).length = n) := by show List.length _ = _; rw [pieces_len, HN.out]
            clear HO8 HO9 HR9 HG9 hcm8
            go_wp2
            go_loopw [63] (fun i wr => ∃ (j : Nat) (us : List Value), j ≤ n ∧ us.length = j ∧ i = .int .i64 j ∧ Hid (PL w wr g8 c6 g9 c9 G n ss L (piecesG t ss L) us)) (fun i _ => n - (intOf i).toNat)
            case atStart => exact ⟨0, [], Nat.zero_le _, rfl, rfl, HPL⟩
            case round =>
              obtain ⟨j, us, hj, hus, rfl, HP⟩ := hrel
              by_cases hlt : j < n
              · have hjs : j < ss.length := by rw [HN.out]; exact hlt
                obtain ⟨en, he1, he2, hlt1, hle1⟩ := ends_get hjs HHI.out.1 HHI.out.2
                have P0 := HP.out
                have c1 : wr.cell? ⟨g8, j, none⟩ = some (.int .i64 (ss[j] : Int)) := by
                  rw [P0.starts.cellAt j (by omega), List.getElem?_map, List.getElem?_eq_getElem hjs]
                  rfl
                have c2 : wr.cell? ⟨g9, 1 + j, none⟩ = some (.int .i64 (en : Int)) := by
                  rw [P0.ends.cellAt (1 + j) (by rw [HN.out]; omega), List.getElem?_map, Nat.add_comm, he1]
                  rfl
                have HLP : Hid (((t.take en).drop ss[j]).length = en - ss[j]) := by show List.length _ = _; rw [List.length_drop, List.length_take, Nat.min_eq_left (by omega)]
                have CC := clone_any ⟨b, o + ss[j] * 24, none⟩ (cap - ss[j]) ((t.take en).drop ss[j]) wr (cv_dropG (cv_takeG (HC.out.keptNone P0.grown) en) ss[j] (by rw [List.length_take]; omega)) (by rw [HLP.out]; omega)
                rw [HLP.out] at CC
                have HPG : Hid ((piecesG t ss L).getD j [] = (t.take en).drop ss[j]) := pieces_get hjs he2
                generalize hsj : ss[j] = sj at *
                have hl3 : (j : Int) < (n : Int) := by omega
                have z3 : (0 : Int) ≤ (j : Int) := by omega
                have q1 : (sj : Int) ≤ (en : Int) := by omega
                have q2 : (en : Int) ≤ (cap : Int) := by omega
                have q3 : ¬ cap = sj := by omega
                have q4 : (0 : Int) ≤ (sj : Int) := by omega
                have q5 : ¬ en < sj := by omega
                have q6 : ¬ cap < en := by omega
                have w3 : IntKind.i64.wrap ((j : Int) + 1) = (j : Int) + 1 := by rw [IntKind.wrap_i64]; omega
                clear he1 he2 hjs hsj P0
                go_wp2_with fail
                refine CC.mono ?_
                rintro e' wv ⟨v, rfl, Ov, Kv⟩
                have P1 := HP.out.keep Kv
                obtain ⟨av, kv, rfl, -⟩ := cv_of_row Ov
                have bl := (BlkN.ofRow P1.row).1
                obtain ⟨u0, hu0⟩ := bl.cell (i := j) (by omega)
                have hfr := bl.free j
                have HFIN : Hid (PL w (wv.setCell ⟨G, j, none⟩ (.slice av ((t.take en).drop sj).length kv)) g8 c6 g9 c9 G n ss L (piecesG t ss L) (us ++ [.slice av ((t.take en).drop sj).length kv])) := by
                  have := P1.lay (v := .slice av ((t.take en).drop sj).length kv) (by rw [hus, HPG.out]; exact owns_mono Ov HP.out.grown.size) (fun i hi x hx e => by
                    have h1 := (HP.out.each i hi).lt x hx
                    have h2 := (Ov.lt x e).1
                    omega) (by omega)
                  rw [hus] at this
                  exact this
                clear CC P1 bl Ov Kv HP
                generalize ((t.take en).drop sj).length = pl at *
                go_wp2
                go_roundw
                case rel => exact ⟨j + 1, _, by omega, by rw [List.length_append, List.length_singleton, hus], by go_num, HFIN⟩
                case measure => simp [intOf]; omega
              · obtain rfl : j = n := by omega
                have P0 := HP.out
                have hjj : ¬ (j : Int) < (j : Int) := by omega
                have HFIN : Hid (∃ vs, NLv wr w.heap.size (.slice (some ⟨G, 0, none⟩) j j) vs (piecesG t ss L)) := by
                  refine ⟨us, ?_, by rw [HPN.out]; exact hus, fun i hi => ?_, fun i k hik hk => ?_⟩
                  · have := P0.row
                    rw [hus, Nat.sub_self, List.replicate_zero, List.append_nil] at this
                    rw [HPN.out]
                    exact this
                  · rw [HPN.out] at hi
                    exact P0.each i (by omega)
                  · rw [HPN.out] at hk
                    exact P0.apart i k hik (by omega)
                have G0 := P0.grown
                clear P0 HP
                go_wp2
                go_ret2
                exact ⟨_, by rw [HF.out]; rfl, by rw [HF.out]; exact HFIN.out, G0⟩
        · have HF : Hid (E = none) := by show E = _; rw [← HE.out]; exact partsG_n3 HGL.out HHA.out (by rw [HL1.out]; exact hss) hsa
          have e7 : ((ss.length : Int) != (a : Int)) = true := by rw [bne_iff_ne]; omega
          clear hss HOS
          go_wp2
          go_ret2
          exact ⟨nilV, by rw [HF.out]; rfl, by rw [HF.out]; trivial, G6⟩

end Go.Proofs.Ytgoiblnddfggbaa
