/-
  The document's own chapter 12: Parts. The document's own chapter 12: an address of four bytes. Chapter 12 in words: a node without what its kind uses. No Go text here. The document's own chapter 12: a node without what its kind uses; its form.
-/
import Derived.Test.YtgoiblnddfggbaaTyBg
import Derived.Test.YtgoiblnddfggbaaTyR2
import Derived.Test.YtgoiblnddfggbaaLotP18
import Derived.Test.YtgoiblnddfggbaaLotP10
import Derived.Test.YtgoiblnddfggbaaTyH
import Derived.Test.YtgoiblnddfggbaaLotP24
namespace Go.Proofs.Ytgoiblnddfggbaa
open Go.RowKit
set_option maxRecDepth 100000

/-- A literal slice of values of one cell each: a row of its own. -/
theorem wpList_mk {P : Program} {ops : Array Oper} {rest : List Oper} {op : Oper} {a : Act} {w : World} {Q : Exit → Act → World → Prop} (hw : Region.wanted op (yielded ops a.tmps) = true)
    (t : TypeId) (n : Nat) (ps : Array (Nat × Operand)) (ho : op.op = .buildSlice t n ps) (qs : Array (Nat × Value)) (hq : ps.map (fun (i, x) => (i, a.eval x)) = qs) (cs : List Value) (e : TypeId)
    (hr : ∀ W : World, (Instr.buildSlice t n qs).run P W = .ok (.slice (some ⟨W.heap.size, 0, none⟩) n n) (W.alloc (.cells cs.toArray e))) (hn : cs.length = n) (hm : n ≤ maxLen)
    (h : ∀ V w', V = w.heap.size → w'.ownsRow w.heap.size e 1 (.slice (some ⟨V, 0, none⟩) n n) n cs → w.grownBy w' none → wpList P ops Q rest (a.put op.dst (.slice (some ⟨V, 0, none⟩) n n)) w') : wpList P ops Q (op :: rest) a w :=
  BigFrame.wpList_want hw fun _ hK => by
    unfold Oper.wp execOp
    have hr' := hr w
    rw [← hq] at hr'
    simp only [ho, Sem.run_bind, Sem.run_pure, Result.andThen_ok, hr']
    refine hK _ _ (h _ _ rfl ⟨by simpa using hn, .inr ⟨w.heap.size, n, cs.toArray, rfl, Nat.le_refl _, heap_alloc_new w _, Nat.le_refl _, hm, by simpa using hn, ?_⟩⟩ (World.grownBy_alloc _ _ _))
    simp only [Nat.mul_one]
    exact List.take_of_length_le (by omega)

theorem lit_p1 (a : Option Addr) (l c : Nat) (W : World) : (Instr.buildSlice 34 1 #[(0, .slice a l c)]).run Try.prog W = .ok (.slice (some ⟨W.heap.size, 0, none⟩) 1 1) (W.alloc (.cells [.slice a l c].toArray 22)) := by kernel_rfl
theorem lit_p2 (a a' : Option Addr) (l c l' c' : Nat) (W : World) : (Instr.buildSlice 34 2 #[(0, .slice a l c), (1, .slice a' l' c')]).run Try.prog W = .ok (.slice (some ⟨W.heap.size, 0, none⟩) 2 2) (W.alloc (.cells [.slice a l c, .slice a' l' c'].toArray 22)) := by kernel_rfl

theorem nl_none (w : World) (base : Nat) : NLv w base nilV [] [] := ⟨World.ownsRow_nil _ _ _ _, rfl, fun i hi => absurd hi (Nat.not_lt_zero i), fun _ j _ hj => absurd hj (Nat.not_lt_zero j)⟩
theorem nl_one {w : World} {base : Nat} {v u : Value} {q : List Ng} (h1 : w.ownsRow base 22 1 v 1 [u]) (h2 : NgOwns w base u q) : NLv w base v [u] [q] := by
  refine ⟨h1, rfl, fun i hi => ?_, fun i j hij hj => ?_⟩
  · obtain rfl : i = 0 := by simpa using hi
    exact h2
  · have : j < 1 := hj
    omega
theorem nl_two {w : World} {base : Nat} {v u1 u2 : Value} {q1 q2 : List Ng} (h1 : w.ownsRow base 22 1 v 2 [u1, u2]) (h2 : NgOwns w base u1 q1) (h3 : NgOwns w base u2 q2) (h4 : ∀ x, u1.ownBlock = some x → u2.ownBlock ≠ some x) : NLv w base v [u1, u2] [q1, q2] := by
  refine ⟨h1, rfl, fun i hi => ?_, fun i j hij hj => ?_⟩
  · have : i = 0 ∨ i = 1 := by have : i < 2 := hi; omega
    rcases this with rfl | rfl
    · exact h2
    · exact h3
  · have h' : j < 2 := hj
    obtain rfl : i = 0 := by omega
    obtain rfl : j = 1 := by omega
    exact h4

set_option maxHeartbeats 8000000 in
theorem refparts_any (ao : Option Addr) (cap : Nat) (t : List Ng) (w : World) (C : CV w ao (flatG t)) (hcap : t.length ≤ cap) (hcm : cap ≤ maxLen) (hm : t.length * 72 ≤ 140737488355328) :
    Calls Try.prog 15 #[.slice ao t.length cap] w fun e w' => ∃ v, partsR (partsG t) v e ∧ partsW (partsG t) w' w.heap.size v ∧ w.grownBy w' none := by
  have HC : Hid (CV w ao (flatG t)) := C
  have hcm2 : cap ≤ 9223372036854775807 := by unfold maxLen at hcm; omega
  have CT := reftree_any ao cap t w C (by omega)
  by_cases hp : leftG 0 t = some 1
  · rw [decide_eq_true hp] at CT
    obtain ⟨pss, hps⟩ := parts_left.1 hp
    obtain ⟨x, a, ht, ha, hpl, -⟩ := parts_lists hps
    have HTR : Hid (∀ q ∈ pss, leftG 0 q = some 1) := parts_trees hps
    rw [hps]
    obtain ⟨L, hL⟩ : ∃ L, pss.flatten.length = L := ⟨_, rfl⟩
    have hlen : t.length = L + 1 := by rw [ht, List.length_append, hL]; rfl
    have hLt : L < t.length := by omega
    have hxL : t[L] = x := by
      simp only [ht]
      rw [List.getElem_append_right (by omega)]
      simp
    obtain ⟨b, o, rfl, hcs⟩ := C.ngs hLt
    have c0 := hcs L hLt 0 (.int .i64 t[L].kind) rfl
    rw [Nat.add_zero, hxL] at c0
    have HT : Hid (t = pss.flatten ++ [x]) := ht
    have HL : Hid (pss.flatten.length = L ∧ t.length = L + 1) := ⟨hL, hlen⟩
    have CA := arity12_any x.kind
    have hai : arI x.kind = (a : Int) := by unfold arI; rw [ha]
    rw [hai] at CA
    obtain ⟨kd, hkd⟩ : ∃ kd, x.kind = kd := ⟨_, rfl⟩
    rw [hkd] at CA c0
    have hl : (L : Int) < (t.length : Int) := by omega
    have z0 : (0 : Int) ≤ (L : Int) := by omega
    have w1' : IntKind.i64.wrap ((t.length : Int) - 1) = (L : Int) := by rw [IntKind.wrap_i64]; omega
    have hlc : (L : Int) ≤ (cap : Int) := by omega
    have hlc2 : ¬ cap < L := by omega
    have ha2 := arG_le ha
    clear hps ht hL hlen hLt hxL hcs ha hai hkd hp C
    have hcase : (∃ (p q : List Ng), pss.flatten = p ++ q ∧ leftG 0 q = some 1 ∧ ((a = 1 ∧ p = [] ∧ pss = [q]) ∨ (a = 2 ∧ pss = [p, q]))) ∨ (a = 0 ∧ pss = []) := by
      match hq : pss, hpl with
      | [], hpl => exact .inr ⟨hpl.symm, rfl⟩
      | [q], hpl => exact .inl ⟨[], q, by simp, HTR.out q (by simp), .inl ⟨hpl.symm, rfl, rfl⟩⟩
      | [p, q], hpl => exact .inl ⟨p, q, by simp, HTR.out q (by simp), .inr ⟨hpl.symm, rfl⟩⟩
      | p :: q :: r :: s, hpl => simp only [List.length_cons] at hpl; omega
    rcases hcase with ⟨p, q, hfl, hq, hk⟩ | ⟨rfl, rfl⟩
    · have HK : Hid ((a = 1 ∧ p = [] ∧ pss = [q]) ∨ (a = 2 ∧ pss = [p, q])) := hk
      have hLpq : L = p.length + q.length := by rw [← HL.out.1, hfl, List.length_append]
      have hq0 : 0 < q.length := by
        cases q with
        | nil => cases hq
        | cons y r => exact Nat.succ_pos _
      obtain ⟨J, hJ⟩ : ∃ J, L = J + 1 := ⟨L - 1, by omega⟩
      have w2' : IntKind.i64.wrap ((t.length : Int) - 2) = (J : Int) := by have := HL.out.2; rw [IntKind.wrap_i64]; omega
      have CB := refbegin_any (some ⟨b, o, none⟩) cap t p q [x] w HC.out (by rw [HT.out, hfl]) hq J (by omega) (by omega)
      have HQ : Hid ((t.take L).drop p.length = q) := by
        show List.drop _ _ = _
        rw [HT.out, List.take_left' HL.out.1, hfl, List.drop_left]
      have HP : Hid (t.take p.length = p) := by
        show List.take _ _ = _
        rw [HT.out, hfl, List.append_assoc, List.take_left]
      have HQL : Hid (q.length = L - p.length) := by show q.length = _; omega
      obtain ⟨P, hP⟩ : ∃ P, p.length = P := ⟨_, rfl⟩
      rw [hP] at CB HQ HP HQL hLpq
      have HPL : Hid (p.length = P) := hP
      have q1 : (P : Int) ≤ (L : Int) := by omega
      have q3 : ¬ cap = P := by omega
      have q4 : (0 : Int) ≤ (P : Int) := by omega
      have q5 : ¬ L < P := by omega
      have q7 : (P : Int) ≤ (cap : Int) := by omega
      have q8 : ¬ cap < P := by omega
      have HB : Hid (L * 72 ≤ 140737488355328 ∧ P ≤ L ∧ L ≤ t.length) := ⟨by omega, by omega, by omega⟩
      have HCQ : Hid (∀ W, w.grownBy W none → CV W (some ⟨b, o + P * 24, none⟩) (flatG q)) := fun W GW => by
        have := cv_dropG (cv_takeG (HC.out.keptNone GW) L) P (by rw [List.length_take]; have := HB.out; omega)
        rw [HQ.out] at this
        exact this
      have HCP : Hid (∀ W, w.grownBy W none → CV W (some ⟨b, o, none⟩) (flatG p)) := fun W GW => by
        have := cv_takeG (HC.out.keptNone GW) P
        rw [HP.out] at this
        exact this
      obtain ⟨i0, hi, hz0, hz1, hz2⟩ := info_parts info46
      have HI : Hid (Try.prog.info? 46 = some i0 ∧ i0.zero = some (.agg nd0.cells.toArray) ∧ i0.size = 24 ∧ i0.bytes = 72) := ⟨hi, hz0, hz1, hz2⟩
      have HLA : Hid (0 + (L - P) ≤ maxLen ∧ (0 + (L - P)) * 72 ≤ 140737488355328 ∧ 0 + P ≤ maxLen ∧ (0 + P) * 72 ≤ 140737488355328) := by
        have := HB.out
        refine ⟨?_, ?_, ?_, ?_⟩ <;> (try unfold maxLen) <;> omega
      have HFQ : Hid ((flatG q).length = (L - P) * 24) := by show List.length _ = _; rw [flatG_len, HQL.out]
      have HFP : Hid ((flatG p).length = P * 24) := by show List.length _ = _; rw [flatG_len, HPL.out]
      clear hfl hq hk hJ hP hq0 hLpq hi hz0 hz1 hz2
      go_enter Try.func15, Try.ntmps15
      go_wp2_with fail
      refine CT.mono ?_
      rintro e w1 ⟨rfl, rfl⟩
      clear CT
      go_wp2_with fail
      refine (CA _).mono ?_
      rintro e w2 ⟨rfl, rfl⟩
      clear CA
      rcases HK.out with ⟨rfl, rfl, rfl⟩ | ⟨rfl, rfl⟩
      · go_wp2_with fail
        refine CB.mono ?_
        rintro e w3 ⟨rfl, rfl⟩
        clear CB c0
        go_upto_region 8 with (at_builtin; refine wpList_append_cv rfl (.tmp 25) (.tmp 31) 22 rfl 46 i0 _ 24 72 Try.underlying22 HI.out.1 HI.out.2.1 HI.out.2.2.1 HI.out.2.2.2 rfl (by decide) w3.heap.size _ 0 [] rfl (World.ownsRow_made w3 #[] 0 (Nat.le_refl _) (Nat.zero_le _) rfl) (some ⟨b, o + P * 24, none⟩) (L - P) (cap - P) (flatG q) rfl HFQ.out (fun e => by cases e) (HCQ.out _ (World.grownBy_alloc _ _ _)) (flatG_one q) HLA.out.1 HLA.out.2.1 (World.grownBy_alloc w3 _ none).size ?_; intro v7 w7 O7 K7)
        have G7 : w3.grownBy w7 none := grown_trans_new (World.grownBy_alloc w3 _ _) K7 (fun y hy => Nat.le_of_eq (Option.some.inj hy))
        have O7' : NgOwns w7 w3.heap.size v7 q := by
          rw [List.nil_append, Nat.zero_add, ← HQL.out] at O7
          exact O7
        obtain ⟨a7, c7, hv7, -⟩ := cv_of_row O7'
        subst hv7
        have HO7 : Hid (NgOwns w7 w3.heap.size (.slice a7 q.length c7) q) := O7'
        have HG7 : Hid (w3.grownBy w7 none) := G7
        clear O7 K7 G7 O7'
        have HL1 : Hid _ := lit_p1 a7 q.length c7
        go_wp2_with (refine wpList_mk (by rfl) 34 1 _ rfl _ (by kernel_rfl) [.slice a7 q.length c7] 22 HL1.out rfl (by unfold maxLen; omega) ?_; intro V w8 hV O8 K8; subst hV)
        go_ret2
        refine ⟨_, rfl, ⟨[.slice a7 q.length c7], nl_one (owns_mono O8 HG7.out.size) (owns_keptNone HO7.out K8)⟩, grown_trans HG7.out K8⟩
      · go_wp2_with fail
        refine CB.mono ?_
        rintro e w3 ⟨rfl, rfl⟩
        clear CB c0
        go_upto_region 8 with (at_builtin; refine wpList_append_cv rfl (.tmp 25) (.tmp 31) 22 rfl 46 i0 _ 24 72 Try.underlying22 HI.out.1 HI.out.2.1 HI.out.2.2.1 HI.out.2.2.2 rfl (by decide) w3.heap.size _ 0 [] rfl (World.ownsRow_made w3 #[] 0 (Nat.le_refl _) (Nat.zero_le _) rfl) (some ⟨b, o + P * 24, none⟩) (L - P) (cap - P) (flatG q) rfl HFQ.out (fun e => by cases e) (HCQ.out _ (World.grownBy_alloc _ _ _)) (flatG_one q) HLA.out.1 HLA.out.2.1 (World.grownBy_alloc w3 _ none).size ?_; intro v7 w7 O7 K7)
        have G7 : w3.grownBy w7 none := grown_trans_new (World.grownBy_alloc w3 _ _) K7 (fun y hy => Nat.le_of_eq (Option.some.inj hy))
        have O7' : NgOwns w7 w3.heap.size v7 q := by
          rw [List.nil_append, Nat.zero_add, ← HQL.out] at O7
          exact O7
        obtain ⟨a7, c7, hv7, -⟩ := cv_of_row O7'
        subst hv7
        have HO7 : Hid (NgOwns w7 w3.heap.size (.slice a7 q.length c7) q) := O7'
        have HG7 : Hid (w3.grownBy w7 none) := G7
        clear O7 K7 G7 O7'
        have HL2 : Hid (∀ (a : Option Addr) (l c : Nat) (W : World), _) := fun a l c => lit_p2 a a7 l c q.length c7
        go_upto_region 10 with fail
        go_wp2_with (first | (at_builtin; refine wpList_append_cv rfl (.tmp 37) (.tmp 40) 22 rfl 46 i0 _ 24 72 Try.underlying22 HI.out.1 HI.out.2.1 HI.out.2.2.1 HI.out.2.2.2 rfl (by decide) w7.heap.size _ 0 [] rfl (World.ownsRow_made w7 #[] 0 (Nat.le_refl _) (Nat.zero_le _) rfl) (some ⟨b, o, none⟩) P cap (flatG p) rfl HFP.out (fun e => by cases e) (HCP.out _ (grown_trans HG7.out (World.grownBy_alloc _ _ _))) (flatG_one p) HLA.out.2.2.1 HLA.out.2.2.2 (World.grownBy_alloc w7 _ none).size ?_; intro v8 w8 O8 K8; have G8 : w7.grownBy w8 none := grown_trans_new (World.grownBy_alloc w7 _ _) K8 (fun y hy => Nat.le_of_eq (Option.some.inj hy)); have O8' : NgOwns w8 w7.heap.size v8 p := (by rw [List.nil_append, Nat.zero_add, ← HPL.out] at O8; exact O8); obtain ⟨a8, c8, hv8, -⟩ := cv_of_row O8'; subst hv8; have HO8 : Hid (NgOwns w8 w7.heap.size (.slice a8 p.length c8) p) := O8'; have HG8 : Hid (w7.grownBy w8 none) := G8; clear O8 K8 G8 O8') | (refine wpList_mk (by rfl) 34 2 _ rfl _ (by kernel_rfl) [.slice a8 p.length c8, .slice a7 q.length c7] 22 (HL2.out a8 p.length c8) rfl (by unfold maxLen; omega) ?_; intro V w9 hV O9 K9; subst hV))
        go_ret2
        refine ⟨_, rfl, ⟨[.slice a8 p.length c8, .slice a7 q.length c7], nl_two (owns_mono O9 (Nat.le_trans HG7.out.size HG8.out.size)) (owns_mono (owns_keptNone HO8.out K9) HG7.out.size) (owns_keptNone (owns_keptNone HO7.out HG8.out) K9) (fun y h1 h2 => ?_)⟩, grown_trans HG7.out (grown_trans HG8.out K9)⟩
        have := (HO8.out.lt y h1).1
        have := (HO7.out.lt y h2).2
        omega
    · go_enter Try.func15, Try.ntmps15
      go_wp2_with fail
      refine CT.mono ?_
      rintro e w1 ⟨rfl, rfl⟩
      clear CT
      go_wp2_with fail
      refine (CA _).mono ?_
      rintro e w2 ⟨rfl, rfl⟩
      clear CA
      go_wp2
      go_ret2
      exact ⟨nilV, rfl, ⟨[], nl_none _ _⟩, World.grownBy.refl _ _⟩
  · rw [decide_eq_false hp] at CT
    have hps : partsG t = none := by
      cases h : partsG t with
      | none => rfl
      | some pss => exact absurd (parts_left.2 ⟨pss, h⟩) hp
    rw [hps]
    clear hp hps C
    go_enter Try.func15, Try.ntmps15
    go_wp2_with fail
    refine CT.mono ?_
    rintro e w1 ⟨rfl, rfl⟩
    go_wp2
    go_ret2
    exact ⟨nilV, rfl, trivial, World.grownBy.refl _ _⟩

end Go.Proofs.Ytgoiblnddfggbaa

namespace Go.Proofs.Ytgoiblnddfggbaa
open Go.RowKit
set_option maxRecDepth 100000

theorem box_adr (x : Ng) (W : World) : (Instr.box 44 (.agg ((adgs x).map bv).toArray)).run Try.prog W = .ok (.pointer (some ⟨W.heap.size, 0, none⟩)) (W.alloc (.cells ((adgs x).map bv).toArray 44)) := by kernel_rfl
/-- All bytes behind the fourth are 0, told byte by byte. -/
theorem short_iff {l : List UInt8} (hl : l.length = 16) : l.drop 4 = zeros 12 ↔ ∀ j (h : j < l.length), 4 ≤ j → l[j] = 0 := by
  constructor
  · intro h j hj h4
    have e : (l.drop 4)[j - 4]? = some 0 := by
      rw [h]
      unfold zeros
      rw [List.getElem?_replicate, if_pos (by omega)]
    rw [List.getElem?_drop, show 4 + (j - 4) = j by omega, List.getElem?_eq_getElem hj] at e
    exact Option.some.inj e
  · intro h
    refine List.ext_getElem (by rw [List.length_drop, hl]; simp [zeros]) fun i h1 h2 => ?_
    rw [List.length_drop] at h1
    rw [List.getElem_drop, h (4 + i) (by omega) (by omega)]
    exact (List.eq_of_mem_replicate (n := 12) (a := (0 : UInt8)) (List.getElem_mem h2)).symm

set_option maxHeartbeats 4000000 in
theorem short12_any (x : Ng) (w : World) : Calls Try.prog 90 #[.agg ((adgs x).map bv).toArray] w fun e w' => e = .returned (.bool (decide ((adgs x).drop 4 = zeros 12))) ∧ w.grownBy w' none := by
  have HBX := box_adr x
  have h3 := World.grownBy_alloc w (.cells ((adgs x).map bv).toArray 44) none
  have V := VAt.alloc w 44 ((adgs x).map bv).toArray
  have HL : Hid ((adgs x).length = 16) := adgs_len x
  obtain ⟨E, hE⟩ : ∃ E, decide ((adgs x).drop 4 = zeros 12) = E := ⟨_, rfl⟩
  rw [hE]
  have HE : Hid (decide ((adgs x).drop 4 = zeros 12) = E) := hE
  obtain ⟨l, hl⟩ : ∃ l, adgs x = l := ⟨_, rfl⟩
  rw [hl] at HBX h3 V HL HE ⊢
  obtain ⟨X, hX⟩ : ∃ X, (l.map bv).toArray = X := ⟨_, rfl⟩
  rw [hX] at HBX h3 V ⊢
  have HX : Hid ((l.map bv).toArray = X) := hX
  clear hE hl hX
  go_enter Try.func90, Try.ntmps90
  go_upto_region 1 with fail
  generalize w.alloc (.cells X 44) = w1 at *
  generalize w.heap.size = B at *
  have HV : Hid (VAt w1 B 44 X) := V
  clear HBX V
  go_wp2
  go_loopw [3] (fun i wr => ∃ k : Nat, 4 ≤ k ∧ k ≤ 16 ∧ i = .int .i64 k ∧ Hid (∀ j (h : j < l.length), 4 ≤ j → j < k → l[j] = 0) ∧ wr = w1) (fun i _ => 16 - (intOf i).toNat)
  case atStart => exact ⟨4, Nat.le_refl _, by omega, rfl, fun j h h4 h5 => by omega, rfl⟩
  case round =>
    obtain ⟨k, h4, hk, rfl, H1, rfl⟩ := hrel
    by_cases hlt : k < 16
    · have hkl : k < l.length := by rw [HL.out]; exact hlt
      have c0 : wr.cell? ⟨B, k, none⟩ = some (.int .u8 (l[k].toNat : Int)) := by
        rw [VAt.cell HV.out k, ← HX.out]
        simp [bv, hkl]
      have hl : (k : Int) < 16 := by omega
      have z0 : (0 : Int) ≤ (k : Int) := by omega
      have w3 : IntKind.i64.wrap ((k : Int) + 1) = (k : Int) + 1 := by rw [IntKind.wrap_i64]; omega
      by_cases h0 : l[k] = 0
      · have n0 : (((l[k].toNat : Nat) : Int) != 0) = false := by rw [h0]; rfl
        have H2 : Hid (∀ j (h : j < l.length), 4 ≤ j → j < k + 1 → l[j] = 0) := fun j h h4' h5 => by
          by_cases e : j = k
          · subst e; exact h0
          · exact H1.out j h h4' (by omega)
        generalize ((l[k].toNat : Nat) : Int) = y at *
        clear h0 H1
        go_wp2
        go_roundw
        case rel => exact ⟨k + 1, by omega, by omega, by go_num, H2, trivial⟩
        case measure => simp [intOf]; omega
      · have n0 : (((l[k].toNat : Nat) : Int) != 0) = true := by
          rw [bne_iff_ne]
          intro e
          exact h0 (UInt8.toNat_inj.1 (by simpa using e))
        obtain rfl : E = false := by
          rw [← HE.out, decide_eq_false_iff_not]
          intro e
          exact h0 ((short_iff HL.out).1 e k hkl h4)
        generalize ((l[k].toNat : Nat) : Int) = y at *
        clear h0 H1
        go_wp2
        go_ret
        exact ⟨rfl, h3⟩
    · have hl : ¬ (k : Int) < 16 := by omega
      obtain rfl : E = true := by
        rw [← HE.out, decide_eq_true_iff]
        exact (short_iff HL.out).2 fun j h h4' => H1.out j h h4' (by have := HL.out; omega)
      clear H1
      go_wp2
      go_ret
      exact ⟨rfl, h3⟩

end Go.Proofs.Ytgoiblnddfggbaa

namespace Go.Proofs.Ytgoiblnddfggbaa
open Go.RowKit
set_option maxRecDepth 100000

/-- The node without what its kind uses. -/
def bareG (x : Ng) : Ng :=
  if x.kind = 1 ∨ x.kind = 12 then { x with n := 0 }
  else if x.kind = 3 then { x with of := 0, size := 0 }
  else if x.kind = 4 ∨ x.kind = 6 then { x with op := 0 }
  else if x.kind = 10 then { x with side := 0 }
  else if x.kind = 11 then { x with of := 0 }
  else if x.kind = 13 then { x with of := 0, n := 0 }
  else if x.kind = 14 then { x with of := 0, side := 0, addr := zeros 16 }
  else if x.kind = 15 then { x with of := 0, side := 0, addr := zeros 16, bits := 0 }
  else if x.kind = 16 then { x with of := 0, side := 0, n := 0, m := 0 }
  else x
def kindN (k : Int) : Ng := ⟨k, 0, 0, 0, 0, 0, 0, zeros 16, 0⟩
theorem sameG_mk (k1 op1 n1 m1 s1 o1 d1 ad1 b1 k2 op2 n2 m2 s2 o2 d2 ad2 b2) : sameG ⟨k1, op1, n1, m1, s1, o1, d1, ad1, b1⟩ ⟨k2, op2, n2, m2, s2, o2, d2, ad2, b2⟩ = (decide (k1 = k2) && decide (op1 = op2) && decide (n1 = n2) && decide (m1 = m2) && decide (s1 = s2) && decide (o1 = o2) && decide (d1 = d2) && decide (adgs ⟨0, 0, 0, 0, 0, 0, 0, ad1, 0⟩ = adgs ⟨0, 0, 0, 0, 0, 0, 0, ad2, 0⟩) && decide (b1 = b2)) := rfl
theorem bare_form (x : Ng) : sameG (bareG x) (kindN x.kind) = sameG x (useG x) := by
  obtain ⟨k, op, n, m, s, o, d, ad, b⟩ := x
  unfold bareG useG kindN
  simp only
  by_cases h1 : k = 1 ∨ k = 12
  · rw [if_pos h1, if_pos h1, sameG_mk, sameG_mk]; simp
  rw [if_neg h1, if_neg h1]
  by_cases h3 : k = 3
  · rw [if_pos h3, if_pos h3, sameG_mk, sameG_mk]; simp
  rw [if_neg h3, if_neg h3]
  by_cases h4 : k = 4 ∨ k = 6
  · rw [if_pos h4, if_pos h4, sameG_mk, sameG_mk]; simp
  rw [if_neg h4, if_neg h4]
  by_cases h10 : k = 10
  · rw [if_pos h10, if_pos h10, sameG_mk, sameG_mk]; simp
  rw [if_neg h10, if_neg h10]
  by_cases h11 : k = 11
  · rw [if_pos h11, if_pos h11, sameG_mk, sameG_mk]; simp
  rw [if_neg h11, if_neg h11]
  by_cases h13 : k = 13
  · rw [if_pos h13, if_pos h13, sameG_mk, sameG_mk]; simp
  rw [if_neg h13, if_neg h13]
  by_cases h14 : k = 14
  · rw [if_pos h14, if_pos h14, sameG_mk, sameG_mk]; simp
  rw [if_neg h14, if_neg h14]
  by_cases h15 : k = 15
  · rw [if_pos h15, if_pos h15, sameG_mk, sameG_mk]; simp
  rw [if_neg h15, if_neg h15]
  by_cases h16 : k = 16
  · rw [if_pos h16, if_pos h16, sameG_mk, sameG_mk]; simp
  rw [if_neg h16, if_neg h16]

end Go.Proofs.Ytgoiblnddfggbaa

namespace Go.Proofs.Ytgoiblnddfggbaa
open Go.RowKit
set_option maxRecDepth 100000

/-- A result row that lies in a block, and a second result. -/
theorem ret_rowT {P : Program} {fn : Func} {p u : Tmp} {ty : TypeId} (h : fn.results = #[.cell p ty, .tmp u]) (tmps : Array Value) (w : World) (g : Nat) (cs : Array Value) (d : TypeDesc) (hp : tmps.getD p undef = .pointer (some ⟨g, 0, none⟩)) (A : VAt w g ty cs)
    (hu : P.underlying ty = some d) (hd : (match d with | .struct _ | .array _ _ => true | _ => false) = true) (hi : (P.info? ty).map (·.size) = some cs.size) : (results fn tmps).run P w = .ok (.tuple #[.agg cs, tmps.getD u undef]) w := by
  rw [results_cell_tmp h, hp]
  have := run_loadVar_row (P := P) w g ty ty cs (0, 0) _ A hu hd hi
  simp only [asAddr, Sem.run_pure, Result.andThen, this]

/-- While bare is at work: the node as it is by now, and the result's cell. -/
def BW (w W : World) (B : Nat) (y : Ng) : Prop := NB W B y ∧ NB W (B + 1) ngZ ∧ w.grownBy W none
theorem nb_other {W : World} {B C j : Nat} {x : Ng} {v : Value} (h : NB W B x) (hk : B ≠ C) : NB (W.setCell ⟨C, j, none⟩ v) B x := by
  unfold NB VAt at *
  simp only [World.setCell, Array.getElem?_modify, if_neg (Ne.symm hk)]
  exact h
theorem BW.set {w W : World} {B : Nat} {y z : Ng} (h : BW w W B y) (hB : w.heap.size ≤ B) (j : Nat) (v : Value) (e : y.cells.toArray.setIfInBounds j v = z.cells.toArray) : BW w (W.setCell ⟨B, j, none⟩ v) B z := by
  refine ⟨?_, nb_other h.2.1 (by omega), grown_setCell h.2.2 _ _ (.inr hB)⟩
  have := VAt.set h.1 j v
  rw [e] at this
  exact this
/-- The address as zeros. -/
def zA : Array Value := #[.int .u8 0, .int .u8 0, .int .u8 0, .int .u8 0, .int .u8 0, .int .u8 0, .int .u8 0, .int .u8 0, .int .u8 0, .int .u8 0, .int .u8 0, .int .u8 0, .int .u8 0, .int .u8 0, .int .u8 0, .int .u8 0]
theorem zA_size : (Try.prog.info? 44).map (·.size) = some zA.size := by kernel_rfl
theorem zA_all : zA.all (·.oneCell') = true := by simp [zA, Value.oneCell']
theorem BW.there {w W : World} {B : Nat} {y : Ng} (h : BW w W B y) : W.there B 7 zA.size := fun j hj => by
  have hj : j < 16 := hj
  refine ⟨?_, VAt.free h.1 _⟩
  rw [VAt.cell h.1 (7 + j)]
  have : j = 0 ∨ j = 1 ∨ j = 2 ∨ j = 3 ∨ j = 4 ∨ j = 5 ∨ j = 6 ∨ j = 7 ∨ j = 8 ∨ j = 9 ∨ j = 10 ∨ j = 11 ∨ j = 12 ∨ j = 13 ∨ j = 14 ∨ j = 15 := by omega
  rcases this with rfl | rfl | rfl | rfl | rfl | rfl | rfl | rfl | rfl | rfl | rfl | rfl | rfl | rfl | rfl | rfl <;> rfl
theorem BW.setA {w W : World} {B : Nat} {y z : Ng} (h : BW w W B y) (hB : w.heap.size ≤ B) (e : z = { y with addr := zeros 16 }) : BW w (W.setCells B 7 zA.toList) B z := by
  subst e
  have h0 := h.set (z := { y with addr := (0 : UInt8) :: (adgs y).drop 1 }) hB 7 (.int .u8 0) rfl
  have h1 := h0.set (z := { y with addr := 0 :: 0 :: (adgs y).drop 2 }) hB 8 (.int .u8 0) rfl
  have h2 := h1.set (z := { y with addr := 0 :: 0 :: 0 :: (adgs y).drop 3 }) hB 9 (.int .u8 0) rfl
  have h3 := h2.set (z := { y with addr := 0 :: 0 :: 0 :: 0 :: (adgs y).drop 4 }) hB 10 (.int .u8 0) rfl
  have h4 := h3.set (z := { y with addr := 0 :: 0 :: 0 :: 0 :: 0 :: (adgs y).drop 5 }) hB 11 (.int .u8 0) rfl
  have h5 := h4.set (z := { y with addr := 0 :: 0 :: 0 :: 0 :: 0 :: 0 :: (adgs y).drop 6 }) hB 12 (.int .u8 0) rfl
  have h6 := h5.set (z := { y with addr := 0 :: 0 :: 0 :: 0 :: 0 :: 0 :: 0 :: (adgs y).drop 7 }) hB 13 (.int .u8 0) rfl
  have h7 := h6.set (z := { y with addr := 0 :: 0 :: 0 :: 0 :: 0 :: 0 :: 0 :: 0 :: (adgs y).drop 8 }) hB 14 (.int .u8 0) rfl
  have h8 := h7.set (z := { y with addr := 0 :: 0 :: 0 :: 0 :: 0 :: 0 :: 0 :: 0 :: 0 :: (adgs y).drop 9 }) hB 15 (.int .u8 0) rfl
  have h9 := h8.set (z := { y with addr := 0 :: 0 :: 0 :: 0 :: 0 :: 0 :: 0 :: 0 :: 0 :: 0 :: (adgs y).drop 10 }) hB 16 (.int .u8 0) rfl
  have h10 := h9.set (z := { y with addr := 0 :: 0 :: 0 :: 0 :: 0 :: 0 :: 0 :: 0 :: 0 :: 0 :: 0 :: (adgs y).drop 11 }) hB 17 (.int .u8 0) rfl
  have h11 := h10.set (z := { y with addr := 0 :: 0 :: 0 :: 0 :: 0 :: 0 :: 0 :: 0 :: 0 :: 0 :: 0 :: 0 :: (adgs y).drop 12 }) hB 18 (.int .u8 0) rfl
  have h12 := h11.set (z := { y with addr := 0 :: 0 :: 0 :: 0 :: 0 :: 0 :: 0 :: 0 :: 0 :: 0 :: 0 :: 0 :: 0 :: (adgs y).drop 13 }) hB 19 (.int .u8 0) rfl
  have h13 := h12.set (z := { y with addr := 0 :: 0 :: 0 :: 0 :: 0 :: 0 :: 0 :: 0 :: 0 :: 0 :: 0 :: 0 :: 0 :: 0 :: (adgs y).drop 14 }) hB 20 (.int .u8 0) rfl
  have h14 := h13.set (z := { y with addr := 0 :: 0 :: 0 :: 0 :: 0 :: 0 :: 0 :: 0 :: 0 :: 0 :: 0 :: 0 :: 0 :: 0 :: 0 :: (adgs y).drop 15 }) hB 21 (.int .u8 0) rfl
  exact h14.set (z := { y with addr := zeros 16 }) hB 22 (.int .u8 0) rfl
theorem BW.kept {w W W' : World} {B : Nat} {y : Ng} (h : BW w W B y) (K : W.grownBy W' none) : BW w W' B y := ⟨h.1.kept K, h.2.1.kept K, grown_trans h.2.2 K⟩

end Go.Proofs.Ytgoiblnddfggbaa
