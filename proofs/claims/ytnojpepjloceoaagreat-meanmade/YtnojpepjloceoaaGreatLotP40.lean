/-
  What a filter says of a frame, node by node: the parts that stand beside what chapter 12 says of them. No Go text here. Package mean as landed: a tree's nodes, one by one. The document's own IP. The document's own Look.
-/
import Derived.Test.YtnojpepjloceoaaGreatLotP18
import Derived.Test.YtnojpepjloceoaaGreatLotP39
import Derived.Test.YtnojpepjloceoaaGreatTyJ
import Derived.Test.YtnojpepjloceoaaGreatMnK
import Derived.Test.YtnojpepjloceoaaGreatLotP34
import Derived.Test.YtnojpepjloceoaaGreatLotP4
import Derived.Deep.WholeRow
namespace Go.Proofs.YtnojpepjloceoaaGreat
open Go.RowKit
set_option maxRecDepth 100000

theorem mjoin_fixed {x : Ng} {ps : List Pt} (h : (joinG x ps).fixed = true) : (∀ p ∈ ps, p.fixed = true) ∧ valG x ps = some (joinG x ps).val := by
  unfold joinG at h ⊢
  split
  · rename_i ha
    rw [if_pos ha] at h
    refine ⟨fun p hp => by simpa using List.all_eq_true.1 ha p hp, ?_⟩
    cases e : valG x ps with
    | none => rw [e] at h; cases h
    | some v => rfl
  · rename_i ha
    rw [if_neg ha] at h
    cases h

theorem mfault_zero {x : Ng} {ps : List Pt} (h : faultG x ps = 0) : formG x = true ∧ kindE x.kind ps = 0 ∧ zeroE x ps = false ∧ rangeE x = 0 := by
  unfold faultG at h
  split at h
  · exact absurd h (by decide)
  · rename_i h1
    split at h
    · rename_i h2; exact absurd h h2
    · rename_i h2
      split at h
      · exact absurd h (by decide)
      · rename_i h3
        exact ⟨by simpa using h1, by simpa using h2, by simpa using h3, h⟩

theorem over_ok {s : Sg} {x : Ng} {ps : List Pt} {qs : List Pm} (hb : s.b.length ≤ 65535) (hn : x.n ≤ 4294967295) (h : StM ps qs) (ha : arG x.kind = some ps.length) (hf : faultG x ps = 0) : PmOk (joinG x ps) (overM s x qs) := by
  have hl := h.len
  have hz := (mfault_zero hf).2.2.1
  have hfx : (joinG x ps).fixed = true → (∀ p ∈ ps, p.fixed = true) ∧ valG x ps = some (joinG x ps).val := mjoin_fixed
  have htr := joinG_truth x ps
  generalize joinG x ps = J at *
  have hno : (x.kind ≠ 1 ∧ x.kind ≠ 4 ∧ x.kind ≠ 5) → J.fixed = true → False := fun hk e => by
    have := (hfx e).2
    unfold valG at this
    rw [if_neg hk.1, if_neg hk.2.1, if_neg hk.2.2] at this
    cases this
  have htl : x.kind < 6 → J.truth = true → False := fun hk e => by
    rw [htr, truthG] at e
    have := of_decide_eq_true e
    omega
  rcases arG_cases ha with ⟨h1, hk⟩ | ⟨h1, hk⟩ | ⟨h1, hk⟩
  · match ps, qs, h, h1, hl with
    | [p], [q], .cons h0 _, _, _ =>
      rcases hk with hk | hk | hk
      · have e : overM s x [q] = loadM s x q := by simp [overM, hk]
        rw [e]
        have hL : Hw (loadM s x q).how ∧ (loadM s x q).val ≤ 4294967295 ∧ ((loadM s x q).how ≠ 1 → (loadM s x q).val = 0) := by
          unfold loadM
          split
          · exact ⟨.inl rfl, by simp, fun _ => rfl⟩
          · split
            · exact ⟨h0.how, h0.val, h0.none⟩
            · cases en : numM s.b ((baseM s.v x.of).1 + q.val) x.size with
              | none => exact ⟨.inr (.inr rfl), by simp, fun _ => rfl⟩
              | some k => exact ⟨.inr (.inl rfl), num_lt en, fun hh => absurd rfl hh⟩
        exact ⟨hL.1, hL.2.1, hL.2.2, fun ht => (htl (by omega) ht).elim, fun hh => (hno (by omega) hh).elim⟩
      · have e : overM s x [q] = minusM q := by simp [overM, hk]
        rw [e]
        unfold minusM
        split
        · rename_i hq
          refine ⟨h0.how, h0.val, h0.none, fun ht => (htl (by omega) ht).elim, fun hh => ?_⟩
          exact absurd (h0.fixed ((hfx hh).1 p (by simp))).1 hq
        · rename_i hq
          refine ⟨.inr (.inl rfl), minusG_le _, fun hh => absurd rfl hh, fun ht => (htl (by omega) ht).elim, fun hh => ⟨rfl, ?_⟩⟩
          have h2 := (hfx hh).2
          have h3 := h0.fixed ((hfx hh).1 p (by simp))
          simp [valG, hk] at h2
          rw [← h2, h3.2]
      · have e : overM s x [q] = ⟨notM q.how, 0⟩ := by simp [overM, hk]
        rw [e]
        exact ⟨hw_not h0.how, Nat.zero_le _, fun _ => rfl, fun _ => rfl, fun hh => (hno (by omega) hh).elim⟩
  · match ps, qs, h, h1, hl with
    | [p, p'], [q, q'], .cons h0 (.cons h2 _), _, _ =>
      rcases hk with hk | hk | hk | hk
      · have e : overM s x [q, q'] = arithM x.op q q' := by simp [overM, hk]
        rw [e]
        unfold arithM
        split
        · rename_i hj
          refine ⟨hw_joint h2.how, Nat.zero_le _, fun _ => rfl, fun _ => rfl, fun hh => ?_⟩
          have a1 := h0.fixed ((hfx hh).1 p (by simp))
          have a2 := h2.fixed ((hfx hh).1 p' (by simp))
          exfalso
          apply hj
          simp [jointM, a1.1, a2.1]
        · split
          · rename_i hd
            refine ⟨.inr (.inr rfl), Nat.zero_le _, fun _ => rfl, fun _ => rfl, fun hh => ?_⟩
            have a2 := h2.fixed ((hfx hh).1 p' (by simp))
            exfalso
            have : zeroE x [p, p'] = true := by
              simp [zeroE, hk, hd.1, (hfx hh).1 p' (by simp)]
              rw [← a2.2]; exact hd.2
            rw [this] at hz
            cases hz
          · refine ⟨.inr (.inl rfl), arithG_le h0.val h2.val, fun hh => absurd rfl hh, fun ht => (htl (by omega) ht).elim, fun hh => ⟨rfl, ?_⟩⟩
            have b2 := (hfx hh).2
            have a1 := h0.fixed ((hfx hh).1 p (by simp))
            have a2 := h2.fixed ((hfx hh).1 p' (by simp))
            simp [valG, hk] at b2
            rw [← b2, a1.2, a2.2]
      · have e : overM s x [q, q'] = ⟨relM x.op q q', 0⟩ := by simp [overM, hk]
        rw [e]
        refine ⟨?_, Nat.zero_le _, fun _ => rfl, fun _ => rfl, fun hh => (hno (by omega) hh).elim⟩
        show Hw (relM x.op q q')
        unfold relM
        split
        · exact hw_joint h2.how
        · exact jdg_how _
      · have e : overM s x [q, q'] = ⟨andM q.how q'.how, 0⟩ := by simp [overM, hk]
        rw [e]
        exact ⟨hw_and h0.how h2.how, Nat.zero_le _, fun _ => rfl, fun _ => rfl, fun hh => (hno (by omega) hh).elim⟩
      · have e : overM s x [q, q'] = ⟨orM q.how q'.how, 0⟩ := by simp [overM, hk]
        rw [e]
        exact ⟨hw_or h0.how h2.how, Nat.zero_le _, fun _ => rfl, fun _ => rfl, fun hh => (hno (by omega) hh).elim⟩
  · by_cases k1 : x.kind = 1
    · have e : overM s x qs = ⟨1, x.n⟩ := by simp [overM, k1]
      rw [e]
      refine ⟨.inr (.inl rfl), hn, fun hh => absurd rfl hh, fun ht => (htl (by omega) ht).elim, fun hh => ⟨rfl, ?_⟩⟩
      have b2 := (hfx hh).2
      simp [valG, k1] at b2
      exact b2
    · by_cases k2 : x.kind = 2
      · have e : overM s x qs = ⟨1, s.b.length⟩ := by simp [overM, k2]
        rw [e]
        exact ⟨.inr (.inl rfl), Nat.le_trans hb (by omega), fun hh => absurd rfl hh, fun ht => (htl (by omega) ht).elim, fun hh => (hno (by omega) hh).elim⟩
      · have hk' : 10 ≤ x.kind := by omega
        have e : overM s x qs = ⟨truthM s x, 0⟩ := by
          unfold overM
          rw [if_neg k1, if_neg k2, if_neg (by omega), if_neg (by omega), if_neg (by omega), if_neg (by omega), if_neg (by omega), if_neg (by omega), if_neg (by omega)]
        rw [e]
        exact ⟨hw_truth s x, Nat.zero_le _, fun _ => rfl, fun _ => rfl, fun hh => (hno (by omega) hh).elim⟩

/-- What a node that is taken says. -/
theorem mstep_inv {x : Ng} {st st' : List Pt} (h : stepG x st = .ok st') : ∃ a, arG x.kind = some a ∧ a ≤ st.length ∧ faultG x (st.drop (st.length - a)) = 0 ∧ st' = st.take (st.length - a) ++ [joinG x (st.drop (st.length - a))] := by
  unfold stepG at h
  cases ha : arG x.kind with
  | none => rw [ha] at h; cases h
  | some a =>
    rw [ha] at h
    simp only at h
    split at h
    · cases h
    · split at h
      · cases h
      · cases h
        exact ⟨a, rfl, by omega, by omega, rfl⟩
theorem step_st {s : Sg} {x : Ng} {st st' : List Pt} {qs : List Pm} (hb : s.b.length ≤ 65535) (hn : x.n ≤ 4294967295) (h : stepG x st = .ok st') (hs : StM st qs) : StM st' (stpM s qs x) := by
  obtain ⟨a, ha, hl, hf, rfl⟩ := mstep_inv h
  have e := hs.len
  unfold stpM
  rw [ha, Option.getD_some, ← e]
  refine (hs.take _).append (.one (over_ok hb hn (hs.drop _) ?_ hf))
  rw [ha, List.length_drop]
  congr 1
  omega
theorem eval_st {s : Sg} (hb : s.b.length ≤ 65535) : ∀ (t : List Ng) (st st' : List Pt) (qs : List Pm) (k : Nat), (∀ x ∈ t, x.n ≤ 4294967295) → walkG st k t = .ok st' → StM st qs → StM st' (evalM s qs t)
  | [], st, st', qs, k, _, h, hs => by cases h; exact hs
  | x :: t, st, st', qs, k, hn, h, hs => by
    simp only [walkG] at h
    cases e : stepG x st with
    | error e' => rw [e] at h; cases h
    | ok s1 =>
      rw [e] at h
      exact eval_st hb t s1 st' _ (k + 1) (fun y hy => hn y (.tail _ hy)) h (step_st hb (hn x (.head _)) e hs)
theorem eval_app (s : Sg) (qs : List Pm) (t u : List Ng) : evalM s qs (t ++ u) = evalM s (evalM s qs t) u := by unfold evalM; rw [List.foldl_append]

/-- A list that is compared is a filter just if it is a number. -/
theorem step_zero (st : List Pt) : stepG zeroN st = .ok (st ++ [⟨false, true, 0⟩]) := by
  have e : stepG zeroN [] = .ok [⟨false, true, 0⟩] := by rfl
  have := stepG_frame st e
  simpa using this
theorem step_eq (p : Pt) (st : List Pt) (h : p.truth = false) : stepG eqN (st ++ [p, ⟨false, true, 0⟩]) = .ok (st ++ [⟨true, false, 0⟩]) := by
  obtain ⟨pt, pf, pv⟩ := p
  cases h
  have e : stepG eqN [⟨false, pf, pv⟩, ⟨false, true, 0⟩] = .ok [⟨true, false, 0⟩] := by
    cases pf <;> rfl
  exact stepG_frame st e
theorem cmpd_iff {t : List Ng} : (checkG (cmpdM t)).2 = 0 ↔ ∃ p, walkG [] 0 t = .ok [p] ∧ p.truth = false ∧ weightG t ≤ 2991 := by
  have hw : weightG (cmpdM t) = weightG t + 9 := by simp [cmpdM, weightG, zeroN, eqN, weighG]
  rw [filt_iff, hw]
  have e : cmpdM t = (t ++ [zeroN]) ++ [eqN] := by simp [cmpdM]
  constructor
  · rintro ⟨p, h1, -, h3⟩
    cases hq : walkG [] 0 t with
    | error x =>
      rw [cmpdM, walkG_app, hq] at h1
      cases h1
    | ok st =>
      have h4 := walkG_snoc zeroN hq
      rw [step_zero] at h4
      have h5 := walkG_snoc eqN h4
      rw [← e, h1] at h5
      cases hs : stepG eqN (st ++ [⟨false, true, 0⟩]) with
      | error er => rw [hs] at h5; cases h5
      | ok s1 =>
        rw [hs] at h5
        obtain ⟨a, ha, hl, hf, hq2⟩ := mstep_inv hs
        have : a = 2 := by simpa [arG, eqN] using ha.symm
        subst this
        have h6 : s1.length = 1 := by cases h5; rfl
        rw [hq2] at h6
        simp at h6 hl
        match st, hl, h6 with
        | [q], _, _ =>
          refine ⟨q, rfl, ?_, by omega⟩
          have hk := (mfault_zero hf).2.1
          simp [kindE, eqN, wantsG] at hk
          exact hk
  · rintro ⟨p, h1, h2, h3⟩
    refine ⟨⟨true, false, 0⟩, ?_, rfl, by omega⟩
    have h4 := walkG_snoc zeroN h1
    rw [step_zero] at h4
    have h5 := walkG_snoc eqN h4
    have h6 := step_eq p [] h2
    simp only [List.nil_append] at h6
    rw [← e, show [p] ++ [(⟨false, true, 0⟩ : Pt)] = [p, ⟨false, true, 0⟩] from rfl, h6] at h5
    exact h5

/-- What a tree that stands comes to. -/
theorem eval_one {s : Sg} (hb : s.b.length ≤ 65535) {t : List Ng} {p : Pt} (hn : ∀ x ∈ t, x.n ≤ 4294967295) (h : walkG [] 0 t = .ok [p]) : ∃ q, evalM s [] t = [q] ∧ PmOk p q := by
  have := eval_st hb t [] [p] [] 0 hn h .nil
  match hq : evalM s [] t, this with
  | [q], .cons h _ => exact ⟨q, rfl, h⟩
end Go.Proofs.YtnojpepjloceoaaGreat

namespace Go.Proofs.YtnojpepjloceoaaGreat
open Go.RowKit
set_option maxRecDepth 100000

theorem trok_of {x : Ng} {ps : List Pt} (hk : 10 ≤ x.kind ∧ x.kind ≤ 16) (hf : faultG x ps = 0) : TrOk x := by
  obtain ⟨h1, -, -, h4⟩ := mfault_zero hf
  have hm : mayG x = true := by
    unfold formG at h1
    exact (Bool.and_eq_true_iff.1 h1).2
  have ho : x.kind = 14 ∨ x.kind = 15 → x.of = 2 ∨ x.of = 3 := fun h => by
    unfold mayG at hm
    rw [if_neg (by omega), if_neg (by omega), if_neg (by omega), if_neg (by omega), if_neg (by omega), if_neg (by omega), if_pos h] at hm
    unfold hostG at hm
    have h5 := (Bool.and_eq_true_iff.1 (Bool.and_eq_true_iff.1 hm).1).1
    unfold inG at h5
    have h6 := Bool.and_eq_true_iff.1 h5
    have := of_decide_eq_true h6.1
    have := of_decide_eq_true h6.2
    omega
  refine ⟨hk, ho, fun h => ?_⟩
  unfold rangeE at h4
  rw [if_neg (by omega), if_neg (by omega), if_neg (by omega), if_neg (by omega), if_pos h, maddr_len] at h4
  split at h4
  · exact absurd h4 (by decide)
  · rename_i hb
    exact Decidable.not_not.1 hb
theorem op_of {x : Ng} {ps : List Pt} (hk : x.kind = 4) (hf : faultG x ps = 0) : 1 ≤ x.op ∧ x.op ≤ 10 := by
  obtain ⟨h1, -, -, -⟩ := mfault_zero hf
  unfold formG at h1
  have hm := (Bool.and_eq_true_iff.1 h1).2
  unfold mayG at hm
  rw [if_neg (by omega), if_pos hk] at hm
  unfold inG at hm
  have h6 := Bool.and_eq_true_iff.1 hm
  exact ⟨of_decide_eq_true h6.1, of_decide_eq_true h6.2⟩
theorem last_one {α : Type} {l : List α} (h : 1 ≤ l.length) : ∃ m x, l = m ++ [x] :=
  ⟨l.dropLast, l.getLast (by intro e; rw [e] at h; simp at h), (List.dropLast_concat_getLast _).symm⟩
theorem last_two {α : Type} {l : List α} (h : 2 ≤ l.length) : ∃ m x y, l = m ++ [x, y] := by
  obtain ⟨m, y, rfl⟩ := last_one (l := l) (by omega)
  obtain ⟨m', x, rfl⟩ := last_one (l := m) (by simp at h; omega)
  exact ⟨m', x, y, by simp⟩
theorem StM.val {ps : List Pt} {qs : List Pm} (h : StM ps qs) : ∀ q ∈ qs, q.val ≤ 4294967295 := by
  induction h with
  | nil => intro q hq; cases hq
  | cons h _ ih =>
    intro q hq
    rcases List.mem_cons.1 hq with rfl | hq
    · exact h.val
    · exact ih q hq

theorem read_any14 {w0 w : World} {s : Sg} {a : Option Addr} {ca g : Nat} {v : Value} {st : List Pm} {x : Ng} {ps ps' : List Pt} (R : RS w0 w g s a ca v st) (hc : Cells w0 a s.b) (hk : MSgOk s) (hcap : s.b.length ≤ ca) (hl : st.length ≤ 2999) (hst : StM ps st) (hs : stepG x ps = .ok ps') :
    Calls Tryz.prog 66 #[.pointer (some ⟨g, 0, none⟩), .agg x.cells.toArray] w fun e w' => e = .returned (.tuple #[]) ∧ Lft w0 w g s a ca v (stpM s st x) w' := by
  obtain ⟨n, ha, hle, hf, -⟩ := mstep_inv hs
  have hln := hst.len
  have hv := hst.val
  rcases arG_cases ha with ⟨h1, hkd⟩ | ⟨h1, hkd⟩ | ⟨h1, hkd⟩
  · subst h1
    obtain ⟨m, q, rfl⟩ := last_one (l := st) (by omega)
    have hq := hv q (by simp)
    have hm : m.length ≤ 2999 := by simp at hl; omega
    rw [stpM_one s m q x ha]
    rcases hkd with h | h | h
    · rw [show overM s x [q] = loadM s x q by simp [overM, h]]; exact read3 q R hc hk hcap hm ⟨h, hq⟩
    · rw [show overM s x [q] = minusM q by simp [overM, h]]; exact read5 q R hc hk hcap hm ⟨h, hq⟩
    · rw [show overM s x [q] = ⟨notM q.how, 0⟩ by simp [overM, h]]; exact read9 q R hc hk hcap hm h
  · subst h1
    obtain ⟨m, p, q, rfl⟩ := last_two (l := st) (by omega)
    have hp := hv p (by simp)
    have hq := hv q (by simp)
    have hm : m.length ≤ 2999 := by simp at hl; omega
    rw [stpM_two s m p q x ha]
    rcases hkd with h | h | h | h
    · rw [show overM s x [p, q] = arithM x.op p q by simp [overM, h]]; exact read4 p q R hc hk hcap hm ⟨h, (op_of h hf).1, (op_of h hf).2, hp, hq⟩
    · rw [show overM s x [p, q] = ⟨relM x.op p q, 0⟩ by simp [overM, h]]; exact read6 p q R hc hk hcap hm h
    · rw [show overM s x [p, q] = ⟨andM p.how q.how, 0⟩ by simp [overM, h]]; exact read7 p q R hc hk hcap hm h
    · rw [show overM s x [p, q] = ⟨orM p.how q.how, 0⟩ by simp [overM, h]]; exact read8 p q R hc hk hcap hm h
  · subst h1
    rw [stpM_zero s st x ha]
    by_cases k1 : x.kind = 1
    · rw [show overM s x [] = ⟨1, x.n⟩ by simp [overM, k1]]; exact read1 R hc hk hcap hl k1
    · by_cases k2 : x.kind = 2
      · rw [show overM s x [] = ⟨1, s.b.length⟩ by simp [overM, k2]]; exact read2 R hc hk hcap hl k2
      · have h10 : 10 ≤ x.kind ∧ x.kind ≤ 16 := by omega
        rw [show overM s x [] = ⟨truthM s x, 0⟩ by
          unfold overM
          rw [if_neg k1, if_neg k2, if_neg (by omega), if_neg (by omega), if_neg (by omega), if_neg (by omega), if_neg (by omega), if_neg (by omega), if_neg (by omega)]]
        exact read10 R hc hk hcap hl (trok_of h10 hf)

/-- A beginning of a tree that stands. -/
theorem walk_take {t : List Ng} {p : Pt} (h : walkG [] 0 t = .ok [p]) {k : Nat} (hk : k < t.length) : ∃ ps ps', walkG [] 0 (t.take k) = .ok ps ∧ stepG t[k] ps = .ok ps' := by
  have e : t = t.take k ++ t[k] :: t.drop (k + 1) := by rw [← List.drop_eq_getElem_cons hk, List.take_append_drop]
  rw [e, walkG_app] at h
  cases h1 : walkG [] 0 (t.take k) with
  | error x => rw [h1] at h; cases h
  | ok ps =>
    rw [h1] at h
    simp only [walkG] at h
    cases h2 : stepG t[k] ps with
    | error x => rw [h2] at h; cases h
    | ok ps' => exact ⟨ps, ps', rfl, h2⟩
theorem eval_next (s : Sg) (t : List Ng) {k : Nat} (hk : k < t.length) : evalM s [] (t.take (k + 1)) = stpM s (evalM s [] (t.take k)) t[k] := by
  rw [List.take_succ_eq_append_getElem hk, eval_app]
  rfl
theorem build_rd (v : Value) (W : World) : (Instr.build 109 #[(0, .iface 86 v)]).run Tryz.prog W = .ok (.agg #[.iface 86 v, .slice none 0 0]) W := by kernel_rfl

set_option maxHeartbeats 4000000 in
theorem reckoned_any14 (s : Sg) (a : Option Addr) (ca : Nat) (ao : Option Addr) (cap : Nat) (t : List Ng) (p : Pt) (w : World) (C : CV w ao (flatG t)) (hw : walkG [] 0 t = .ok [p]) (ht : t.length ≤ 3000) (hn : ∀ x ∈ t, x.n ≤ 4294967295) (hc : Cells w a s.b) (hk : MSgOk s) (hcap : s.b.length ≤ ca) :
    Calls Tryz.prog 52 #[.slice ao t.length cap, tellA s a ca] w fun e w' => e = .returned (pmA ((evalM s [] t).getD 0 pm0)) ∧ w.grownBy w' none := by
  obtain ⟨q, hq, -⟩ := eval_one hk.len hn hw
  rw [hq, show [q].getD 0 pm0 = q from rfl]
  have T1 := QB.alloc w pm0
  have K1 := World.grownBy_alloc w (.cells (pmC pm0) 71) none
  have e1 : (w.alloc (.cells (pmC pm0) 71)).heap.size = w.heap.size + 1 := by simp
  have K2 := World.grownBy_alloc (w.alloc (.cells (pmC pm0) 71)) (.cells #[tellA s a ca, .slice none 0 0] 109) none
  have D2 : RD ((w.alloc (.cells (pmC pm0) 71)).alloc (.cells #[tellA s a ca, .slice none 0 0] 109)) (w.heap.size + 1) s a ca (.slice none 0 0) := by
    have := VAt.alloc (w.alloc (.cells (pmC pm0) 71)) 109 #[tellA s a ca, .slice none 0 0]
    rw [e1] at this
    exact this
  have T2 := T1.kept K2
  have R2 : RS w ((w.alloc (.cells (pmC pm0) 71)).alloc (.cells #[tellA s a ca, .slice none 0 0] 109)) (w.heap.size + 1) s a ca (.slice none 0 0) [] := ⟨grown_trans K1 K2, D2, Nat.le_succ _, World.ownsRow_nil _ _ _ _, Nat.zero_le _⟩
  have HNT : Hid (¬ ft (w.heap.size + 1) (.slice none 0 0) w.heap.size) := by
    rintro (h | h)
    · omega
    · cases h
  have HBR := build_rd (.agg (viewC s a ca))
  have HST : Hid (∀ k, (hk : k < t.length) → ∃ ps ps', StM ps (evalM s [] (t.take k)) ∧ stepG t[k] ps = .ok ps' ∧ (evalM s [] (t.take k)).length ≤ 2999) := fun k hk2 => by
    obtain ⟨ps, ps', h1, h2⟩ := walk_take hw hk2
    have h3 := eval_st hk.len (t.take k) [] ps [] 0 (fun x hx => hn x (List.mem_of_mem_take hx)) h1 .nil
    refine ⟨ps, ps', h3, h2, ?_⟩
    have h4 := walkG_len (t.take k) [] ps 0 h1
    have h5 := h3.len
    simp only [List.length_nil, List.length_take] at h4
    omega
  have HQ : Hid (evalM s [] t = [q]) := hq
  have HC : Hid (CV w ao (flatG t)) := C
  have HB : Hid (Cells w a s.b ∧ MSgOk s ∧ s.b.length ≤ ca) := ⟨hc, hk, hcap⟩
  have HPS := mpart_size
  clear hq hn hw hcap hk hc K1 K2 D2 T1 e1 C
  obtain ⟨VC, hVC⟩ : ∃ VC, viewC s a ca = VC := ⟨_, rfl⟩
  have HVC : Hid (viewC s a ca = VC) := hVC
  simp only [tellA] at R2 T2 ⊢
  rw [hVC] at HBR R2 T2 ⊢
  clear hVC
  go_enter Tryz.func52, Tryz.ntmps52
  go_upto_region 2 with fail
  rw [show (#[.int .i64 0, .int .u32 0] : Array Value) = pmC pm0 from rfl]
  generalize (w.alloc (.cells (pmC pm0) 71)).alloc (.cells #[.iface 86 (.agg VC), .slice none 0 0] 109) = w2 at *
  have HT0 : Hid (w.heap.size ≤ w.heap.size) := Nat.le_refl _
  generalize w.heap.size + 1 = g at *
  obtain ⟨T, hT⟩ : ∃ T, w.heap.size = T := ⟨_, rfl⟩
  rw [hT] at HNT T2 HT0 ⊢
  have HT : Hid (w.heap.size = T) := hT
  clear hT HBR
  go_wp2
  go_loopw [12] (fun i wr => ∃ (k : Nat) (v : Value), k ≤ t.length ∧ i = .int .i64 k ∧ RS w wr g s a ca v (evalM s [] (t.take k)) ∧ VAt wr T 71 (pmC pm0) ∧ ¬ ft g v T) (fun i _ => t.length - (intOf i).toNat)
  case atStart => exact ⟨0, .slice none 0 0, Nat.zero_le _, rfl, R2, T2.vat, HNT.out⟩
  case round =>
    clear R2 T2 HNT
    obtain ⟨k, v, hk, rfl, R, VT, hNT⟩ := hrel
    by_cases hlt : k < t.length
    · obtain ⟨b, o, rfl, hcc⟩ := (HC.out.keptNone R.grown).ngs hlt
      have HR : Hid (wr.rangeAt b (o + k * 24) t[k].cells) := hcc k hlt
      have HZ : Hid ((Tryz.prog.info? 37).map (·.size) = some t[k].cells.length ∧ (Tryz.prog.info? 37).map (·.size) = some t[k].cells.toArray.size ∧ 24 = t[k].cells.toArray.size ∧ t[k].cells.toArray.all (·.oneCell') = true) := ⟨ng_len _, ng_size _, rfl, ng_all _⟩
      have HCR : Hid (∀ W, RS w W g s a ca v (evalM s [] (t.take k)) → Calls Tryz.prog 66 #[.pointer (some ⟨g, 0, none⟩), .agg t[k].cells.toArray] W fun e w' => e = .returned (.tuple #[]) ∧ Lft w W g s a ca v (evalM s [] (t.take (k + 1))) w') := fun W RW => by
        obtain ⟨ps, ps', h1, h2, h3⟩ := HST.out k hlt
        rw [eval_next s t hlt]
        exact read_any14 RW HB.out.1 HB.out.2.1 HB.out.2.2 h3 h1 h2
      have HRR : Hid (RS w wr g s a ca v (evalM s [] (t.take k))) := R
      have HVT : Hid (VAt wr T 71 (pmC pm0)) := VT
      have HNT : Hid (¬ ft g v T) := hNT
      generalize t[k].cells = cs at *
      have hl : (k : Int) < (t.length : Int) := by omega
      have z0 : (0 : Int) ≤ (k : Int) := by omega
      have w3 : IntKind.i64.wrap ((k : Int) + 1) = (k : Int) + 1 := by rw [IntKind.wrap_i64]; omega
      clear hcc R VT hNT
      go_upto_region 5 with (first | refine wpList_load_mid rfl 37 (.tmp 14) rfl b (o + k * 24) (by simp [Act.eval]) cs _ HR.out Tryz.underlying37 rfl HZ.out.1 ?_ | refine wpList_store_row rfl 37 (.tmp 7) (.tmp 15) rfl wr.heap.size cs.toArray rfl rfl 37 _ (heap_alloc_new wr _) HZ.out.2.1 HZ.out.2.2.1 HZ.out.2.2.2 ?_)
      rw [World.setRow_alloc_new]
      have V := VAt.alloc wr 37 cs.toArray
      have K3 := World.grownBy_alloc wr (.cells cs.toArray 37) none
      have R3 := HRR.out.keep K3
      have T3 := HVT.out.kept K3
      generalize wr.alloc (.cells cs.toArray 37) = w3 at *
      generalize wr.heap.size = B at *
      clear HR HRR HVT K3
      go_wp2_with (refine wpList_load_row rfl 37 (.tmp 7) rfl B rfl 37 cs.toArray (0, 0) _ V Tryz.underlying37 rfl HZ.out.2.1 ?_)
      refine (HCR.out _ R3).mono ?_
      rintro e w4 ⟨rfl, v4, R4, G4, F4⟩
      have T4 := G4.vat T3 HNT.out
      have N4 : ¬ ft g v4 T := fun e => HNT.out (F4 T T3.lt e)
      clear V R3 T3 HCR G4 F4
      go_wp2
      go_roundw
      case rel => exact ⟨k + 1, v4, by omega, by go_num, R4, T4, N4⟩
      case measure => simp [intOf]; omega
    · obtain rfl : k = t.length := by omega
      rw [List.take_length, HQ.out] at R
      have CT := take_any14 w s a ca g v [] q wr R
      have HVT : Hid (VAt wr T 71 (pmC pm0)) := VT
      have HNT : Hid (¬ ft g v T) := hNT
      clear R VT hNT
      go_wp2_with fail
      refine CT.mono ?_
      rintro e w5 ⟨rfl, v5, R5, G5, F5⟩
      have T5 := G5.vat HVT.out HNT.out
      have G := R5.grown
      clear CT R5 G5 F5
      go_wp2_with (refine wpList_store_row rfl 71 (.tmp 4) (.tmp 19) rfl T (pmC q) rfl rfl 71 _ T5 (HPS _) rfl (part_all _) ?_)
      refine bodyPost_ret (results_cell_row rfl _ _ T 71 (pmC q) (0, 0) _ rfl (T5.setRow _) Tryz.underlying71 rfl (HPS _)) rfl ?_
      exact ⟨rfl, put_part G (by rw [HT.out]; exact Nat.le_refl _)⟩
end Go.Proofs.YtnojpepjloceoaaGreat

namespace Go.Proofs.YtnojpepjloceoaaGreat
open Go.RowKit
set_option maxRecDepth 100000

/-- A boxed view, and a second behind it. -/
theorem two_views (w : World) (t s : Nat) (ds cs : Array Value) :
    VAt ((w.alloc (.cells ds t)).alloc (.cells cs s)) w.heap.size t ds ∧ VAt ((w.alloc (.cells ds t)).alloc (.cells cs s)) (w.heap.size + 1) s cs ∧ w.grownBy ((w.alloc (.cells ds t)).alloc (.cells cs s)) none := by
  have A0 := VAt.alloc w t ds
  have A1 := VAt.alloc (w.alloc (.cells ds t)) s cs
  have K1 := World.grownBy_alloc (w.alloc (.cells ds t)) (.cells cs s) none
  rw [show (w.alloc (.cells ds t)).heap.size = w.heap.size + 1 by simp] at A1
  exact ⟨A0.kept K1, A1, grown_trans (World.grownBy_alloc w _ none) K1⟩

theorem mod_and_u8 (h k : Nat) (hh : h < 256) (hk : k ≤ 8) : bits .and .u8 (h : Int) ((2 ^ k - 1 : Nat) : Int) = ((h % 2 ^ k : Nat) : Int) := by
  have hlt : 2 ^ k ≤ 2 ^ 8 := Nat.pow_le_pow_right (by decide) hk
  have := u8_and_nat h (2 ^ k - 1) hh (by omega)
  rw [this, Nat.and_two_pow_sub_one_eq_mod]
theorem and15 (x : Nat) (h : x < 256) : bits BinOp.and IntKind.u8 (x : Int) 15 = ((x % 16 : Nat) : Int) := by
  have := mod_and_u8 x 4 h (by decide)
  exact this
theorem and31 (x : Nat) (h : x < 256) : bits BinOp.and IntKind.u8 (x : Int) 31 = ((x % 32 : Nat) : Int) := by
  have := mod_and_u8 x 5 h (by decide)
  exact this

theorem two_sets {w wa : World} {L R t : Nat} {v : Vw} (LA : VAt wa L t (vwA v)) (RA : VAt wa R t (vwA Vw.zero)) (G : w.grownBy wa none) (hRL : R ≠ L) (hL : w.heap.size ≤ L) (n1 n2 : Nat) :
    VAt ((wa.setCell ⟨L, 6, none⟩ (.int .i64 (n1 : Int))).setCell ⟨L, 7, none⟩ (.int .i64 (n2 : Int))) L t (vwA { v with net := n1, next := n2 })
    ∧ VAt ((wa.setCell ⟨L, 6, none⟩ (.int .i64 (n1 : Int))).setCell ⟨L, 7, none⟩ (.int .i64 (n2 : Int))) R t (vwA Vw.zero)
    ∧ w.grownBy ((wa.setCell ⟨L, 6, none⟩ (.int .i64 (n1 : Int))).setCell ⟨L, 7, none⟩ (.int .i64 (n2 : Int))) none :=
  ⟨(LA.set 6 _).set 7 _, (RA.setOther _ hRL).setOther _ hRL, grown_setCell (grown_setCell G _ _ (.inr hL)) _ _ (.inr hL)⟩
theorem three_sets {w wa : World} {L R t : Nat} {v : Vw} (LA : VAt wa L t (vwA v)) (RA : VAt wa R t (vwA Vw.zero)) (G : w.grownBy wa none) (hRL : R ≠ L) (hL : w.heap.size ≤ L) (n1 n2 n3 : Nat) :
    VAt (((wa.setCell ⟨L, 6, none⟩ (.int .i64 (n1 : Int))).setCell ⟨L, 7, none⟩ (.int .i64 (n2 : Int))).setCell ⟨L, 8, none⟩ (.int .i64 (n3 : Int))) L t (vwA { v with net := n1, next := n2, load := n3 })
    ∧ VAt (((wa.setCell ⟨L, 6, none⟩ (.int .i64 (n1 : Int))).setCell ⟨L, 7, none⟩ (.int .i64 (n2 : Int))).setCell ⟨L, 8, none⟩ (.int .i64 (n3 : Int))) R t (vwA Vw.zero)
    ∧ w.grownBy (((wa.setCell ⟨L, 6, none⟩ (.int .i64 (n1 : Int))).setCell ⟨L, 7, none⟩ (.int .i64 (n2 : Int))).setCell ⟨L, 8, none⟩ (.int .i64 (n3 : Int))) none := by
  obtain ⟨h1, h2, h3⟩ := two_sets LA RA G hRL hL n1 n2
  exact ⟨h1.set 8 _, h2.setOther _ hRL, grown_setCell h3 _ _ (.inr hL)⟩

end Go.Proofs.YtnojpepjloceoaaGreat

namespace Go.Proofs.YtnojpepjloceoaaGreat
open Go.RowKit
set_option maxRecDepth 100000

theorem piece_err {l : Lk} {b : List UInt8} {e : Int} (h : pieceV l b = .error e) : (e != 0) = true := by
  unfold pieceV at h
  split at h
  · cases h; rfl
  · cases hp : plainV l b with
    | error x => rw [hp] at h; cases h; exact plain_err hp
    | ok p =>
      rw [bind_of hp] at h
      cases hq : protoV l b p with
      | error x => rw [hq] at h; cases h; exact proto_err hq
      | ok q =>
        rw [bind_of hq] at h
        split at h
        · cases h
        · cases hh : headV l b q.2 with
          | error x => rw [hh] at h; cases h; exact head_err hh
          | ok z => rw [bind_of hh] at h; cases h

end Go.Proofs.YtnojpepjloceoaaGreat
