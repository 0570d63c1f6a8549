/-
  Chapter 12 in words: what follows of lists that are laid together. No Go text here. What a filter says of a frame, node by node: the parts that stand beside what chapter 12 says of them. No Go text here.
-/
import Derived.Test.YtblpmgkagbiogaaGreatLotP32
import Derived.Test.YtblpmgkagbiogaaGreatLotP9
import Derived.Test.YtblpmgkagbiogaaGreatTyJ
namespace Go.Proofs.YtblpmgkagbiogaaGreat
open Go.RowKit
set_option maxRecDepth 100000

theorem walkG_more {l : List Ng} (m : List Ng) {st : List Pt} {k : Nat} {x : Nat × Int} (h : walkG st k l = .error x) : walkG st k (l ++ m) = .error x := by rw [walkG_app, h]
theorem walkG_cut : ∀ (l : List Ng) (st : List Pt) (k : Nat) {p : Nat} {e : Int}, walkG st k l = .error (p, e) → walkG st k (l.take (p - k + 1)) = .error (p, e)
  | [], st, k, p, e, h => by cases h
  | x :: l, st, k, p, e, h => by
    have hp := walkG_at (x :: l) st k h
    simp only [walkG] at h
    rw [List.take_succ_cons, walkG]
    cases hs : stepG x st with
    | error e' => rw [hs] at h; exact h
    | ok s =>
      rw [hs] at h
      have h2 := walkG_at l s (k + 1) h
      have := walkG_cut l s (k + 1) h
      rw [show p - (k + 1) + 1 = p - k by omega] at this
      exact this
theorem joinG_truth (x : Ng) (ps : List Pt) : (joinG x ps).truth = truthG x.kind := by
  unfold joinG
  split
  · split <;> rfl
  · rfl
theorem stepG_last {x : Ng} {st s : List Pt} (h : stepG x st = .ok s) : ∃ s' p, s = s' ++ [p] ∧ p.truth = truthG x.kind := by
  unfold stepG at h
  split at h
  · cases h
  · split at h
    · cases h
    · split at h
      · cases h
      · cases h
        exact ⟨_, _, rfl, joinG_truth _ _⟩
theorem checkG_er {t : List Ng} {x : Nat × Int} (h : walkG [] 0 t = .error x) : checkG t = x := by rw [checkG, h]
/-- What is wrong with a node. -/
theorem check_first {t : List Ng} {p : Nat} {e : Int} (h : checkG t = (p, e)) (h0 : e ≠ 0) (h1 : e ≠ 126) (h2 : p < t.length) (h3 : e = 121 → t[p].kind = 7 ∨ t[p].kind = 8 ∨ t[p].kind = 9) : walkG [] 0 t = .error (p, e) := by
  cases hw : walkG [] 0 t with
  | error x => rw [checkG_er hw] at h; rw [h]
  | ok st =>
    exfalso
    rw [checkG, hw] at h
    simp only at h
    split at h
    · cases h; omega
    · rename_i hl
      split at h
      · rename_i htr
        cases h
        have hne : t ≠ [] := by intro e0; rw [e0] at h2; simp at h2
        have hsplit := List.dropLast_concat_getLast hne
        have hwl : walkG [] 0 (t.dropLast ++ [t.getLast hne]) = .ok st := by rw [hsplit]; exact hw
        rw [walkG_app] at hwl
        cases hb : walkG [] 0 t.dropLast with
        | error x => rw [hb] at hwl; cases hwl
        | ok s1 =>
          rw [hb] at hwl
          simp only [walkG] at hwl
          cases hs : stepG (t.getLast hne) s1 with
          | error e' => rw [hs] at hwl; cases hwl
          | ok s2 =>
            rw [hs] at hwl
            cases hwl
            obtain ⟨s', q, rfl, hq⟩ := stepG_last hs
            have hl1 : s' = [] := by
              rw [List.length_append, List.length_singleton] at hl
              exact List.eq_nil_of_length_eq_zero (by omega)
            subst hl1
            simp only [List.nil_append, List.getD_cons_zero] at htr
            rw [hq] at htr
            have h4 := h3 rfl
            have : t[t.length - 1] = t.getLast hne := by rw [List.getLast_eq_getElem]
            rw [this] at h4
            unfold truthG at htr
            rw [decide_eq_false_iff_not] at htr
            omega
      · split at h
        · cases h; exact h1 rfl
        · cases h; exact h0 rfl

/-- Beside parts that stand already. -/
theorem stepG_frame {x : Ng} {st s : List Pt} (st0 : List Pt) (h : stepG x st = .ok s) : stepG x (st0 ++ st) = .ok (st0 ++ s) := by
  unfold stepG at h ⊢
  split at h
  · cases h
  · rename_i a ha
    split at h
    · cases h
    · rename_i hl
      have hd : (st0 ++ st).drop ((st0 ++ st).length - a) = st.drop (st.length - a) := by
        rw [List.length_append, show st0.length + st.length - a = st0.length + (st.length - a) by omega, List.drop_append, List.drop_eq_nil_of_le (by omega), List.nil_append, Nat.add_sub_cancel_left]
      have ht : (st0 ++ st).take ((st0 ++ st).length - a) = st0 ++ st.take (st.length - a) := by
        rw [List.length_append, show st0.length + st.length - a = st0.length + (st.length - a) by omega, List.take_append, List.take_of_length_le (by omega), Nat.add_sub_cancel_left]
      split at h
      · cases h
      · rename_i hf
        cases h
        rw [if_neg (by rw [List.length_append]; omega), hd, if_neg hf, ht, List.append_assoc]
theorem walkG_frame : ∀ (l : List Ng) (st s st0 : List Pt) (k k' : Nat), walkG st k l = .ok s → walkG (st0 ++ st) k' l = .ok (st0 ++ s)
  | [], st, s, st0, k, k', h => by cases h; rfl
  | x :: l, st, s, st0, k, k', h => by
    simp only [walkG] at h ⊢
    cases hs : stepG x st with
    | error e => rw [hs] at h; cases h
    | ok s1 =>
      rw [hs] at h
      rw [stepG_frame st0 hs]
      exact walkG_frame l s1 s st0 (k + 1) (k' + 1) h
theorem walkG_place {l : List Ng} {st s : List Pt} {k : Nat} (k' : Nat) (h : walkG st k l = .ok s) : walkG st k' l = .ok s := by
  have := walkG_frame l st s [] k k' h
  simpa using this

theorem heavy_none : ∀ (l : List Ng) (w k : Nat), heavyG w k l = none ↔ (l = [] ∨ w + weightG l ≤ 3000)
  | [], w, k => by simp [heavyG]
  | x :: l, w, k => by
    have e : weightG (x :: l) = weighG x + weightG l := by simp [weightG]
    simp only [heavyG]
    by_cases h : 3000 < w + weighG x
    · rw [if_pos h]
      constructor
      · intro h2; cases h2
      · intro h2; rcases h2 with h2 | h2
        · cases h2
        · omega
    · rw [if_neg h, heavy_none l (w + weighG x) (k + 1)]
      constructor
      · rintro (rfl | h2)
        · right; rw [e]; simp [weightG]; omega
        · right; omega
      · rintro (h2 | h2)
        · cases h2
        · right; omega
/-- A filter. -/
theorem filt_iff {t : List Ng} : (checkG t).2 = 0 ↔ ∃ p, walkG [] 0 t = .ok [p] ∧ p.truth = true ∧ weightG t ≤ 3000 := by
  constructor
  · intro h
    cases hw : walkG [] 0 t with
    | error x =>
      obtain ⟨k, e⟩ := x
      rw [checkG_er hw] at h
      have := walkG_er t [] 0 hw
      simp only at h
      omega
    | ok st =>
      rw [checkG, hw] at h
      simp only at h
      split at h
      · cases h
      · rename_i hl
        split at h
        · cases h
        · rename_i ht
          match st, hl with
          | [p], _ =>
            refine ⟨p, rfl, by simpa using ht, ?_⟩
            cases hh : heavyG 0 0 t with
            | some q => rw [hh] at h; cases h
            | none =>
              rcases (heavy_none t 0 0).1 hh with rfl | h2
              · simp [weightG]
              · omega
          | [], hl => exact absurd (by simp) hl
          | _ :: _ :: _, hl => exact absurd (by simp) hl
  · rintro ⟨p, hw, hp, hwt⟩
    rw [checkG, hw]
    simp only [List.length_singleton, ne_eq, not_true_eq_false, if_false, List.getD_cons_zero, hp]
    rw [(heavy_none t 0 0).2 (.inr (by omega))]
    rfl
theorem filt_ne {t : List Ng} {p : Pt} (h : walkG [] 0 t = .ok [p]) : t ≠ [] := by
  intro e
  rw [e] at h
  cases h
theorem weighG_pos {x : Ng} (h : 1 ≤ x.kind ∧ x.kind ≤ 16) : 1 ≤ weighG x := by
  obtain ⟨k, hk⟩ : ∃ k : Nat, x.kind = k := Int.eq_ofNat_of_zero_le (by omega)
  unfold weighG
  rw [hk]
  rcases sixteen (k := k) (by omega) (by omega) with rfl | rfl | rfl | rfl | rfl | rfl | rfl | rfl | rfl | rfl | rfl | rfl | rfl | rfl | rfl | rfl
  all_goals first
    | exact Nat.le_refl 1
    | (show 1 ≤ (_ : Nat); simp; done)
    | (simp; split <;> omega)
theorem walkG_weighs : ∀ (l : List Ng) (st s : List Pt) (k : Nat), walkG st k l = .ok s → l.length ≤ weightG l
  | [], _, _, _, _ => Nat.le_refl _
  | x :: l, st, s, k, h => by
    simp only [walkG] at h
    cases hs : stepG x st with
    | error e => rw [hs] at h; cases h
    | ok s1 =>
      rw [hs] at h
      have := walkG_weighs l s1 s (k + 1) h
      have hx : 1 ≤ weighG x := by
        unfold stepG at hs
        split at hs
        · cases hs
        · rename_i a ha
          exact weighG_pos (arG_in ha)
      have e : weightG (x :: l) = weighG x + weightG l := by simp [weightG]
      rw [List.length_cons]
      omega
theorem filt_len {t : List Ng} (h : (checkG t).2 = 0) : t.length ≤ 3000 := by
  obtain ⟨p, hw, -, hwt⟩ := filt_iff.1 h
  have := walkG_weighs t [] _ 0 hw
  omega

/-- A node behind a walk. -/
theorem walkG_snoc {t : List Ng} {st : List Pt} (x : Ng) (h : walkG [] 0 t = .ok st) : walkG [] 0 (t ++ [x]) = match stepG x st with | .error e => .error (t.length, e) | .ok s => .ok s := by
  rw [walkG_app, h]
  simp only [walkG, Nat.zero_add]
  cases stepG x st <;> rfl

end Go.Proofs.YtblpmgkagbiogaaGreat

namespace Go.Proofs.YtblpmgkagbiogaaGreat
open Go.RowKit
set_option maxRecDepth 100000

theorem mjoin_fixed {x : Ng} {ps : List Pt} (h : (joinG x ps).fixed = true) : (∀ p ∈ ps, p.fixed = true) ∧ valG x ps = some (joinG x ps).val := by
  unfold joinG at h ⊢
  split
  · rename_i ha
    rw [if_pos ha] at h
    refine ⟨fun p hp => by simpa using List.all_eq_true.1 ha p hp, ?_⟩
    cases e : valG x ps with
    | none => rw [e] at h; cases h
    | some v => rfl
  · rename_i ha
    rw [if_neg ha] at h
    cases h

theorem mfault_zero {x : Ng} {ps : List Pt} (h : faultG x ps = 0) : formG x = true ∧ kindE x.kind ps = 0 ∧ zeroE x ps = false ∧ rangeE x = 0 := by
  unfold faultG at h
  split at h
  · exact absurd h (by decide)
  · rename_i h1
    split at h
    · rename_i h2; exact absurd h h2
    · rename_i h2
      split at h
      · exact absurd h (by decide)
      · rename_i h3
        exact ⟨by simpa using h1, by simpa using h2, by simpa using h3, h⟩

theorem over_ok {s : Sg} {x : Ng} {ps : List Pt} {qs : List Pm} (hb : s.b.length ≤ 65535) (hn : x.n ≤ 4294967295) (h : StM ps qs) (ha : arG x.kind = some ps.length) (hf : faultG x ps = 0) : PmOk (joinG x ps) (overM s x qs) := by
  have hl := h.len
  have hz := (mfault_zero hf).2.2.1
  have hfx : (joinG x ps).fixed = true → (∀ p ∈ ps, p.fixed = true) ∧ valG x ps = some (joinG x ps).val := mjoin_fixed
  have htr := joinG_truth x ps
  generalize joinG x ps = J at *
  have hno : (x.kind ≠ 1 ∧ x.kind ≠ 4 ∧ x.kind ≠ 5) → J.fixed = true → False := fun hk e => by
    have := (hfx e).2
    unfold valG at this
    rw [if_neg hk.1, if_neg hk.2.1, if_neg hk.2.2] at this
    cases this
  have htl : x.kind < 6 → J.truth = true → False := fun hk e => by
    rw [htr, truthG] at e
    have := of_decide_eq_true e
    omega
  rcases arG_cases ha with ⟨h1, hk⟩ | ⟨h1, hk⟩ | ⟨h1, hk⟩
  · match ps, qs, h, h1, hl with
    | [p], [q], .cons h0 _, _, _ =>
      rcases hk with hk | hk | hk
      · have e : overM s x [q] = loadM s x q := by simp [overM, hk]
        rw [e]
        have hL : Hw (loadM s x q).how ∧ (loadM s x q).val ≤ 4294967295 ∧ ((loadM s x q).how ≠ 1 → (loadM s x q).val = 0) := by
          unfold loadM
          split
          · exact ⟨.inl rfl, by simp, fun _ => rfl⟩
          · split
            · exact ⟨h0.how, h0.val, h0.none⟩
            · cases en : numM s.b ((baseM s.v x.of).1 + q.val) x.size with
              | none => exact ⟨.inr (.inr rfl), by simp, fun _ => rfl⟩
              | some k => exact ⟨.inr (.inl rfl), num_lt en, fun hh => absurd rfl hh⟩
        exact ⟨hL.1, hL.2.1, hL.2.2, fun ht => (htl (by omega) ht).elim, fun hh => (hno (by omega) hh).elim⟩
      · have e : overM s x [q] = minusM q := by simp [overM, hk]
        rw [e]
        unfold minusM
        split
        · rename_i hq
          refine ⟨h0.how, h0.val, h0.none, fun ht => (htl (by omega) ht).elim, fun hh => ?_⟩
          exact absurd (h0.fixed ((hfx hh).1 p (by simp))).1 hq
        · rename_i hq
          refine ⟨.inr (.inl rfl), minusG_le _, fun hh => absurd rfl hh, fun ht => (htl (by omega) ht).elim, fun hh => ⟨rfl, ?_⟩⟩
          have h2 := (hfx hh).2
          have h3 := h0.fixed ((hfx hh).1 p (by simp))
          simp [valG, hk] at h2
          rw [← h2, h3.2]
      · have e : overM s x [q] = ⟨notM q.how, 0⟩ := by simp [overM, hk]
        rw [e]
        exact ⟨hw_not h0.how, Nat.zero_le _, fun _ => rfl, fun _ => rfl, fun hh => (hno (by omega) hh).elim⟩
  · match ps, qs, h, h1, hl with
    | [p, p'], [q, q'], .cons h0 (.cons h2 _), _, _ =>
      rcases hk with hk | hk | hk | hk
      · have e : overM s x [q, q'] = arithM x.op q q' := by simp [overM, hk]
        rw [e]
        unfold arithM
        split
        · rename_i hj
          refine ⟨hw_joint h2.how, Nat.zero_le _, fun _ => rfl, fun _ => rfl, fun hh => ?_⟩
          have a1 := h0.fixed ((hfx hh).1 p (by simp))
          have a2 := h2.fixed ((hfx hh).1 p' (by simp))
          exfalso
          apply hj
          simp [jointM, a1.1, a2.1]
        · split
          · rename_i hd
            refine ⟨.inr (.inr rfl), Nat.zero_le _, fun _ => rfl, fun _ => rfl, fun hh => ?_⟩
            have a2 := h2.fixed ((hfx hh).1 p' (by simp))
            exfalso
            have : zeroE x [p, p'] = true := by
              simp [zeroE, hk, hd.1, (hfx hh).1 p' (by simp)]
              rw [← a2.2]; exact hd.2
            rw [this] at hz
            cases hz
          · refine ⟨.inr (.inl rfl), arithG_le h0.val h2.val, fun hh => absurd rfl hh, fun ht => (htl (by omega) ht).elim, fun hh => ⟨rfl, ?_⟩⟩
            have b2 := (hfx hh).2
            have a1 := h0.fixed ((hfx hh).1 p (by simp))
            have a2 := h2.fixed ((hfx hh).1 p' (by simp))
            simp [valG, hk] at b2
            rw [← b2, a1.2, a2.2]
      · have e : overM s x [q, q'] = ⟨relM x.op q q', 0⟩ := by simp [overM, hk]
        rw [e]
        refine ⟨?_, Nat.zero_le _, fun _ => rfl, fun _ => rfl, fun hh => (hno (by omega) hh).elim⟩
        show Hw (relM x.op q q')
        unfold relM
        split
        · exact hw_joint h2.how
        · exact jdg_how _
      · have e : overM s x [q, q'] = ⟨andM q.how q'.how, 0⟩ := by simp [overM, hk]
        rw [e]
        exact ⟨hw_and h0.how h2.how, Nat.zero_le _, fun _ => rfl, fun _ => rfl, fun hh => (hno (by omega) hh).elim⟩
      · have e : overM s x [q, q'] = ⟨orM q.how q'.how, 0⟩ := by simp [overM, hk]
        rw [e]
        exact ⟨hw_or h0.how h2.how, Nat.zero_le _, fun _ => rfl, fun _ => rfl, fun hh => (hno (by omega) hh).elim⟩
  · by_cases k1 : x.kind = 1
    · have e : overM s x qs = ⟨1, x.n⟩ := by simp [overM, k1]
      rw [e]
      refine ⟨.inr (.inl rfl), hn, fun hh => absurd rfl hh, fun ht => (htl (by omega) ht).elim, fun hh => ⟨rfl, ?_⟩⟩
      have b2 := (hfx hh).2
      simp [valG, k1] at b2
      exact b2
    · by_cases k2 : x.kind = 2
      · have e : overM s x qs = ⟨1, s.b.length⟩ := by simp [overM, k2]
        rw [e]
        exact ⟨.inr (.inl rfl), Nat.le_trans hb (by omega), fun hh => absurd rfl hh, fun ht => (htl (by omega) ht).elim, fun hh => (hno (by omega) hh).elim⟩
      · have hk' : 10 ≤ x.kind := by omega
        have e : overM s x qs = ⟨truthM s x, 0⟩ := by
          unfold overM
          rw [if_neg k1, if_neg k2, if_neg (by omega), if_neg (by omega), if_neg (by omega), if_neg (by omega), if_neg (by omega), if_neg (by omega), if_neg (by omega)]
        rw [e]
        exact ⟨hw_truth s x, Nat.zero_le _, fun _ => rfl, fun _ => rfl, fun hh => (hno (by omega) hh).elim⟩

/-- What a node that is taken says. -/
theorem mstep_inv {x : Ng} {st st' : List Pt} (h : stepG x st = .ok st') : ∃ a, arG x.kind = some a ∧ a ≤ st.length ∧ faultG x (st.drop (st.length - a)) = 0 ∧ st' = st.take (st.length - a) ++ [joinG x (st.drop (st.length - a))] := by
  unfold stepG at h
  cases ha : arG x.kind with
  | none => rw [ha] at h; cases h
  | some a =>
    rw [ha] at h
    simp only at h
    split at h
    · cases h
    · split at h
      · cases h
      · cases h
        exact ⟨a, rfl, by omega, by omega, rfl⟩
theorem step_st {s : Sg} {x : Ng} {st st' : List Pt} {qs : List Pm} (hb : s.b.length ≤ 65535) (hn : x.n ≤ 4294967295) (h : stepG x st = .ok st') (hs : StM st qs) : StM st' (stpM s qs x) := by
  obtain ⟨a, ha, hl, hf, rfl⟩ := mstep_inv h
  have e := hs.len
  unfold stpM
  rw [ha, Option.getD_some, ← e]
  refine (hs.take _).append (.one (over_ok hb hn (hs.drop _) ?_ hf))
  rw [ha, List.length_drop]
  congr 1
  omega
theorem eval_st {s : Sg} (hb : s.b.length ≤ 65535) : ∀ (t : List Ng) (st st' : List Pt) (qs : List Pm) (k : Nat), (∀ x ∈ t, x.n ≤ 4294967295) → walkG st k t = .ok st' → StM st qs → StM st' (evalM s qs t)
  | [], st, st', qs, k, _, h, hs => by cases h; exact hs
  | x :: t, st, st', qs, k, hn, h, hs => by
    simp only [walkG] at h
    cases e : stepG x st with
    | error e' => rw [e] at h; cases h
    | ok s1 =>
      rw [e] at h
      exact eval_st hb t s1 st' _ (k + 1) (fun y hy => hn y (.tail _ hy)) h (step_st hb (hn x (.head _)) e hs)
theorem eval_app (s : Sg) (qs : List Pm) (t u : List Ng) : evalM s qs (t ++ u) = evalM s (evalM s qs t) u := by unfold evalM; rw [List.foldl_append]

/-- A list that is compared is a filter just if it is a number. -/
theorem step_zero (st : List Pt) : stepG zeroN st = .ok (st ++ [⟨false, true, 0⟩]) := by
  have e : stepG zeroN [] = .ok [⟨false, true, 0⟩] := by rfl
  have := stepG_frame st e
  simpa using this
theorem step_eq (p : Pt) (st : List Pt) (h : p.truth = false) : stepG eqN (st ++ [p, ⟨false, true, 0⟩]) = .ok (st ++ [⟨true, false, 0⟩]) := by
  obtain ⟨pt, pf, pv⟩ := p
  cases h
  have e : stepG eqN [⟨false, pf, pv⟩, ⟨false, true, 0⟩] = .ok [⟨true, false, 0⟩] := by
    cases pf <;> rfl
  exact stepG_frame st e
theorem cmpd_iff {t : List Ng} : (checkG (cmpdM t)).2 = 0 ↔ ∃ p, walkG [] 0 t = .ok [p] ∧ p.truth = false ∧ weightG t ≤ 2991 := by
  have hw : weightG (cmpdM t) = weightG t + 9 := by simp [cmpdM, weightG, zeroN, eqN, weighG]
  rw [filt_iff, hw]
  have e : cmpdM t = (t ++ [zeroN]) ++ [eqN] := by simp [cmpdM]
  constructor
  · rintro ⟨p, h1, -, h3⟩
    cases hq : walkG [] 0 t with
    | error x =>
      rw [cmpdM, walkG_app, hq] at h1
      cases h1
    | ok st =>
      have h4 := walkG_snoc zeroN hq
      rw [step_zero] at h4
      have h5 := walkG_snoc eqN h4
      rw [← e, h1] at h5
      cases hs : stepG eqN (st ++ [⟨false, true, 0⟩]) with
      | error er => rw [hs] at h5; cases h5
      | ok s1 =>
        rw [hs] at h5
        obtain ⟨a, ha, hl, hf, hq2⟩ := mstep_inv hs
        have : a = 2 := by simpa [arG, eqN] using ha.symm
        subst this
        have h6 : s1.length = 1 := by cases h5; rfl
        rw [hq2] at h6
        simp at h6 hl
        match st, hl, h6 with
        | [q], _, _ =>
          refine ⟨q, rfl, ?_, by omega⟩
          have hk := (mfault_zero hf).2.1
          simp [kindE, eqN, wantsG] at hk
          exact hk
  · rintro ⟨p, h1, h2, h3⟩
    refine ⟨⟨true, false, 0⟩, ?_, rfl, by omega⟩
    have h4 := walkG_snoc zeroN h1
    rw [step_zero] at h4
    have h5 := walkG_snoc eqN h4
    have h6 := step_eq p [] h2
    simp only [List.nil_append] at h6
    rw [← e, show [p] ++ [(⟨false, true, 0⟩ : Pt)] = [p, ⟨false, true, 0⟩] from rfl, h6] at h5
    exact h5

/-- What a tree that stands comes to. -/
theorem eval_one {s : Sg} (hb : s.b.length ≤ 65535) {t : List Ng} {p : Pt} (hn : ∀ x ∈ t, x.n ≤ 4294967295) (h : walkG [] 0 t = .ok [p]) : ∃ q, evalM s [] t = [q] ∧ PmOk p q := by
  have := eval_st hb t [] [p] [] 0 hn h .nil
  match hq : evalM s [] t, this with
  | [q], .cons h _ => exact ⟨q, rfl, h⟩
end Go.Proofs.YtblpmgkagbiogaaGreat
