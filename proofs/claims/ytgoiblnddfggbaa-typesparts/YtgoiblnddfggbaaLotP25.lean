/-
  Chapter 12 in words: what follows of lists that are laid together. No Go text here. Chapter 12 in words: two filters laid together. No Go text here.
-/
import Derived.Test.YtgoiblnddfggbaaLotP23
import Derived.Test.YtgoiblnddfggbaaLotP24
namespace Go.Proofs.Ytgoiblnddfggbaa
open Go.RowKit
set_option maxRecDepth 100000

theorem walkG_more {l : List Ng} (m : List Ng) {st : List Pt} {k : Nat} {x : Nat × Int} (h : walkG st k l = .error x) : walkG st k (l ++ m) = .error x := by rw [walkG_app, h]
theorem walkG_cut : ∀ (l : List Ng) (st : List Pt) (k : Nat) {p : Nat} {e : Int}, walkG st k l = .error (p, e) → walkG st k (l.take (p - k + 1)) = .error (p, e)
  | [], st, k, p, e, h => by cases h
  | x :: l, st, k, p, e, h => by
    have hp := walkG_at (x :: l) st k h
    simp only [walkG] at h
    rw [List.take_succ_cons, walkG]
    cases hs : stepG x st with
    | error e' => rw [hs] at h; exact h
    | ok s =>
      rw [hs] at h
      have h2 := walkG_at l s (k + 1) h
      have := walkG_cut l s (k + 1) h
      rw [show p - (k + 1) + 1 = p - k by omega] at this
      exact this
theorem joinG_truth (x : Ng) (ps : List Pt) : (joinG x ps).truth = truthG x.kind := by
  unfold joinG
  split
  · split <;> rfl
  · rfl
theorem stepG_last {x : Ng} {st s : List Pt} (h : stepG x st = .ok s) : ∃ s' p, s = s' ++ [p] ∧ p.truth = truthG x.kind := by
  unfold stepG at h
  split at h
  · cases h
  · split at h
    · cases h
    · split at h
      · cases h
      · cases h
        exact ⟨_, _, rfl, joinG_truth _ _⟩
theorem checkG_er {t : List Ng} {x : Nat × Int} (h : walkG [] 0 t = .error x) : checkG t = x := by rw [checkG, h]
/-- What is wrong with a node. -/
theorem check_first {t : List Ng} {p : Nat} {e : Int} (h : checkG t = (p, e)) (h0 : e ≠ 0) (h1 : e ≠ 126) (h2 : p < t.length) (h3 : e = 121 → t[p].kind = 7 ∨ t[p].kind = 8 ∨ t[p].kind = 9) : walkG [] 0 t = .error (p, e) := by
  cases hw : walkG [] 0 t with
  | error x => rw [checkG_er hw] at h; rw [h]
  | ok st =>
    exfalso
    rw [checkG, hw] at h
    simp only at h
    split at h
    · cases h; omega
    · rename_i hl
      split at h
      · rename_i htr
        cases h
        have hne : t ≠ [] := by intro e0; rw [e0] at h2; simp at h2
        have hsplit := List.dropLast_concat_getLast hne
        have hwl : walkG [] 0 (t.dropLast ++ [t.getLast hne]) = .ok st := by rw [hsplit]; exact hw
        rw [walkG_app] at hwl
        cases hb : walkG [] 0 t.dropLast with
        | error x => rw [hb] at hwl; cases hwl
        | ok s1 =>
          rw [hb] at hwl
          simp only [walkG] at hwl
          cases hs : stepG (t.getLast hne) s1 with
          | error e' => rw [hs] at hwl; cases hwl
          | ok s2 =>
            rw [hs] at hwl
            cases hwl
            obtain ⟨s', q, rfl, hq⟩ := stepG_last hs
            have hl1 : s' = [] := by
              rw [List.length_append, List.length_singleton] at hl
              exact List.eq_nil_of_length_eq_zero (by omega)
            subst hl1
            simp only [List.nil_append, List.getD_cons_zero] at htr
            rw [hq] at htr
            have h4 := h3 rfl
            have : t[t.length - 1] = t.getLast hne := by rw [List.getLast_eq_getElem]
            rw [this] at h4
            unfold truthG at htr
            rw [decide_eq_false_iff_not] at htr
            omega
      · split at h
        · cases h; exact h1 rfl
        · cases h; exact h0 rfl

/-- Beside parts that stand already. -/
theorem stepG_frame {x : Ng} {st s : List Pt} (st0 : List Pt) (h : stepG x st = .ok s) : stepG x (st0 ++ st) = .ok (st0 ++ s) := by
  unfold stepG at h ⊢
  split at h
  · cases h
  · rename_i a ha
    split at h
    · cases h
    · rename_i hl
      have hd : (st0 ++ st).drop ((st0 ++ st).length - a) = st.drop (st.length - a) := by
        rw [List.length_append, show st0.length + st.length - a = st0.length + (st.length - a) by omega, List.drop_append, List.drop_eq_nil_of_le (by omega), List.nil_append, Nat.add_sub_cancel_left]
      have ht : (st0 ++ st).take ((st0 ++ st).length - a) = st0 ++ st.take (st.length - a) := by
        rw [List.length_append, show st0.length + st.length - a = st0.length + (st.length - a) by omega, List.take_append, List.take_of_length_le (by omega), Nat.add_sub_cancel_left]
      split at h
      · cases h
      · rename_i hf
        cases h
        rw [if_neg (by rw [List.length_append]; omega), hd, if_neg hf, ht, List.append_assoc]
theorem walkG_frame : ∀ (l : List Ng) (st s st0 : List Pt) (k k' : Nat), walkG st k l = .ok s → walkG (st0 ++ st) k' l = .ok (st0 ++ s)
  | [], st, s, st0, k, k', h => by cases h; rfl
  | x :: l, st, s, st0, k, k', h => by
    simp only [walkG] at h ⊢
    cases hs : stepG x st with
    | error e => rw [hs] at h; cases h
    | ok s1 =>
      rw [hs] at h
      rw [stepG_frame st0 hs]
      exact walkG_frame l s1 s st0 (k + 1) (k' + 1) h
theorem walkG_place {l : List Ng} {st s : List Pt} {k : Nat} (k' : Nat) (h : walkG st k l = .ok s) : walkG st k' l = .ok s := by
  have := walkG_frame l st s [] k k' h
  simpa using this

theorem heavy_none : ∀ (l : List Ng) (w k : Nat), heavyG w k l = none ↔ (l = [] ∨ w + weightG l ≤ 3000)
  | [], w, k => by simp [heavyG]
  | x :: l, w, k => by
    have e : weightG (x :: l) = weighG x + weightG l := by simp [weightG]
    simp only [heavyG]
    by_cases h : 3000 < w + weighG x
    · rw [if_pos h]
      constructor
      · intro h2; cases h2
      · intro h2; rcases h2 with h2 | h2
        · cases h2
        · omega
    · rw [if_neg h, heavy_none l (w + weighG x) (k + 1)]
      constructor
      · rintro (rfl | h2)
        · right; rw [e]; simp [weightG]; omega
        · right; omega
      · rintro (h2 | h2)
        · cases h2
        · right; omega
/-- A filter. -/
theorem filt_iff {t : List Ng} : (checkG t).2 = 0 ↔ ∃ p, walkG [] 0 t = .ok [p] ∧ p.truth = true ∧ weightG t ≤ 3000 := by
  constructor
  · intro h
    cases hw : walkG [] 0 t with
    | error x =>
      obtain ⟨k, e⟩ := x
      rw [checkG_er hw] at h
      have := walkG_er t [] 0 hw
      simp only at h
      omega
    | ok st =>
      rw [checkG, hw] at h
      simp only at h
      split at h
      · cases h
      · rename_i hl
        split at h
        · cases h
        · rename_i ht
          match st, hl with
          | [p], _ =>
            refine ⟨p, rfl, by simpa using ht, ?_⟩
            cases hh : heavyG 0 0 t with
            | some q => rw [hh] at h; cases h
            | none =>
              rcases (heavy_none t 0 0).1 hh with rfl | h2
              · simp [weightG]
              · omega
          | [], hl => exact absurd (by simp) hl
          | _ :: _ :: _, hl => exact absurd (by simp) hl
  · rintro ⟨p, hw, hp, hwt⟩
    rw [checkG, hw]
    simp only [List.length_singleton, ne_eq, not_true_eq_false, if_false, List.getD_cons_zero, hp]
    rw [(heavy_none t 0 0).2 (.inr (by omega))]
    rfl
theorem filt_ne {t : List Ng} {p : Pt} (h : walkG [] 0 t = .ok [p]) : t ≠ [] := by
  intro e
  rw [e] at h
  cases h
theorem weighG_pos {x : Ng} (h : 1 ≤ x.kind ∧ x.kind ≤ 16) : 1 ≤ weighG x := by
  obtain ⟨k, hk⟩ : ∃ k : Nat, x.kind = k := Int.eq_ofNat_of_zero_le (by omega)
  unfold weighG
  rw [hk]
  rcases sixteen (k := k) (by omega) (by omega) with rfl | rfl | rfl | rfl | rfl | rfl | rfl | rfl | rfl | rfl | rfl | rfl | rfl | rfl | rfl | rfl
  all_goals first
    | exact Nat.le_refl 1
    | (show 1 ≤ (_ : Nat); simp; done)
    | (simp; split <;> omega)
theorem walkG_weighs : ∀ (l : List Ng) (st s : List Pt) (k : Nat), walkG st k l = .ok s → l.length ≤ weightG l
  | [], _, _, _, _ => Nat.le_refl _
  | x :: l, st, s, k, h => by
    simp only [walkG] at h
    cases hs : stepG x st with
    | error e => rw [hs] at h; cases h
    | ok s1 =>
      rw [hs] at h
      have := walkG_weighs l s1 s (k + 1) h
      have hx : 1 ≤ weighG x := by
        unfold stepG at hs
        split at hs
        · cases hs
        · rename_i a ha
          exact weighG_pos (arG_in ha)
      have e : weightG (x :: l) = weighG x + weightG l := by simp [weightG]
      rw [List.length_cons]
      omega
theorem filt_len {t : List Ng} (h : (checkG t).2 = 0) : t.length ≤ 3000 := by
  obtain ⟨p, hw, -, hwt⟩ := filt_iff.1 h
  have := walkG_weighs t [] _ 0 hw
  omega

/-- A node behind a walk. -/
theorem walkG_snoc {t : List Ng} {st : List Pt} (x : Ng) (h : walkG [] 0 t = .ok st) : walkG [] 0 (t ++ [x]) = match stepG x st with | .error e => .error (t.length, e) | .ok s => .ok s := by
  rw [walkG_app, h]
  simp only [walkG, Nat.zero_add]
  cases stepG x st <;> rfl

end Go.Proofs.Ytgoiblnddfggbaa

namespace Go.Proofs.Ytgoiblnddfggbaa
open Go.RowKit
set_option maxRecDepth 100000

def adN : Ng := ⟨7, 0, 0, 0, 0, 0, 0, zeros 16, 0⟩
def orN : Ng := ⟨8, 0, 0, 0, 0, 0, 0, zeros 16, 0⟩
def rlN : Ng := ⟨6, 3, 0, 0, 0, 0, 0, zeros 16, 0⟩
def arN : Ng := ⟨4, 1, 0, 0, 0, 0, 0, zeros 16, 0⟩
def miN : Ng := ⟨5, 0, 0, 0, 0, 0, 0, zeros 16, 0⟩
def noN : Ng := ⟨9, 0, 0, 0, 0, 0, 0, zeros 16, 0⟩

theorem check_weight {t : List Ng} {p : Pt} (hw : walkG [] 0 t = .ok [p]) (hp : p.truth = true) : (checkG t).2 = if weightG t ≤ 3000 then 0 else 126 := by
  by_cases h : weightG t ≤ 3000
  · rw [if_pos h]
    exact filt_iff.2 ⟨p, hw, hp, h⟩
  · rw [if_neg h, checkG, hw]
    simp only [List.length_singleton, ne_eq, not_true_eq_false, if_false, List.getD_cons_zero, hp]
    cases hh : heavyG 0 0 t with
    | some q => rfl
    | none =>
      rcases (heavy_none t 0 0).1 hh with rfl | h2
      · exact absurd (Nat.zero_le _) h
      · omega
theorem two_walk {a b : List Ng} {p q : Pt} (ha : walkG [] 0 a = .ok [p]) (hb : walkG [] 0 b = .ok [q]) : walkG [] 0 (a ++ b) = .ok [p, q] := by
  rw [walkG_app, ha]
  have := walkG_frame b [] [q] [p] 0 (0 + a.length) hb
  simpa using this
theorem step_two {x : Ng} {p q : Pt} (hk : x.kind = 7 ∨ x.kind = 8) (hf : formG x = true) (hp : p.truth = true) (hq : q.truth = true) : ∃ r, stepG x [p, q] = .ok [r] ∧ r.truth = true := by
  have har : arG x.kind = some 2 := by rcases hk with h | h <;> rw [h] <;> rfl
  have hwt : wantsG x.kind = true := by rcases hk with h | h <;> rw [h] <;> rfl
  have h0 : faultG x [p, q] = 0 := by
    have hkE : kindE x.kind [p, q] = 0 := kindE_none (fun z hz => by
      rcases List.mem_cons.1 hz with rfl | hz
      · rw [hp, hwt]; rfl
      · rw [List.mem_singleton.1 hz, hq, hwt]; rfl)
    have hz : zeroE x [p, q] = false := by unfold zeroE; rw [decide_eq_false (by omega)]; rfl
    have hr : rangeE x = 0 := by
      unfold rangeE
      rw [if_neg (by omega), if_neg (by omega), if_neg (by omega), if_neg (by omega), if_neg (by omega)]
    unfold faultG
    rw [hf, hkE, hz, hr]
    rfl
  refine ⟨joinG x [p, q], ?_, ?_⟩
  · rw [stepG_good har (by simp) (by simpa using h0)]
    rfl
  · rw [joinG_truth]
    unfold truthG
    exact decide_eq_true (by omega)
theorem step_one {p : Pt} (hp : p.truth = true) : ∃ r, stepG noN [p] = .ok [r] ∧ r.truth = true := by
  have h0 : faultG noN [p] = 0 := by
    have hkE : kindE noN.kind [p] = 0 := kindE_none (fun z hz => by rw [List.mem_singleton.1 hz, hp]; rfl)
    unfold faultG
    rw [show formG noN = true by kernel_rfl, hkE]
    rfl
  exact ⟨joinG noN [p], by rw [stepG_good (a := 1) rfl (by simp) (by simpa using h0)]; rfl, by rw [joinG_truth]; rfl⟩
theorem step_num2 {x : Ng} {p q : Pt} (har : arG x.kind = some 2) (hwt : wantsG x.kind = false) (hf : formG x = true) (hp : p.truth = true) : stepG x [p, q] = .error 122 := by
  have h0 : faultG x [p, q] = 122 := by
    have hkE := kindE_hit (k := x.kind) (ps := [p, q]) (p := p) (by simp) (by rw [hp, hwt]; rfl)
    rw [hwt] at hkE
    unfold faultG
    rw [hf, hkE]
    rfl
  rw [stepG_bad har (by simp) (by simp [h0])]
  simp [h0]
theorem step_num1 {p : Pt} (hp : p.truth = true) : stepG miN [p] = .error 122 := by
  have h0 : faultG miN [p] = 122 := by
    have hkE := kindE_hit (k := miN.kind) (ps := [p]) (p := p) (by simp) (by rw [hp]; rfl)
    unfold faultG
    rw [show formG miN = true by kernel_rfl, hkE]
    rfl
  rw [stepG_bad (a := 1) rfl (by simp) (by simp [h0])]
  simp [h0]
theorem check_snoc_er {t : List Ng} {st : List Pt} {x : Ng} {e : Int} (h : walkG [] 0 t = .ok st) (hs : stepG x st = .error e) : checkG (t ++ [x]) = (t.length, e) := by
  apply checkG_er
  rw [walkG_snoc x h, hs]
theorem check_snoc_ok {t : List Ng} {st : List Pt} {x : Ng} {r : Pt} (h : walkG [] 0 t = .ok st) (hs : stepG x st = .ok [r]) (hr : r.truth = true) : (checkG (t ++ [x])).2 = if weightG (t ++ [x]) ≤ 3000 then 0 else 126 := by
  refine check_weight (p := r) ?_ hr
  rw [walkG_snoc x h, hs]

/-- The four nodes of the law. -/
def fourN (k : Nat) : Ng := ([adN, orN, rlN, arN] : List Ng).getD k adN
theorem four_check {a b : List Ng} (ha : (checkG a).2 = 0) (hb : (checkG b).2 = 0) (k : Nat) (hk : k < 4) : (2 ≤ k → checkG (a ++ b ++ [fourN k]) = ((a ++ b).length, 122)) ∧ (k < 2 → (checkG (a ++ b ++ [fourN k])).2 = if weightG (a ++ b) < 3000 then 0 else 126) := by
  obtain ⟨p, hwa, hp, -⟩ := filt_iff.1 ha
  obtain ⟨q, hwb, hq, -⟩ := filt_iff.1 hb
  have hw := two_walk hwa hwb
  have : k = 0 ∨ k = 1 ∨ k = 2 ∨ k = 3 := by omega
  rcases this with rfl | rfl | rfl | rfl
  · refine ⟨fun h => by omega, fun _ => ?_⟩
    obtain ⟨r, hr, ht⟩ := step_two (x := adN) (p := p) (q := q) (.inl rfl) (by kernel_rfl) hp hq
    rw [show fourN 0 = adN from rfl, check_snoc_ok hw hr ht, weightG_app, weightG_one, show weighG adN = 1 by kernel_rfl]
    by_cases h : weightG (a ++ b) < 3000
    · rw [if_pos h, if_pos (by omega)]
    · rw [if_neg h, if_neg (by omega)]
  · refine ⟨fun h => by omega, fun _ => ?_⟩
    obtain ⟨r, hr, ht⟩ := step_two (x := orN) (p := p) (q := q) (.inr rfl) (by kernel_rfl) hp hq
    rw [show fourN 1 = orN from rfl, check_snoc_ok hw hr ht, weightG_app, weightG_one, show weighG orN = 1 by kernel_rfl]
    by_cases h : weightG (a ++ b) < 3000
    · rw [if_pos h, if_pos (by omega)]
    · rw [if_neg h, if_neg (by omega)]
  · exact ⟨fun _ => check_snoc_er hw (step_num2 (x := rlN) rfl rfl (by kernel_rfl) hp), fun h => by omega⟩
  · exact ⟨fun _ => check_snoc_er hw (step_num2 (x := arN) rfl rfl (by kernel_rfl) hp), fun h => by omega⟩
theorem minus_check {a : List Ng} (ha : (checkG a).2 = 0) : checkG (a ++ [miN]) = (a.length, 122) := by
  obtain ⟨p, hwa, hp, -⟩ := filt_iff.1 ha
  exact check_snoc_er hwa (step_num1 hp)
theorem not_check {a : List Ng} (ha : (checkG a).2 = 0) : (checkG (a ++ [noN])).2 = if weightG a < 3000 then 0 else 126 := by
  obtain ⟨p, hwa, hp, -⟩ := filt_iff.1 ha
  obtain ⟨r, hr, ht⟩ := step_one hp
  rw [check_snoc_ok hwa hr ht, weightG_app, weightG_one, show weighG noN = 1 by kernel_rfl]
  by_cases h : weightG a < 3000
  · rw [if_pos h, if_pos (by omega)]
  · rw [if_neg h, if_neg (by omega)]

end Go.Proofs.Ytgoiblnddfggbaa
