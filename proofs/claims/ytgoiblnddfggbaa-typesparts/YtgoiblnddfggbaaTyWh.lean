/-
  Chapter 12 in words: a tree's parts, one behind the other. No Go text here.
-/
import Derived.Test.YtgoiblnddfggbaaLotP25
namespace Go.Proofs.Ytgoiblnddfggbaa
open Go.RowKit
set_option maxRecDepth 100000

/-- Where lists begin that lie one behind the other. -/
def offs : List (List Ng) → Nat → List Nat
  | [], _ => []
  | p :: r, k => k :: offs r (k + p.length)
theorem offs_len : ∀ (ps : List (List Ng)) (k : Nat), (offs ps k).length = ps.length
  | [], _ => rfl
  | p :: r, k => by rw [offs, List.length_cons, List.length_cons, offs_len r]
theorem offs_app : ∀ (ps qs : List (List Ng)) (k : Nat), offs (ps ++ qs) k = offs ps k ++ offs qs (k + ps.flatten.length)
  | [], qs, k => by simp [offs]
  | p :: r, qs, k => by
    rw [List.cons_append, offs, offs_app r qs, offs, List.cons_append, List.flatten_cons, List.length_append, Nat.add_assoc]
theorem offs_take : ∀ (ps : List (List Ng)) (k n : Nat), (offs ps k).take n = offs (ps.take n) k
  | [], k, n => by simp [offs]
  | p :: r, k, 0 => by simp [offs]
  | p :: r, k, n + 1 => by rw [offs, List.take_succ_cons, List.take_succ_cons, offs, offs_take r]
/-- Each of the parts that stand is a list's of its own. -/
def Stands (st : List Pt) (ps : List (List Ng)) : Prop := st.length = ps.length ∧ ∀ (i : Nat) (p : Pt) (q : List Ng), st[i]? = some p → ps[i]? = some q → walkG [] 0 q = .ok [p]
theorem stands_walk : ∀ (ps : List (List Ng)) (st : List Pt), Stands st ps → walkG [] 0 ps.flatten = .ok st
  | [], st, h => by
    have e : st = [] := List.eq_nil_of_length_eq_zero h.1
    subst e
    rfl
  | q :: r, [], h => by cases h.1
  | q :: r, p :: st, h => by
    have h1 := h.2 0 p q rfl rfl
    have h2 := stands_walk r st ⟨by simpa using h.1, fun i p' q' hp hq => h.2 (i + 1) p' q' (by simpa using hp) (by simpa using hq)⟩
    rw [List.flatten_cons, walkG_app, h1]
    have := walkG_frame r.flatten [] st [p] 0 (0 + q.length) h2
    simpa using this
/-- Nodes behind some lists: where what is left begins, and what it is. -/
theorem starts_lists : ∀ (l : List Ng) (ps : List (List Ng)) (ss' : List Nat), startsG (offs ps 0) ps.flatten.length l = some ss' → ∃ ps', ss' = offs ps' 0 ∧ ps'.flatten = ps.flatten ++ l ∧
    ∀ (st st' : List Pt) (k : Nat), Stands st ps → walkG st k l = .ok st' → Stands st' ps'
  | [], ps, ss', h => by
    cases h
    exact ⟨ps, rfl, by simp, fun st st' k hS hw => by cases hw; exact hS⟩
  | x :: l, ps, ss', h => by
    simp only [startsG] at h
    split at h
    · cases h
    · rename_i a ha
      split at h
      · cases h
      · rename_i hl
        rw [offs_len] at hl
        have hcase : startsG (offs (ps.take (ps.length - a) ++ [(ps.drop (ps.length - a)).flatten ++ [x]]) 0) (ps.flatten.length + 1) l = some ss' := by
          split at h
          · rename_i h0
            subst h0
            rw [Nat.sub_zero, List.take_length, List.drop_length, List.flatten_nil, List.nil_append, offs_app]
            simpa [offs] using h
          · rename_i h0
            rw [offs_len, offs_take] at h
            rw [offs_app]
            have e : offs (ps.take (ps.length - a + 1)) 0 = offs (ps.take (ps.length - a)) 0 ++ offs [(ps.drop (ps.length - a)).flatten ++ [x]] (0 + (ps.take (ps.length - a)).flatten.length) := by
              rw [List.take_succ_eq_append_getElem (by omega), offs_app]
              rfl
            rw [← e]
            exact h
        have hfl : (ps.take (ps.length - a) ++ [(ps.drop (ps.length - a)).flatten ++ [x]]).flatten = ps.flatten ++ [x] := by
          rw [List.flatten_append, List.flatten_cons, List.flatten_nil, List.append_nil, ← List.append_assoc, ← List.flatten_append, List.take_append_drop]
        have hfl2 : (ps.take (ps.length - a) ++ [(ps.drop (ps.length - a)).flatten ++ [x]]).flatten.length = ps.flatten.length + 1 := by rw [hfl, List.length_append]; rfl
        rw [← hfl2] at hcase
        obtain ⟨ps', h1, h2, h3⟩ := starts_lists l _ ss' hcase
        refine ⟨ps', h1, by rw [h2, hfl, List.append_assoc]; rfl, fun st st' k hS hw => ?_⟩
        simp only [walkG] at hw
        cases hs : stepG x st with
        | error e => rw [hs] at hw; cases hw
        | ok s1 =>
          rw [hs] at hw
          refine h3 s1 st' (k + 1) ?_ hw
          have hs0 := hs
          unfold stepG at hs
          rw [ha] at hs
          simp only at hs
          split at hs
          · cases hs
          · rename_i hl2
            split at hs
            · cases hs
            · rename_i hf
              cases hs
              have hlen : st.length = ps.length := hS.1
              have hS2 : Stands (st.drop (st.length - a)) (ps.drop (ps.length - a)) := by
                refine ⟨by rw [List.length_drop, List.length_drop, hlen], fun i p q hp hq => ?_⟩
                rw [List.getElem?_drop] at hp hq
                rw [hlen] at hp
                exact hS.2 _ p q hp hq
              have hw2 := stands_walk _ _ hS2
              have hf0 : faultG x (st.drop (st.length - a)) = 0 := by simpa using hf
              have hlast : walkG [] 0 ((ps.drop (ps.length - a)).flatten ++ [x]) = .ok [joinG x (st.drop (st.length - a))] := by
                rw [walkG_snoc x hw2]
                have hdl : (st.drop (st.length - a)).length = a := by rw [List.length_drop]; omega
                rw [stepG_good ha (by omega) (by rw [hdl, Nat.sub_self, List.drop_zero]; exact hf0), hdl, Nat.sub_self, List.drop_zero, List.take_zero, List.nil_append]
              refine ⟨by rw [List.length_append, List.length_append, List.length_take, List.length_take, hlen]; rfl, fun i p q hp hq => ?_⟩
              by_cases hi : i < ps.length - a
              · rw [List.getElem?_append_left (by rw [List.length_take]; omega), List.getElem?_take_of_lt (by omega)] at hp hq
                exact hS.2 i p q hp hq
              · rw [List.getElem?_append_right (by rw [List.length_take]; omega), List.length_take] at hp hq
                have hi0 : i - min (st.length - a) st.length = i - min (ps.length - a) ps.length := by rw [hlen]
                rw [hi0] at hp
                generalize i - min (ps.length - a) ps.length = j at hp hq
                cases j with
                | zero => cases hp; cases hq; exact hlast
                | succ j => simp at hp
theorem take_mid {α : Type} (a b c : List α) : ((a ++ b ++ c).take (a.length + b.length)).drop a.length = b := by
  rw [show a.length + b.length = (a ++ b).length by rw [List.length_append], List.take_left, List.drop_left]
/-- The parts of a tree: its nodes ahead of its root, cut. -/
theorem parts_lists {t : List Ng} {pss : List (List Ng)} (h : partsG t = some pss) : ∃ x a, t = pss.flatten ++ [x] ∧ arG x.kind = some a ∧ pss.length = a ∧ ∀ st, walkG [] 0 pss.flatten = .ok st → Stands st pss := by
  unfold partsG at h
  split at h
  · cases h
  · rename_i x hx
    split at h
    · cases h
    · rename_i a ha
      split at h
      · cases h
      · rename_i ss hss
        split at h
        · rename_i hsa
          cases h
          have hne : t ≠ [] := by intro e; rw [e] at hx; cases hx
          have ht : t = t.take (t.length - 1) ++ [x] := by
            have h1 := List.dropLast_concat_getLast hne
            rw [List.getLast?_eq_some_getLast hne] at hx
            rw [Option.some.inj hx, List.dropLast_eq_take] at h1
            exact h1.symm
          obtain ⟨ps', h1, h2, h3⟩ := starts_lists (t.take (t.length - 1)) [] ss hss
          rw [List.flatten_nil, List.nil_append] at h2
          have hlp : ps'.length = a := by rw [← offs_len ps' 0, ← h1]; exact hsa
          have hLl : t.length - 1 = ps'.flatten.length := by
            have := congrArg List.length h2
            rw [List.length_take] at this
            omega
          have hps : piecesG t ss (t.length - 1) = ps' := by
            have hale := arG_le ha
            rw [h1, hLl]
            rw [← h2] at ht
            have hcs : ps' = [] ∨ (∃ p, ps' = [p]) ∨ ∃ p q, ps' = [p, q] := by
              match ps', hlp with
              | [], _ => exact .inl rfl
              | [p], _ => exact .inr (.inl ⟨p, rfl⟩)
              | [p, q], _ => exact .inr (.inr ⟨p, q, rfl⟩)
              | _ :: _ :: _ :: _, hlp => simp at hlp; omega
            rcases hcs with rfl | ⟨p, rfl⟩ | ⟨p, q, rfl⟩
            · rfl
            · rw [ht]
              simp [piecesG, offs]
            · rw [ht]
              simp only [piecesG, offs, List.tail_cons, List.cons_append, List.nil_append, List.zipWith_cons_cons, List.zipWith_nil_right, List.flatten_cons, List.flatten_nil, List.append_nil, Nat.zero_add, List.drop_zero, List.length_append]
              have e1 : (p ++ q ++ [x]).take p.length = p := by rw [List.append_assoc, List.take_left]
              have e2 : ((p ++ q ++ [x]).take (p.length + q.length)).drop p.length = q := take_mid p q [x]
              rw [e1, e2]
          rw [hps]
          refine ⟨x, a, by rw [h2]; exact ht, ha, hlp, fun st hw => ?_⟩
          rw [h2] at hw
          exact h3 [] st 0 ⟨rfl, fun i p q hp => by simp at hp⟩ hw
        · cases h

theorem weight_sum : ∀ pss : List (List Ng), weightG pss.flatten = (pss.map weightG).sum
  | [] => rfl
  | p :: r => by rw [List.flatten_cons, weightG_app, weight_sum r, List.map_cons, List.sum_cons]
theorem sum_mem : ∀ (l : List Nat) (n : Nat), n ∈ l → n ≤ l.sum
  | a :: l, n, h => by
    rw [List.sum_cons]
    rcases List.mem_cons.1 h with rfl | h
    · omega
    · have := sum_mem l n h
      omega
/-- The parts of a filter. -/
theorem parts_filt {t : List Ng} {pss : List (List Ng)} {x : Ng} {a : Nat} (ht : t = pss.flatten ++ [x]) (ha : arG x.kind = some a) (hl : pss.length = a) (hS : ∀ st, walkG [] 0 pss.flatten = .ok st → Stands st pss) (hf : (checkG t).2 = 0) (i : Nat) (hi : i < pss.length) :
    (checkG pss[i]).2 = if wantsG x.kind = true then 0 else 121 := by
  obtain ⟨p, hw, -, hwt⟩ := filt_iff.1 hf
  rw [ht, walkG_app] at hw
  cases hb : walkG [] 0 pss.flatten with
  | error e => rw [hb] at hw; cases hw
  | ok st =>
    rw [hb] at hw
    simp only [walkG] at hw
    have hst := hS st hb
    have hil : i < st.length := by rw [hst.1]; exact hi
    have hwi := hst.2 i st[i] pss[i] (List.getElem?_eq_getElem hil) (List.getElem?_eq_getElem hi)
    cases hx : stepG x st with
    | error e => rw [hx] at hw; cases hw
    | ok s1 =>
      have hla : st.length = a := hst.1.trans hl
      have hkind : (st[i].truth == wantsG x.kind) = true := by
        unfold stepG at hx
        rw [ha] at hx
        simp only at hx
        rw [if_neg (by omega), hla, Nat.sub_self, List.drop_zero] at hx
        split at hx
        · cases hx
        · rename_i hf0
          have hz : faultG x st = 0 := by simpa using hf0
          obtain ⟨-, hk, -, -⟩ := faultG_zero hz
          unfold kindE at hk
          split at hk
          · rename_i hall
            exact List.all_eq_true.1 hall _ (List.getElem_mem hil)
          · split at hk <;> cases hk
      have hwgt : weightG pss[i] ≤ 3000 := by
        have h1 : weightG pss[i] ≤ weightG pss.flatten := by
          rw [weight_sum]
          exact sum_mem _ _ (List.mem_map_of_mem (List.getElem_mem hi))
        rw [ht, weightG_app] at hwt
        omega
      by_cases hwn : wantsG x.kind = true
      · rw [if_pos hwn]
        rw [hwn] at hkind
        exact filt_iff.2 ⟨st[i], hwi, by simpa using hkind, hwgt⟩
      · rw [if_neg hwn]
        have hwn' : wantsG x.kind = false := by simpa using hwn
        rw [hwn'] at hkind
        rw [checkG, hwi]
        have : st[i].truth = false := by simpa using hkind
        simp [this]

end Go.Proofs.Ytgoiblnddfggbaa
