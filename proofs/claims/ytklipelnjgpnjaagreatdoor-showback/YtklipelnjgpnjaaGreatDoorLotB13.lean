import Derived.Test.YtklipelnjgpnjaaGreatDoorLotB7
import Derived.Test.YtklipelnjgpnjaaGreatDoorLotB5
import Derived.Deep.MidRow
import Derived.Test.YtklipelnjgpnjaaGreatDoorLotB12
namespace Go.Proofs.YtklipelnjgpnjaaGreatDoor
open Go.RowKit
set_option maxRecDepth 100000
theorem a74 {w : World} {e : TypeId} {g n : Nat} (b : Nat) : ∀ (vs : List Value) (o : Nat) (w : World), P0 w e g n → P0 (w.setCells b o vs) e g n
 | [], _, _, h => h
 | v :: r, o, _, h => a74 (w := w) b r (o + 1) _ (h.setCell _ v)
theorem ab2 {w : World} {row : Option Nat} (b : Nat) (hp : row = some b ∨ w.heap.size ≤ b) : ∀ (vs : List Value) (o : Nat) (W : World), w.grownBy W row → w.grownBy (W.setCells b o vs) row
 | [], _, _, h => h
 | v :: r, o, _, h => ab2 b hp r (o + 1) _ (T2 h ⟨b, o, none⟩ v hp)
def a5M (w : World) (row : Option Nat) (g g' n n' : Nat) (wr : World) : Prop := P0 wr 43 g n ∧ P0 wr 43 g' n' ∧ w.grownBy wr row
theorem a5M.set {w wr : World} {row : Option Nat} {g g' n n' : Nat} (h : a5M w row g g' n n' wr) {b : Nat} (o : Nat) (vs : List Value) (hp : row = some b ∨ w.heap.size ≤ b) : a5M w row g g' n n' (wr.setCells b o vs) :=
 ⟨a74 (w := w) b vs o wr h.1, a74 (w := w) b vs o wr h.2.1, ab2 b hp vs o wr h.2.2⟩
def a28 (t : List Ng) (ss : List Nat) (last : Nat) : List (List Ng) := List.zipWith (fun a b => (t.take b).drop a) ss (ss.tail ++ [last])
def a2H (t : List Ng) : Option (List (List Ng)) :=
 match t.getLast? with
 | none => none
 | some x => match arG x.kind with
  | none => none
  | some a => match a0V [] 0 (t.take (t.length - 1)) with
   | none => none
   | some ss => if ss.length = a then some (a28 t ss (t.length - 1)) else none
def a5B : Value := .slice none 0 0
theorem ap0 {t : List Ng} {x : Nat × Int} (h : m7 [] 0 t = .error x) : L8 t = x := by rw [L8, h]
theorem aY6 {x : Ng} {st s : List Pt} (st0 : List Pt) (h : E8 x st = .ok s) : E8 x (st0 ++ st) = .ok (st0 ++ s) := by
 unfold E8 at h ⊢
 split at h
 ·cases h
 ·rename_i a ha
  split at h
  ·cases h
  ·rename_i hl
   have hd : (st0 ++ st).drop ((st0 ++ st).length - a) = st.drop (st.length - a) := by
    rw [List.length_append, show st0.length + st.length - a = st0.length + (st.length - a) by omega, List.drop_append, List.drop_eq_nil_of_le (by omega), List.nil_append, Nat.add_sub_cancel_left]
   have ht : (st0 ++ st).take ((st0 ++ st).length - a) = st0 ++ st.take (st.length - a) := by
    rw [List.length_append, show st0.length + st.length - a = st0.length + (st.length - a) by omega, List.take_append, List.take_of_length_le (by omega), Nat.add_sub_cancel_left]
   split at h
   ·cases h
   ·rename_i hf
    cases h
    rw [if_neg (by rw [List.length_append]; omega), hd, if_neg hf, ht, List.append_assoc]
theorem ag0 : ∀ (l : List Ng) (st s st0 : List Pt) (k k' : Nat), m7 st k l = .ok s → m7 (st0 ++ st) k' l = .ok (st0 ++ s)
 | [], st, s, st0, k, k', h => by cases h; rfl
 | x :: l, st, s, st0, k, k', h => by
  simp only [m7] at h ⊢
  cases hs : E8 x st with
  | error e => rw [hs] at h; cases h
  | ok s1 =>
   rw [hs] at h
   rw [aY6 st0 hs]
   exact ag0 l s1 s st0 (k + 1) (k' + 1) h
theorem a6p : ∀ (l : List Ng) (w k : Nat), U5 w k l = none ↔ (l = [] ∨ w + O6 l ≤ 3000)
 | [], w, k => by simp [U5]
 | x :: l, w, k => by
  have e : O6 (x :: l) = J1 x + O6 l := by simp [O6]
  simp only [U5]
  by_cases h : 3000 < w + J1 x
  ·rw [if_pos h]
   constructor
   ·intro h2; cases h2
   ·intro h2; rcases h2 with h2 | h2
    ·cases h2
    ·omega
  ·rw [if_neg h, a6p l (w + J1 x) (k + 1)]
   constructor
   ·rintro (rfl | h2)
    ·right; rw [e]; simp [O6]; omega
    ·right; omega
   ·rintro (h2 | h2)
    ·cases h2
    ·right; omega
theorem a4H {t : List Ng} : (L8 t).2 = 0 ↔ ∃ p, m7 [] 0 t = .ok [p] ∧ p.truth = true ∧ O6 t ≤ 3000 := by
 constructor
 ·intro h
  cases hw : m7 [] 0 t with
  | error x =>
   obtain ⟨k, e⟩ := x
   rw [ap0 hw] at h
   have := a7n t [] 0 hw
   simp only at h
   omega
  | ok st =>
   rw [L8, hw] at h
   simp only at h
   split at h
   ·cases h
   ·rename_i hl
    split at h
    ·cases h
    ·rename_i ht
     match st, hl with
     | [p], _ =>
      refine ⟨p, rfl, by simpa using ht, ?_⟩
      cases hh : U5 0 0 t with
      | some q => rw [hh] at h; cases h
      | none =>
       rcases (a6p t 0 0).1 hh with rfl | h2
       ·simp [O6]
       ·omega
     | [], hl => exact absurd (by simp) hl
     | _ :: _ :: _, hl => exact absurd (by simp) hl
 ·rintro ⟨p, hw, hp, hwt⟩
  rw [L8, hw]
  simp only [List.length_singleton, ne_eq, not_true_eq_false, if_false, List.getD_cons_zero, hp]
  rw [(a6p t 0 0).2 (.inr (by omega))]
  rfl
theorem b0U {x : Ng} (h : 1 ≤ x.kind ∧ x.kind ≤ 16) : 1 ≤ J1 x := by
 obtain ⟨k, hk⟩ : ∃ k : Nat, x.kind = k := Int.eq_ofNat_of_zero_le (by omega)
 unfold J1
 rw [hk]
 rcases a1z (k := k) (by omega) (by omega) with rfl | rfl | rfl | rfl | rfl | rfl | rfl | rfl | rfl | rfl | rfl | rfl | rfl | rfl | rfl | rfl
 all_goals first
  | exact Nat.le_refl 1
  | (show 1 ≤ (_ : Nat); simp; done)
  | (simp; split <;> omega)
theorem ag2 : ∀ (l : List Ng) (st s : List Pt) (k : Nat), m7 st k l = .ok s → l.length ≤ O6 l
 | [], _, _, _, _ => Nat.le_refl _
 | x :: l, st, s, k, h => by
  simp only [m7] at h
  cases hs : E8 x st with
  | error e => rw [hs] at h; cases h
  | ok s1 =>
   rw [hs] at h
   have := ag2 l s1 s (k + 1) h
   have hx : 1 ≤ J1 x := by
    unfold E8 at hs
    split at hs
    ·cases hs
    ·rename_i a ha
     exact b0U (a3K ha)
   have e : O6 (x :: l) = J1 x + O6 l := by simp [O6]
   rw [List.length_cons]
   omega
theorem b0H {t : List Ng} {st : List Pt} (x : Ng) (h : m7 [] 0 t = .ok st) : m7 [] 0 (t ++ [x]) = match E8 x st with | .error e => .error (t.length, e) | .ok s => .ok s := by
 rw [a5C, h]
 simp only [m7, Nat.zero_add]
 cases E8 x st <;> rfl
def J4 : List (List Ng) → Nat → List Nat
 | [], _ => []
 | p :: r, k => k :: J4 r (k + p.length)
theorem a2E : ∀ (ps : List (List Ng)) (k : Nat), (J4 ps k).length = ps.length
 | [], _ => rfl
 | p :: r, k => by rw [J4, List.length_cons, List.length_cons, a2E r]
theorem a2D : ∀ (ps qs : List (List Ng)) (k : Nat), J4 (ps ++ qs) k = J4 ps k ++ J4 qs (k + ps.flatten.length)
 | [], qs, k => by simp [J4]
 | p :: r, qs, k => by
  rw [List.cons_append, J4, a2D r qs, J4, List.cons_append, List.flatten_cons, List.length_append, Nat.add_assoc]
theorem a6O : ∀ (ps : List (List Ng)) (k n : Nat), (J4 ps k).take n = J4 (ps.take n) k
 | [], k, n => by simp [J4]
 | p :: r, k, 0 => by simp [J4]
 | p :: r, k, n + 1 => by rw [J4, List.take_succ_cons, List.take_succ_cons, J4, a6O r]
def a3H (st : List Pt) (ps : List (List Ng)) : Prop := st.length = ps.length ∧ ∀ (i : Nat) (p : Pt) (q : List Ng), st[i]? = some p → ps[i]? = some q → m7 [] 0 q = .ok [p]
theorem ad6 : ∀ (ps : List (List Ng)) (st : List Pt), a3H st ps → m7 [] 0 ps.flatten = .ok st
 | [], st, h => by
  have e : st = [] := List.eq_nil_of_length_eq_zero h.1
  subst e
  rfl
 | q :: r, [], h => by cases h.1
 | q :: r, p :: st, h => by
  have h1 := h.2 0 p q rfl rfl
  have h2 := ad6 r st ⟨by simpa using h.1, fun i p' q' hp hq => h.2 (i + 1) p' q' (by simpa using hp) (by simpa using hq)⟩
  rw [List.flatten_cons, a5C, h1]
  have := ag0 r.flatten [] st [p] 0 (0 + q.length) h2
  simpa using this
theorem ad7 : ∀ (l : List Ng) (ps : List (List Ng)) (ss' : List Nat), a0V (J4 ps 0) ps.flatten.length l = some ss' → ∃ ps', ss' = J4 ps' 0 ∧ ps'.flatten = ps.flatten ++ l ∧
  ∀ (st st' : List Pt) (k : Nat), a3H st ps → m7 st k l = .ok st' → a3H st' ps'
 | [], ps, ss', h => by
  cases h
  exact ⟨ps, rfl, by simp, fun st st' k hS hw => by cases hw; exact hS⟩
 | x :: l, ps, ss', h => by
  simp only [a0V] at h
  split at h
  ·cases h
  ·rename_i a ha
   split at h
   ·cases h
   ·rename_i hl
    rw [a2E] at hl
    have hcase : a0V (J4 (ps.take (ps.length - a) ++ [(ps.drop (ps.length - a)).flatten ++ [x]]) 0) (ps.flatten.length + 1) l = some ss' := by
     split at h
     ·rename_i h0
      subst h0
      rw [Nat.sub_zero, List.take_length, List.drop_length, List.flatten_nil, List.nil_append, a2D]
      simpa [J4] using h
     ·rename_i h0
      rw [a2E, a6O] at h
      rw [a2D]
      have e : J4 (ps.take (ps.length - a + 1)) 0 = J4 (ps.take (ps.length - a)) 0 ++ J4 [(ps.drop (ps.length - a)).flatten ++ [x]] (0 + (ps.take (ps.length - a)).flatten.length) := by
       rw [List.take_succ_eq_append_getElem (by omega), a2D]
       rfl
      rw [← e]
      exact h
    have hfl : (ps.take (ps.length - a) ++ [(ps.drop (ps.length - a)).flatten ++ [x]]).flatten = ps.flatten ++ [x] := by
     rw [List.flatten_append, List.flatten_cons, List.flatten_nil, List.append_nil, ← List.append_assoc, ← List.flatten_append, List.take_append_drop]
    have hfl2 : (ps.take (ps.length - a) ++ [(ps.drop (ps.length - a)).flatten ++ [x]]).flatten.length = ps.flatten.length + 1 := by rw [hfl, List.length_append]; rfl
    rw [← hfl2] at hcase
    obtain ⟨ps', h1, h2, h3⟩ := ad7 l _ ss' hcase
    refine ⟨ps', h1, by rw [h2, hfl, List.append_assoc]; rfl, fun st st' k hS hw => ?_⟩
    simp only [m7] at hw
    cases hs : E8 x st with
    | error e => rw [hs] at hw; cases hw
    | ok s1 =>
     rw [hs] at hw
     refine h3 s1 st' (k + 1) ?_ hw
     have hs0 := hs
     unfold E8 at hs
     rw [ha] at hs
     simp only at hs
     split at hs
     ·cases hs
     ·rename_i hl2
      split at hs
      ·cases hs
      ·rename_i hf
       cases hs
       have hlen : st.length = ps.length := hS.1
       have hS2 : a3H (st.drop (st.length - a)) (ps.drop (ps.length - a)) := by
        refine ⟨by rw [List.length_drop, List.length_drop, hlen], fun i p q hp hq => ?_⟩
        rw [List.getElem?_drop] at hp hq
        rw [hlen] at hp
        exact hS.2 _ p q hp hq
       have hw2 := ad6 _ _ hS2
       have hf0 : F9 x (st.drop (st.length - a)) = 0 := by simpa using hf
       have hlast : m7 [] 0 ((ps.drop (ps.length - a)).flatten ++ [x]) = .ok [L9 x (st.drop (st.length - a))] := by
        rw [b0H x hw2]
        have hdl : (st.drop (st.length - a)).length = a := by rw [List.length_drop]; omega
        rw [ad9 ha (by omega) (by rw [hdl, Nat.sub_self, List.drop_zero]; exact hf0), hdl, Nat.sub_self, List.drop_zero, List.take_zero, List.nil_append]
       refine ⟨by rw [List.length_append, List.length_append, List.length_take, List.length_take, hlen]; rfl, fun i p q hp hq => ?_⟩
       by_cases hi : i < ps.length - a
       ·rw [List.getElem?_append_left (by rw [List.length_take]; omega), List.getElem?_take_of_lt (by omega)] at hp hq
        exact hS.2 i p q hp hq
       ·rw [List.getElem?_append_right (by rw [List.length_take]; omega), List.length_take] at hp hq
        have hi0 : i - min (st.length - a) st.length = i - min (ps.length - a) ps.length := by rw [hlen]
        rw [hi0] at hp
        generalize i - min (ps.length - a) ps.length = j at hp hq
        cases j with
        | zero => cases hp; cases hq; exact hlast
        | succ j => simp at hp
theorem ae7 {α : Type} (a b c : List α) : ((a ++ b ++ c).take (a.length + b.length)).drop a.length = b := by
 rw [show a.length + b.length = (a ++ b).length by rw [List.length_append], List.take_left, List.drop_left]
theorem a9R {t : List Ng} {pss : List (List Ng)} (h : a2H t = some pss) : ∃ x a, t = pss.flatten ++ [x] ∧ arG x.kind = some a ∧ pss.length = a ∧ ∀ st, m7 [] 0 pss.flatten = .ok st → a3H st pss := by
 unfold a2H at h
 split at h
 ·cases h
 ·rename_i x hx
  split at h
  ·cases h
  ·rename_i a ha
   split at h
   ·cases h
   ·rename_i ss hss
    split at h
    ·rename_i hsa
     cases h
     have hne : t ≠ [] := by intro e; rw [e] at hx; cases hx
     have ht : t = t.take (t.length - 1) ++ [x] := by
      have h1 := List.dropLast_concat_getLast hne
      rw [List.getLast?_eq_some_getLast hne] at hx
      rw [Option.some.inj hx, List.dropLast_eq_take] at h1
      exact h1.symm
     obtain ⟨ps', h1, h2, h3⟩ := ad7 (t.take (t.length - 1)) [] ss hss
     rw [List.flatten_nil, List.nil_append] at h2
     have hlp : ps'.length = a := by rw [← a2E ps' 0, ← h1]; exact hsa
     have hLl : t.length - 1 = ps'.flatten.length := by
      have := congrArg List.length h2
      rw [List.length_take] at this
      omega
     have hps : a28 t ss (t.length - 1) = ps' := by
      have hale := a1X ha
      rw [h1, hLl]
      rw [← h2] at ht
      have hcs : ps' = [] ∨ (∃ p, ps' = [p]) ∨ ∃ p q, ps' = [p, q] := by
       match ps', hlp with
       | [], _ => exact .inl rfl
       | [p], _ => exact .inr (.inl ⟨p, rfl⟩)
       | [p, q], _ => exact .inr (.inr ⟨p, q, rfl⟩)
       | _ :: _ :: _ :: _, hlp => simp at hlp; omega
      rcases hcs with rfl | ⟨p, rfl⟩ | ⟨p, q, rfl⟩
      ·rfl
      ·rw [ht]
       simp [a28, J4]
      ·rw [ht]
       simp only [a28, J4, List.tail_cons, List.cons_append, List.nil_append, List.zipWith_cons_cons, List.zipWith_nil_right, List.flatten_cons, List.flatten_nil, List.append_nil, Nat.zero_add, List.drop_zero, List.length_append]
       have e1 : (p ++ q ++ [x]).take p.length = p := by rw [List.append_assoc, List.take_left]
       have e2 : ((p ++ q ++ [x]).take (p.length + q.length)).drop p.length = q := ae7 p q [x]
       rw [e1, e2]
     rw [hps]
     refine ⟨x, a, by rw [h2]; exact ht, ha, hlp, fun st hw => ?_⟩
     rw [h2] at hw
     exact h3 [] st 0 ⟨rfl, fun i p q hp => by simp at hp⟩ hw
    ·cases h

end Go.Proofs.YtklipelnjgpnjaaGreatDoor
