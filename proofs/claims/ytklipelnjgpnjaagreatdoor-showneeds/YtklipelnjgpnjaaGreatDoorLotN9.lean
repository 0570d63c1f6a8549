import Derived.Test.YtklipelnjgpnjaaGreatDoorLotN8
import Derived.Test.YtklipelnjgpnjaaGreatDoorLotN6
namespace Go.Proofs.YtklipelnjgpnjaaGreatDoor
open Go.RowKit
set_option maxRecDepth 100000
def a1O (t : List Ng) (ss : List Nat) (last : Nat) : List (List Ng) := List.zipWith (fun a b => (t.take b).drop a) ss (ss.tail ++ [last])
def a2q (t : List Ng) : Option (List (List Ng)) :=
 match t.getLast? with
 | none => none
 | some x => match arG x.kind with
  | none => none
  | some a => match a0C [] 0 (t.take (t.length - 1)) with
   | none => none
   | some ss => if ss.length = a then some (a1O t ss (t.length - 1)) else none
def a4U : Value := .slice none 0 0
theorem am4 {t : List Ng} {x : Nat × Int} (h : j8 [] 0 t = .error x) : J4 t = x := by rw [J4, h]
theorem aW0 {x : Ng} {st s : List Pt} (st0 : List Pt) (h : z6 x st = .ok s) : z6 x (st0 ++ st) = .ok (st0 ++ s) := by
 unfold z6 at h ⊢
 split at h
 ·cases h
 ·rename_i a ha
  split at h
  ·cases h
  ·rename_i hl
   have hd : (st0 ++ st).drop ((st0 ++ st).length - a) = st.drop (st.length - a) := by
    rw [List.length_append, show st0.length + st.length - a = st0.length + (st.length - a) by omega, List.drop_append, List.drop_eq_nil_of_le (by omega), List.nil_append, Nat.add_sub_cancel_left]
   have ht : (st0 ++ st).take ((st0 ++ st).length - a) = st0 ++ st.take (st.length - a) := by
    rw [List.length_append, show st0.length + st.length - a = st0.length + (st.length - a) by omega, List.take_append, List.take_of_length_le (by omega), Nat.add_sub_cancel_left]
   split at h
   ·cases h
   ·rename_i hf
    cases h
    rw [if_neg (by rw [List.length_append]; omega), hd, if_neg hf, ht, List.append_assoc]
theorem ad1 : ∀ (l : List Ng) (st s st0 : List Pt) (k k' : Nat), j8 st k l = .ok s → j8 (st0 ++ st) k' l = .ok (st0 ++ s)
 | [], st, s, st0, k, k', h => by cases h; rfl
 | x :: l, st, s, st0, k, k', h => by
  simp only [j8] at h ⊢
  cases hs : z6 x st with
  | error e => rw [hs] at h; cases h
  | ok s1 =>
   rw [hs] at h
   rw [aW0 st0 hs]
   exact ad1 l s1 s st0 (k + 1) (k' + 1) h
theorem a5M : ∀ (l : List Ng) (w k : Nat), S9 w k l = none ↔ (l = [] ∨ w + J8 l ≤ 3000)
 | [], w, k => by simp [S9]
 | x :: l, w, k => by
  have e : J8 (x :: l) = E0 x + J8 l := by simp [J8]
  simp only [S9]
  by_cases h : 3000 < w + E0 x
  ·rw [if_pos h]
   constructor
   ·intro h2; cases h2
   ·intro h2; rcases h2 with h2 | h2
    ·cases h2
    ·omega
  ·rw [if_neg h, a5M l (w + E0 x) (k + 1)]
   constructor
   ·rintro (rfl | h2)
    ·right; rw [e]; simp [J8]; omega
    ·right; omega
   ·rintro (h2 | h2)
    ·cases h2
    ·right; omega
theorem a3v {t : List Ng} : (J4 t).2 = 0 ↔ ∃ p, j8 [] 0 t = .ok [p] ∧ p.truth = true ∧ J8 t ≤ 3000 := by
 constructor
 ·intro h
  cases hw : j8 [] 0 t with
  | error x =>
   obtain ⟨k, e⟩ := x
   rw [am4 hw] at h
   have := a6M t [] 0 hw
   simp only at h
   omega
  | ok st =>
   rw [J4, hw] at h
   simp only at h
   split at h
   ·cases h
   ·rename_i hl
    split at h
    ·cases h
    ·rename_i ht
     match st, hl with
     | [p], _ =>
      refine ⟨p, rfl, by simpa using ht, ?_⟩
      cases hh : S9 0 0 t with
      | some q => rw [hh] at h; cases h
      | none =>
       rcases (a5M t 0 0).1 hh with rfl | h2
       ·simp [J8]
       ·omega
     | [], hl => exact absurd (by simp) hl
     | _ :: _ :: _, hl => exact absurd (by simp) hl
 ·rintro ⟨p, hw, hp, hwt⟩
  rw [J4, hw]
  simp only [List.length_singleton, ne_eq, not_true_eq_false, if_false, List.getD_cons_zero, hp]
  rw [(a5M t 0 0).2 (.inr (by omega))]
  rfl
theorem b0k {x : Ng} (h : 1 ≤ x.kind ∧ x.kind ≤ 16) : 1 ≤ E0 x := by
 obtain ⟨k, hk⟩ : ∃ k : Nat, x.kind = k := Int.eq_ofNat_of_zero_le (by omega)
 unfold E0
 rw [hk]
 rcases a1j (k := k) (by omega) (by omega) with rfl | rfl | rfl | rfl | rfl | rfl | rfl | rfl | rfl | rfl | rfl | rfl | rfl | rfl | rfl | rfl
 all_goals first
  | exact Nat.le_refl 1
  | (show 1 ≤ (_ : Nat); simp; done)
  | (simp; split <;> omega)
theorem ad3 : ∀ (l : List Ng) (st s : List Pt) (k : Nat), j8 st k l = .ok s → l.length ≤ J8 l
 | [], _, _, _, _ => Nat.le_refl _
 | x :: l, st, s, k, h => by
  simp only [j8] at h
  cases hs : z6 x st with
  | error e => rw [hs] at h; cases h
  | ok s1 =>
   rw [hs] at h
   have := ad3 l s1 s (k + 1) h
   have hx : 1 ≤ E0 x := by
    unfold z6 at hs
    split at hs
    ·cases hs
    ·rename_i a ha
     exact b0k (a3q ha)
   have e : J8 (x :: l) = E0 x + J8 l := by simp [J8]
   rw [List.length_cons]
   omega
theorem b08 {t : List Ng} {st : List Pt} (x : Ng) (h : j8 [] 0 t = .ok st) : j8 [] 0 (t ++ [x]) = match z6 x st with | .error e => .error (t.length, e) | .ok s => .ok s := by
 rw [a4V, h]
 simp only [j8, Nat.zero_add]
 cases z6 x st <;> rfl
def F0 : List (List Ng) → Nat → List Nat
 | [], _ => []
 | p :: r, k => k :: F0 r (k + p.length)
theorem a2m : ∀ (ps : List (List Ng)) (k : Nat), (F0 ps k).length = ps.length
 | [], _ => rfl
 | p :: r, k => by rw [F0, List.length_cons, List.length_cons, a2m r]
theorem a2l : ∀ (ps qs : List (List Ng)) (k : Nat), F0 (ps ++ qs) k = F0 ps k ++ F0 qs (k + ps.flatten.length)
 | [], qs, k => by simp [F0]
 | p :: r, qs, k => by
  rw [List.cons_append, F0, a2l r qs, F0, List.cons_append, List.flatten_cons, List.length_append, Nat.add_assoc]
theorem a6h : ∀ (ps : List (List Ng)) (k n : Nat), (F0 ps k).take n = F0 (ps.take n) k
 | [], k, n => by simp [F0]
 | p :: r, k, 0 => by simp [F0]
 | p :: r, k, n + 1 => by rw [F0, List.take_succ_cons, List.take_succ_cons, F0, a6h r]
def a3o (st : List Pt) (ps : List (List Ng)) : Prop := st.length = ps.length ∧ ∀ (i : Nat) (p : Pt) (q : List Ng), st[i]? = some p → ps[i]? = some q → j8 [] 0 q = .ok [p]
theorem aa7 : ∀ (ps : List (List Ng)) (st : List Pt), a3o st ps → j8 [] 0 ps.flatten = .ok st
 | [], st, h => by
  have e : st = [] := List.eq_nil_of_length_eq_zero h.1
  subst e
  rfl
 | q :: r, [], h => by cases h.1
 | q :: r, p :: st, h => by
  have h1 := h.2 0 p q rfl rfl
  have h2 := aa7 r st ⟨by simpa using h.1, fun i p' q' hp hq => h.2 (i + 1) p' q' (by simpa using hp) (by simpa using hq)⟩
  rw [List.flatten_cons, a4V, h1]
  have := ad1 r.flatten [] st [p] 0 (0 + q.length) h2
  simpa using this
theorem aa8 : ∀ (l : List Ng) (ps : List (List Ng)) (ss' : List Nat), a0C (F0 ps 0) ps.flatten.length l = some ss' → ∃ ps', ss' = F0 ps' 0 ∧ ps'.flatten = ps.flatten ++ l ∧
  ∀ (st st' : List Pt) (k : Nat), a3o st ps → j8 st k l = .ok st' → a3o st' ps'
 | [], ps, ss', h => by
  cases h
  exact ⟨ps, rfl, by simp, fun st st' k hS hw => by cases hw; exact hS⟩
 | x :: l, ps, ss', h => by
  simp only [a0C] at h
  split at h
  ·cases h
  ·rename_i a ha
   split at h
   ·cases h
   ·rename_i hl
    rw [a2m] at hl
    have hcase : a0C (F0 (ps.take (ps.length - a) ++ [(ps.drop (ps.length - a)).flatten ++ [x]]) 0) (ps.flatten.length + 1) l = some ss' := by
     split at h
     ·rename_i h0
      subst h0
      rw [Nat.sub_zero, List.take_length, List.drop_length, List.flatten_nil, List.nil_append, a2l]
      simpa [F0] using h
     ·rename_i h0
      rw [a2m, a6h] at h
      rw [a2l]
      have e : F0 (ps.take (ps.length - a + 1)) 0 = F0 (ps.take (ps.length - a)) 0 ++ F0 [(ps.drop (ps.length - a)).flatten ++ [x]] (0 + (ps.take (ps.length - a)).flatten.length) := by
       rw [List.take_succ_eq_append_getElem (by omega), a2l]
       rfl
      rw [← e]
      exact h
    have hfl : (ps.take (ps.length - a) ++ [(ps.drop (ps.length - a)).flatten ++ [x]]).flatten = ps.flatten ++ [x] := by
     rw [List.flatten_append, List.flatten_cons, List.flatten_nil, List.append_nil, ← List.append_assoc, ← List.flatten_append, List.take_append_drop]
    have hfl2 : (ps.take (ps.length - a) ++ [(ps.drop (ps.length - a)).flatten ++ [x]]).flatten.length = ps.flatten.length + 1 := by rw [hfl, List.length_append]; rfl
    rw [← hfl2] at hcase
    obtain ⟨ps', h1, h2, h3⟩ := aa8 l _ ss' hcase
    refine ⟨ps', h1, by rw [h2, hfl, List.append_assoc]; rfl, fun st st' k hS hw => ?_⟩
    simp only [j8] at hw
    cases hs : z6 x st with
    | error e => rw [hs] at hw; cases hw
    | ok s1 =>
     rw [hs] at hw
     refine h3 s1 st' (k + 1) ?_ hw
     have hs0 := hs
     unfold z6 at hs
     rw [ha] at hs
     simp only at hs
     split at hs
     ·cases hs
     ·rename_i hl2
      split at hs
      ·cases hs
      ·rename_i hf
       cases hs
       have hlen : st.length = ps.length := hS.1
       have hS2 : a3o (st.drop (st.length - a)) (ps.drop (ps.length - a)) := by
        refine ⟨by rw [List.length_drop, List.length_drop, hlen], fun i p q hp hq => ?_⟩
        rw [List.getElem?_drop] at hp hq
        rw [hlen] at hp
        exact hS.2 _ p q hp hq
       have hw2 := aa7 _ _ hS2
       have hf0 : A9 x (st.drop (st.length - a)) = 0 := by simpa using hf
       have hlast : j8 [] 0 ((ps.drop (ps.length - a)).flatten ++ [x]) = .ok [I6 x (st.drop (st.length - a))] := by
        rw [b08 x hw2]
        have hdl : (st.drop (st.length - a)).length = a := by rw [List.length_drop]; omega
        rw [ab0 ha (by omega) (by rw [hdl, Nat.sub_self, List.drop_zero]; exact hf0), hdl, Nat.sub_self, List.drop_zero, List.take_zero, List.nil_append]
       refine ⟨by rw [List.length_append, List.length_append, List.length_take, List.length_take, hlen]; rfl, fun i p q hp hq => ?_⟩
       by_cases hi : i < ps.length - a
       ·rw [List.getElem?_append_left (by rw [List.length_take]; omega), List.getElem?_take_of_lt (by omega)] at hp hq
        exact hS.2 i p q hp hq
       ·rw [List.getElem?_append_right (by rw [List.length_take]; omega), List.length_take] at hp hq
        have hi0 : i - min (st.length - a) st.length = i - min (ps.length - a) ps.length := by rw [hlen]
        rw [hi0] at hp
        generalize i - min (ps.length - a) ps.length = j at hp hq
        cases j with
        | zero => cases hp; cases hq; exact hlast
        | succ j => simp at hp
theorem ab7 {α : Type} (a b c : List α) : ((a ++ b ++ c).take (a.length + b.length)).drop a.length = b := by
 rw [show a.length + b.length = (a ++ b).length by rw [List.length_append], List.take_left, List.drop_left]
theorem a9r {t : List Ng} {pss : List (List Ng)} (h : a2q t = some pss) : ∃ x a, t = pss.flatten ++ [x] ∧ arG x.kind = some a ∧ pss.length = a ∧ ∀ st, j8 [] 0 pss.flatten = .ok st → a3o st pss := by
 unfold a2q at h
 split at h
 ·cases h
 ·rename_i x hx
  split at h
  ·cases h
  ·rename_i a ha
   split at h
   ·cases h
   ·rename_i ss hss
    split at h
    ·rename_i hsa
     cases h
     have hne : t ≠ [] := by intro e; rw [e] at hx; cases hx
     have ht : t = t.take (t.length - 1) ++ [x] := by
      have h1 := List.dropLast_concat_getLast hne
      rw [List.getLast?_eq_some_getLast hne] at hx
      rw [Option.some.inj hx, List.dropLast_eq_take] at h1
      exact h1.symm
     obtain ⟨ps', h1, h2, h3⟩ := aa8 (t.take (t.length - 1)) [] ss hss
     rw [List.flatten_nil, List.nil_append] at h2
     have hlp : ps'.length = a := by rw [← a2m ps' 0, ← h1]; exact hsa
     have hLl : t.length - 1 = ps'.flatten.length := by
      have := congrArg List.length h2
      rw [List.length_take] at this
      omega
     have hps : a1O t ss (t.length - 1) = ps' := by
      have hale := a1G ha
      rw [h1, hLl]
      rw [← h2] at ht
      have hcs : ps' = [] ∨ (∃ p, ps' = [p]) ∨ ∃ p q, ps' = [p, q] := by
       match ps', hlp with
       | [], _ => exact .inl rfl
       | [p], _ => exact .inr (.inl ⟨p, rfl⟩)
       | [p, q], _ => exact .inr (.inr ⟨p, q, rfl⟩)
       | _ :: _ :: _ :: _, hlp => simp at hlp; omega
      rcases hcs with rfl | ⟨p, rfl⟩ | ⟨p, q, rfl⟩
      ·rfl
      ·rw [ht]
       simp [a1O, F0]
      ·rw [ht]
       simp only [a1O, F0, List.tail_cons, List.cons_append, List.nil_append, List.zipWith_cons_cons, List.zipWith_nil_right, List.flatten_cons, List.flatten_nil, List.append_nil, Nat.zero_add, List.drop_zero, List.length_append]
       have e1 : (p ++ q ++ [x]).take p.length = p := by rw [List.append_assoc, List.take_left]
       have e2 : ((p ++ q ++ [x]).take (p.length + q.length)).drop p.length = q := ab7 p q [x]
       rw [e1, e2]
     rw [hps]
     refine ⟨x, a, by rw [h2]; exact ht, ha, hlp, fun st hw => ?_⟩
     rw [h2] at hw
     exact h3 [] st 0 ⟨rfl, fun i p q hp => by simp at hp⟩ hw
    ·cases h
theorem aM5 {t : List Ng} {x : Ng} {a : Nat} {ss : List Nat} (h1 : t.getLast? = some x) (h2 : arG x.kind = some a) (h3 : a0C [] 0 (t.take (t.length - 1)) = some ss) (h4 : ss.length = a) : a2q t = some (a1O t ss (t.length - 1)) := by
 rw [a2q, h1]
 simp only
 rw [h2]
 simp only
 rw [h3]
 simp only
 rw [if_pos h4]
structure PL (w wr : World) (g8 c8 g9 c9 G n : Nat) (ss : List Nat) (last : Nat) (pss : List (List Ng)) (us : List Value) : Prop where
 grown : w.grownBy wr none
 starts : af1 wr w.heap.size (.slice (some ⟨g8, 0, none⟩) ss.length c8) ss
 ends : wr.ownsRow w.heap.size 3 1 (.slice (some ⟨g9, 0, none⟩) (ss.length + 1) c9) (ss.length + 1) ((ss ++ [last]).map sv)
 row : wr.ownsRow w.heap.size 22 1 (.slice (some ⟨G, 0, none⟩) n n) n (us ++ List.replicate (n - us.length) a4U)
 each : ∀ j, j < us.length → a5c wr w.heap.size (us.getD j a4U) (pss.getD j [])
 apart : ∀ i j, i < j → j < us.length → ∀ x, (us.getD i a4U).ownBlock = some x → (us.getD j a4U).ownBlock ≠ some x
section
variable {w wr wr' : World} {g8 c8 g9 c9 G n : Nat} {ss : List Nat} {last : Nat} {pss : List (List Ng)} {us : List Value}
theorem PL.keep (h : PL w wr g8 c8 g9 c9 G n ss last pss us) (K : wr.grownBy wr' none) : PL w wr' g8 c8 g9 c9 G n ss last pss us :=
 { h with grown := d3 h.grown K, starts := x9 h.starts K, ends := x9 h.ends K, row := x9 h.row K, each := fun j hj => x9 (h.each j hj) K }

end
def a3g : List Ng → Int
 | [] => 0
 | x :: r => arI x.kind - 1 + a3g r
theorem a2d {x : Ng} {r : List Ng} {n m : Nat} (h : s9 n (x :: r) = some m) : ∃ a, arG x.kind = some a ∧ ¬ n < a ∧ s9 (n - a + 1) r = some m := by
 simp only [s9] at h
 split at h
 ·cases h
 ·rename_i a ha
  split at h
  ·cases h
  ·rename_i hn
   exact ⟨a, ha, hn, h⟩
theorem a60 : ∀ (l : List Ng) (n m : Nat), s9 n l = some m → (m : Int) = n - a3g l
 | [], n, m, h => by cases h; simp [a3g]
 | x :: r, n, m, h => by
  obtain ⟨a, ha, hn, h⟩ := a2d h
  have := a60 r _ m h
  have e : arI x.kind = (a : Int) := by unfold arI; rw [ha]
  rw [a3g, e]
  omega
theorem a5Y : ∀ (p s : List Ng) (n m : Nat), s9 n (p ++ s) = some m → ∃ k, s9 n p = some k ∧ s9 k s = some m
 | [], s, n, m, h => ⟨n, rfl, h⟩
 | x :: r, s, n, m, h => by
  obtain ⟨a, ha, hn, h⟩ := a2d (r := r ++ s) h
  obtain ⟨k, h1, h2⟩ := a5Y r s _ m h
  refine ⟨k, ?_, h2⟩
  simp only [s9, ha, if_neg hn]
  exact h1
theorem a8L : ∀ (p : List Ng) (n m : Nat), p ≠ [] → s9 n p = some m → 1 ≤ m
 | [], n, m, h, _ => absurd rfl h
 | [x], n, m, _, h => by
  obtain ⟨a, ha, hn, h⟩ := a2d h
  cases h
  omega
 | x :: y :: r, n, m, _, h => by
  obtain ⟨a, ha, hn, h⟩ := a2d h
  exact a8L (y :: r) _ m (by simp) h
theorem ac4 {p s : List Ng} (h : s9 0 (p ++ s) = some 1) (hp : p ≠ []) : 0 ≤ a3g s := by
 obtain ⟨k, h1, h2⟩ := a5Y p s 0 1 h
 have := a8L p 0 k hp h1
 have := a60 s k 1 h2
 omega
theorem ac5 {q : List Ng} (h : s9 0 q = some 1) : a3g q = -1 := by
 have := a60 q 0 1 h
 omega
theorem a5Z : ∀ (l : List Ng) (n m c : Nat), s9 n l = some m → s9 (n + c) l = some (m + c)
 | [], n, m, c, h => by cases h; rfl
 | x :: r, n, m, c, h => by
  obtain ⟨a, ha, hn, h⟩ := a2d h
  have := a5Z r _ m c h
  simp only [s9, ha]
  rw [if_neg (by omega), show n + c - a + 1 = n - a + 1 + c by omega]
  exact this
theorem a2e : ∀ (p s : List Ng) (n k m : Nat), s9 n p = some k → s9 k s = some m → s9 n (p ++ s) = some m
 | [], s, n, k, m, h, h2 => by cases h; exact h2
 | x :: r, s, n, k, m, h, h2 => by
  obtain ⟨a, ha, hn, h⟩ := a2d h
  simp only [List.cons_append, s9, ha, if_neg hn]
  exact a2e r s _ k m h h2
theorem a4p : ∀ ps : List (List Ng), (∀ q ∈ ps, s9 0 q = some 1) → s9 0 ps.flatten = some ps.length
 | [], _ => rfl
 | q :: r, h => by
  rw [List.flatten_cons]
  refine a2e q r.flatten 0 1 _ (h q List.mem_cons_self) ?_
  have := a5Z r.flatten 0 r.length 1 (a4p r fun z hz => h z (List.mem_cons_of_mem _ hz))
  simpa using this
theorem aa9 : ∀ (l : List Ng) (ps : List (List Ng)) (ss' : List Nat), a0C (F0 ps 0) ps.flatten.length l = some ss' → (∀ q ∈ ps, s9 0 q = some 1) → ∃ ps', ss' = F0 ps' 0 ∧ ps'.flatten = ps.flatten ++ l ∧ ∀ q ∈ ps', s9 0 q = some 1
 | [], ps, ss', h, hps => by
  cases h
  exact ⟨ps, rfl, by simp, hps⟩
 | x :: l, ps, ss', h, hps => by
  simp only [a0C] at h
  split at h
  ·cases h
  ·rename_i a ha
   split at h
   ·cases h
   ·rename_i hl
    rw [a2m] at hl
    have hcase : a0C (F0 (ps.take (ps.length - a) ++ [(ps.drop (ps.length - a)).flatten ++ [x]]) 0) (ps.flatten.length + 1) l = some ss' := by
     split at h
     ·rename_i h0
      subst h0
      rw [Nat.sub_zero, List.take_length, List.drop_length, List.flatten_nil, List.nil_append, a2l]
      simpa [F0] using h
     ·rename_i h0
      rw [a2m, a6h] at h
      rw [a2l]
      have e : F0 (ps.take (ps.length - a + 1)) 0 = F0 (ps.take (ps.length - a)) 0 ++ F0 [(ps.drop (ps.length - a)).flatten ++ [x]] (0 + (ps.take (ps.length - a)).flatten.length) := by
       rw [List.take_succ_eq_append_getElem (by omega), a2l]
       rfl
      rw [← e]
      exact h
    have hfl : (ps.take (ps.length - a) ++ [(ps.drop (ps.length - a)).flatten ++ [x]]).flatten = ps.flatten ++ [x] := by
     rw [List.flatten_append, List.flatten_cons, List.flatten_nil, List.append_nil, ← List.append_assoc, ← List.flatten_append, List.take_append_drop]
    have hfl2 : (ps.take (ps.length - a) ++ [(ps.drop (ps.length - a)).flatten ++ [x]]).flatten.length = ps.flatten.length + 1 := by rw [hfl, List.length_append]; rfl
    rw [← hfl2] at hcase
    have hlast : s9 0 ((ps.drop (ps.length - a)).flatten ++ [x]) = some 1 := by
     have hd := a4p (ps.drop (ps.length - a)) fun q hq => hps q (List.mem_of_mem_drop hq)
     refine a2e _ _ 0 _ 1 hd ?_
     rw [List.length_drop]
     simp only [s9, ha]
     rw [if_neg (by omega), show ps.length - (ps.length - a) - a + 1 = 1 by omega]
    obtain ⟨ps', h1, h2, h3⟩ := aa9 l _ ss' hcase (fun q hq => by
     rcases List.mem_append.1 hq with hq | hq
     ·exact hps q (List.mem_of_mem_take hq)
     ·rw [List.mem_singleton.1 hq]; exact hlast)
    exact ⟨ps', h1, by rw [h2, hfl, List.append_assoc]; rfl, h3⟩
theorem a9t {t : List Ng} {pss : List (List Ng)} (h : a2q t = some pss) : ∀ q ∈ pss, s9 0 q = some 1 := by
 unfold a2q at h
 split at h
 ·cases h
 ·rename_i x hx
  split at h
  ·cases h
  ·rename_i a ha
   split at h
   ·cases h
   ·rename_i ss hss
    split at h
    ·rename_i hsa
     cases h
     have hne : t ≠ [] := by intro e; rw [e] at hx; cases hx
     have ht : t = t.take (t.length - 1) ++ [x] := by
      have h1 := List.dropLast_concat_getLast hne
      rw [List.getLast?_eq_some_getLast hne] at hx
      rw [Option.some.inj hx, List.dropLast_eq_take] at h1
      exact h1.symm
     obtain ⟨ps', h1, h2, h3⟩ := aa9 (t.take (t.length - 1)) [] ss hss (fun q hq => by cases hq)
     rw [List.flatten_nil, List.nil_append] at h2
     have hlp : ps'.length = a := by rw [← a2m ps' 0, ← h1]; exact hsa
     have hLl : t.length - 1 = ps'.flatten.length := by
      have := congrArg List.length h2
      rw [List.length_take] at this
      omega
     have hps : a1O t ss (t.length - 1) = ps' := by
      have hale := a1G ha
      rw [h1, hLl]
      rw [← h2] at ht
      have hcs : ps' = [] ∨ (∃ p, ps' = [p]) ∨ ∃ p q, ps' = [p, q] := by
       match ps', hlp with
       | [], _ => exact .inl rfl
       | [p], _ => exact .inr (.inl ⟨p, rfl⟩)
       | [p, q], _ => exact .inr (.inr ⟨p, q, rfl⟩)
       | _ :: _ :: _ :: _, hlp => simp at hlp; omega
      rcases hcs with rfl | ⟨p, rfl⟩ | ⟨p, q, rfl⟩
      ·rfl
      ·rw [ht]
       simp [a1O, F0]
      ·rw [ht]
       simp only [a1O, F0, List.tail_cons, List.cons_append, List.nil_append, List.zipWith_cons_cons, List.zipWith_nil_right, List.flatten_cons, List.flatten_nil, List.append_nil, Nat.zero_add, List.drop_zero, List.length_append]
       have e1 : (p ++ q ++ [x]).take p.length = p := by rw [List.append_assoc, List.take_left]
       have e2 : ((p ++ q ++ [x]).take (p.length + q.length)).drop p.length = q := ab7 p q [x]
       rw [e1, e2]
     rw [hps]
     exact h3
    ·cases h
theorem aM6 {t : List Ng} : s9 0 t = some 1 ↔ ∃ pss, a2q t = some pss := by
 constructor
 ·intro h
  have hne : t ≠ [] := by intro e; subst e; cases h
  obtain ⟨x, hx⟩ : ∃ x, t.getLast? = some x := ⟨_, List.getLast?_eq_some_getLast hne⟩
  have ht : t = t.take (t.length - 1) ++ [x] := by
   have h1 := List.dropLast_concat_getLast hne
   rw [List.getLast?_eq_some_getLast hne] at hx
   rw [Option.some.inj hx, List.dropLast_eq_take] at h1
   exact h1.symm
  rw [ht] at h
  obtain ⟨k, h1, h2⟩ := a5Y _ _ 0 1 h
  obtain ⟨a, ha, hn, h3⟩ := a2d h2
  have hk : k - a + 1 = 1 := by
   simp only [s9, Option.some.injEq] at h3
   exact h3
  have hs := a6F (t.take (t.length - 1)) [] 0
  rw [List.length_nil, h1] at hs
  cases hss : a0C [] 0 (t.take (t.length - 1)) with
  | none => rw [hss] at hs; cases hs
  | some ss =>
   rw [hss] at hs
   simp only [Option.map_some, Option.some.injEq] at hs
   exact ⟨_, aM5 hx ha hss (by omega)⟩
 ·rintro ⟨pss, h⟩
  obtain ⟨x, a, ht, ha, hl, -⟩ := a9r h
  rw [ht]
  refine a2e _ _ 0 _ 1 (a4p pss (a9t h)) ?_
  simp only [s9, ha]
  rw [if_neg (by omega), hl, Nat.sub_self]

end Go.Proofs.YtklipelnjgpnjaaGreatDoor
