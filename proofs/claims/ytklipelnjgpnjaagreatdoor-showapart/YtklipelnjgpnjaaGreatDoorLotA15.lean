import Derived.Test.YtklipelnjgpnjaaGreatDoorLotA14
import Derived.Test.YtklipelnjgpnjaaGreatDoorLotA12
namespace Go.Proofs.YtklipelnjgpnjaaGreatDoor
open Go.RowKit
set_option maxRecDepth 100000
def offs : List (List Ng) → Nat → List Nat
 | [], _ => []
 | p :: r, k => k :: offs r (k + p.length)
theorem offs_len : ∀ (ps : List (List Ng)) (k : Nat), (offs ps k).length = ps.length
 | [], _ => rfl
 | p :: r, k => by rw [offs, List.length_cons, List.length_cons, offs_len r]
theorem offs_app : ∀ (ps qs : List (List Ng)) (k : Nat), offs (ps ++ qs) k = offs ps k ++ offs qs (k + ps.flatten.length)
 | [], qs, k => by simp [offs]
 | p :: r, qs, k => by
  rw [List.cons_append, offs, offs_app r qs, offs, List.cons_append, List.flatten_cons, List.length_append, Nat.add_assoc]
theorem offs_take : ∀ (ps : List (List Ng)) (k n : Nat), (offs ps k).take n = offs (ps.take n) k
 | [], k, n => by simp [offs]
 | p :: r, k, 0 => by simp [offs]
 | p :: r, k, n + 1 => by rw [offs, List.take_succ_cons, List.take_succ_cons, offs, offs_take r]
def Stands (st : List Pt) (ps : List (List Ng)) : Prop := st.length = ps.length ∧ ∀ (i : Nat) (p : Pt) (q : List Ng), st[i]? = some p → ps[i]? = some q → walkG [] 0 q = .ok [p]
theorem stands_walk : ∀ (ps : List (List Ng)) (st : List Pt), Stands st ps → walkG [] 0 ps.flatten = .ok st
 | [], st, h => by
  have e : st = [] := List.eq_nil_of_length_eq_zero h.1
  subst e
  rfl
 | q :: r, [], h => by cases h.1
 | q :: r, p :: st, h => by
  have h1 := h.2 0 p q rfl rfl
  have h2 := stands_walk r st ⟨by simpa using h.1, fun i p' q' hp hq => h.2 (i + 1) p' q' (by simpa using hp) (by simpa using hq)⟩
  rw [List.flatten_cons, walkG_app, h1]
  have := walkG_frame r.flatten [] st [p] 0 (0 + q.length) h2
  simpa using this
theorem starts_lists : ∀ (l : List Ng) (ps : List (List Ng)) (ss' : List Nat), startsG (offs ps 0) ps.flatten.length l = some ss' → ∃ ps', ss' = offs ps' 0 ∧ ps'.flatten = ps.flatten ++ l ∧
  ∀ (st st' : List Pt) (k : Nat), Stands st ps → walkG st k l = .ok st' → Stands st' ps'
 | [], ps, ss', h => by
  cases h
  exact ⟨ps, rfl, by simp, fun st st' k hS hw => by cases hw; exact hS⟩
 | x :: l, ps, ss', h => by
  simp only [startsG] at h
  split at h
  ·cases h
  ·rename_i a ha
   split at h
   ·cases h
   ·rename_i hl
    rw [offs_len] at hl
    have hcase : startsG (offs (ps.take (ps.length - a) ++ [(ps.drop (ps.length - a)).flatten ++ [x]]) 0) (ps.flatten.length + 1) l = some ss' := by
     split at h
     ·rename_i h0
      subst h0
      rw [Nat.sub_zero, List.take_length, List.drop_length, List.flatten_nil, List.nil_append, offs_app]
      simpa [offs] using h
     ·rename_i h0
      rw [offs_len, offs_take] at h
      rw [offs_app]
      have e : offs (ps.take (ps.length - a + 1)) 0 = offs (ps.take (ps.length - a)) 0 ++ offs [(ps.drop (ps.length - a)).flatten ++ [x]] (0 + (ps.take (ps.length - a)).flatten.length) := by
       rw [List.take_succ_eq_append_getElem (by omega), offs_app]
       rfl
      rw [← e]
      exact h
    have hfl : (ps.take (ps.length - a) ++ [(ps.drop (ps.length - a)).flatten ++ [x]]).flatten = ps.flatten ++ [x] := by
     rw [List.flatten_append, List.flatten_cons, List.flatten_nil, List.append_nil, ← List.append_assoc, ← List.flatten_append, List.take_append_drop]
    have hfl2 : (ps.take (ps.length - a) ++ [(ps.drop (ps.length - a)).flatten ++ [x]]).flatten.length = ps.flatten.length + 1 := by rw [hfl, List.length_append]; rfl
    rw [← hfl2] at hcase
    obtain ⟨ps', h1, h2, h3⟩ := starts_lists l _ ss' hcase
    refine ⟨ps', h1, by rw [h2, hfl, List.append_assoc]; rfl, fun st st' k hS hw => ?_⟩
    simp only [walkG] at hw
    cases hs : stepG x st with
    | error e => rw [hs] at hw; cases hw
    | ok s1 =>
     rw [hs] at hw
     refine h3 s1 st' (k + 1) ?_ hw
     have hs0 := hs
     unfold stepG at hs
     rw [ha] at hs
     simp only at hs
     split at hs
     ·cases hs
     ·rename_i hl2
      split at hs
      ·cases hs
      ·rename_i hf
       cases hs
       have hlen : st.length = ps.length := hS.1
       have hS2 : Stands (st.drop (st.length - a)) (ps.drop (ps.length - a)) := by
        refine ⟨by rw [List.length_drop, List.length_drop, hlen], fun i p q hp hq => ?_⟩
        rw [List.getElem?_drop] at hp hq
        rw [hlen] at hp
        exact hS.2 _ p q hp hq
       have hw2 := stands_walk _ _ hS2
       have hf0 : faultG x (st.drop (st.length - a)) = 0 := by simpa using hf
       have hlast : walkG [] 0 ((ps.drop (ps.length - a)).flatten ++ [x]) = .ok [joinG x (st.drop (st.length - a))] := by
        rw [walkG_snoc x hw2]
        have hdl : (st.drop (st.length - a)).length = a := by rw [List.length_drop]; omega
        rw [stepG_good ha (by omega) (by rw [hdl, Nat.sub_self, List.drop_zero]; exact hf0), hdl, Nat.sub_self, List.drop_zero, List.take_zero, List.nil_append]
       refine ⟨by rw [List.length_append, List.length_append, List.length_take, List.length_take, hlen]; rfl, fun i p q hp hq => ?_⟩
       by_cases hi : i < ps.length - a
       ·rw [List.getElem?_append_left (by rw [List.length_take]; omega), List.getElem?_take_of_lt (by omega)] at hp hq
        exact hS.2 i p q hp hq
       ·rw [List.getElem?_append_right (by rw [List.length_take]; omega), List.length_take] at hp hq
        have hi0 : i - min (st.length - a) st.length = i - min (ps.length - a) ps.length := by rw [hlen]
        rw [hi0] at hp
        generalize i - min (ps.length - a) ps.length = j at hp hq
        cases j with
        | zero => cases hp; cases hq; exact hlast
        | succ j => simp at hp
theorem take_mid {α : Type} (a b c : List α) : ((a ++ b ++ c).take (a.length + b.length)).drop a.length = b := by
 rw [show a.length + b.length = (a ++ b).length by rw [List.length_append], List.take_left, List.drop_left]
theorem parts_lists {t : List Ng} {pss : List (List Ng)} (h : partsG t = some pss) : ∃ x a, t = pss.flatten ++ [x] ∧ arG x.kind = some a ∧ pss.length = a ∧ ∀ st, walkG [] 0 pss.flatten = .ok st → Stands st pss := by
 unfold partsG at h
 split at h
 ·cases h
 ·rename_i x hx
  split at h
  ·cases h
  ·rename_i a ha
   split at h
   ·cases h
   ·rename_i ss hss
    split at h
    ·rename_i hsa
     cases h
     have hne : t ≠ [] := by intro e; rw [e] at hx; cases hx
     have ht : t = t.take (t.length - 1) ++ [x] := by
      have h1 := List.dropLast_concat_getLast hne
      rw [List.getLast?_eq_some_getLast hne] at hx
      rw [Option.some.inj hx, List.dropLast_eq_take] at h1
      exact h1.symm
     obtain ⟨ps', h1, h2, h3⟩ := starts_lists (t.take (t.length - 1)) [] ss hss
     rw [List.flatten_nil, List.nil_append] at h2
     have hlp : ps'.length = a := by rw [← offs_len ps' 0, ← h1]; exact hsa
     have hLl : t.length - 1 = ps'.flatten.length := by
      have := congrArg List.length h2
      rw [List.length_take] at this
      omega
     have hps : piecesG t ss (t.length - 1) = ps' := by
      have hale := arG_le ha
      rw [h1, hLl]
      rw [← h2] at ht
      have hcs : ps' = [] ∨ (∃ p, ps' = [p]) ∨ ∃ p q, ps' = [p, q] := by
       match ps', hlp with
       | [], _ => exact .inl rfl
       | [p], _ => exact .inr (.inl ⟨p, rfl⟩)
       | [p, q], _ => exact .inr (.inr ⟨p, q, rfl⟩)
       | _ :: _ :: _ :: _, hlp => simp at hlp; omega
      rcases hcs with rfl | ⟨p, rfl⟩ | ⟨p, q, rfl⟩
      ·rfl
      ·rw [ht]
       simp [piecesG, offs]
      ·rw [ht]
       simp only [piecesG, offs, List.tail_cons, List.cons_append, List.nil_append, List.zipWith_cons_cons, List.zipWith_nil_right, List.flatten_cons, List.flatten_nil, List.append_nil, Nat.zero_add, List.drop_zero, List.length_append]
       have e1 : (p ++ q ++ [x]).take p.length = p := by rw [List.append_assoc, List.take_left]
       have e2 : ((p ++ q ++ [x]).take (p.length + q.length)).drop p.length = q := take_mid p q [x]
       rw [e1, e2]
     rw [hps]
     refine ⟨x, a, by rw [h2]; exact ht, ha, hlp, fun st hw => ?_⟩
     rw [h2] at hw
     exact h3 [] st 0 ⟨rfl, fun i p q hp => by simp at hp⟩ hw
    ·cases h
theorem partsG_some {t : List Ng} {x : Ng} {a : Nat} {ss : List Nat} (h1 : t.getLast? = some x) (h2 : arG x.kind = some a) (h3 : startsG [] 0 (t.take (t.length - 1)) = some ss) (h4 : ss.length = a) : partsG t = some (piecesG t ss (t.length - 1)) := by
 rw [partsG, h1]
 simp only
 rw [h2]
 simp only
 rw [h3]
 simp only
 rw [if_pos h4]
structure PL (w wr : World) (g8 c8 g9 c9 G n : Nat) (ss : List Nat) (last : Nat) (pss : List (List Ng)) (us : List Value) : Prop where
 grown : w.grownBy wr none
 starts : TsOwns wr w.heap.size (.slice (some ⟨g8, 0, none⟩) ss.length c8) ss
 ends : wr.ownsRow w.heap.size 3 1 (.slice (some ⟨g9, 0, none⟩) (ss.length + 1) c9) (ss.length + 1) ((ss ++ [last]).map sv)
 row : wr.ownsRow w.heap.size 22 1 (.slice (some ⟨G, 0, none⟩) n n) n (us ++ List.replicate (n - us.length) tynilV)
 each : ∀ j, j < us.length → NgOwns wr w.heap.size (us.getD j tynilV) (pss.getD j [])
 apart : ∀ i j, i < j → j < us.length → ∀ x, (us.getD i tynilV).ownBlock = some x → (us.getD j tynilV).ownBlock ≠ some x
section
variable {w wr wr' : World} {g8 c8 g9 c9 G n : Nat} {ss : List Nat} {last : Nat} {pss : List (List Ng)} {us : List Value}
theorem PL.keep (h : PL w wr g8 c8 g9 c9 G n ss last pss us) (K : wr.grownBy wr' none) : PL w wr' g8 c8 g9 c9 G n ss last pss us :=
 { h with grown := grown_trans h.grown K, starts := owns_keptNone h.starts K, ends := owns_keptNone h.ends K, row := owns_keptNone h.row K, each := fun j hj => owns_keptNone (h.each j hj) K }

end
def sumA : List Ng → Int
 | [] => 0
 | x :: r => arI x.kind - 1 + sumA r
theorem left_cons {x : Ng} {r : List Ng} {n m : Nat} (h : leftG n (x :: r) = some m) : ∃ a, arG x.kind = some a ∧ ¬ n < a ∧ leftG (n - a + 1) r = some m := by
 simp only [leftG] at h
 split at h
 ·cases h
 ·rename_i a ha
  split at h
  ·cases h
  ·rename_i hn
   exact ⟨a, ha, hn, h⟩
theorem left_sum : ∀ (l : List Ng) (n m : Nat), leftG n l = some m → (m : Int) = n - sumA l
 | [], n, m, h => by cases h; simp [sumA]
 | x :: r, n, m, h => by
  obtain ⟨a, ha, hn, h⟩ := left_cons h
  have := left_sum r _ m h
  have e : arI x.kind = (a : Int) := by unfold arI; rw [ha]
  rw [sumA, e]
  omega
theorem left_app : ∀ (p s : List Ng) (n m : Nat), leftG n (p ++ s) = some m → ∃ k, leftG n p = some k ∧ leftG k s = some m
 | [], s, n, m, h => ⟨n, rfl, h⟩
 | x :: r, s, n, m, h => by
  obtain ⟨a, ha, hn, h⟩ := left_cons (r := r ++ s) h
  obtain ⟨k, h1, h2⟩ := left_app r s _ m h
  refine ⟨k, ?_, h2⟩
  simp only [leftG, ha, if_neg hn]
  exact h1
theorem left_pos : ∀ (p : List Ng) (n m : Nat), p ≠ [] → leftG n p = some m → 1 ≤ m
 | [], n, m, h, _ => absurd rfl h
 | [x], n, m, _, h => by
  obtain ⟨a, ha, hn, h⟩ := left_cons h
  cases h
  omega
 | x :: y :: r, n, m, _, h => by
  obtain ⟨a, ha, hn, h⟩ := left_cons h
  exact left_pos (y :: r) _ m (by simp) h
theorem tree_end {p s : List Ng} (h : leftG 0 (p ++ s) = some 1) (hp : p ≠ []) : 0 ≤ sumA s := by
 obtain ⟨k, h1, h2⟩ := left_app p s 0 1 h
 have := left_pos p 0 k hp h1
 have := left_sum s k 1 h2
 omega
theorem tree_sum {q : List Ng} (h : leftG 0 q = some 1) : sumA q = -1 := by
 have := left_sum q 0 1 h
 omega
theorem left_frame : ∀ (l : List Ng) (n m c : Nat), leftG n l = some m → leftG (n + c) l = some (m + c)
 | [], n, m, c, h => by cases h; rfl
 | x :: r, n, m, c, h => by
  obtain ⟨a, ha, hn, h⟩ := left_cons h
  have := left_frame r _ m c h
  simp only [leftG, ha]
  rw [if_neg (by omega), show n + c - a + 1 = n - a + 1 + c by omega]
  exact this
theorem left_join : ∀ (p s : List Ng) (n k m : Nat), leftG n p = some k → leftG k s = some m → leftG n (p ++ s) = some m
 | [], s, n, k, m, h, h2 => by cases h; exact h2
 | x :: r, s, n, k, m, h, h2 => by
  obtain ⟨a, ha, hn, h⟩ := left_cons h
  simp only [List.cons_append, leftG, ha, if_neg hn]
  exact left_join r s _ k m h h2
theorem left_flat : ∀ ps : List (List Ng), (∀ q ∈ ps, leftG 0 q = some 1) → leftG 0 ps.flatten = some ps.length
 | [], _ => rfl
 | q :: r, h => by
  rw [List.flatten_cons]
  refine left_join q r.flatten 0 1 _ (h q List.mem_cons_self) ?_
  have := left_frame r.flatten 0 r.length 1 (left_flat r fun z hz => h z (List.mem_cons_of_mem _ hz))
  simpa using this
theorem starts_trees : ∀ (l : List Ng) (ps : List (List Ng)) (ss' : List Nat), startsG (offs ps 0) ps.flatten.length l = some ss' → (∀ q ∈ ps, leftG 0 q = some 1) → ∃ ps', ss' = offs ps' 0 ∧ ps'.flatten = ps.flatten ++ l ∧ ∀ q ∈ ps', leftG 0 q = some 1
 | [], ps, ss', h, hps => by
  cases h
  exact ⟨ps, rfl, by simp, hps⟩
 | x :: l, ps, ss', h, hps => by
  simp only [startsG] at h
  split at h
  ·cases h
  ·rename_i a ha
   split at h
   ·cases h
   ·rename_i hl
    rw [offs_len] at hl
    have hcase : startsG (offs (ps.take (ps.length - a) ++ [(ps.drop (ps.length - a)).flatten ++ [x]]) 0) (ps.flatten.length + 1) l = some ss' := by
     split at h
     ·rename_i h0
      subst h0
      rw [Nat.sub_zero, List.take_length, List.drop_length, List.flatten_nil, List.nil_append, offs_app]
      simpa [offs] using h
     ·rename_i h0
      rw [offs_len, offs_take] at h
      rw [offs_app]
      have e : offs (ps.take (ps.length - a + 1)) 0 = offs (ps.take (ps.length - a)) 0 ++ offs [(ps.drop (ps.length - a)).flatten ++ [x]] (0 + (ps.take (ps.length - a)).flatten.length) := by
       rw [List.take_succ_eq_append_getElem (by omega), offs_app]
       rfl
      rw [← e]
      exact h
    have hfl : (ps.take (ps.length - a) ++ [(ps.drop (ps.length - a)).flatten ++ [x]]).flatten = ps.flatten ++ [x] := by
     rw [List.flatten_append, List.flatten_cons, List.flatten_nil, List.append_nil, ← List.append_assoc, ← List.flatten_append, List.take_append_drop]
    have hfl2 : (ps.take (ps.length - a) ++ [(ps.drop (ps.length - a)).flatten ++ [x]]).flatten.length = ps.flatten.length + 1 := by rw [hfl, List.length_append]; rfl
    rw [← hfl2] at hcase
    have hlast : leftG 0 ((ps.drop (ps.length - a)).flatten ++ [x]) = some 1 := by
     have hd := left_flat (ps.drop (ps.length - a)) fun q hq => hps q (List.mem_of_mem_drop hq)
     refine left_join _ _ 0 _ 1 hd ?_
     rw [List.length_drop]
     simp only [leftG, ha]
     rw [if_neg (by omega), show ps.length - (ps.length - a) - a + 1 = 1 by omega]
    obtain ⟨ps', h1, h2, h3⟩ := starts_trees l _ ss' hcase (fun q hq => by
     rcases List.mem_append.1 hq with hq | hq
     ·exact hps q (List.mem_of_mem_take hq)
     ·rw [List.mem_singleton.1 hq]; exact hlast)
    exact ⟨ps', h1, by rw [h2, hfl, List.append_assoc]; rfl, h3⟩
theorem parts_trees {t : List Ng} {pss : List (List Ng)} (h : partsG t = some pss) : ∀ q ∈ pss, leftG 0 q = some 1 := by
 unfold partsG at h
 split at h
 ·cases h
 ·rename_i x hx
  split at h
  ·cases h
  ·rename_i a ha
   split at h
   ·cases h
   ·rename_i ss hss
    split at h
    ·rename_i hsa
     cases h
     have hne : t ≠ [] := by intro e; rw [e] at hx; cases hx
     have ht : t = t.take (t.length - 1) ++ [x] := by
      have h1 := List.dropLast_concat_getLast hne
      rw [List.getLast?_eq_some_getLast hne] at hx
      rw [Option.some.inj hx, List.dropLast_eq_take] at h1
      exact h1.symm
     obtain ⟨ps', h1, h2, h3⟩ := starts_trees (t.take (t.length - 1)) [] ss hss (fun q hq => by cases hq)
     rw [List.flatten_nil, List.nil_append] at h2
     have hlp : ps'.length = a := by rw [← offs_len ps' 0, ← h1]; exact hsa
     have hLl : t.length - 1 = ps'.flatten.length := by
      have := congrArg List.length h2
      rw [List.length_take] at this
      omega
     have hps : piecesG t ss (t.length - 1) = ps' := by
      have hale := arG_le ha
      rw [h1, hLl]
      rw [← h2] at ht
      have hcs : ps' = [] ∨ (∃ p, ps' = [p]) ∨ ∃ p q, ps' = [p, q] := by
       match ps', hlp with
       | [], _ => exact .inl rfl
       | [p], _ => exact .inr (.inl ⟨p, rfl⟩)
       | [p, q], _ => exact .inr (.inr ⟨p, q, rfl⟩)
       | _ :: _ :: _ :: _, hlp => simp at hlp; omega
      rcases hcs with rfl | ⟨p, rfl⟩ | ⟨p, q, rfl⟩
      ·rfl
      ·rw [ht]
       simp [piecesG, offs]
      ·rw [ht]
       simp only [piecesG, offs, List.tail_cons, List.cons_append, List.nil_append, List.zipWith_cons_cons, List.zipWith_nil_right, List.flatten_cons, List.flatten_nil, List.append_nil, Nat.zero_add, List.drop_zero, List.length_append]
       have e1 : (p ++ q ++ [x]).take p.length = p := by rw [List.append_assoc, List.take_left]
       have e2 : ((p ++ q ++ [x]).take (p.length + q.length)).drop p.length = q := take_mid p q [x]
       rw [e1, e2]
     rw [hps]
     exact h3
    ·cases h
theorem parts_left {t : List Ng} : leftG 0 t = some 1 ↔ ∃ pss, partsG t = some pss := by
 constructor
 ·intro h
  have hne : t ≠ [] := by intro e; subst e; cases h
  obtain ⟨x, hx⟩ : ∃ x, t.getLast? = some x := ⟨_, List.getLast?_eq_some_getLast hne⟩
  have ht : t = t.take (t.length - 1) ++ [x] := by
   have h1 := List.dropLast_concat_getLast hne
   rw [List.getLast?_eq_some_getLast hne] at hx
   rw [Option.some.inj hx, List.dropLast_eq_take] at h1
   exact h1.symm
  rw [ht] at h
  obtain ⟨k, h1, h2⟩ := left_app _ _ 0 1 h
  obtain ⟨a, ha, hn, h3⟩ := left_cons h2
  have hk : k - a + 1 = 1 := by
   simp only [leftG, Option.some.injEq] at h3
   exact h3
  have hs := starts_left (t.take (t.length - 1)) [] 0
  rw [List.length_nil, h1] at hs
  cases hss : startsG [] 0 (t.take (t.length - 1)) with
  | none => rw [hss] at hs; cases hs
  | some ss =>
   rw [hss] at hs
   simp only [Option.map_some, Option.some.injEq] at hs
   exact ⟨_, partsG_some hx ha hss (by omega)⟩
 ·rintro ⟨pss, h⟩
  obtain ⟨x, a, ht, ha, hl, -⟩ := parts_lists h
  rw [ht]
  refine left_join _ _ 0 _ 1 (left_flat pss (parts_trees h)) ?_
  simp only [leftG, ha]
  rw [if_neg (by omega), hl, Nat.sub_self]

end Go.Proofs.YtklipelnjgpnjaaGreatDoor
