/-
  Chapter 12 in words: where the last of the trees begins, told from behind. No Go text here.
-/
import Derived.Test.YtgoiblnddfggbaaLotP18
import Derived.Test.YtgoiblnddfggbaaTyWh
import Derived.Test.YtgoiblnddfggbaaTyR2
namespace Go.Proofs.Ytgoiblnddfggbaa
open Go.RowKit
set_option maxRecDepth 100000

/-- What nodes take, each less the one that it makes. -/
def sumA : List Ng → Int
  | [] => 0
  | x :: r => arI x.kind - 1 + sumA r
theorem left_cons {x : Ng} {r : List Ng} {n m : Nat} (h : leftG n (x :: r) = some m) : ∃ a, arG x.kind = some a ∧ ¬ n < a ∧ leftG (n - a + 1) r = some m := by
  simp only [leftG] at h
  split at h
  · cases h
  · rename_i a ha
    split at h
    · cases h
    · rename_i hn
      exact ⟨a, ha, hn, h⟩
theorem left_sum : ∀ (l : List Ng) (n m : Nat), leftG n l = some m → (m : Int) = n - sumA l
  | [], n, m, h => by cases h; simp [sumA]
  | x :: r, n, m, h => by
    obtain ⟨a, ha, hn, h⟩ := left_cons h
    have := left_sum r _ m h
    have e : arI x.kind = (a : Int) := by unfold arI; rw [ha]
    rw [sumA, e]
    omega
theorem left_app : ∀ (p s : List Ng) (n m : Nat), leftG n (p ++ s) = some m → ∃ k, leftG n p = some k ∧ leftG k s = some m
  | [], s, n, m, h => ⟨n, rfl, h⟩
  | x :: r, s, n, m, h => by
    obtain ⟨a, ha, hn, h⟩ := left_cons (r := r ++ s) h
    obtain ⟨k, h1, h2⟩ := left_app r s _ m h
    refine ⟨k, ?_, h2⟩
    simp only [leftG, ha, if_neg hn]
    exact h1
theorem left_pos : ∀ (p : List Ng) (n m : Nat), p ≠ [] → leftG n p = some m → 1 ≤ m
  | [], n, m, h, _ => absurd rfl h
  | [x], n, m, _, h => by
    obtain ⟨a, ha, hn, h⟩ := left_cons h
    cases h
    omega
  | x :: y :: r, n, m, _, h => by
    obtain ⟨a, ha, hn, h⟩ := left_cons h
    exact left_pos (y :: r) _ m (by simp) h
/-- A tree's nodes from behind: not enough before its first. -/
theorem tree_end {p s : List Ng} (h : leftG 0 (p ++ s) = some 1) (hp : p ≠ []) : 0 ≤ sumA s := by
  obtain ⟨k, h1, h2⟩ := left_app p s 0 1 h
  have := left_pos p 0 k hp h1
  have := left_sum s k 1 h2
  omega
theorem tree_sum {q : List Ng} (h : leftG 0 q = some 1) : sumA q = -1 := by
  have := left_sum q 0 1 h
  omega
theorem left_frame : ∀ (l : List Ng) (n m c : Nat), leftG n l = some m → leftG (n + c) l = some (m + c)
  | [], n, m, c, h => by cases h; rfl
  | x :: r, n, m, c, h => by
    obtain ⟨a, ha, hn, h⟩ := left_cons h
    have := left_frame r _ m c h
    simp only [leftG, ha]
    rw [if_neg (by omega), show n + c - a + 1 = n - a + 1 + c by omega]
    exact this
theorem left_join : ∀ (p s : List Ng) (n k m : Nat), leftG n p = some k → leftG k s = some m → leftG n (p ++ s) = some m
  | [], s, n, k, m, h, h2 => by cases h; exact h2
  | x :: r, s, n, k, m, h, h2 => by
    obtain ⟨a, ha, hn, h⟩ := left_cons h
    simp only [List.cons_append, leftG, ha, if_neg hn]
    exact left_join r s _ k m h h2
theorem left_flat : ∀ ps : List (List Ng), (∀ q ∈ ps, leftG 0 q = some 1) → leftG 0 ps.flatten = some ps.length
  | [], _ => rfl
  | q :: r, h => by
    rw [List.flatten_cons]
    refine left_join q r.flatten 0 1 _ (h q List.mem_cons_self) ?_
    have := left_frame r.flatten 0 r.length 1 (left_flat r fun z hz => h z (List.mem_cons_of_mem _ hz))
    simpa using this

theorem starts_trees : ∀ (l : List Ng) (ps : List (List Ng)) (ss' : List Nat), startsG (offs ps 0) ps.flatten.length l = some ss' → (∀ q ∈ ps, leftG 0 q = some 1) → ∃ ps', ss' = offs ps' 0 ∧ ps'.flatten = ps.flatten ++ l ∧ ∀ q ∈ ps', leftG 0 q = some 1
  | [], ps, ss', h, hps => by
    cases h
    exact ⟨ps, rfl, by simp, hps⟩
  | x :: l, ps, ss', h, hps => by
    simp only [startsG] at h
    split at h
    · cases h
    · rename_i a ha
      split at h
      · cases h
      · rename_i hl
        rw [offs_len] at hl
        have hcase : startsG (offs (ps.take (ps.length - a) ++ [(ps.drop (ps.length - a)).flatten ++ [x]]) 0) (ps.flatten.length + 1) l = some ss' := by
          split at h
          · rename_i h0
            subst h0
            rw [Nat.sub_zero, List.take_length, List.drop_length, List.flatten_nil, List.nil_append, offs_app]
            simpa [offs] using h
          · rename_i h0
            rw [offs_len, offs_take] at h
            rw [offs_app]
            have e : offs (ps.take (ps.length - a + 1)) 0 = offs (ps.take (ps.length - a)) 0 ++ offs [(ps.drop (ps.length - a)).flatten ++ [x]] (0 + (ps.take (ps.length - a)).flatten.length) := by
              rw [List.take_succ_eq_append_getElem (by omega), offs_app]
              rfl
            rw [← e]
            exact h
        have hfl : (ps.take (ps.length - a) ++ [(ps.drop (ps.length - a)).flatten ++ [x]]).flatten = ps.flatten ++ [x] := by
          rw [List.flatten_append, List.flatten_cons, List.flatten_nil, List.append_nil, ← List.append_assoc, ← List.flatten_append, List.take_append_drop]
        have hfl2 : (ps.take (ps.length - a) ++ [(ps.drop (ps.length - a)).flatten ++ [x]]).flatten.length = ps.flatten.length + 1 := by rw [hfl, List.length_append]; rfl
        rw [← hfl2] at hcase
        have hlast : leftG 0 ((ps.drop (ps.length - a)).flatten ++ [x]) = some 1 := by
          have hd := left_flat (ps.drop (ps.length - a)) fun q hq => hps q (List.mem_of_mem_drop hq)
          refine left_join _ _ 0 _ 1 hd ?_
          rw [List.length_drop]
          simp only [leftG, ha]
          rw [if_neg (by omega), show ps.length - (ps.length - a) - a + 1 = 1 by omega]
        obtain ⟨ps', h1, h2, h3⟩ := starts_trees l _ ss' hcase (fun q hq => by
          rcases List.mem_append.1 hq with hq | hq
          · exact hps q (List.mem_of_mem_take hq)
          · rw [List.mem_singleton.1 hq]; exact hlast)
        exact ⟨ps', h1, by rw [h2, hfl, List.append_assoc]; rfl, h3⟩
/-- The parts of a tree are trees. -/
theorem parts_trees {t : List Ng} {pss : List (List Ng)} (h : partsG t = some pss) : ∀ q ∈ pss, leftG 0 q = some 1 := by
  unfold partsG at h
  split at h
  · cases h
  · rename_i x hx
    split at h
    · cases h
    · rename_i a ha
      split at h
      · cases h
      · rename_i ss hss
        split at h
        · rename_i hsa
          cases h
          have hne : t ≠ [] := by intro e; rw [e] at hx; cases hx
          have ht : t = t.take (t.length - 1) ++ [x] := by
            have h1 := List.dropLast_concat_getLast hne
            rw [List.getLast?_eq_some_getLast hne] at hx
            rw [Option.some.inj hx, List.dropLast_eq_take] at h1
            exact h1.symm
          obtain ⟨ps', h1, h2, h3⟩ := starts_trees (t.take (t.length - 1)) [] ss hss (fun q hq => by cases hq)
          rw [List.flatten_nil, List.nil_append] at h2
          have hlp : ps'.length = a := by rw [← offs_len ps' 0, ← h1]; exact hsa
          have hLl : t.length - 1 = ps'.flatten.length := by
            have := congrArg List.length h2
            rw [List.length_take] at this
            omega
          have hps : piecesG t ss (t.length - 1) = ps' := by
            have hale := arG_le ha
            rw [h1, hLl]
            rw [← h2] at ht
            have hcs : ps' = [] ∨ (∃ p, ps' = [p]) ∨ ∃ p q, ps' = [p, q] := by
              match ps', hlp with
              | [], _ => exact .inl rfl
              | [p], _ => exact .inr (.inl ⟨p, rfl⟩)
              | [p, q], _ => exact .inr (.inr ⟨p, q, rfl⟩)
              | _ :: _ :: _ :: _, hlp => simp at hlp; omega
            rcases hcs with rfl | ⟨p, rfl⟩ | ⟨p, q, rfl⟩
            · rfl
            · rw [ht]
              simp [piecesG, offs]
            · rw [ht]
              simp only [piecesG, offs, List.tail_cons, List.cons_append, List.nil_append, List.zipWith_cons_cons, List.zipWith_nil_right, List.flatten_cons, List.flatten_nil, List.append_nil, Nat.zero_add, List.drop_zero, List.length_append]
              have e1 : (p ++ q ++ [x]).take p.length = p := by rw [List.append_assoc, List.take_left]
              have e2 : ((p ++ q ++ [x]).take (p.length + q.length)).drop p.length = q := take_mid p q [x]
              rw [e1, e2]
          rw [hps]
          exact h3
        · cases h
theorem arI_le (k : Int) : -1 ≤ arI k ∧ arI k ≤ 2 := by
  unfold arI
  cases h : arG k with
  | none => simp
  | some a =>
    have := arG_le h
    simp only
    omega
theorem sumA_le : ∀ l : List Ng, sumA l ≤ l.length
  | [] => by simp [sumA]
  | x :: r => by
    have := sumA_le r
    have := (arI_le x.kind).2
    rw [sumA, List.length_cons]
    omega

set_option maxHeartbeats 4000000 in
theorem refbegin_any (ao : Option Addr) (cap : Nat) (xs p q r : List Ng) (w : World) (C : CV w ao (flatG xs)) (hx : xs = p ++ q ++ r) (hq : leftG 0 q = some 1) (j : Nat) (hj : j + 1 = p.length + q.length) (hm : xs.length ≤ 140737488355328) :
    Calls Try.prog 28 #[.slice ao xs.length cap, .int .i64 (j : Int)] w fun e w' => e = .returned (.int .i64 (p.length : Int)) ∧ w' = w := by
  have HC : Hid (CV w ao (flatG xs)) := C
  have hxl : xs.length = p.length + q.length + r.length := by rw [hx, List.length_append, List.length_append]
  have hq0 : 0 < q.length := by
    cases q with
    | nil => cases hq
    | cons y z => simp
  have HX : Hid (∀ k (h : k < xs.length) (h' : k - p.length < q.length), p.length ≤ k → xs[k] = q[k - p.length]) := fun k h h' hk => by
    rw [List.getElem_of_eq hx h, List.getElem_append_left (by rw [List.length_append]; omega), List.getElem_append_right hk]
  have HE : Hid (∀ d, 0 < d → 0 ≤ sumA (q.drop d)) := fun d hd => by
    by_cases hdl : q.length ≤ d
    · rw [List.drop_eq_nil_of_le hdl]; exact Int.le_refl _
    · refine tree_end (p := q.take d) (by rw [List.take_append_drop]; exact hq) ?_
      intro e
      have := congrArg List.length e
      rw [List.length_take, List.length_nil] at this
      omega
  have HS : Hid (sumA q = -1) := tree_sum hq
  have HQL : Hid (∀ d, sumA (q.drop d) ≤ q.length) := fun d => by
    have := sumA_le (q.drop d)
    rw [List.length_drop] at this
    omega
  obtain ⟨P, hP⟩ : ∃ P, p.length = P := ⟨_, rfl⟩
  obtain ⟨Q, hQ⟩ : ∃ Q, q.length = Q := ⟨_, rfl⟩
  have HQ : Hid (q.length = Q) := hQ
  rw [hP, hQ] at hj hxl
  rw [hP] at HX ⊢
  rw [hQ] at HQL hq0
  have hxl2 : P + Q ≤ xs.length := by omega
  clear C hx hq hP hQ hxl
  go_enter Try.func28, Try.ntmps28
  go_wp2
  go_loopw [1, 5] (fun i s wr => ∃ k : Nat, P ≤ k ∧ k < P + Q ∧ i = .int .i64 k ∧ s = .int .i64 (1 + sumA (q.drop (k + 1 - P))) ∧ wr = w) (fun i _ _ => (intOf i).toNat)
  case atStart =>
    refine ⟨j, by omega, by omega, rfl, ?_, rfl⟩
    rw [List.drop_eq_nil_of_le (by rw [HQ.out]; omega)]
    rfl
  case round =>
    obtain ⟨k, h1, h2, rfl, rfl, rfl⟩ := hrel
    have hlt : k < xs.length := by omega
    obtain ⟨b, off, rfl, hc⟩ := HC.out.ngs hlt
    have hkq : k - P < Q := by omega
    have c0 := hc k hlt 0 (.int .i64 xs[k].kind) rfl
    have hql : k - P < q.length := by rw [HQ.out]; exact hkq
    rw [Nat.add_zero, HX.out k hlt hql h1] at c0
    have HD : Hid (sumA (q.drop (k - P)) = arI (q[k - P]'hql).kind - 1 + sumA (q.drop (k + 1 - P))) := by
      show sumA _ = _
      rw [List.drop_eq_getElem_cons hql, sumA, show k - P + 1 = k + 1 - P by omega]
    have hca := arity12_any (q[k - P]'hql).kind wr
    have hb := arI_le (q[k - P]'hql).kind
    have hs0 := HE.out (k + 1 - P) (by omega)
    have hs1 := HQL.out (k + 1 - P)
    have hl : (k : Int) < (xs.length : Int) := by omega
    have z0 : (0 : Int) ≤ (k : Int) := by omega
    have hd := HD.out
    obtain ⟨kd, hkd⟩ : ∃ kd, (q[k - P]'hql).kind = kd := ⟨_, rfl⟩
    rw [hkd] at c0 hca hb hd
    obtain ⟨A, hA⟩ : ∃ A, arI kd = A := ⟨_, rfl⟩
    rw [hA] at hca hb hd
    obtain ⟨S, hS⟩ : ∃ S, sumA (q.drop (k + 1 - P)) = S := ⟨_, rfl⟩
    rw [hS] at hs0 hs1 hd ⊢
    have w1 : IntKind.i64.wrap (1 + S - 1) = S := by rw [IntKind.wrap_i64]; omega
    have w2 : IntKind.i64.wrap (S + A) = S + A := by rw [IntKind.wrap_i64]; omega
    clear hc HD hkd hA hS
    by_cases hkP : k = P
    · have hz : S + A = 0 := by
        rw [hkP, Nat.sub_self, List.drop_zero, HS.out] at hd
        omega
      have t0 : ((S + A : Int) == 0) = true := by rw [hz]; rfl
      subst hkP
      clear hz hd hs0 hs1 hb
      go_wp2_with fail
      refine hca.mono ?_
      rintro e w4 ⟨rfl, rfl⟩
      go_wp2
      go_ret
      exact ⟨rfl, rfl⟩
    · have hz : 0 ≤ S + A - 1 := by
        have := HE.out (k - P) (by omega)
        omega
      have t0 : ((S + A : Int) == 0) = false := by rw [beq_eq_false_iff_ne]; omega
      have w3 : IntKind.i64.wrap ((k : Int) - 1) = ((k - 1 : Nat) : Int) := by rw [IntKind.wrap_i64]; omega
      have HF : Hid (1 + sumA (q.drop (k - 1 + 1 - P)) = S + A) := by
        show 1 + sumA _ = _
        rw [show k - 1 + 1 - P = k - P by omega, hd]
        omega
      clear hz hd hs0 hs1 hb
      go_wp2_with fail
      refine hca.mono ?_
      rintro e w4 ⟨rfl, rfl⟩
      clear hca
      go_wp2
      go_roundw
      case rel => exact ⟨k - 1, by omega, by omega, by go_num, by rw [HF.out], trivial⟩
      case measure => simp [intOf]; omega

/-- A list is a tree if it has parts. -/
theorem parts_left {t : List Ng} : leftG 0 t = some 1 ↔ ∃ pss, partsG t = some pss := by
  constructor
  · intro h
    have hne : t ≠ [] := by intro e; subst e; cases h
    obtain ⟨x, hx⟩ : ∃ x, t.getLast? = some x := ⟨_, List.getLast?_eq_some_getLast hne⟩
    have ht : t = t.take (t.length - 1) ++ [x] := by
      have h1 := List.dropLast_concat_getLast hne
      rw [List.getLast?_eq_some_getLast hne] at hx
      rw [Option.some.inj hx, List.dropLast_eq_take] at h1
      exact h1.symm
    rw [ht] at h
    obtain ⟨k, h1, h2⟩ := left_app _ _ 0 1 h
    obtain ⟨a, ha, hn, h3⟩ := left_cons h2
    have hk : k - a + 1 = 1 := by
      simp only [leftG, Option.some.injEq] at h3
      exact h3
    have hs := starts_left (t.take (t.length - 1)) [] 0
    rw [List.length_nil, h1] at hs
    cases hss : startsG [] 0 (t.take (t.length - 1)) with
    | none => rw [hss] at hs; cases hs
    | some ss =>
      rw [hss] at hs
      simp only [Option.map_some, Option.some.injEq] at hs
      exact ⟨_, partsG_some hx ha hss (by omega)⟩
  · rintro ⟨pss, h⟩
    obtain ⟨x, a, ht, ha, hl, -⟩ := parts_lists h
    rw [ht]
    refine left_join _ _ 0 _ 1 (left_flat pss (parts_trees h)) ?_
    simp only [leftG, ha]
    rw [if_neg (by omega), hl, Nat.sub_self]

end Go.Proofs.Ytgoiblnddfggbaa
