import Derived.Test.YtklipelnjgpnjaaGreatDoorLotF14
import Derived.Test.YtklipelnjgpnjaaGreatDoorLotF12
namespace Go.Proofs.YtklipelnjgpnjaaGreatDoor
open Go.RowKit
set_option maxRecDepth 100000
def offs : List (List Ng) → Nat → List Nat
 | [], _ => []
 | p :: r, k => k :: offs r (k + p.length)
theorem offs_len : ∀ (ps : List (List Ng)) (k : Nat), (offs ps k).length = ps.length
 | [], _ => rfl
 | p :: r, k => by rw [offs, List.length_cons, List.length_cons, offs_len r]
theorem offs_app : ∀ (ps qs : List (List Ng)) (k : Nat), offs (ps ++ qs) k = offs ps k ++ offs qs (k + ps.flatten.length)
 | [], qs, k => by simp [offs]
 | p :: r, qs, k => by
  rw [List.cons_append, offs, offs_app r qs, offs, List.cons_append, List.flatten_cons, List.length_append, Nat.add_assoc]
theorem offs_take : ∀ (ps : List (List Ng)) (k n : Nat), (offs ps k).take n = offs (ps.take n) k
 | [], k, n => by simp [offs]
 | p :: r, k, 0 => by simp [offs]
 | p :: r, k, n + 1 => by rw [offs, List.take_succ_cons, List.take_succ_cons, offs, offs_take r]
def Stands (st : List Pt) (ps : List (List Ng)) : Prop := st.length = ps.length ∧ ∀ (i : Nat) (p : Pt) (q : List Ng), st[i]? = some p → ps[i]? = some q → walkG [] 0 q = .ok [p]
theorem stands_walk : ∀ (ps : List (List Ng)) (st : List Pt), Stands st ps → walkG [] 0 ps.flatten = .ok st
 | [], st, h => by
  have e : st = [] := List.eq_nil_of_length_eq_zero h.1
  subst e
  rfl
 | q :: r, [], h => by cases h.1
 | q :: r, p :: st, h => by
  have h1 := h.2 0 p q rfl rfl
  have h2 := stands_walk r st ⟨by simpa using h.1, fun i p' q' hp hq => h.2 (i + 1) p' q' (by simpa using hp) (by simpa using hq)⟩
  rw [List.flatten_cons, walkG_app, h1]
  have := walkG_frame r.flatten [] st [p] 0 (0 + q.length) h2
  simpa using this
theorem starts_lists : ∀ (l : List Ng) (ps : List (List Ng)) (ss' : List Nat), startsG (offs ps 0) ps.flatten.length l = some ss' → ∃ ps', ss' = offs ps' 0 ∧ ps'.flatten = ps.flatten ++ l ∧
  ∀ (st st' : List Pt) (k : Nat), Stands st ps → walkG st k l = .ok st' → Stands st' ps'
 | [], ps, ss', h => by
  cases h
  exact ⟨ps, rfl, by simp, fun st st' k hS hw => by cases hw; exact hS⟩
 | x :: l, ps, ss', h => by
  simp only [startsG] at h
  split at h
  ·cases h
  ·rename_i a ha
   split at h
   ·cases h
   ·rename_i hl
    rw [offs_len] at hl
    have hcase : startsG (offs (ps.take (ps.length - a) ++ [(ps.drop (ps.length - a)).flatten ++ [x]]) 0) (ps.flatten.length + 1) l = some ss' := by
     split at h
     ·rename_i h0
      subst h0
      rw [Nat.sub_zero, List.take_length, List.drop_length, List.flatten_nil, List.nil_append, offs_app]
      simpa [offs] using h
     ·rename_i h0
      rw [offs_len, offs_take] at h
      rw [offs_app]
      have e : offs (ps.take (ps.length - a + 1)) 0 = offs (ps.take (ps.length - a)) 0 ++ offs [(ps.drop (ps.length - a)).flatten ++ [x]] (0 + (ps.take (ps.length - a)).flatten.length) := by
       rw [List.take_succ_eq_append_getElem (by omega), offs_app]
       rfl
      rw [← e]
      exact h
    have hfl : (ps.take (ps.length - a) ++ [(ps.drop (ps.length - a)).flatten ++ [x]]).flatten = ps.flatten ++ [x] := by
     rw [List.flatten_append, List.flatten_cons, List.flatten_nil, List.append_nil, ← List.append_assoc, ← List.flatten_append, List.take_append_drop]
    have hfl2 : (ps.take (ps.length - a) ++ [(ps.drop (ps.length - a)).flatten ++ [x]]).flatten.length = ps.flatten.length + 1 := by rw [hfl, List.length_append]; rfl
    rw [← hfl2] at hcase
    obtain ⟨ps', h1, h2, h3⟩ := starts_lists l _ ss' hcase
    refine ⟨ps', h1, by rw [h2, hfl, List.append_assoc]; rfl, fun st st' k hS hw => ?_⟩
    simp only [walkG] at hw
    cases hs : stepG x st with
    | error e => rw [hs] at hw; cases hw
    | ok s1 =>
     rw [hs] at hw
     refine h3 s1 st' (k + 1) ?_ hw
     have hs0 := hs
     unfold stepG at hs
     rw [ha] at hs
     simp only at hs
     split at hs
     ·cases hs
     ·rename_i hl2
      split at hs
      ·cases hs
      ·rename_i hf
       cases hs
       have hlen : st.length = ps.length := hS.1
       have hS2 : Stands (st.drop (st.length - a)) (ps.drop (ps.length - a)) := by
        refine ⟨by rw [List.length_drop, List.length_drop, hlen], fun i p q hp hq => ?_⟩
        rw [List.getElem?_drop] at hp hq
        rw [hlen] at hp
        exact hS.2 _ p q hp hq
       have hw2 := stands_walk _ _ hS2
       have hf0 : faultG x (st.drop (st.length - a)) = 0 := by simpa using hf
       have hlast : walkG [] 0 ((ps.drop (ps.length - a)).flatten ++ [x]) = .ok [joinG x (st.drop (st.length - a))] := by
        rw [walkG_snoc x hw2]
        have hdl : (st.drop (st.length - a)).length = a := by rw [List.length_drop]; omega
        rw [stepG_good ha (by omega) (by rw [hdl, Nat.sub_self, List.drop_zero]; exact hf0), hdl, Nat.sub_self, List.drop_zero, List.take_zero, List.nil_append]
       refine ⟨by rw [List.length_append, List.length_append, List.length_take, List.length_take, hlen]; rfl, fun i p q hp hq => ?_⟩
       by_cases hi : i < ps.length - a
       ·rw [List.getElem?_append_left (by rw [List.length_take]; omega), List.getElem?_take_of_lt (by omega)] at hp hq
        exact hS.2 i p q hp hq
       ·rw [List.getElem?_append_right (by rw [List.length_take]; omega), List.length_take] at hp hq
        have hi0 : i - min (st.length - a) st.length = i - min (ps.length - a) ps.length := by rw [hlen]
        rw [hi0] at hp
        generalize i - min (ps.length - a) ps.length = j at hp hq
        cases j with
        | zero => cases hp; cases hq; exact hlast
        | succ j => simp at hp
theorem take_mid {α : Type} (a b c : List α) : ((a ++ b ++ c).take (a.length + b.length)).drop a.length = b := by
 rw [show a.length + b.length = (a ++ b).length by rw [List.length_append], List.take_left, List.drop_left]
theorem parts_lists {t : List Ng} {pss : List (List Ng)} (h : partsG t = some pss) : ∃ x a, t = pss.flatten ++ [x] ∧ arG x.kind = some a ∧ pss.length = a ∧ ∀ st, walkG [] 0 pss.flatten = .ok st → Stands st pss := by
 unfold partsG at h
 split at h
 ·cases h
 ·rename_i x hx
  split at h
  ·cases h
  ·rename_i a ha
   split at h
   ·cases h
   ·rename_i ss hss
    split at h
    ·rename_i hsa
     cases h
     have hne : t ≠ [] := by intro e; rw [e] at hx; cases hx
     have ht : t = t.take (t.length - 1) ++ [x] := by
      have h1 := List.dropLast_concat_getLast hne
      rw [List.getLast?_eq_some_getLast hne] at hx
      rw [Option.some.inj hx, List.dropLast_eq_take] at h1
      exact h1.symm
     obtain ⟨ps', h1, h2, h3⟩ := starts_lists (t.take (t.length - 1)) [] ss hss
     rw [List.flatten_nil, List.nil_append] at h2
     have hlp : ps'.length = a := by rw [← offs_len ps' 0, ← h1]; exact hsa
     have hLl : t.length - 1 = ps'.flatten.length := by
      have := congrArg List.length h2
      rw [List.length_take] at this
      omega
     have hps : piecesG t ss (t.length - 1) = ps' := by
      have hale := arG_le ha
      rw [h1, hLl]
      rw [← h2] at ht
      have hcs : ps' = [] ∨ (∃ p, ps' = [p]) ∨ ∃ p q, ps' = [p, q] := by
       match ps', hlp with
       | [], _ => exact .inl rfl
       | [p], _ => exact .inr (.inl ⟨p, rfl⟩)
       | [p, q], _ => exact .inr (.inr ⟨p, q, rfl⟩)
       | _ :: _ :: _ :: _, hlp => simp at hlp; omega
      rcases hcs with rfl | ⟨p, rfl⟩ | ⟨p, q, rfl⟩
      ·rfl
      ·rw [ht]
       simp [piecesG, offs]
      ·rw [ht]
       simp only [piecesG, offs, List.tail_cons, List.cons_append, List.nil_append, List.zipWith_cons_cons, List.zipWith_nil_right, List.flatten_cons, List.flatten_nil, List.append_nil, Nat.zero_add, List.drop_zero, List.length_append]
       have e1 : (p ++ q ++ [x]).take p.length = p := by rw [List.append_assoc, List.take_left]
       have e2 : ((p ++ q ++ [x]).take (p.length + q.length)).drop p.length = q := take_mid p q [x]
       rw [e1, e2]
     rw [hps]
     refine ⟨x, a, by rw [h2]; exact ht, ha, hlp, fun st hw => ?_⟩
     rw [h2] at hw
     exact h3 [] st 0 ⟨rfl, fun i p q hp => by simp at hp⟩ hw
    ·cases h
theorem weight_sum : ∀ pss : List (List Ng), weightG pss.flatten = (pss.map weightG).sum
 | [] => rfl
 | p :: r => by rw [List.flatten_cons, weightG_app, weight_sum r, List.map_cons, List.sum_cons]
theorem sum_mem : ∀ (l : List Nat) (n : Nat), n ∈ l → n ≤ l.sum
 | a :: l, n, h => by
  rw [List.sum_cons]
  rcases List.mem_cons.1 h with rfl | h
  ·omega
  ·have := sum_mem l n h
   omega
theorem parts_filt {t : List Ng} {pss : List (List Ng)} {x : Ng} {a : Nat} (ht : t = pss.flatten ++ [x]) (ha : arG x.kind = some a) (hl : pss.length = a) (hS : ∀ st, walkG [] 0 pss.flatten = .ok st → Stands st pss) (hf : (checkG t).2 = 0) (i : Nat) (hi : i < pss.length) :
  (checkG pss[i]).2 = if wantsG x.kind = true then 0 else 121 := by
 obtain ⟨p, hw, -, hwt⟩ := filt_iff.1 hf
 rw [ht, walkG_app] at hw
 cases hb : walkG [] 0 pss.flatten with
 | error e => rw [hb] at hw; cases hw
 | ok st =>
  rw [hb] at hw
  simp only [walkG] at hw
  have hst := hS st hb
  have hil : i < st.length := by rw [hst.1]; exact hi
  have hwi := hst.2 i st[i] pss[i] (List.getElem?_eq_getElem hil) (List.getElem?_eq_getElem hi)
  cases hx : stepG x st with
  | error e => rw [hx] at hw; cases hw
  | ok s1 =>
   have hla : st.length = a := hst.1.trans hl
   have hkind : (st[i].truth == wantsG x.kind) = true := by
    unfold stepG at hx
    rw [ha] at hx
    simp only at hx
    rw [if_neg (by omega), hla, Nat.sub_self, List.drop_zero] at hx
    split at hx
    ·cases hx
    ·rename_i hf0
     have hz : faultG x st = 0 := by simpa using hf0
     obtain ⟨-, hk, -, -⟩ := faultG_zero hz
     unfold kindE at hk
     split at hk
     ·rename_i hall
      exact List.all_eq_true.1 hall _ (List.getElem_mem hil)
     ·split at hk <;> cases hk
   have hwgt : weightG pss[i] ≤ 3000 := by
    have h1 : weightG pss[i] ≤ weightG pss.flatten := by
     rw [weight_sum]
     exact sum_mem _ _ (List.mem_map_of_mem (List.getElem_mem hi))
    rw [ht, weightG_app] at hwt
    omega
   by_cases hwn : wantsG x.kind = true
   ·rw [if_pos hwn]
    rw [hwn] at hkind
    exact filt_iff.2 ⟨st[i], hwi, by simpa using hkind, hwgt⟩
   ·rw [if_neg hwn]
    have hwn' : wantsG x.kind = false := by simpa using hwn
    rw [hwn'] at hkind
    rw [checkG, hwi]
    have : st[i].truth = false := by simpa using hkind
    simp [this]
theorem info_nodes : (Tryz.prog.info? 22).map (fun i => (i.zero, i.size, i.bytes)) = some (some (.slice none 0 0), 1, 24) := by kernel_rfl
theorem partsG_some {t : List Ng} {x : Ng} {a : Nat} {ss : List Nat} (h1 : t.getLast? = some x) (h2 : arG x.kind = some a) (h3 : startsG [] 0 (t.take (t.length - 1)) = some ss) (h4 : ss.length = a) : partsG t = some (piecesG t ss (t.length - 1)) := by
 rw [partsG, h1]
 simp only
 rw [h2]
 simp only
 rw [h3]
 simp only
 rw [if_pos h4]
theorem partsG_n1 {t : List Ng} {x : Ng} (h1 : t.getLast? = some x) (h2 : arG x.kind = none) : partsG t = none := by
 rw [partsG, h1]
 simp only
 rw [h2]
theorem partsG_n2 {t : List Ng} {x : Ng} {a : Nat} (h1 : t.getLast? = some x) (h2 : arG x.kind = some a) (h3 : startsG [] 0 (t.take (t.length - 1)) = none) : partsG t = none := by
 rw [partsG, h1]
 simp only
 rw [h2]
 simp only
 rw [h3]
theorem partsG_n3 {t : List Ng} {x : Ng} {a : Nat} {ss : List Nat} (h1 : t.getLast? = some x) (h2 : arG x.kind = some a) (h3 : startsG [] 0 (t.take (t.length - 1)) = some ss) (h4 : ¬ ss.length = a) : partsG t = none := by
 rw [partsG, h1]
 simp only
 rw [h2]
 simp only
 rw [h3]
 simp only
 rw [if_neg h4]
theorem getD_app_lt {α : Type} (xs ys : List α) (d : α) (i : Nat) (h : i < xs.length) : (xs ++ ys).getD i d = xs.getD i d := by
 rw [List.getD_eq_getElem?_getD, List.getD_eq_getElem?_getD, List.getElem?_append_left h]
theorem tyown_kept' {w w' : World} {base e size n base' e' size' n' : Nat} {v v' : Value} {vs vs' : List Value} (h : w.ownsRow base e size v n vs) (O : w.ownsRow base' e' size' v' n' vs') (he : e ≠ e') (K : w.grownBy w' v'.ownBlock) : w'.ownsRow base e size v n vs := by
 refine h.kept K ?_
 by_cases hv : v.ownBlock = none
 ·exact .inl hv
 ·right
  intro e
  obtain ⟨x, hx⟩ := Option.ne_none_iff_exists'.1 hv
  exact own_other h O he hx (e ▸ hx)
structure PL (w wr : World) (g8 c8 g9 c9 G n : Nat) (ss : List Nat) (last : Nat) (pss : List (List Ng)) (us : List Value) : Prop where
 grown : w.grownBy wr none
 starts : TsOwns wr w.heap.size (.slice (some ⟨g8, 0, none⟩) ss.length c8) ss
 ends : wr.ownsRow w.heap.size 3 1 (.slice (some ⟨g9, 0, none⟩) (ss.length + 1) c9) (ss.length + 1) ((ss ++ [last]).map sv)
 row : wr.ownsRow w.heap.size 22 1 (.slice (some ⟨G, 0, none⟩) n n) n (us ++ List.replicate (n - us.length) tynilV)
 each : ∀ j, j < us.length → NgOwns wr w.heap.size (us.getD j tynilV) (pss.getD j [])
 apart : ∀ i j, i < j → j < us.length → ∀ x, (us.getD i tynilV).ownBlock = some x → (us.getD j tynilV).ownBlock ≠ some x
section
variable {w wr wr' : World} {g8 c8 g9 c9 G n : Nat} {ss : List Nat} {last : Nat} {pss : List (List Ng)} {us : List Value}
theorem PL.keep (h : PL w wr g8 c8 g9 c9 G n ss last pss us) (K : wr.grownBy wr' none) : PL w wr' g8 c8 g9 c9 G n ss last pss us :=
 { h with grown := grown_trans h.grown K, starts := owns_keptNone h.starts K, ends := owns_keptNone h.ends K, row := owns_keptNone h.row K, each := fun j hj => owns_keptNone (h.each j hj) K }
theorem grown_setN (W : World) (g j : Nat) (v : Value) : W.grownBy (W.setCell ⟨g, j, none⟩ v) (some g) := grown_setCell (World.grownBy.refl W (some g)) _ _ (.inl rfl)
theorem PL.lay (h : PL w wr g8 c8 g9 c9 G n ss last pss us) {v : Value} (hv : NgOwns wr w.heap.size v (pss.getD us.length [])) (hap : ∀ j, j < us.length → ∀ x, (us.getD j tynilV).ownBlock = some x → v.ownBlock ≠ some x) (hn : us.length < n) :
  PL w (wr.setCell ⟨G, us.length, none⟩ v) g8 c8 g9 c9 G n ss last pss (us ++ [v]) := by
 have K := grown_setN wr G us.length v
 have hG : w.heap.size ≤ G := (h.row.lt G rfl).1
 have ns := own_other h.row h.starts (by decide) (x := G) rfl
 have ne := own_other h.row h.ends (by decide) (x := G) rfl
 have hnode : ∀ {u : Value} {xs : List Ng}, NgOwns wr w.heap.size u xs → NgOwns (wr.setCell ⟨G, us.length, none⟩ v) w.heap.size u xs := fun O => own_kept O K (own_other h.row O (by decide) (x := G) rfl)
 refine ⟨grown_trans_new h.grown K (fun x hx => by cases hx; exact hG), own_kept h.starts K ns, own_kept h.ends K ne, ?_, ?_, ?_⟩
 ·have := (h.row.stored us.length v).1
  rw [List.set_append_right _ _ (Nat.le_refl _), Nat.sub_self, show n - us.length = (n - (us.length + 1)) + 1 by omega, List.replicate_succ, List.set_cons_zero] at this
  rw [List.length_append, List.length_singleton, List.append_assoc]
  exact this
 ·intro j hj
  rw [List.length_append, List.length_singleton] at hj
  by_cases e : j < us.length
  ·rw [getD_app_lt _ _ _ _ e]
   exact hnode (h.each j e)
  ·obtain rfl : j = us.length := by omega
   rw [List.getD_eq_getElem?_getD, List.getElem?_append_right (Nat.le_refl _), Nat.sub_self]
   exact hnode hv
 ·intro i j hij hj x hx
  rw [List.length_append, List.length_singleton] at hj
  rw [getD_app_lt _ _ _ _ (by omega)] at hx
  by_cases e : j < us.length
  ·rw [getD_app_lt _ _ _ _ e]
   exact h.apart i j hij e x hx
  ·obtain rfl : j = us.length := by omega
   rw [List.getD_eq_getElem?_getD, List.getElem?_append_right (Nat.le_refl _), Nat.sub_self]
   exact hap i hij x hx
end
set_option maxHeartbeats 8000000 in
theorem parts_any (ao : Option Addr) (cap : Nat) (t : List Ng) (w : World) (C : CV w ao (flatG t)) (hcap : t.length ≤ cap) (hcm : cap ≤ maxLen) (hm : t.length * 72 ≤ 140737488355328) :
  Calls Tryz.prog 19 #[.slice ao t.length cap] w fun e w' => ∃ v, partsR (partsG t) v e ∧ partsW (partsG t) w' w.heap.size v ∧ w.grownBy w' none := by
 have HC : Hid (CV w ao (flatG t)) := C
 have hcm2 : cap ≤ 9223372036854775807 := by unfold maxLen at hcm; omega
 clear C hcm
 cases hgl : t.getLast? with
 | none =>
  have ht : t = [] := List.getLast?_eq_none_iff.1 hgl
  subst ht
  rw [show partsG [] = none from rfl]
  clear HC
  go_enter Tryz.func19, Tryz.ntmps19
  go_wp2
  go_ret2
  exact ⟨tynilV, rfl, trivial, World.grownBy.refl _ _⟩
 | some x =>
  have hne : t ≠ [] := by intro e; rw [e] at hgl; cases hgl
  have hl0 : 0 < t.length := List.length_pos_iff.2 hne
  obtain ⟨L, hL⟩ : ∃ L, t.length = L + 1 := ⟨t.length - 1, by omega⟩
  have hLt : L < t.length := by omega
  have hx : t[L] = x := by
   rw [List.getLast?_eq_getElem?, show t.length - 1 = L by omega, List.getElem?_eq_getElem hLt] at hgl
   exact Option.some.inj hgl
  have hL1 : t.length - 1 = L := by omega
  have HGL : Hid (t.getLast? = some x) := hgl
  have HL1 : Hid (t.length - 1 = L) := hL1
  have HBL : Hid ((t.take L).length = L) := by show List.length _ = _; rw [List.length_take]; omega
  have e0 : ((t.length : Int) == 0) = false := by rw [beq_eq_false_iff_ne]; omega
  have w1' : IntKind.i64.wrap ((t.length : Int) - 1) = (L : Int) := by rw [IntKind.wrap_i64]; omega
  obtain ⟨E, hE⟩ : ∃ E, partsG t = E := ⟨_, rfl⟩
  rw [hE]
  have HE : Hid (partsG t = E) := hE
  obtain ⟨b, o, rfl, -⟩ := HC.out.ngs hLt
  have HK : Hid (x = t[L]) := hx.symm
  have hl : (L : Int) < (t.length : Int) := by omega
  have z0 : (0 : Int) ≤ (L : Int) := by omega
  have hlc : (L : Int) ≤ (cap : Int) := by omega
  have hlc2 : ¬ cap < L := by omega
  clear hE hgl hne hl0 hL1 hx hL
  go_enter Tryz.func19, Tryz.ntmps19
  go_wp2_with fail
  refine (rules_any _).mono ?_
  rintro e w1 ⟨R, rfl, T, K1⟩
  have HT : Hid (TabT R w1) := T
  have HG1 : Hid (w.grownBy w1 none) := K1
  have c0 : w1.cell? ⟨b, o + L * 24, none⟩ = some (.int .i64 x.kind) := by
   obtain ⟨b', o', e', hc⟩ := (HC.out.keptNone K1).ngs hLt
   simp only [Option.some.injEq, Addr.mk.injEq] at e'
   obtain ⟨rfl, rfl, -⟩ := e'
   have := hc L hLt 0 (.int .i64 t[L].kind) rfl
   rw [Nat.add_zero] at this
   rw [HK.out]
   exact this
  clear T K1 HK
  cases ha : arG x.kind with
  | none =>
   have CR := ruleOf_no R x.kind ha w1
   have HF : Hid (E = none) := by show E = _; rw [← HE.out]; exact partsG_n1 HGL.out ha
   have HCB := HC.out
   generalize x.kind = xk at *
   clear ha
   go_wp2_with fail
   refine CR.mono ?_
   rintro e w4 ⟨rfl, K4⟩
   have K5 := World.grownBy_alloc w4 (.cells rule0.toArray 77) none
   clear CR
   go_upto_region 6 with (refine wpList_store_row rfl 77 (.tmp 6) (.tmp 29) rfl w4.heap.size rule0.toArray rfl rfl 77 _ (heap_alloc_new w4 _) size_rule rfl rule0_all ?_)
   rw [World.setRow_alloc_new]
   have G5 := grown_trans (grown_trans HG1.out K4) K5
   have T5 := HT.out.kept (grown_trans K4 K5)
   generalize w4.alloc (.cells rule0.toArray 77) = w5 at *
   generalize w4.heap.size = P at *
   have CS := starts_any (some ⟨b, o, none⟩) cap (t.take L) R w5 T5 (cv_takeG (HCB.keptNone G5) L) (by rw [HBL.out]; omega)
   rw [HBL.out] at CS
   clear K4 K5 T5 HCB c0
   go_wp2_with fail
   refine CS.mono ?_
   rintro e w6 ⟨v6, hR6, -, K6⟩
   have G6 := grown_trans G5 K6
   clear CS K6 G5
   cases hss : startsG [] 0 (t.take L) with
   | none =>
    rw [hss] at hR6
    simp only [startR] at hR6
    subst hR6
    go_wp2
    go_ret2
    exact ⟨tynilV, by rw [HF.out]; rfl, by rw [HF.out]; trivial, G6⟩
   | some ss =>
    rw [hss] at hR6
    simp only [startR] at hR6
    subst hR6
    go_wp2
    go_ret2
    exact ⟨tynilV, by rw [HF.out]; rfl, by rw [HF.out]; trivial, G6⟩
  | some a =>
   have hin := arG_in ha
   obtain ⟨kn, hkn⟩ : ∃ kn : Nat, x.kind = kn := Int.eq_ofNat_of_zero_le (by omega)
   have h1 : 1 ≤ kn := by omega
   have h2 : kn ≤ 16 := by omega
   have CR := ruleOf_ok R kn h1 h2 w1 HT.out
   obtain ⟨tao, tcap, htk, -⟩ := takes_cv HT.out (hkn ▸ ha)
   have HRL : Hid ((Tryz.prog.info? 77).map (·.size) = some (ruleC R kn).toArray.size ∧ 7 = (ruleC R kn).toArray.size ∧ (ruleC R kn).toArray.all (·.oneCell') = true ∧ (ruleC R kn).toArray[0]? = some (.slice tao a tcap)) := ⟨size_rule, rfl, ruleC_all HT.out h1 h2, by rw [← htk]; rfl⟩
   have HHA : Hid (arG x.kind = some a) := ha
   have hale := arG_le ha
   rw [hkn] at c0
   obtain ⟨rs, hrs⟩ : ∃ rs, (ruleC R kn).toArray = rs := ⟨_, rfl⟩
   rw [hrs] at CR HRL
   have HCB := HC.out
   clear hrs hkn hin h1 h2 ha htk
   go_wp2_with fail
   refine CR.mono ?_
   rintro e w4 ⟨rfl, K4⟩
   have K5 := World.grownBy_alloc w4 (.cells rs 77) none
   have V5 := VAt.alloc w4 77 rs
   clear CR
   go_upto_region 6 with (refine wpList_store_row rfl 77 (.tmp 6) (.tmp 29) rfl w4.heap.size rs rfl rfl 77 _ (heap_alloc_new w4 _) HRL.out.1 HRL.out.2.1 HRL.out.2.2.1 ?_)
   rw [World.setRow_alloc_new]
   have G5 := grown_trans (grown_trans HG1.out K4) K5
   have T5 := HT.out.kept (grown_trans K4 K5)
   generalize w4.alloc (.cells rs 77) = w5 at *
   generalize w4.heap.size = P at *
   have CS := starts_any (some ⟨b, o, none⟩) cap (t.take L) R w5 T5 (cv_takeG (HCB.keptNone G5) L) (by rw [HBL.out]; omega)
   rw [HBL.out] at CS
   clear K4 K5 T5 HCB c0
   go_wp2_with fail
   refine CS.mono ?_
   rintro e w6 ⟨v6, hR6, O6, K6⟩
   have G6 := grown_trans G5 K6
   have O6' := owns_mono O6 G5.size
   have d0 : w6.cell? ⟨P, 0, none⟩ = some (.slice tao a tcap) := by rw [(V5.kept K6).cell 0]; exact HRL.out.2.2.2
   clear CS K6 G5 V5 HRL O6
   cases hss : startsG [] 0 (t.take L) with
   | none =>
    rw [hss] at hR6
    simp only [startR] at hR6
    subst hR6
    have HF : Hid (E = none) := by show E = _; rw [← HE.out]; exact partsG_n2 HGL.out HHA.out (by rw [HL1.out]; exact hss)
    clear hss O6'
    go_wp2
    go_ret2
    exact ⟨tynilV, by rw [HF.out]; rfl, by rw [HF.out]; trivial, G6⟩
   | some ss =>
    rw [hss] at hR6 O6'
    simp only [startR] at hR6
    subst hR6
    have hOS : TsOwns w6 w.heap.size v6 ss := O6'
    obtain ⟨a6, c6, rfl, -, hb1, hb2, -, -, -⟩ := cv_of_row hOS
    have HOS : Hid (TsOwns w6 w.heap.size (.slice a6 ss.length c6) ss) := hOS
    clear O6' hOS
    by_cases hsa : ss.length = a
    ·have HF : Hid (E = some (piecesG t ss L)) := by show E = _; rw [← HE.out, partsG_some HGL.out HHA.out (by rw [HL1.out]; exact hss) hsa, HL1.out]
     have e7 : ((ss.length : Int) != (a : Int)) = false := by rw [hsa]; simp
     have HIN := starts_incr (t.take L) [] ss 0 hss List.Pairwise.nil (fun s hs => by cases hs)
     rw [HBL.out, Nat.zero_add] at HIN
     have HHI : Hid _ := HIN
     have hsl : ss.length ≤ 2 := by omega
     obtain ⟨i0, hi0, hz0, hz1, hz2⟩ := info_parts info_nodes
     obtain ⟨j0, hj0, hy0, hy1, hy2⟩ := info_parts info_int
     have HJ : Hid (Tryz.prog.info? 3 = some j0 ∧ j0.zero = some (.int .i64 0) ∧ j0.size = 1 ∧ j0.bytes = 8) := ⟨hj0, hy0, hy1, hy2⟩
     have hLI := lit_one_int (L : Int)
     have HG6 : Hid (w.grownBy w6 none) := G6
     have hc6 : c6 ≤ 9223372036854775807 := by unfold maxLen at hb2; omega
     clear hss HIN hj0 hy0 hy1 hy2 G6 hb2
     obtain ⟨n, hn⟩ : ∃ n, ss.length = n := ⟨_, rfl⟩
     have HN : Hid (ss.length = n) := hn
     rw [hn] at HOS hb1 hsl e7 ⊢
     clear hsa hn
     have HQ1 : Hid (i0.bytes * n ≤ 140737488355328) := by show i0.bytes * n ≤ _; rw [hz2]; omega
     go_upto_region 10 with (at_make; refine wpList_make_full _ rfl (.tmp 54) (.tmp 54) 37 rfl w6.heap.size 22 i0 (.slice none 0 0) 1 Tryz.underlying37 hi0 hz0 hz1 .i64 .i64 (n : Int) (n : Int) n rfl rfl rfl rfl ?q1 ?q2 ?q3 ?q4)
     case q1 => first | exact HQ1.out | (rw [hz2]; omega)
     case q2 => unfold maxLen; omega
     case q3 => exact Nat.le_refl _
     case q4 =>
     intro w7 h7 K7
     have R7 : w7.ownsRow w.heap.size 22 1 (.slice (some ⟨w6.heap.size, 0, none⟩) n n) n (List.replicate n tynilV) := by
      rw [toList_madeCells_one] at h7
      exact owns_mono h7 HG6.out.size
     obtain ⟨G, hG⟩ : ∃ G, w6.heap.size = G := ⟨_, rfl⟩
     rw [hG] at R7 ⊢
     have HR7 : Hid (w7.ownsRow w.heap.size 22 1 (.slice (some ⟨G, 0, none⟩) n n) n (List.replicate n tynilV)) := R7
     have HO7 : Hid (w7.ownsRow w.heap.size 3 1 (.slice a6 n c6) n (ss.map sv)) := by
      have := owns_keptNone HOS.out K7
      rw [HN.out] at this
      exact this
     have HG7 : Hid (w.grownBy w7 none) := grown_trans HG6.out K7
     have HLE : Hid (n + 1 ≤ maxLen ∧ (n + 1) * 8 ≤ 140737488355328) := by refine ⟨?_, ?_⟩ <;> (try unfold maxLen) <;> omega
     clear h7 K7 R7 hG HOS HG6 HQ1 hi0 hz0 hz1 hz2
     go_upto_region 10 with fail
     go_upto_region 11 with (first | (refine wpList_lit (by rfl) 33 1 _ rfl _ (by kernel_rfl) [.int .i64 (L : Int)] 3 hLI ?_; intro V wl CL KL) | (at_builtin; refine wpList_append_keep rfl (.tmp 56) (.tmp 58) 33 rfl 3 j0 _ 1 8 Tryz.underlying33 HJ.out.1 HJ.out.2.1 HJ.out.2.2.1 HJ.out.2.2.2 rfl (by decide) w.heap.size _ n (ss.map sv) rfl (owns_keptNone HO7.out KL) ⟨V, 0, none⟩ 1 1 [.int .i64 (L : Int)] rfl rfl CL (sv_one [L]) HLE.out.1 HLE.out.2 (Nat.le_trans HG7.out.size KL.size) ?_; intro v9 w9 O9 O8 K9; have HG9 : Hid (w.grownBy w9 none) := grown_trans_new (grown_trans HG7.out KL) K9 (fun x hx => (HO7.out.lt x hx).1); have HR9 : Hid (w9.ownsRow w.heap.size 22 1 (.slice (some ⟨G, 0, none⟩) n n) n (List.replicate n tynilV)) := tyown_kept' (owns_keptNone HR7.out KL) (owns_keptNone HO7.out KL) (by decide) K9; obtain ⟨g9, c9, hv9, hc9, hcm9, -, -⟩ := owns_head O9 (by omega); subst hv9; have HO9 : Hid (w9.ownsRow w.heap.size 3 1 (.slice (some ⟨g9, 0, none⟩) (n + 1) c9) (n + 1) (ss.map sv ++ [.int .i64 (L : Int)])) := O9; have HO8 : Hid (w9.ownsRow w.heap.size 3 1 (.slice a6 n c6) n (ss.map sv)) := O8; have hc9' : ¬ (c9 : Int) < 1 := (by omega); have hc9'' : c9 ≤ 9223372036854775807 := (by unfold maxLen at hcm9; omega); clear O9 O8 K9 CL KL hcm9))
     clear d0 HT HG1 HR7 HO7 HG7 hLI HLE HJ e7
     by_cases hn0 : n = 0
     ·subst hn0
      have HS0 : Hid (ss = []) := List.eq_nil_of_length_eq_zero HN.out
      generalize (if c9 = 1 then some (⟨g9, 0, none⟩ : Addr) else some ⟨g9, 1, none⟩) = ea at *
      go_wp2
      go_loopw [63] (fun i wr => i = .int .i64 0 ∧ wr = w9) (fun _ _ => 0)
      case atStart => exact ⟨rfl, rfl⟩
      case round =>
       obtain ⟨rfl, rfl⟩ := hrel
       go_wp2
       go_ret2
       refine ⟨_, by rw [HF.out]; rfl, ?_, HG9.out⟩
       rw [HF.out, HS0.out]
       exact ⟨[], HR9.out, rfl, fun i hi => absurd hi (Nat.not_lt_zero i), fun i j _ hj => absurd hj (Nat.not_lt_zero j)⟩
     ·obtain ⟨g8, c8, hv8, hc8, hcm8, -, -⟩ := owns_head HO8.out (by omega)
      simp only [Value.slice.injEq] at hv8
      obtain ⟨rfl, -, rfl⟩ := hv8
      have hc91 : ¬ c9 = 1 := by omega
      have HPL : Hid (PL w w9 g8 c6 g9 c9 G n ss L (piecesG t ss L) []) := by
       have h8 := HO8.out
       have h9 := HO9.out
       rw [← HN.out] at h8 h9
       refine ⟨HG9.out, h8, ?_, ?_, fun j hj => absurd hj (Nat.not_lt_zero j), fun i j _ hj => absurd hj (Nat.not_lt_zero j)⟩
       ·rw [List.map_append]; exact h9
       ·rw [List.nil_append, List.length_nil, Nat.sub_zero]; exact HR9.out
      have HPN : Hid ((piecesG t ss L).length = n) := by show List.length _ = _; rw [pieces_len, HN.out]
      clear HO8 HO9 HR9 HG9 hcm8
      go_wp2
      go_loopw [63] (fun i wr => ∃ (j : Nat) (us : List Value), j ≤ n ∧ us.length = j ∧ i = .int .i64 j ∧ Hid (PL w wr g8 c6 g9 c9 G n ss L (piecesG t ss L) us)) (fun i _ => n - (intOf i).toNat)
      case atStart => exact ⟨0, [], Nat.zero_le _, rfl, rfl, HPL⟩
      case round =>
       obtain ⟨j, us, hj, hus, rfl, HP⟩ := hrel
       by_cases hlt : j < n
       ·have hjs : j < ss.length := by rw [HN.out]; exact hlt
        obtain ⟨en, he1, he2, hlt1, hle1⟩ := ends_get hjs HHI.out.1 HHI.out.2
        have P0 := HP.out
        have c1 : wr.cell? ⟨g8, j, none⟩ = some (.int .i64 (ss[j] : Int)) := by
         rw [P0.starts.cellAt j (by omega), List.getElem?_map, List.getElem?_eq_getElem hjs]
         rfl
        have c2 : wr.cell? ⟨g9, 1 + j, none⟩ = some (.int .i64 (en : Int)) := by
         rw [P0.ends.cellAt (1 + j) (by rw [HN.out]; omega), List.getElem?_map, Nat.add_comm, he1]
         rfl
        have HLP : Hid (((t.take en).drop ss[j]).length = en - ss[j]) := by show List.length _ = _; rw [List.length_drop, List.length_take, Nat.min_eq_left (by omega)]
        have CC := clone_any ⟨b, o + ss[j] * 24, none⟩ (cap - ss[j]) ((t.take en).drop ss[j]) wr (cv_dropG (cv_takeG (HC.out.keptNone P0.grown) en) ss[j] (by rw [List.length_take]; omega)) (by rw [HLP.out]; omega)
        rw [HLP.out] at CC
        have HPG : Hid ((piecesG t ss L).getD j [] = (t.take en).drop ss[j]) := pieces_get hjs he2
        generalize hsj : ss[j] = sj at *
        have hl3 : (j : Int) < (n : Int) := by omega
        have z3 : (0 : Int) ≤ (j : Int) := by omega
        have q1 : (sj : Int) ≤ (en : Int) := by omega
        have q2 : (en : Int) ≤ (cap : Int) := by omega
        have q3 : ¬ cap = sj := by omega
        have q4 : (0 : Int) ≤ (sj : Int) := by omega
        have q5 : ¬ en < sj := by omega
        have q6 : ¬ cap < en := by omega
        have w3 : IntKind.i64.wrap ((j : Int) + 1) = (j : Int) + 1 := by rw [IntKind.wrap_i64]; omega
        clear he1 he2 hjs hsj P0
        go_wp2_with fail
        refine CC.mono ?_
        rintro e' wv ⟨v, rfl, Ov, Kv⟩
        have P1 := HP.out.keep Kv
        obtain ⟨av, kv, rfl, -⟩ := cv_of_row Ov
        have bl := (BlkN.ofRow P1.row).1
        obtain ⟨u0, hu0⟩ := bl.cell (i := j) (by omega)
        have hfr := bl.free j
        have HFIN : Hid (PL w (wv.setCell ⟨G, j, none⟩ (.slice av ((t.take en).drop sj).length kv)) g8 c6 g9 c9 G n ss L (piecesG t ss L) (us ++ [.slice av ((t.take en).drop sj).length kv])) := by
         have := P1.lay (v := .slice av ((t.take en).drop sj).length kv) (by rw [hus, HPG.out]; exact owns_mono Ov HP.out.grown.size) (fun i hi x hx e => by
          have h1 := (HP.out.each i hi).lt x hx
          have h2 := (Ov.lt x e).1
          omega) (by omega)
         rw [hus] at this
         exact this
        clear CC P1 bl Ov Kv HP
        generalize ((t.take en).drop sj).length = pl at *
        go_wp2
        go_roundw
        case rel => exact ⟨j + 1, _, by omega, by rw [List.length_append, List.length_singleton, hus], by go_num, HFIN⟩
        case measure => simp [intOf]; omega
       ·obtain rfl : j = n := by omega
        have P0 := HP.out
        have hjj : ¬ (j : Int) < (j : Int) := by omega
        have HFIN : Hid (∃ vs, NLv wr w.heap.size (.slice (some ⟨G, 0, none⟩) j j) vs (piecesG t ss L)) := by
         refine ⟨us, ?_, by rw [HPN.out]; exact hus, fun i hi => ?_, fun i k hik hk => ?_⟩
         ·have := P0.row
          rw [hus, Nat.sub_self, List.replicate_zero, List.append_nil] at this
          rw [HPN.out]
          exact this
         ·rw [HPN.out] at hi
          exact P0.each i (by omega)
         ·rw [HPN.out] at hk
          exact P0.apart i k hik (by omega)
        have G0 := P0.grown
        clear P0 HP
        go_wp2
        go_ret2
        exact ⟨_, by rw [HF.out]; rfl, by rw [HF.out]; exact HFIN.out, G0⟩
    ·have HF : Hid (E = none) := by show E = _; rw [← HE.out]; exact partsG_n3 HGL.out HHA.out (by rw [HL1.out]; exact hss) hsa
     have e7 : ((ss.length : Int) != (a : Int)) = true := by rw [bne_iff_ne]; omega
     clear hss HOS
     go_wp2
     go_ret2
     exact ⟨tynilV, by rw [HF.out]; rfl, by rw [HF.out]; trivial, G6⟩
def sumA : List Ng → Int
 | [] => 0
 | x :: r => arI x.kind - 1 + sumA r
theorem left_cons {x : Ng} {r : List Ng} {n m : Nat} (h : leftG n (x :: r) = some m) : ∃ a, arG x.kind = some a ∧ ¬ n < a ∧ leftG (n - a + 1) r = some m := by
 simp only [leftG] at h
 split at h
 ·cases h
 ·rename_i a ha
  split at h
  ·cases h
  ·rename_i hn
   exact ⟨a, ha, hn, h⟩
theorem left_sum : ∀ (l : List Ng) (n m : Nat), leftG n l = some m → (m : Int) = n - sumA l
 | [], n, m, h => by cases h; simp [sumA]
 | x :: r, n, m, h => by
  obtain ⟨a, ha, hn, h⟩ := left_cons h
  have := left_sum r _ m h
  have e : arI x.kind = (a : Int) := by unfold arI; rw [ha]
  rw [sumA, e]
  omega
theorem left_app : ∀ (p s : List Ng) (n m : Nat), leftG n (p ++ s) = some m → ∃ k, leftG n p = some k ∧ leftG k s = some m
 | [], s, n, m, h => ⟨n, rfl, h⟩
 | x :: r, s, n, m, h => by
  obtain ⟨a, ha, hn, h⟩ := left_cons (r := r ++ s) h
  obtain ⟨k, h1, h2⟩ := left_app r s _ m h
  refine ⟨k, ?_, h2⟩
  simp only [leftG, ha, if_neg hn]
  exact h1
theorem left_pos : ∀ (p : List Ng) (n m : Nat), p ≠ [] → leftG n p = some m → 1 ≤ m
 | [], n, m, h, _ => absurd rfl h
 | [x], n, m, _, h => by
  obtain ⟨a, ha, hn, h⟩ := left_cons h
  cases h
  omega
 | x :: y :: r, n, m, _, h => by
  obtain ⟨a, ha, hn, h⟩ := left_cons h
  exact left_pos (y :: r) _ m (by simp) h
theorem tree_end {p s : List Ng} (h : leftG 0 (p ++ s) = some 1) (hp : p ≠ []) : 0 ≤ sumA s := by
 obtain ⟨k, h1, h2⟩ := left_app p s 0 1 h
 have := left_pos p 0 k hp h1
 have := left_sum s k 1 h2
 omega
theorem tree_sum {q : List Ng} (h : leftG 0 q = some 1) : sumA q = -1 := by
 have := left_sum q 0 1 h
 omega
theorem left_frame : ∀ (l : List Ng) (n m c : Nat), leftG n l = some m → leftG (n + c) l = some (m + c)
 | [], n, m, c, h => by cases h; rfl
 | x :: r, n, m, c, h => by
  obtain ⟨a, ha, hn, h⟩ := left_cons h
  have := left_frame r _ m c h
  simp only [leftG, ha]
  rw [if_neg (by omega), show n + c - a + 1 = n - a + 1 + c by omega]
  exact this
theorem left_join : ∀ (p s : List Ng) (n k m : Nat), leftG n p = some k → leftG k s = some m → leftG n (p ++ s) = some m
 | [], s, n, k, m, h, h2 => by cases h; exact h2
 | x :: r, s, n, k, m, h, h2 => by
  obtain ⟨a, ha, hn, h⟩ := left_cons h
  simp only [List.cons_append, leftG, ha, if_neg hn]
  exact left_join r s _ k m h h2
theorem left_flat : ∀ ps : List (List Ng), (∀ q ∈ ps, leftG 0 q = some 1) → leftG 0 ps.flatten = some ps.length
 | [], _ => rfl
 | q :: r, h => by
  rw [List.flatten_cons]
  refine left_join q r.flatten 0 1 _ (h q List.mem_cons_self) ?_
  have := left_frame r.flatten 0 r.length 1 (left_flat r fun z hz => h z (List.mem_cons_of_mem _ hz))
  simpa using this
theorem starts_trees : ∀ (l : List Ng) (ps : List (List Ng)) (ss' : List Nat), startsG (offs ps 0) ps.flatten.length l = some ss' → (∀ q ∈ ps, leftG 0 q = some 1) → ∃ ps', ss' = offs ps' 0 ∧ ps'.flatten = ps.flatten ++ l ∧ ∀ q ∈ ps', leftG 0 q = some 1
 | [], ps, ss', h, hps => by
  cases h
  exact ⟨ps, rfl, by simp, hps⟩
 | x :: l, ps, ss', h, hps => by
  simp only [startsG] at h
  split at h
  ·cases h
  ·rename_i a ha
   split at h
   ·cases h
   ·rename_i hl
    rw [offs_len] at hl
    have hcase : startsG (offs (ps.take (ps.length - a) ++ [(ps.drop (ps.length - a)).flatten ++ [x]]) 0) (ps.flatten.length + 1) l = some ss' := by
     split at h
     ·rename_i h0
      subst h0
      rw [Nat.sub_zero, List.take_length, List.drop_length, List.flatten_nil, List.nil_append, offs_app]
      simpa [offs] using h
     ·rename_i h0
      rw [offs_len, offs_take] at h
      rw [offs_app]
      have e : offs (ps.take (ps.length - a + 1)) 0 = offs (ps.take (ps.length - a)) 0 ++ offs [(ps.drop (ps.length - a)).flatten ++ [x]] (0 + (ps.take (ps.length - a)).flatten.length) := by
       rw [List.take_succ_eq_append_getElem (by omega), offs_app]
       rfl
      rw [← e]
      exact h
    have hfl : (ps.take (ps.length - a) ++ [(ps.drop (ps.length - a)).flatten ++ [x]]).flatten = ps.flatten ++ [x] := by
     rw [List.flatten_append, List.flatten_cons, List.flatten_nil, List.append_nil, ← List.append_assoc, ← List.flatten_append, List.take_append_drop]
    have hfl2 : (ps.take (ps.length - a) ++ [(ps.drop (ps.length - a)).flatten ++ [x]]).flatten.length = ps.flatten.length + 1 := by rw [hfl, List.length_append]; rfl
    rw [← hfl2] at hcase
    have hlast : leftG 0 ((ps.drop (ps.length - a)).flatten ++ [x]) = some 1 := by
     have hd := left_flat (ps.drop (ps.length - a)) fun q hq => hps q (List.mem_of_mem_drop hq)
     refine left_join _ _ 0 _ 1 hd ?_
     rw [List.length_drop]
     simp only [leftG, ha]
     rw [if_neg (by omega), show ps.length - (ps.length - a) - a + 1 = 1 by omega]
    obtain ⟨ps', h1, h2, h3⟩ := starts_trees l _ ss' hcase (fun q hq => by
     rcases List.mem_append.1 hq with hq | hq
     ·exact hps q (List.mem_of_mem_take hq)
     ·rw [List.mem_singleton.1 hq]; exact hlast)
    exact ⟨ps', h1, by rw [h2, hfl, List.append_assoc]; rfl, h3⟩
theorem parts_trees {t : List Ng} {pss : List (List Ng)} (h : partsG t = some pss) : ∀ q ∈ pss, leftG 0 q = some 1 := by
 unfold partsG at h
 split at h
 ·cases h
 ·rename_i x hx
  split at h
  ·cases h
  ·rename_i a ha
   split at h
   ·cases h
   ·rename_i ss hss
    split at h
    ·rename_i hsa
     cases h
     have hne : t ≠ [] := by intro e; rw [e] at hx; cases hx
     have ht : t = t.take (t.length - 1) ++ [x] := by
      have h1 := List.dropLast_concat_getLast hne
      rw [List.getLast?_eq_some_getLast hne] at hx
      rw [Option.some.inj hx, List.dropLast_eq_take] at h1
      exact h1.symm
     obtain ⟨ps', h1, h2, h3⟩ := starts_trees (t.take (t.length - 1)) [] ss hss (fun q hq => by cases hq)
     rw [List.flatten_nil, List.nil_append] at h2
     have hlp : ps'.length = a := by rw [← offs_len ps' 0, ← h1]; exact hsa
     have hLl : t.length - 1 = ps'.flatten.length := by
      have := congrArg List.length h2
      rw [List.length_take] at this
      omega
     have hps : piecesG t ss (t.length - 1) = ps' := by
      have hale := arG_le ha
      rw [h1, hLl]
      rw [← h2] at ht
      have hcs : ps' = [] ∨ (∃ p, ps' = [p]) ∨ ∃ p q, ps' = [p, q] := by
       match ps', hlp with
       | [], _ => exact .inl rfl
       | [p], _ => exact .inr (.inl ⟨p, rfl⟩)
       | [p, q], _ => exact .inr (.inr ⟨p, q, rfl⟩)
       | _ :: _ :: _ :: _, hlp => simp at hlp; omega
      rcases hcs with rfl | ⟨p, rfl⟩ | ⟨p, q, rfl⟩
      ·rfl
      ·rw [ht]
       simp [piecesG, offs]
      ·rw [ht]
       simp only [piecesG, offs, List.tail_cons, List.cons_append, List.nil_append, List.zipWith_cons_cons, List.zipWith_nil_right, List.flatten_cons, List.flatten_nil, List.append_nil, Nat.zero_add, List.drop_zero, List.length_append]
       have e1 : (p ++ q ++ [x]).take p.length = p := by rw [List.append_assoc, List.take_left]
       have e2 : ((p ++ q ++ [x]).take (p.length + q.length)).drop p.length = q := take_mid p q [x]
       rw [e1, e2]
     rw [hps]
     exact h3
    ·cases h
theorem parts_left {t : List Ng} : leftG 0 t = some 1 ↔ ∃ pss, partsG t = some pss := by
 constructor
 ·intro h
  have hne : t ≠ [] := by intro e; subst e; cases h
  obtain ⟨x, hx⟩ : ∃ x, t.getLast? = some x := ⟨_, List.getLast?_eq_some_getLast hne⟩
  have ht : t = t.take (t.length - 1) ++ [x] := by
   have h1 := List.dropLast_concat_getLast hne
   rw [List.getLast?_eq_some_getLast hne] at hx
   rw [Option.some.inj hx, List.dropLast_eq_take] at h1
   exact h1.symm
  rw [ht] at h
  obtain ⟨k, h1, h2⟩ := left_app _ _ 0 1 h
  obtain ⟨a, ha, hn, h3⟩ := left_cons h2
  have hk : k - a + 1 = 1 := by
   simp only [leftG, Option.some.injEq] at h3
   exact h3
  have hs := starts_left (t.take (t.length - 1)) [] 0
  rw [List.length_nil, h1] at hs
  cases hss : startsG [] 0 (t.take (t.length - 1)) with
  | none => rw [hss] at hs; cases hs
  | some ss =>
   rw [hss] at hs
   simp only [Option.map_some, Option.some.injEq] at hs
   exact ⟨_, partsG_some hx ha hss (by omega)⟩
 ·rintro ⟨pss, h⟩
  obtain ⟨x, a, ht, ha, hl, -⟩ := parts_lists h
  rw [ht]
  refine left_join _ _ 0 _ 1 (left_flat pss (parts_trees h)) ?_
  simp only [leftG, ha]
  rw [if_neg (by omega), hl, Nat.sub_self]

end Go.Proofs.YtklipelnjgpnjaaGreatDoor
