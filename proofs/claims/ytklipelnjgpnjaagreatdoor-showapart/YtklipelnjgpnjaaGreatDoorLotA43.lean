import Derived.Test.YtklipelnjgpnjaaGreatDoorLotA42
import Derived.Test.YtklipelnjgpnjaaGreatDoorLotA28
namespace Go.Proofs.YtklipelnjgpnjaaGreatDoor
open Go.RowKit
set_option maxRecDepth 100000
def showR (full : Bool) (T : Tr) : Value := if 200 < (T.txt full).2 then .tuple #[str [], .int .i64 131] else .tuple #[str (T.txt full).1, .int .i64 0]
theorem step_len {x : Ng} {st s : List Pt} (h : stepG x st = .ok s) : ∃ a, arG x.kind = some a ∧ ¬ st.length < a ∧ s.length = st.length - a + 1 := by
 unfold stepG at h
 split at h
 ·cases h
 ·rename_i a ha
  split at h
  ·cases h
  ·rename_i hn
   split at h
   ·cases h
   ·cases h
    exact ⟨a, ha, hn, by rw [List.length_append, List.length_take, List.length_singleton]; omega⟩
theorem walk_left : ∀ (l : List Ng) (st s : List Pt) (k : Nat), walkG st k l = .ok s → leftG st.length l = some s.length
 | [], st, s, k, h => by cases h; rfl
 | x :: l, st, s, k, h => by
  simp only [walkG] at h
  cases hx : stepG x st with
  | error e => rw [hx] at h; cases h
  | ok s1 =>
   rw [hx] at h
   obtain ⟨a, ha, hn, hl⟩ := step_len hx
   have := walk_left l s1 s (k + 1) h
   simp only [leftG, ha]
   rw [if_neg hn, ← hl]
   exact this
theorem filt_tree {t : List Ng} (h : (checkG t).2 = 0) : ∃ T : Tr, T.Wf ∧ T.flat = t := by
 refine tree_of t.length t (Nat.le_refl _) ?_
 obtain ⟨q, hq, -⟩ := filt_iff.1 h
 exact walk_left t [] [q] 0 hq
theorem leafT_ne {x : Ng} (ha : arG x.kind = some 0) (ht : truthG x.kind = true) (hf : formG x = true) : leafT x ≠ [] := by
 have h6 : 6 ≤ x.kind := by unfold truthG at ht; exact of_decide_eq_true ht
 rcases arG_cases ha with ⟨h1, -⟩ | ⟨h1, -⟩ | ⟨-, hk⟩
 ·cases h1
 ·cases h1
 ·unfold leafT
  rw [if_neg (by omega), if_neg (by omega)]
  rcases (by omega : x.kind = 10 ∨ x.kind = 11 ∨ x.kind = 12 ∨ x.kind = 13 ∨ x.kind = 14 ∨ x.kind = 15 ∨ x.kind = 16) with h | h | h | h | h | h | h
  ·rw [if_pos h]
   split <;> simp
  ·rw [if_neg (by omega), if_pos h]
   have hm := (Bool.and_eq_true_iff.1 hf).2
   unfold mayG at hm
   rw [if_neg (by omega), if_neg (by omega), if_neg (by omega), if_neg (by omega), if_pos h] at hm
   have := in_le hm
   exact name_ne ⟨by omega, by omega⟩
  ·rw [if_neg (by omega), if_neg (by omega), if_pos h]; simp
  ·rw [if_neg (by omega), if_neg (by omega), if_neg (by omega), if_pos h]; simp
  ·rw [if_neg (by omega), if_neg (by omega), if_neg (by omega), if_neg (by omega), if_pos h]; simp
  ·rw [if_neg (by omega), if_neg (by omega), if_neg (by omega), if_neg (by omega), if_neg (by omega), if_pos h]; simp
  ·rw [if_neg (by omega), if_neg (by omega), if_neg (by omega), if_neg (by omega), if_neg (by omega), if_neg (by omega)]
   intro e
   have h2 := (List.append_eq_nil_iff.1 e).2
   split at h2 <;> simp at h2
theorem txt_ne (full : Bool) {T : Tr} (hw : T.Wf) (ht : truthG T.root.kind = true) (hf : formG T.root = true) : (T.txt full).1 ≠ [] := by
 cases T with
 | leaf x => exact leafT_ne hw ht hf
 | one x p =>
  show (if x.kind = 3 then (_ : List UInt8 × Nat) else _).1 ≠ []
  split
  ·simp
  ·show (if x.kind = 9 then _ else _) ++ _ ≠ []
   split <;> simp
 | two x p q => show _ ++ [32] ++ _ ++ [32] ++ _ ≠ []; simp
theorem filt_has {t : List Ng} (h : (checkG t).2 = 0) (hn : ∀ x ∈ t, x.n ≤ 4294967295) (hmm : ∀ x ∈ t, x.m ≤ 4294967295) {T : Tr} (hT : T.Wf) (hf : T.flat = t) : T.Typed ∧ (∀ x ∈ t, NOK x) ∧ t.length ≤ 3000 ∧ ∀ full, (T.txt full).1 ≠ [] := by
 obtain ⟨q, hq, -, hw⟩ := filt_iff.1 h
 obtain ⟨h1, h2⟩ := filt_typed h hT hf
 have hok : ∀ x ∈ t, NOK x := fun x hx => by
  have := walk_form t [] _ 0 hq x hx
  exact ⟨this.1, this.2.1, hn x hx, hmm x hx⟩
 refine ⟨h1, hok, Nat.le_trans (walkG_weighs _ _ _ _ hq) hw, fun full => txt_ne full hT h2 (hok _ ?_).1⟩
 obtain ⟨l, hl⟩ := T.flat_last
 rw [← hf, hl]
 simp

end Go.Proofs.YtklipelnjgpnjaaGreatDoor
