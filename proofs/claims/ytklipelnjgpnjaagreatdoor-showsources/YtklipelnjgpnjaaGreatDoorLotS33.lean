import Derived.Test.YtklipelnjgpnjaaGreatDoorLotS31
import Derived.Test.YtklipelnjgpnjaaGreatDoorSTyBk
import Derived.Test.YtklipelnjgpnjaaGreatDoorLotS9
import Derived.Test.YtklipelnjgpnjaaGreatDoorLotS11
import Derived.Test.YtklipelnjgpnjaaGreatDoorLotS16
import Derived.Test.YtklipelnjgpnjaaGreatDoorLotS24
import Derived.Test.YtklipelnjgpnjaaGreatDoorSShO2
import Derived.Test.YtklipelnjgpnjaaGreatDoorSShO3
import Derived.Test.YtklipelnjgpnjaaGreatDoorLotS21
namespace Go.Proofs.YtklipelnjgpnjaaGreatDoor
open Go.RowKit
set_option maxRecDepth 100000
structure Fo (full : Bool) (t : List Ng) (k : Nat) (Fs : List Tr) : Prop where
 wf : ∀ T ∈ Fs, T.Wf
 flat : Fs.flatMap Tr.flat = t.take k
def Tr.mk (x : Ng) : List Tr → Tr
 | [] => .leaf x
 | [p] => .one x p
 | p :: q :: _ => .two x p q
theorem aE6 (x : Ng) (ps : List Tr) (h : ps.length ≤ 2) : (Tr.mk x ps).flat = ps.flatMap Tr.flat ++ [x] := by
 match ps, h with
 | [], _ => rfl
 | [p], _ => simp [Tr.mk, Tr.flat]
 | [p, q], _ => simp [Tr.mk, Tr.flat]
theorem aE7 (x : Ng) (ps : List Tr) (ha : arG x.kind = some ps.length) (hw : ∀ T ∈ ps, T.Wf) : (Tr.mk x ps).Wf := by
 match ps, ha, hw with
 | [], ha, _ => exact ha
 | [p], ha, hw => exact ⟨ha, hw p (by simp)⟩
 | [p, q], ha, hw => exact ⟨ha, hw p (by simp), hw q (by simp)⟩
 | p :: q :: r :: s, ha, _ =>
  have := a3J ha
  simp only [List.length_cons] at this
  omega
theorem Fo.next {full : Bool} {t : List Ng} {k : Nat} {Fs : List Tr} (h : Fo full t k Fs) (hk : k < t.length) {a : Nat} (ha : arG t[k].kind = some a) (hl : a ≤ Fs.length) : Fo full t (k + 1) (Fs.take (Fs.length - a) ++ [Tr.mk t[k] (Fs.drop (Fs.length - a))]) := by
 have hdl : (Fs.drop (Fs.length - a)).length = a := by rw [List.length_drop]; omega
 refine ⟨fun T hT => ?_, ?_⟩
 ·rcases List.mem_append.1 hT with hT | hT
  ·exact h.wf T (List.mem_of_mem_take hT)
  ·rw [List.mem_singleton.1 hT]
   exact aE7 _ _ (by rw [hdl]; exact ha) (fun U hU => h.wf U (List.mem_of_mem_drop hU))
 ·rw [List.flatMap_append, List.flatMap_cons, List.flatMap_nil, List.append_nil, aE6 _ _ (by rw [hdl]; exact a3J ha), ← List.append_assoc, ← List.flatMap_append, List.take_append_drop, h.flat, List.take_succ_eq_append_getElem hk]
def a0T (full : Bool) (T : Tr) : Value := if 200 < (T.txt full).2 then .tuple #[str [], .int .i64 131] else .tuple #[str (T.txt full).1, .int .i64 0]
theorem aA8 {x : Ng} (ha : arG x.kind = some 0) (ht : J5 x.kind = true) (hf : O0 x = true) : l9 x ≠ [] := by
 have h6 : 6 ≤ x.kind := by unfold J5 at ht; exact of_decide_eq_true ht
 rcases Z8 ha with ⟨h1, -⟩ | ⟨h1, -⟩ | ⟨-, hk⟩
 ·cases h1
 ·cases h1
 ·unfold l9
  rw [if_neg (by omega), if_neg (by omega)]
  rcases (by omega : x.kind = 10 ∨ x.kind = 11 ∨ x.kind = 12 ∨ x.kind = 13 ∨ x.kind = 14 ∨ x.kind = 15 ∨ x.kind = 16) with h | h | h | h | h | h | h
  ·rw [if_pos h]
   split <;> simp
  ·rw [if_neg (by omega), if_pos h]
   have hm := (Bool.and_eq_true_iff.1 hf).2
   unfold m4 at hm
   rw [if_neg (by omega), if_neg (by omega), if_neg (by omega), if_neg (by omega), if_pos h] at hm
   have := a0s hm
   exact a6A ⟨by omega, by omega⟩
  ·rw [if_neg (by omega), if_neg (by omega), if_pos h]; simp
  ·rw [if_neg (by omega), if_neg (by omega), if_neg (by omega), if_pos h]; simp
  ·rw [if_neg (by omega), if_neg (by omega), if_neg (by omega), if_neg (by omega), if_pos h]; simp
  ·rw [if_neg (by omega), if_neg (by omega), if_neg (by omega), if_neg (by omega), if_neg (by omega), if_pos h]; simp
  ·rw [if_neg (by omega), if_neg (by omega), if_neg (by omega), if_neg (by omega), if_neg (by omega), if_neg (by omega)]
   intro e
   have h2 := (List.append_eq_nil_iff.1 e).2
   split at h2 <;> simp at h2
theorem b0o (full : Bool) {T : Tr} (hw : T.Wf) (ht : J5 T.root.kind = true) (hf : O0 T.root = true) : (T.txt full).1 ≠ [] := by
 cases T with
 | leaf x => exact aA8 hw ht hf
 | one x p =>
  show (if x.kind = 3 then (_ : List UInt8 × Nat) else _).1 ≠ []
  split
  ·simp
  ·show (if x.kind = 9 then _ else _) ++ _ ≠ []
   split <;> simp
 | two x p q => show _ ++ [32] ++ _ ++ [32] ++ _ ≠ []; simp
theorem ar9 {t : List Ng} (h : (M8 t).2 = 0) (hn : ∀ x ∈ t, x.n ≤ 4294967295) (hmm : ∀ x ∈ t, x.m ≤ 4294967295) {T : Tr} (hT : T.Wf) (hf : T.flat = t) : T.Typed ∧ (∀ x ∈ t, NOK x) ∧ t.length ≤ 3000 ∧ ∀ full, (T.txt full).1 ≠ [] := by
 obtain ⟨q, hq, -, hw⟩ := a6a.1 h
 obtain ⟨h1, h2⟩ := a8t h hT hf
 have hok : ∀ x ∈ t, NOK x := fun x hx => by
  have := a7k t [] _ 0 hq x hx
  exact ⟨this.1, this.2.1, hn x hx, hmm x hx⟩
 refine ⟨h1, hok, Nat.le_trans (af4 _ _ _ _ hq) hw, fun full => b0o full hT h2 (hok _ ?_).1⟩
 obtain ⟨l, hl⟩ := T.flat_last
 rw [← hf, hl]
 simp

end Go.Proofs.YtklipelnjgpnjaaGreatDoor
