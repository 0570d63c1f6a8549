import Derived.Test.YtklipelnjgpnjaaGreatDoorLotN32
import Derived.Test.YtklipelnjgpnjaaGreatDoorNTyBk
import Derived.Test.YtklipelnjgpnjaaGreatDoorLotN6
import Derived.Test.YtklipelnjgpnjaaGreatDoorLotN8
import Derived.Test.YtklipelnjgpnjaaGreatDoorLotN11
import Derived.Test.YtklipelnjgpnjaaGreatDoorLotN25
import Derived.Test.YtklipelnjgpnjaaGreatDoorNShO2
import Derived.Test.YtklipelnjgpnjaaGreatDoorNShO3
import Derived.Test.YtklipelnjgpnjaaGreatDoorLotN22
namespace Go.Proofs.YtklipelnjgpnjaaGreatDoor
open Go.RowKit
set_option maxRecDepth 100000
structure Fo (full : Bool) (t : List Ng) (k : Nat) (Fs : List Tr) : Prop where
 wf : ∀ T ∈ Fs, T.Wf
 flat : Fs.flatMap Tr.flat = t.take k
theorem flat_left : ∀ (Fs : List Tr), (∀ T ∈ Fs, T.Wf) → s9 0 (Fs.flatMap Tr.flat) = some Fs.length := fun Fs h => by
 have := a4p (Fs.map Tr.flat) (fun q hq => by
  obtain ⟨T, hT, rfl⟩ := List.mem_map.1 hq
  exact Tr.flat_left (h T hT))
 rw [List.length_map] at this
 rw [← this]
 rw [List.flatMap_def]
def Tr.mk (x : Ng) : List Tr → Tr
 | [] => .leaf x
 | [p] => .one x p
 | p :: q :: _ => .two x p q
theorem aC5 (x : Ng) (ps : List Tr) (h : ps.length ≤ 2) : (Tr.mk x ps).flat = ps.flatMap Tr.flat ++ [x] := by
 match ps, h with
 | [], _ => rfl
 | [p], _ => simp [Tr.mk, Tr.flat]
 | [p, q], _ => simp [Tr.mk, Tr.flat]
theorem aC6 (x : Ng) (ps : List Tr) (ha : arG x.kind = some ps.length) (hw : ∀ T ∈ ps, T.Wf) : (Tr.mk x ps).Wf := by
 match ps, ha, hw with
 | [], ha, _ => exact ha
 | [p], ha, hw => exact ⟨ha, hw p (by simp)⟩
 | [p, q], ha, hw => exact ⟨ha, hw p (by simp), hw q (by simp)⟩
 | p :: q :: r :: s, ha, _ =>
  have := a1G ha
  simp only [List.length_cons] at this
  omega
theorem Fo.next {full : Bool} {t : List Ng} {k : Nat} {Fs : List Tr} (h : Fo full t k Fs) (hk : k < t.length) {a : Nat} (ha : arG t[k].kind = some a) (hl : a ≤ Fs.length) : Fo full t (k + 1) (Fs.take (Fs.length - a) ++ [Tr.mk t[k] (Fs.drop (Fs.length - a))]) := by
 have hdl : (Fs.drop (Fs.length - a)).length = a := by rw [List.length_drop]; omega
 refine ⟨fun T hT => ?_, ?_⟩
 ·rcases List.mem_append.1 hT with hT | hT
  ·exact h.wf T (List.mem_of_mem_take hT)
  ·rw [List.mem_singleton.1 hT]
   exact aC6 _ _ (by rw [hdl]; exact ha) (fun U hU => h.wf U (List.mem_of_mem_drop hU))
 ·rw [List.flatMap_append, List.flatMap_cons, List.flatMap_nil, List.append_nil, aC5 _ _ (by rw [hdl]; exact a1G ha), ← List.append_assoc, ← List.flatMap_append, List.take_append_drop, h.flat, List.take_succ_eq_append_getElem hk]
def a0x (full : Bool) (T : Tr) : Value := if 200 < (T.txt full).2 then .tuple #[str [], .int .i64 131] else .tuple #[str (T.txt full).1, .int .i64 0]
theorem aW3 {x : Ng} {st s : List Pt} (h : z6 x st = .ok s) : ∃ a, arG x.kind = some a ∧ ¬ st.length < a ∧ s.length = st.length - a + 1 := by
 unfold z6 at h
 split at h
 ·cases h
 ·rename_i a ha
  split at h
  ·cases h
  ·rename_i hn
   split at h
   ·cases h
   ·cases h
    exact ⟨a, ha, hn, by rw [List.length_append, List.length_take, List.length_singleton]; omega⟩
theorem ad5 : ∀ (l : List Ng) (st s : List Pt) (k : Nat), j8 st k l = .ok s → s9 st.length l = some s.length
 | [], st, s, k, h => by cases h; rfl
 | x :: l, st, s, k, h => by
  simp only [j8] at h
  cases hx : z6 x st with
  | error e => rw [hx] at h; cases h
  | ok s1 =>
   rw [hx] at h
   obtain ⟨a, ha, hn, hl⟩ := aW3 hx
   have := ad5 l s1 s (k + 1) h
   simp only [s9, ha]
   rw [if_neg hn, ← hl]
   exact this
theorem aq6 {t : List Ng} (h : (J4 t).2 = 0) : ∃ T : Tr, T.Wf ∧ T.flat = t := by
 refine a4R t.length t (Nat.le_refl _) ?_
 obtain ⟨q, hq, -⟩ := a3v.1 h
 exact ad5 t [] [q] 0 hq
theorem az4 {x : Ng} (ha : arG x.kind = some 0) (ht : M7 x.kind = true) (hf : U9 x = true) : x6 x ≠ [] := by
 have h6 : 6 ≤ x.kind := by unfold M7 at ht; exact of_decide_eq_true ht
 rcases a0H ha with ⟨h1, -⟩ | ⟨h1, -⟩ | ⟨-, hk⟩
 ·cases h1
 ·cases h1
 ·unfold x6
  rw [if_neg (by omega), if_neg (by omega)]
  rcases (by omega : x.kind = 10 ∨ x.kind = 11 ∨ x.kind = 12 ∨ x.kind = 13 ∨ x.kind = 14 ∨ x.kind = 15 ∨ x.kind = 16) with h | h | h | h | h | h | h
  ·rw [if_pos h]
   split <;> simp
  ·rw [if_neg (by omega), if_pos h]
   have hm := (Bool.and_eq_true_iff.1 hf).2
   unfold q7 at hm
   rw [if_neg (by omega), if_neg (by omega), if_neg (by omega), if_neg (by omega), if_pos h] at hm
   have := au8 hm
   exact a69 ⟨by omega, by omega⟩
  ·rw [if_neg (by omega), if_neg (by omega), if_pos h]; simp
  ·rw [if_neg (by omega), if_neg (by omega), if_neg (by omega), if_pos h]; simp
  ·rw [if_neg (by omega), if_neg (by omega), if_neg (by omega), if_neg (by omega), if_pos h]; simp
  ·rw [if_neg (by omega), if_neg (by omega), if_neg (by omega), if_neg (by omega), if_neg (by omega), if_pos h]; simp
  ·rw [if_neg (by omega), if_neg (by omega), if_neg (by omega), if_neg (by omega), if_neg (by omega), if_neg (by omega)]
   intro e
   have h2 := (List.append_eq_nil_iff.1 e).2
   split at h2 <;> simp at h2
theorem aY8 (full : Bool) {T : Tr} (hw : T.Wf) (ht : M7 T.root.kind = true) (hf : U9 T.root = true) : (T.txt full).1 ≠ [] := by
 cases T with
 | leaf x => exact az4 hw ht hf
 | one x p =>
  show (if x.kind = 3 then (_ : List UInt8 × Nat) else _).1 ≠ []
  split
  ·simp
  ·show (if x.kind = 9 then _ else _) ++ _ ≠ []
   split <;> simp
 | two x p q => show _ ++ [32] ++ _ ++ [32] ++ _ ≠ []; simp
theorem aq5 {t : List Ng} (h : (J4 t).2 = 0) (hn : ∀ x ∈ t, x.n ≤ 4294967295) (hmm : ∀ x ∈ t, x.m ≤ 4294967295) {T : Tr} (hT : T.Wf) (hf : T.flat = t) : T.Typed ∧ (∀ x ∈ t, NOK x) ∧ t.length ≤ 3000 ∧ ∀ full, (T.txt full).1 ≠ [] := by
 obtain ⟨q, hq, -, hw⟩ := a3v.1 h
 obtain ⟨h1, h2⟩ := a81 h hT hf
 have hok : ∀ x ∈ t, NOK x := fun x hx => by
  have := a4Y t [] _ 0 hq x hx
  exact ⟨this.1, this.2.1, hn x hx, hmm x hx⟩
 refine ⟨h1, hok, Nat.le_trans (ad3 _ _ _ _ hq) hw, fun full => aY8 full hT h2 (hok _ ?_).1⟩
 obtain ⟨l, hl⟩ := T.flat_last
 rw [← hf, hl]
 simp

end Go.Proofs.YtklipelnjgpnjaaGreatDoor
