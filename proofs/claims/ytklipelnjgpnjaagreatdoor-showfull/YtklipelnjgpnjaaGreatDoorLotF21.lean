import Derived.Test.YtklipelnjgpnjaaGreatDoorLotF20
import Derived.Test.YtklipelnjgpnjaaGreatDoorLotF14
import Derived.Test.YtklipelnjgpnjaaGreatDoorLotF15
import Derived.Test.YtklipelnjgpnjaaGreatDoorLotF7
namespace Go.Proofs.YtklipelnjgpnjaaGreatDoor
open Go.RowKit
set_option maxRecDepth 100000
theorem row_leaf {x : Ng} (h : arG x.kind = some 0) : rowG x = 12 := by
 rcases arG_cases h with ⟨h1, -⟩ | ⟨h1, -⟩ | ⟨-, h1⟩
 ·cases h1
 ·cases h1
 ·unfold rowG
  rw [if_neg (by omega), if_neg (by omega), if_neg (by omega), if_neg (by omega), if_neg (by omega), if_pos (by omega)]
theorem walk_form : ∀ (l : List Ng) (st s : List Pt) (k : Nat), walkG st k l = .ok s → ∀ x ∈ l, formG x = true ∧ rangeE x = 0 ∧ ∃ a, arG x.kind = some a
 | [], st, s, k, h, x, hx => by cases hx
 | y :: l, st, s, k, h, x, hx => by
  simp only [walkG] at h
  cases hy : stepG y st with
  | error e => rw [hy] at h; cases h
  | ok s1 =>
   rw [hy] at h
   rcases List.mem_cons.1 hx with rfl | hx
   ·unfold stepG at hy
    split at hy
    ·cases hy
    ·rename_i a ha
     split at hy
     ·cases hy
     ·split at hy
      ·cases hy
      ·rename_i hf
       have hf0 : faultG x (st.drop (st.length - a)) = 0 := Decidable.not_not.1 hf
       unfold faultG at hf0
       split at hf0
       ·cases hf0
       ·rename_i hfm
        split at hf0
        ·rename_i hkE; exact absurd hf0 hkE
        ·split at hf0
         ·cases hf0
         ·exact ⟨by simpa using hfm, hf0, a, ha⟩
   ·exact walk_form l s1 s (k + 1) h x hx
theorem form_node {x : Ng} (h : formG x = true) (hr : rangeE x = 0) : 0 ≤ x.side ∧ x.side ≤ 2 ∧ 0 ≤ x.of ∧ x.of ≤ 13 ∧ 0 ≤ x.bits ∧ x.bits ≤ 128 ∧ (x.kind = 10 → x.side ≠ 0) ∧ (x.kind = 3 → 1 ≤ x.size ∧ x.size ≤ 4) ∧ (x.kind = 6 → 1 ≤ x.op ∧ x.op ≤ 6) ∧ (x.kind = 4 → 1 ≤ x.op ∧ x.op ≤ 10) := by
 unfold formG at h
 obtain ⟨hs, hm⟩ := Bool.and_eq_true_iff.1 h
 unfold sameG at hs
 simp only [Bool.and_eq_true, decide_eq_true_eq] at hs
 obtain ⟨⟨⟨⟨⟨⟨⟨⟨-, h1⟩, -⟩, -⟩, h4⟩, h5⟩, h6⟩, -⟩, h8⟩ := hs
 have hin : ∀ {a lo hi : Int}, inG a lo hi = true → lo ≤ a ∧ a ≤ hi := fun h => by
  unfold inG at h
  have := Bool.and_eq_true_iff.1 h
  exact ⟨of_decide_eq_true this.1, of_decide_eq_true this.2⟩
 have hhost : hostG x = true → (2 ≤ x.of ∧ x.of ≤ 3) ∧ 0 ≤ x.side ∧ x.side ≤ 2 := fun h => by
  unfold hostG at h
  have h2 := (Bool.and_eq_true_iff.1 h).1
  exact ⟨hin (Bool.and_eq_true_iff.1 h2).1, hin (Bool.and_eq_true_iff.1 h2).2⟩
 unfold mayG at hm
 unfold rangeE at hr
 unfold useG at h1 h4 h5 h6 h8
 by_cases k1 : x.kind = 1 ∨ x.kind = 12
 ·simp only [if_pos k1] at h1 h4 h5 h6 h8
  omega
 simp only [if_neg k1] at h1 h4 h5 h6 h8
 by_cases k3 : x.kind = 3
 ·simp only [if_pos k3] at h1 h4 h5 h6 h8 hm hr
  have := hin hm
  split at hr
  ·omega
  ·cases hr
 simp only [if_neg k3] at h1 h4 h5 h6 h8 hm hr
 by_cases k4 : x.kind = 4 ∨ x.kind = 6
 ·simp only [if_pos k4] at h1 h4 h5 h6 h8
  by_cases k4' : x.kind = 4
  ·simp only [if_pos k4'] at hm
   have := hin hm
   omega
  ·simp only [if_neg k4'] at hm
   rw [if_pos (by omega)] at hm
   have := hin hm
   omega
 simp only [if_neg k4] at h1 h4 h5 h6 h8
 rw [if_neg (by omega), if_neg (by omega)] at hm
 by_cases k10 : x.kind = 10
 ·simp only [if_pos k10] at h1 h4 h5 h6 h8 hm
  have := hin hm
  omega
 simp only [if_neg k10] at h1 h4 h5 h6 h8 hm
 by_cases k11 : x.kind = 11
 ·simp only [if_pos k11] at h1 h4 h5 h6 h8 hm
  have := hin hm
  omega
 simp only [if_neg k11] at h1 h4 h5 h6 h8 hm
 by_cases k13 : x.kind = 13
 ·simp only [if_pos k13] at h1 h4 h5 h6 h8 hm
  have := hin hm
  omega
 simp only [if_neg k13] at h1 h4 h5 h6 h8 hm
 by_cases k14 : x.kind = 14
 ·simp only [if_pos k14] at h1 h4 h5 h6 h8
  rw [if_pos (.inl k14)] at hm
  have := hhost hm
  omega
 simp only [if_neg k14] at h1 h4 h5 h6 h8
 by_cases k15 : x.kind = 15
 ·simp only [if_pos k15] at h1 h4 h5 h6 h8
  rw [if_pos (.inr k15)] at hm
  have := hhost hm
  rw [if_neg (by omega), if_neg (by omega), if_neg (by omega), if_pos k15] at hr
  have hal : (addrG x).length ≤ 16 := by
   unfold addrG
   split
   ·rw [List.length_take, adgs_len]; omega
   ·rw [adgs_len]; omega
  split at hr
  ·cases hr
  ·rename_i hb
   have hb' := Decidable.not_not.1 hb
   omega
 simp only [if_neg k15] at h1 h4 h5 h6 h8
 rw [if_neg (by omega)] at hm
 by_cases k16 : x.kind = 16
 ·simp only [if_pos k16] at h1 h4 h5 h6 h8 hm
  obtain ⟨ho, hsd⟩ := Bool.and_eq_true_iff.1 hm
  have h2 := hin hsd
  rcases Bool.or_eq_true_iff.1 ho with ho | ho
  ·have : x.of = 0 := by simpa using ho
   omega
  ·have := hin ho
   omega
 simp only [if_neg k16] at h1 h4 h5 h6 h8
 omega
theorem leaf_len (x : Ng) : (leafT x).length ≤ 1500 := by
 have h1 := dec_len x.n
 have h2 := dec_len x.m
 have h3 := dec_len x.bits.toNat
 have h4 := adr_len x
 have h5 := side_len x.side
 have h6 := name_len x.of
 unfold leafT
 repeat' split
 all_goals
  try simp only [List.length_append, List.length_cons, List.length_nil]
  omega
theorem put_len (want : Bool) (r : List UInt8 × Nat) : (putT want r).1.length ≤ r.1.length + 2 ∧ (putT want r).2 ≤ r.2 + 1 := by
 cases want with
 | true => exact ⟨by show ([40] ++ r.1 ++ [41]).length ≤ _; simp, Nat.le_refl _⟩
 | false => exact ⟨by show r.1.length ≤ _; omega, by show r.2 ≤ _; omega⟩
theorem relT_len (k : Int) : (relT k).length ≤ 2 := by
 by_cases h1 : k = 1
 ·subst h1; decide
 by_cases h2 : k = 2
 ·subst h2; decide
 by_cases h3 : k = 3
 ·subst h3; decide
 by_cases h4 : k = 4
 ·subst h4; decide
 by_cases h5 : k = 5
 ·subst h5; decide
 by_cases h6 : k = 6
 ·subst h6; decide
 unfold relT
 rw [if_neg h1, if_neg h2, if_neg h3, if_neg h4, if_neg h5, if_neg h6]
 decide
theorem opT13_len (k : Int) : (opT13 k).length ≤ 2 := by
 by_cases h1 : k = 1
 ·subst h1; decide
 by_cases h2 : k = 2
 ·subst h2; decide
 by_cases h3 : k = 3
 ·subst h3; decide
 by_cases h4 : k = 4
 ·subst h4; decide
 by_cases h5 : k = 5
 ·subst h5; decide
 by_cases h6 : k = 6
 ·subst h6; decide
 by_cases h7 : k = 7
 ·subst h7; decide
 by_cases h8 : k = 8
 ·subst h8; decide
 by_cases h9 : k = 9
 ·subst h9; decide
 by_cases h10 : k = 10
 ·subst h10; decide
 unfold opT13
 rw [if_neg h1, if_neg h2, if_neg h3, if_neg h4, if_neg h5, if_neg h6, if_neg h7, if_neg h8, if_neg h9, if_neg h10]
 decide
theorem signT_len (x : Ng) : (signT x).length ≤ 3 := by
 have h1 := relT_len x.op
 have h2 := opT13_len x.op
 unfold signT
 split
 ·decide
 ·split
  ·decide
  ·split
   ·omega
   ·omega
theorem sizeT_len (n : Int) : (sizeT n).length ≤ 21 := by
 have := dec_len n.toNat
 unfold sizeT
 split
 ·decide
 ·simp only [List.length_append, List.length_cons, List.length_nil]; omega
theorem txt_len (full : Bool) : ∀ T : Tr, (T.txt full).1.length ≤ 1600 * T.flat.length ∧ (T.txt full).2 ≤ 2 * T.flat.length
 | .leaf x => by
  have := leaf_len x
  exact ⟨by show (leafT x).length ≤ 1600 * 1; omega, by show 0 ≤ _; omega⟩
 | .one x p => by
  obtain ⟨h1, h2⟩ := txt_len full p
  have hf : (Tr.one x p).flat.length = p.flat.length + 1 := by show (p.flat ++ [x]).length = _; simp
  have hn := name_len x.of
  have hs := sizeT_len x.size
  rw [hf, Tr.txt]
  split
  ·simp only [List.length_append, List.length_cons, List.length_nil]
   omega
  ·have hp := put_len (wantT full (rowG p.root) (rowG x)) (p.txt full)
   have hq : ((if x.kind = 9 then [110, 111, 116, 32] else [45]) : List UInt8).length ≤ 4 := by split <;> decide
   simp only [List.length_append]
   omega
 | .two x p q => by
  obtain ⟨h1, h2⟩ := txt_len full p
  obtain ⟨h3, h4⟩ := txt_len full q
  have hf : (Tr.two x p q).flat.length = p.flat.length + q.flat.length + 1 := by show (p.flat ++ q.flat ++ [x]).length = _; simp; omega
  have hs := signT_len x
  have hp := put_len (wantT full (rowG p.root) (if rowG x = 4 then 5 else rowG x)) (p.txt full)
  have hq := put_len (wantT full (rowG q.root) (rowG x + 1)) (q.txt full)
  rw [hf, Tr.txt]
  simp only [List.length_append, List.length_cons, List.length_nil]
  have hpp : 0 < p.flat.length := List.length_pos_iff.2 p.flat_ne
  have hqp : 0 < q.flat.length := List.length_pos_iff.2 q.flat_ne
  omega
theorem step_litG {P : Program} {ops : Array Oper} {o : Oper} {a : Act} {w : World} {K : Act → World → Prop} {Q : Exit → Act → World → Prop} {E : Prop}
  (hw : Region.wanted o (yielded ops a.tmps) = true) (t : TypeId) (n : Nat) (ps : Array (Nat × Operand)) (ho : o.op = .buildSlice t n ps) (qs : Array (Nat × Value)) (hq : ps.map (fun (i, x) => (i, a.eval x)) = qs) (cs : List Value) (e : TypeId)
  (hr : ∀ W : World, (Instr.buildSlice t n qs).run P W = .ok (.slice (some ⟨W.heap.size, 0, none⟩) n n) (W.alloc (.cells cs.toArray e)))
  (hK : ∀ ad w', CV w' (some ad) cs → w.grownBy w' none → K (a.put o.dst (.slice (some ad) n n)) w') :
  if Region.wanted o (yielded ops a.tmps) = true then Oper.wp P o a w K Q else E := by
 rw [if_pos hw]
 unfold Oper.wp execOp
 have hr' := hr w
 rw [← hq] at hr'
 simp only [ho, Sem.run_bind, Sem.run_pure, Result.andThen_ok, hr']
 exact hK _ _ (cv_lit w e cs) (World.grownBy_alloc _ _ _)
def Fr (ts r : List Tk) : Prop := r <:+ ts ∧ r.length < ts.length
theorem Fr.trans {a b c : List Tk} (h : Fr a b) (k : Fr b c) : Fr a c := ⟨k.1.trans h.1, Nat.lt_trans k.2 h.2⟩
def exP : Er := (0, 0)
def EndsOk (ts : List Tk) : Prop := ∃ us e, ts = us ++ [e] ∧ e.kind = 0 ∧ ∀ t ∈ us, t.kind ≠ 0
def TokAt (ts : List Tk) (p : Nat) : Prop := ∃ t ∈ ts, t.kind ≠ 0 ∧ t.pos = p
def ErAt (ts : List Tk) (e : Er) : Prop := ∃ t ∈ ts, t.pos = e.1 ∧ ((e.2 = 110 ∧ t.kind = 0) ∨ (t.kind ≠ 0 ∧ (e.2 = 111 ∨ e.2 = 112 ∨ e.2 = 113)))
theorem EndsOk.tail {ts : List Tk} (h : EndsOk ts) (hk : (hdT ts).kind ≠ 0) : EndsOk ts.tail := by
 obtain ⟨us, e, rfl, he, hu⟩ := h
 cases us with
 | nil => exact absurd he hk
 | cons a us => exact ⟨us, e, rfl, he, fun t ht => hu t (List.mem_cons_of_mem _ ht)⟩
theorem TokAt.up {ts r : List Tk} {p : Nat} (h : TokAt r p) (hs : r <:+ ts) : TokAt ts p := by
 obtain ⟨t, ht, h⟩ := h
 exact ⟨t, hs.subset ht, h⟩
theorem ErAt.up {ts r : List Tk} {e : Er} (h : ErAt r e) (hs : r <:+ ts) : ErAt ts e := by
 obtain ⟨t, ht, h⟩ := h
 exact ⟨t, hs.subset ht, h⟩
def GdP {α : Type} (ts : List Tk) (x : Except Er (α × List Tk)) : Prop := (∀ v r, x = .ok (v, r) → EndsOk r ∧ r <:+ ts) ∧ ∀ e, x = .error e → e ≠ exP → ErAt ts e
theorem GdP.up {α : Type} {ts r : List Tk} {x : Except Er (α × List Tk)} (h : GdP r x) (hs : r <:+ ts) : GdP ts x :=
 ⟨fun v q hq => ⟨(h.1 v q hq).1, (h.1 v q hq).2.trans hs⟩, fun e he hn => (h.2 e he hn).up hs⟩
end Go.Proofs.YtklipelnjgpnjaaGreatDoor
