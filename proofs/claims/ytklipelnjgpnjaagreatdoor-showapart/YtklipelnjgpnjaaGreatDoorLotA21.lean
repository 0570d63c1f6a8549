import Derived.Test.YtklipelnjgpnjaaGreatDoorLotA20
import Derived.Test.YtklipelnjgpnjaaGreatDoorLotA14
import Derived.Test.YtklipelnjgpnjaaGreatDoorLotA15
import Derived.Test.YtklipelnjgpnjaaGreatDoorLotA7
namespace Go.Proofs.YtklipelnjgpnjaaGreatDoor
open Go.RowKit
set_option maxRecDepth 100000
theorem row_leaf {x : Ng} (h : arG x.kind = some 0) : rowG x = 12 := by
 rcases arG_cases h with ⟨h1, -⟩ | ⟨h1, -⟩ | ⟨-, h1⟩
 ·cases h1
 ·cases h1
 ·unfold rowG
  rw [if_neg (by omega), if_neg (by omega), if_neg (by omega), if_neg (by omega), if_neg (by omega), if_pos (by omega)]
theorem walk_form : ∀ (l : List Ng) (st s : List Pt) (k : Nat), walkG st k l = .ok s → ∀ x ∈ l, formG x = true ∧ rangeE x = 0 ∧ ∃ a, arG x.kind = some a
 | [], st, s, k, h, x, hx => by cases hx
 | y :: l, st, s, k, h, x, hx => by
  simp only [walkG] at h
  cases hy : stepG y st with
  | error e => rw [hy] at h; cases h
  | ok s1 =>
   rw [hy] at h
   rcases List.mem_cons.1 hx with rfl | hx
   ·unfold stepG at hy
    split at hy
    ·cases hy
    ·rename_i a ha
     split at hy
     ·cases hy
     ·split at hy
      ·cases hy
      ·rename_i hf
       have hf0 : faultG x (st.drop (st.length - a)) = 0 := Decidable.not_not.1 hf
       unfold faultG at hf0
       split at hf0
       ·cases hf0
       ·rename_i hfm
        split at hf0
        ·rename_i hkE; exact absurd hf0 hkE
        ·split at hf0
         ·cases hf0
         ·exact ⟨by simpa using hfm, hf0, a, ha⟩
   ·exact walk_form l s1 s (k + 1) h x hx
theorem form_node {x : Ng} (h : formG x = true) (hr : rangeE x = 0) : 0 ≤ x.side ∧ x.side ≤ 2 ∧ 0 ≤ x.of ∧ x.of ≤ 13 ∧ 0 ≤ x.bits ∧ x.bits ≤ 128 ∧ (x.kind = 10 → x.side ≠ 0) ∧ (x.kind = 3 → 1 ≤ x.size ∧ x.size ≤ 4) ∧ (x.kind = 6 → 1 ≤ x.op ∧ x.op ≤ 6) ∧ (x.kind = 4 → 1 ≤ x.op ∧ x.op ≤ 10) := by
 unfold formG at h
 obtain ⟨hs, hm⟩ := Bool.and_eq_true_iff.1 h
 unfold sameG at hs
 simp only [Bool.and_eq_true, decide_eq_true_eq] at hs
 obtain ⟨⟨⟨⟨⟨⟨⟨⟨-, h1⟩, -⟩, -⟩, h4⟩, h5⟩, h6⟩, -⟩, h8⟩ := hs
 have hin : ∀ {a lo hi : Int}, inG a lo hi = true → lo ≤ a ∧ a ≤ hi := fun h => by
  unfold inG at h
  have := Bool.and_eq_true_iff.1 h
  exact ⟨of_decide_eq_true this.1, of_decide_eq_true this.2⟩
 have hhost : hostG x = true → (2 ≤ x.of ∧ x.of ≤ 3) ∧ 0 ≤ x.side ∧ x.side ≤ 2 := fun h => by
  unfold hostG at h
  have h2 := (Bool.and_eq_true_iff.1 h).1
  exact ⟨hin (Bool.and_eq_true_iff.1 h2).1, hin (Bool.and_eq_true_iff.1 h2).2⟩
 unfold mayG at hm
 unfold rangeE at hr
 unfold useG at h1 h4 h5 h6 h8
 by_cases k1 : x.kind = 1 ∨ x.kind = 12
 ·simp only [if_pos k1] at h1 h4 h5 h6 h8
  omega
 simp only [if_neg k1] at h1 h4 h5 h6 h8
 by_cases k3 : x.kind = 3
 ·simp only [if_pos k3] at h1 h4 h5 h6 h8 hm hr
  have := hin hm
  split at hr
  ·omega
  ·cases hr
 simp only [if_neg k3] at h1 h4 h5 h6 h8 hm hr
 by_cases k4 : x.kind = 4 ∨ x.kind = 6
 ·simp only [if_pos k4] at h1 h4 h5 h6 h8
  by_cases k4' : x.kind = 4
  ·simp only [if_pos k4'] at hm
   have := hin hm
   omega
  ·simp only [if_neg k4'] at hm
   rw [if_pos (by omega)] at hm
   have := hin hm
   omega
 simp only [if_neg k4] at h1 h4 h5 h6 h8
 rw [if_neg (by omega), if_neg (by omega)] at hm
 by_cases k10 : x.kind = 10
 ·simp only [if_pos k10] at h1 h4 h5 h6 h8 hm
  have := hin hm
  omega
 simp only [if_neg k10] at h1 h4 h5 h6 h8 hm
 by_cases k11 : x.kind = 11
 ·simp only [if_pos k11] at h1 h4 h5 h6 h8 hm
  have := hin hm
  omega
 simp only [if_neg k11] at h1 h4 h5 h6 h8 hm
 by_cases k13 : x.kind = 13
 ·simp only [if_pos k13] at h1 h4 h5 h6 h8 hm
  have := hin hm
  omega
 simp only [if_neg k13] at h1 h4 h5 h6 h8 hm
 by_cases k14 : x.kind = 14
 ·simp only [if_pos k14] at h1 h4 h5 h6 h8
  rw [if_pos (.inl k14)] at hm
  have := hhost hm
  omega
 simp only [if_neg k14] at h1 h4 h5 h6 h8
 by_cases k15 : x.kind = 15
 ·simp only [if_pos k15] at h1 h4 h5 h6 h8
  rw [if_pos (.inr k15)] at hm
  have := hhost hm
  rw [if_neg (by omega), if_neg (by omega), if_neg (by omega), if_pos k15] at hr
  have hal : (addrG x).length ≤ 16 := by
   unfold addrG
   split
   ·rw [List.length_take, adgs_len]; omega
   ·rw [adgs_len]; omega
  split at hr
  ·cases hr
  ·rename_i hb
   have hb' := Decidable.not_not.1 hb
   omega
 simp only [if_neg k15] at h1 h4 h5 h6 h8
 rw [if_neg (by omega)] at hm
 by_cases k16 : x.kind = 16
 ·simp only [if_pos k16] at h1 h4 h5 h6 h8 hm
  obtain ⟨ho, hsd⟩ := Bool.and_eq_true_iff.1 hm
  have h2 := hin hsd
  rcases Bool.or_eq_true_iff.1 ho with ho | ho
  ·have : x.of = 0 := by simpa using ho
   omega
  ·have := hin ho
   omega
 simp only [if_neg k16] at h1 h4 h5 h6 h8
 omega
theorem leaf_len (x : Ng) : (leafT x).length ≤ 1500 := by
 have h1 := dec_len x.n
 have h2 := dec_len x.m
 have h3 := dec_len x.bits.toNat
 have h4 := adr_len x
 have h5 := side_len x.side
 have h6 := name_len x.of
 unfold leafT
 repeat' split
 all_goals
  try simp only [List.length_append, List.length_cons, List.length_nil]
  omega
theorem put_len (want : Bool) (r : List UInt8 × Nat) : (putT want r).1.length ≤ r.1.length + 2 ∧ (putT want r).2 ≤ r.2 + 1 := by
 cases want with
 | true => exact ⟨by show ([40] ++ r.1 ++ [41]).length ≤ _; simp, Nat.le_refl _⟩
 | false => exact ⟨by show r.1.length ≤ _; omega, by show r.2 ≤ _; omega⟩
theorem relT_len (k : Int) : (relT k).length ≤ 2 := by
 by_cases h1 : k = 1
 ·subst h1; decide
 by_cases h2 : k = 2
 ·subst h2; decide
 by_cases h3 : k = 3
 ·subst h3; decide
 by_cases h4 : k = 4
 ·subst h4; decide
 by_cases h5 : k = 5
 ·subst h5; decide
 by_cases h6 : k = 6
 ·subst h6; decide
 unfold relT
 rw [if_neg h1, if_neg h2, if_neg h3, if_neg h4, if_neg h5, if_neg h6]
 decide
theorem opT13_len (k : Int) : (opT13 k).length ≤ 2 := by
 by_cases h1 : k = 1
 ·subst h1; decide
 by_cases h2 : k = 2
 ·subst h2; decide
 by_cases h3 : k = 3
 ·subst h3; decide
 by_cases h4 : k = 4
 ·subst h4; decide
 by_cases h5 : k = 5
 ·subst h5; decide
 by_cases h6 : k = 6
 ·subst h6; decide
 by_cases h7 : k = 7
 ·subst h7; decide
 by_cases h8 : k = 8
 ·subst h8; decide
 by_cases h9 : k = 9
 ·subst h9; decide
 by_cases h10 : k = 10
 ·subst h10; decide
 unfold opT13
 rw [if_neg h1, if_neg h2, if_neg h3, if_neg h4, if_neg h5, if_neg h6, if_neg h7, if_neg h8, if_neg h9, if_neg h10]
 decide
theorem signT_len (x : Ng) : (signT x).length ≤ 3 := by
 have h1 := relT_len x.op
 have h2 := opT13_len x.op
 unfold signT
 split
 ·decide
 ·split
  ·decide
  ·split
   ·omega
   ·omega
theorem sizeT_len (n : Int) : (sizeT n).length ≤ 21 := by
 have := dec_len n.toNat
 unfold sizeT
 split
 ·decide
 ·simp only [List.length_append, List.length_cons, List.length_nil]; omega
theorem txt_len (full : Bool) : ∀ T : Tr, (T.txt full).1.length ≤ 1600 * T.flat.length ∧ (T.txt full).2 ≤ 2 * T.flat.length
 | .leaf x => by
  have := leaf_len x
  exact ⟨by show (leafT x).length ≤ 1600 * 1; omega, by show 0 ≤ _; omega⟩
 | .one x p => by
  obtain ⟨h1, h2⟩ := txt_len full p
  have hf : (Tr.one x p).flat.length = p.flat.length + 1 := by show (p.flat ++ [x]).length = _; simp
  have hn := name_len x.of
  have hs := sizeT_len x.size
  rw [hf, Tr.txt]
  split
  ·simp only [List.length_append, List.length_cons, List.length_nil]
   omega
  ·have hp := put_len (wantT full (rowG p.root) (rowG x)) (p.txt full)
   have hq : ((if x.kind = 9 then [110, 111, 116, 32] else [45]) : List UInt8).length ≤ 4 := by split <;> decide
   simp only [List.length_append]
   omega
 | .two x p q => by
  obtain ⟨h1, h2⟩ := txt_len full p
  obtain ⟨h3, h4⟩ := txt_len full q
  have hf : (Tr.two x p q).flat.length = p.flat.length + q.flat.length + 1 := by show (p.flat ++ q.flat ++ [x]).length = _; simp; omega
  have hs := signT_len x
  have hp := put_len (wantT full (rowG p.root) (if rowG x = 4 then 5 else rowG x)) (p.txt full)
  have hq := put_len (wantT full (rowG q.root) (rowG x + 1)) (q.txt full)
  rw [hf, Tr.txt]
  simp only [List.length_append, List.length_cons, List.length_nil]
  have hpp : 0 < p.flat.length := List.length_pos_iff.2 p.flat_ne
  have hqp : 0 < q.flat.length := List.length_pos_iff.2 q.flat_ne
  omega
theorem step_litG {P : Program} {ops : Array Oper} {o : Oper} {a : Act} {w : World} {K : Act → World → Prop} {Q : Exit → Act → World → Prop} {E : Prop}
  (hw : Region.wanted o (yielded ops a.tmps) = true) (t : TypeId) (n : Nat) (ps : Array (Nat × Operand)) (ho : o.op = .buildSlice t n ps) (qs : Array (Nat × Value)) (hq : ps.map (fun (i, x) => (i, a.eval x)) = qs) (cs : List Value) (e : TypeId)
  (hr : ∀ W : World, (Instr.buildSlice t n qs).run P W = .ok (.slice (some ⟨W.heap.size, 0, none⟩) n n) (W.alloc (.cells cs.toArray e)))
  (hK : ∀ ad w', CV w' (some ad) cs → w.grownBy w' none → K (a.put o.dst (.slice (some ad) n n)) w') :
  if Region.wanted o (yielded ops a.tmps) = true then Oper.wp P o a w K Q else E := by
 rw [if_pos hw]
 unfold Oper.wp execOp
 have hr' := hr w
 rw [← hq] at hr'
 simp only [ho, Sem.run_bind, Sem.run_pure, Result.andThen_ok, hr']
 exact hK _ _ (cv_lit w e cs) (World.grownBy_alloc _ _ _)
theorem hd_ne {ts : List Tk} (h : (hdT ts).kind ≠ 0) : ts ≠ [] := by
 rintro rfl
 exact h rfl
theorem isB_kind {ts : List Tk} {x : List UInt8} (h : isB ts x = true) : (hdT ts).kind = 5 ∨ (hdT ts).kind = 2 := by
 unfold isB at h
 simp only [Bool.and_eq_true, Bool.or_eq_true, beq_iff_eq] at h
 exact h.1
theorem isB_ne {ts : List Tk} {x : List UInt8} (h : isB ts x = true) : ts ≠ [] := hd_ne (by have := isB_kind h; omega)
def Fr (ts r : List Tk) : Prop := r <:+ ts ∧ r.length < ts.length
theorem fr_tail {ts : List Tk} (h : ts ≠ []) : Fr ts ts.tail := ⟨List.tail_suffix ts, by cases ts with
 | nil => exact absurd rfl h
 | cons a r => simp⟩
theorem Fr.trans {a b c : List Tk} (h : Fr a b) (k : Fr b c) : Fr a c := ⟨k.1.trans h.1, Nat.lt_trans k.2 h.2⟩
theorem thenE_inv {α β : Type} {x : Except Er α} {f : α → Except Er β} {y : β} (h : thenE x f = .ok y) : ∃ v, x = .ok v ∧ f v = .ok y := by
 cases x with
 | error e => cases h
 | ok v => exact ⟨v, rfl, h⟩
theorem must_fr {x : List UInt8} {ts r : List Tk} (h : mustV x ts = .ok r) : Fr ts r := by
 unfold mustV at h
 split at h
 ·rename_i hb
  cases h
  exact fr_tail (isB_ne hb)
 ·cases h
theorem num_fr {ts r : List Tk} {n : Nat} (h : numT ts = .ok (n, r)) : Fr ts r := by
 unfold numT at h
 split at h
 ·rename_i hk
  cases h
  exact fr_tail (hd_ne (by omega))
 ·cases h
theorem addr_fr {k : Nat} {ts r : List Tk} {d : Nd} (h : addrT k ts = .ok (d, r)) : Fr ts r := by
 unfold addrT at h
 split at h
 ·rename_i hk
  split at h
  ·cases h
   exact fr_tail (hd_ne (by omega))
  ·cases h
 ·split at h
  ·rename_i hk
   split at h
   ·cases h
    exact fr_tail (hd_ne (by omega))
   ·cases h
  ·cases h
theorem sidedB_fr {of at' side : Nat} {ts r : List Tk} {ns : List (Nd × Nat)} (h : sidedB of at' side ts = .ok (ns, r)) : Fr ts r ∧ ns ≠ [] := by
 unfold sidedB at h
 split at h
 ·rename_i hb
  obtain ⟨⟨n, r1⟩, h1, h2⟩ := thenE_inv h
  cases h2
  exact ⟨(fr_tail (isB_ne hb)).trans (num_fr h1), by simp⟩
 ·split at h
  ·rename_i hb
   obtain ⟨⟨n, r1⟩, h1, h2⟩ := thenE_inv h
   obtain ⟨r2, h3, h4⟩ := thenE_inv h2
   obtain ⟨⟨m, r3⟩, h5, h6⟩ := thenE_inv h4
   cases h6
   exact ⟨(((fr_tail (isB_ne hb)).trans (num_fr h1)).trans (must_fr h3)).trans (num_fr h5), by simp⟩
  ·split at h
   ·rename_i hb
    obtain ⟨⟨n, r1⟩, h1, h2⟩ := thenE_inv h
    cases h2
    exact ⟨(fr_tail (isB_ne hb.2)).trans (addr_fr h1), by simp⟩
   ·split at h
    ·rename_i hb
     obtain ⟨⟨n, r1⟩, h1, h2⟩ := thenE_inv h
     obtain ⟨r2, h3, h4⟩ := thenE_inv h2
     obtain ⟨⟨m, r3⟩, h5, h6⟩ := thenE_inv h4
     cases h6
     exact ⟨(((fr_tail (isB_ne hb.2)).trans (addr_fr h1)).trans (must_fr h3)).trans (num_fr h5), by simp⟩
    ·cases h
theorem sideR_sfx (ts : List Tk) : sideR ts <:+ ts := by
 unfold sideR
 split
 ·exact List.suffix_refl _
 ·exact List.tail_suffix _
theorem sided_fr {of at' : Nat} {ts r : List Tk} {ns : List (Nd × Nat)} (h : sidedV of at' ts = .ok (ns, r)) : Fr ts r ∧ ns ≠ [] := by
 obtain ⟨h1, h2⟩ := sidedB_fr h
 exact ⟨⟨h1.1.trans (sideR_sfx ts), Nat.lt_of_lt_of_le h1.2 (sideR_sfx ts).length_le⟩, h2⟩
theorem word_fr {ts r : List Tk} {ns : List (Nd × Nat)} (hk : (hdT ts).kind = 2) (h : wordF ts = .ok (ns, r)) : Fr ts r ∧ ns ≠ [] := by
 have hne := hd_ne (ts := ts) (by omega)
 unfold wordF at h
 split at h
 ·cases h; exact ⟨fr_tail hne, by simp⟩
 ·split at h
  ·cases h; exact ⟨fr_tail hne, by simp⟩
  ·split at h
   ·cases h; exact ⟨fr_tail hne, by simp⟩
   ·split at h
    ·obtain ⟨⟨n, r1⟩, h1, h2⟩ := thenE_inv h
     cases h2
     exact ⟨(fr_tail hne).trans (num_fr h1), by simp⟩
    ·split at h
     ·exact sided_fr h
     ·cases h
theorem size_fr {ts r : List Tk} {n : Nat} (h : sizeF ts = .ok (n, r)) : Fr ts r := by
 unfold sizeF at h
 split at h
 ·rename_i hb
  obtain ⟨⟨n, r1⟩, h1, h2⟩ := thenE_inv h
  obtain ⟨r2, h3, h4⟩ := thenE_inv h2
  cases h4
  exact ((fr_tail (isB_ne hb)).trans (num_fr h1)).trans (must_fr h3)
 ·obtain ⟨r2, h3, h4⟩ := thenE_inv h
  cases h4
  exact must_fr h3
theorem opn_inv {α : Type} {nest : Nat} {ts : List Tk} {x : Except Er α} {y : α} (h : opnV nest ts x = .ok y) : nest ≠ 200 ∧ x = .ok y := by
 unfold opnV at h
 split at h
 ·cases h
 ·rename_i hn; exact ⟨hn, h⟩
def FrO (rec : Nat → List Tk → Out) : Prop := ∀ nest ts ns r, rec nest ts = .ok (ns, r) → Fr ts r ∧ ns ≠ []
theorem name_fr {rec : Nat → List Tk → Out} (hr : FrO rec) {nest of at' : Nat} {ts r : List Tk} {ns : List (Nd × Nat)} (h : nameF rec nest of at' ts = .ok (ns, r)) : r <:+ ts ∧ ns ≠ [] := by
 unfold nameF at h
 split at h
 ·rename_i hb
  obtain ⟨-, h⟩ := opn_inv h
  obtain ⟨⟨n1, r1⟩, h1, h2⟩ := thenE_inv h
  obtain ⟨⟨n2, r2⟩, h3, h4⟩ := thenE_inv h2
  cases h4
  exact ⟨((fr_tail (isB_ne hb.1)).trans ((hr _ _ _ _ h1).1.trans (size_fr h3))).1, by simp⟩
 ·split at h
  ·cases h
  ·split at h
   ·rename_i hb
    obtain ⟨⟨n, r1⟩, h1, h2⟩ := thenE_inv h
    cases h2
    exact ⟨((fr_tail (isB_ne hb.2)).trans (num_fr h1)).1, by simp⟩
   ·split at h
    ·exact ⟨(sided_fr h).1.1, (sided_fr h).2⟩
    ·cases h
     exact ⟨List.suffix_refl _, by simp⟩
theorem part_fr {rec : Nat → List Tk → Out} (hr : FrO rec) : FrO (partF rec) := by
 intro nest ts ns r h
 unfold partF at h
 split at h
 ·cases h
  exact ⟨fr_tail (hd_ne (by omega)), by simp⟩
 ·split at h
  ·rename_i hb
   obtain ⟨-, h⟩ := opn_inv h
   obtain ⟨⟨n1, r1⟩, h1, h2⟩ := thenE_inv h
   obtain ⟨r2, h3, h4⟩ := thenE_inv h2
   cases h4
   exact ⟨(fr_tail (isB_ne hb)).trans ((hr _ _ _ _ h1).1.trans (must_fr h3)), (hr _ _ _ _ h1).2⟩
  ·split at h
   ·cases h
   ·rename_i hk
    have hk' : (hdT ts).kind = 2 := Decidable.byContradiction hk
    have hne := hd_ne (ts := ts) (by omega)
    split at h
    ·obtain ⟨h1, h2⟩ := name_fr hr h
     have ht := fr_tail hne
     exact ⟨⟨h1.trans ht.1, Nat.lt_of_le_of_lt h1.length_le ht.2⟩, h2⟩
    ·exact word_fr hk' h
theorem loop_fr {rec : List Tk → Out} (hr : ∀ ts ns r, rec ts = .ok (ns, r) → Fr ts r ∧ ns ≠ []) (k : Nat) : ∀ (f : Nat) (ns : List (Nd × Nat)) (ts : List Tk) (ms : List (Nd × Nat)) (r : List Tk), loopG rec k f ns ts = .ok (ms, r) → r <:+ ts ∧ (ns ≠ [] → ms ≠ [])
 | 0, ns, ts, ms, r, h => by
  cases h
  exact ⟨List.suffix_refl _, fun h => h⟩
 | f + 1, ns, ts, ms, r, h => by
  unfold loopG at h
  split at h
  ·cases h
   exact ⟨List.suffix_refl _, fun h => h⟩
  ·obtain ⟨⟨n1, r1⟩, h1, h2⟩ := thenE_inv h
   have hf := (hr _ _ _ h1).1.1.trans (List.tail_suffix ts)
   split at h2
   ·cases h2
    exact ⟨hf, fun _ => by simp⟩
   ·obtain ⟨h3, h4⟩ := loop_fr hr k f _ _ _ _ h2
    exact ⟨h3.trans hf, fun _ => h4 (by simp)⟩
theorem row_fr : ∀ (f k : Nat), FrO (rowF f k)
 | 0, k => fun nest ts ns r h => by cases h
 | f + 1, k => fun nest ts ns r h => by
  have ih := row_fr f
  rw [row_succ] at h
  unfold stepR at h
  split at h
  ·rename_i hb
   obtain ⟨-, h⟩ := opn_inv h
   obtain ⟨⟨n1, r1⟩, h1, h2⟩ := thenE_inv h
   cases h2
   have hne : ts ≠ [] := by rcases hb.2 with hb | hb <;> exact isB_ne hb
   exact ⟨(fr_tail hne).trans (ih 3 _ _ _ _ h1).1, by simp⟩
  ·split at h
   ·rename_i hb
    obtain ⟨-, h⟩ := opn_inv h
    obtain ⟨⟨n1, r1⟩, h1, h2⟩ := thenE_inv h
    cases h2
    exact ⟨(fr_tail (isB_ne hb.2)).trans (ih 11 _ _ _ _ h1).1, by simp⟩
   ·split at h
    ·exact ih (k + 1) _ _ _ _ h
    ·split at h
     ·exact part_fr (ih 1) _ _ _ _ h
     ·obtain ⟨⟨n1, r1⟩, h1, h2⟩ := thenE_inv h
      obtain ⟨h3, h4⟩ := ih (k + 1) _ _ _ _ h1
      obtain ⟨h5, h6⟩ := loop_fr (fun ts ns r h => ih (k + 1) nest ts ns r h) k _ _ _ _ _ h2
      exact ⟨⟨h5.trans h3.1, Nat.lt_of_le_of_lt h5.length_le h3.2⟩, h6 h4⟩
def exP : Er := (0, 0)
theorem then_mono {α β : Type} {x y : Except Er α} {F G : α → Except Er β} (h1 : x ≠ .error exP → y = x) (h2 : ∀ v, x = .ok v → F v ≠ .error exP → G v = F v) (h : thenE x F ≠ .error exP) : thenE y G = thenE x F := by
 cases hx : x with
 | error e =>
  rw [hx] at h h1
  rw [h1 (fun e' => h (by rw [Except.error.inj e']; rfl))]
  rfl
 | ok v =>
  rw [hx] at h h1
  rw [h1 (by simp)]
  exact h2 v hx h
theorem opn_mono {α : Type} {nest : Nat} {ts : List Tk} {x y : Except Er α} (h1 : x ≠ .error exP → y = x) (h : opnV nest ts x ≠ .error exP) : opnV nest ts y = opnV nest ts x := by
 unfold opnV at *
 split
 ·rfl
 ·rename_i hn
  rw [if_neg hn] at h
  exact h1 h
def MonO (a b : Nat → List Tk → Out) : Prop := ∀ nest ts, a nest ts ≠ .error exP → b nest ts = a nest ts
theorem name_mono {a b : Nat → List Tk → Out} (hm : MonO a b) {nest of at' : Nat} {ts : List Tk} (h : nameF a nest of at' ts ≠ .error exP) : nameF b nest of at' ts = nameF a nest of at' ts := by
 unfold nameF at *
 split
 ·rename_i hb
  rw [if_pos hb] at h
  exact opn_mono (fun h => then_mono (fun h => hm _ _ h) (fun v _ _ => rfl) h) h
 ·rfl
theorem part_mono {a b : Nat → List Tk → Out} (hm : MonO a b) : MonO (partF a) (partF b) := by
 intro nest ts h
 unfold partF at *
 split
 ·rfl
 ·rename_i h1
  rw [if_neg h1] at h
  split
  ·rename_i hb
   rw [if_pos hb] at h
   exact opn_mono (fun h => then_mono (fun h => hm _ _ h) (fun v _ _ => rfl) h) h
  ·rename_i h2
   rw [if_neg h2] at h
   split
   ·rfl
   ·rename_i h3
    rw [if_neg h3] at h
    split
    ·rename_i h4
     rw [if_pos h4] at h
     exact name_mono hm h
    ·rfl
theorem loop_mono {a b : List Tk → Out} (hm : ∀ ts, a ts ≠ .error exP → b ts = a ts) (k : Nat) : ∀ (f : Nat) (ns : List (Nd × Nat)) (ts : List Tk), loopG a k f ns ts ≠ .error exP → loopG b k f ns ts = loopG a k f ns ts
 | 0, ns, ts, _ => rfl
 | f + 1, ns, ts, h => by
  unfold loopG at *
  split
  ·rfl
  ·rename_i nd hnd
   rw [hnd] at h
   refine then_mono (fun h => hm _ h) (fun v _ h2 => ?_) h
   split
   ·rfl
   ·rename_i hk
    rw [if_neg hk] at h2
    exact loop_mono hm k f _ _ h2
theorem row_mono : ∀ (f k : Nat), MonO (rowF f k) (rowF (f + 1) k)
 | 0, k => fun nest ts h => absurd rfl h
 | f + 1, k => fun nest ts h => by
  have ih := row_mono f
  rw [row_succ] at h
  rw [row_succ (f + 1), row_succ f]
  unfold stepR at *
  split
  ·rename_i h1
   rw [if_pos h1] at h
   exact opn_mono (fun h => then_mono (fun h => ih 3 _ _ h) (fun v _ _ => rfl) h) h
  ·rename_i h1
   rw [if_neg h1] at h
   split
   ·rename_i h2
    rw [if_pos h2] at h
    exact opn_mono (fun h => then_mono (fun h => ih 11 _ _ h) (fun v _ _ => rfl) h) h
   ·rename_i h2
    rw [if_neg h2] at h
    split
    ·rename_i h3
     rw [if_pos h3] at h
     exact ih (k + 1) _ _ h
    ·rename_i h3
     rw [if_neg h3] at h
     split
     ·rename_i h4
      rw [if_pos h4] at h
      exact part_mono (ih 1) _ _ h
     ·rename_i h4
      rw [if_neg h4] at h
      exact then_mono (fun h => ih (k + 1) _ _ h) (fun v _ h2 => loop_mono (fun ts h => ih (k + 1) nest ts h) k _ _ _ h2) h
theorem row_more {f g k nest : Nat} {ts : List Tk} (hfg : f ≤ g) (h : rowF f k nest ts ≠ .error exP) : rowF g k nest ts = rowF f k nest ts := by
 induction g with
 | zero =>
  obtain rfl : f = 0 := by omega
  rfl
 | succ g ih =>
  by_cases hg : f ≤ g
  ·rw [row_mono g k nest ts (by rw [ih hg]; exact h), ih hg]
  ·obtain rfl : f = g + 1 := by omega
   rfl
theorem fail_told {α : Type} (ts : List Tk) (e : Int) (he : e ≠ 0) : (failV ts e : Except Er α) ≠ .error exP := by
 intro h
 have := congrArg Prod.snd (Except.error.inj h)
 simp only [exP] at this
 split at this
 ·cases this
 ·exact he this
theorem then_told {α β : Type} {x : Except Er α} {F : α → Except Er β} (h1 : x ≠ .error exP) (h2 : ∀ v, x = .ok v → F v ≠ .error exP) : thenE x F ≠ .error exP := by
 cases hx : x with
 | error e => rw [hx] at h1; exact fun h => h1 (by rw [Except.error.inj h])
 | ok v => exact h2 v hx
theorem opn_told {α : Type} {nest : Nat} {ts : List Tk} {x : Except Er α} (h : x ≠ .error exP) : opnV nest ts x ≠ .error exP := by
 unfold opnV
 split
 ·intro e
  have := congrArg Prod.snd (Except.error.inj e)
  cases this
 ·exact h
theorem must_told (x : List UInt8) (ts : List Tk) : mustV x ts ≠ .error exP := by
 unfold mustV
 split
 ·simp
 ·exact fail_told _ _ (by decide)
theorem num_told (ts : List Tk) : numT ts ≠ .error exP := by
 unfold numT
 split
 ·simp
 ·exact fail_told _ _ (by decide)
theorem addr_told (k : Nat) (ts : List Tk) : addrT k ts ≠ .error exP := by
 unfold addrT
 split
 ·split
  ·simp
  ·exact fail_told _ _ (by decide)
 ·split
  ·split
   ·simp
   ·exact fail_told _ _ (by decide)
  ·exact fail_told _ _ (by decide)
theorem sided_told (of at' : Nat) (ts : List Tk) : sidedV of at' ts ≠ .error exP := by
 unfold sidedV sidedB
 split
 ·exact then_told (num_told _) (fun v _ => by simp)
 ·split
  ·exact then_told (num_told _) (fun v _ => then_told (must_told _ _) (fun v _ => then_told (num_told _) (fun v _ => by simp)))
  ·split
   ·exact then_told (addr_told _ _) (fun v _ => by simp)
   ·split
    ·exact then_told (addr_told _ _) (fun v _ => then_told (must_told _ _) (fun v _ => then_told (num_told _) (fun v _ => by simp)))
    ·exact fail_told _ _ (by decide)
theorem word_told (ts : List Tk) : wordF ts ≠ .error exP := by
 unfold wordF
 split
 ·simp
 ·split
  ·simp
  ·split
   ·simp
   ·split
    ·exact then_told (num_told _) (fun v _ => by simp)
    ·split
     ·exact sided_told _ _ _
     ·exact fail_told _ _ (by decide)
theorem size_told (ts : List Tk) : sizeF ts ≠ .error exP := by
 unfold sizeF
 split
 ·exact then_told (num_told _) (fun v _ => then_told (must_told _ _) (fun v _ => by simp))
 ·exact then_told (must_told _ _) (fun v _ => by simp)
theorem part_told {rec : Nat → List Tk → Out} {ts : List Tk} (h : ∀ nest r, Fr ts r → rec nest r ≠ .error exP) (nest : Nat) : partF rec nest ts ≠ .error exP := by
 unfold partF
 split
 ·simp
 ·split
  ·rename_i hb
   exact opn_told (then_told (h _ _ (fr_tail (isB_ne hb))) (fun v _ => then_told (must_told _ _) (fun v _ => by simp)))
  ·split
   ·exact fail_told _ _ (by decide)
   ·rename_i hk
    have hne := hd_ne (ts := ts) (by omega)
    split
    ·unfold nameF
     split
     ·rename_i hb
      exact opn_told (then_told (h _ _ ((fr_tail hne).trans (fr_tail (isB_ne hb.1)))) (fun v _ => then_told (size_told _) (fun v _ => by simp)))
     ·split
      ·exact fail_told _ _ (by decide)
      ·split
       ·exact then_told (num_told _) (fun v _ => by simp)
       ·split
        ·exact sided_told _ _ _
        ·simp
    ·exact word_told _
theorem loop_told {rec : List Tk → Out} {top : List Tk} (hf : ∀ ts ns r, rec ts = .ok (ns, r) → Fr ts r ∧ ns ≠ []) (h : ∀ r, Fr top r → rec r ≠ .error exP) (k : Nat) : ∀ (f : Nat) (ns : List (Nd × Nat)) (ts : List Tk), Fr top ts → loopG rec k f ns ts ≠ .error exP
 | 0, ns, ts, _ => by
  unfold loopG
  simp
 | f + 1, ns, ts, ht => by
  unfold loopG
  split
  ·simp
  ·rename_i nd hnd
   have hne : ts ≠ [] := by
    rintro rfl
    unfold opT at hnd
    rw [if_neg (by decide)] at hnd
    cases hnd
   refine then_told (h _ (ht.trans (fr_tail hne))) (fun v hv => ?_)
   split
   ·simp
   ·exact loop_told hf h k f _ _ (ht.trans ((fr_tail hne).trans (hf _ v.1 v.2 hv).1))
theorem row_told : ∀ (f k nest : Nat) (ts : List Tk), k ≤ 12 → needF k ts ≤ f → rowF f k nest ts ≠ .error exP
 | 0, k, nest, ts, hk, hn => by unfold needF at hn; omega
 | f + 1, k, nest, ts, hk, hn => by
  have ih := row_told f
  unfold needF at hn
  have below : ∀ k' nest' r, k' ≤ 12 → 1 ≤ k' → Fr ts r → rowF f k' nest' r ≠ .error exP := fun k' nest' r h1 h2 h3 => ih k' nest' r h1 (by have := h3.2; unfold needF; omega)
  rw [row_succ]
  unfold stepR
  split
  ·rename_i hb
   have hne : ts ≠ [] := by rcases hb.2 with hb | hb <;> exact isB_ne hb
   exact opn_told (then_told (below 3 _ _ (by omega) (by omega) (fr_tail hne)) (fun v _ => by simp))
  ·split
   ·rename_i hb
    exact opn_told (then_told (below 11 _ _ (by omega) (by omega) (fr_tail (isB_ne hb.2))) (fun v _ => by simp))
   ·split
    ·exact ih (k + 1) _ _ (by omega) (by unfold needF; omega)
    ·split
     ·exact part_told (fun nest' r hr => below 1 nest' r (by omega) (by omega) hr) nest
     ·have h1 : rowF f (k + 1) nest ts ≠ .error exP := ih (k + 1) _ _ (by omega) (by unfold needF; omega)
      refine then_told h1 (fun v hv => ?_)
      exact loop_told (top := ts) (fun ts ns r h => row_fr f (k + 1) nest ts ns r h) (fun r hr => below (k + 1) nest r (by omega) (by omega) hr) k _ _ _ (row_fr f (k + 1) nest ts v.1 v.2 hv).1
def EndsOk (ts : List Tk) : Prop := ∃ us e, ts = us ++ [e] ∧ e.kind = 0 ∧ ∀ t ∈ us, t.kind ≠ 0
def TokAt (ts : List Tk) (p : Nat) : Prop := ∃ t ∈ ts, t.kind ≠ 0 ∧ t.pos = p
def ErAt (ts : List Tk) (e : Er) : Prop := ∃ t ∈ ts, t.pos = e.1 ∧ ((e.2 = 110 ∧ t.kind = 0) ∨ (t.kind ≠ 0 ∧ (e.2 = 111 ∨ e.2 = 112 ∨ e.2 = 113)))
theorem EndsOk.tail {ts : List Tk} (h : EndsOk ts) (hk : (hdT ts).kind ≠ 0) : EndsOk ts.tail := by
 obtain ⟨us, e, rfl, he, hu⟩ := h
 cases us with
 | nil => exact absurd he hk
 | cons a us => exact ⟨us, e, rfl, he, fun t ht => hu t (List.mem_cons_of_mem _ ht)⟩
theorem TokAt.up {ts r : List Tk} {p : Nat} (h : TokAt r p) (hs : r <:+ ts) : TokAt ts p := by
 obtain ⟨t, ht, h⟩ := h
 exact ⟨t, hs.subset ht, h⟩
theorem ErAt.up {ts r : List Tk} {e : Er} (h : ErAt r e) (hs : r <:+ ts) : ErAt ts e := by
 obtain ⟨t, ht, h⟩ := h
 exact ⟨t, hs.subset ht, h⟩
def GdP {α : Type} (ts : List Tk) (x : Except Er (α × List Tk)) : Prop := (∀ v r, x = .ok (v, r) → EndsOk r ∧ r <:+ ts) ∧ ∀ e, x = .error e → e ≠ exP → ErAt ts e
theorem GdP.up {α : Type} {ts r : List Tk} {x : Except Er (α × List Tk)} (h : GdP r x) (hs : r <:+ ts) : GdP ts x :=
 ⟨fun v q hq => ⟨(h.1 v q hq).1, (h.1 v q hq).2.trans hs⟩, fun e he hn => (h.2 e he hn).up hs⟩
end Go.Proofs.YtklipelnjgpnjaaGreatDoor
