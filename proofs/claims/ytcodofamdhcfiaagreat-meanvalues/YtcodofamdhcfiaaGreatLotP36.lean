import Derived.Test.YtcodofamdhcfiaaGreatRmI
import Derived.Test.YtcodofamdhcfiaaGreatLotP32
import Derived.Test.YtcodofamdhcfiaaGreatLotP7
import Derived.Test.YtcodofamdhcfiaaGreatLotP18
import Derived.Test.YtcodofamdhcfiaaGreatLotP22
namespace Go.Proofs.YtcodofamdhcfiaaGreat
open Go.RowKit
set_option maxRecDepth 100000
def howR (r : Rp) : Int := if r.ab = true then 0 else if r.fl = true then 2 else 1
structure RqOk (p : Pt) (q : Pm) (r : Rp) : Prop where
 ok : PmOk p q
 v : r.v ≤ 4294967295
 truth : p.truth = true → r.sd = q.how
 num : p.truth = false → q.how = howR r ∧ (q.how = 1 → q.val = r.v)
inductive St3 : List Pt → List Pm → List Rp → Prop
 | nil : St3 [] [] []
 | cons {p : Pt} {q : Pm} {r : Rp} {ps : List Pt} {qs : List Pm} {rs : List Rp} (h : RqOk p q r) (t : St3 ps qs rs) : St3 (p :: ps) (q :: qs) (r :: rs)
theorem St3.st {ps : List Pt} {qs : List Pm} {rs : List Rp} (h : St3 ps qs rs) : StM ps qs := by
 induction h with
 | nil => exact .nil
 | cons h _ ih => exact .cons h.ok ih
theorem St3.len {ps : List Pt} {qs : List Pm} {rs : List Rp} (h : St3 ps qs rs) : ps.length = rs.length ∧ qs.length = rs.length := by
 induction h with
 | nil => exact ⟨rfl, rfl⟩
 | cons _ _ ih => simp only [List.length_cons]; omega
theorem St3.val {ps : List Pt} {qs : List Pm} {rs : List Rp} (h : St3 ps qs rs) : ∀ r ∈ rs, r.v ≤ 4294967295 := by
 induction h with
 | nil => intro r hr; cases hr
 | cons h _ ih =>
  intro r hr
  rcases List.mem_cons.1 hr with rfl | hr
  ·exact h.v
  ·exact ih r hr
theorem St3.take {ps : List Pt} {qs : List Pm} {rs : List Rp} (h : St3 ps qs rs) : ∀ (n : Nat), St3 (ps.take n) (qs.take n) (rs.take n) := by
 induction h with
 | nil => intro n; simpa using St3.nil
 | cons h _ ih =>
  intro n
  cases n with
  | zero => simpa using St3.nil
  | succ n => simpa using St3.cons h (ih n)
theorem St3.drop {ps : List Pt} {qs : List Pm} {rs : List Rp} (h : St3 ps qs rs) : ∀ (n : Nat), St3 (ps.drop n) (qs.drop n) (rs.drop n) := by
 induction h with
 | nil => intro n; simpa using St3.nil
 | @cons p q r ps qs rs h t ih =>
  intro n
  cases n with
  | zero => simpa using St3.cons h t
  | succ n => simpa using ih n
theorem St3.append {ps ps' : List Pt} {qs qs' : List Pm} {rs rs' : List Rp} (h : St3 ps qs rs) (k : St3 ps' qs' rs') : St3 (ps ++ ps') (qs ++ qs') (rs ++ rs') := by
 induction h with
 | nil => simpa using k
 | cons h _ ih => exact St3.cons h ih
def ovR (s : Sg) (x : Ng) (rs : List Rp) : Rp := if (arG x.kind).getD 0 = 0 then leafR s x else overR s x (rs.getD 0 rp0) (rs.getD 1 rp0)
def stpR (s : Sg) (st : List Rp) (x : Ng) : List Rp := st.take (st.length - (arG x.kind).getD 0) ++ [ovR s x (st.drop (st.length - (arG x.kind).getD 0))]
def evalR (s : Sg) (st : List Rp) (t : List Ng) : List Rp := t.foldl (stpR s) st
theorem evalR_next (s : Sg) (t : List Ng) {k : Nat} (hk : k < t.length) : evalR s [] (t.take (k + 1)) = stpR s (evalR s [] (t.take k)) t[k] := by
 rw [← List.take_append_getElem hk]
 unfold evalR
 rw [List.foldl_append]
 rfl
theorem jointR {p p' : Pt} {a b : Pm} {x y : Rp} (h : RqOk p a x) (k : RqOk p' b y) (hp : p.truth = false) (hp' : p'.truth = false) : jointM a b = if (x.ab || y.ab) = true then 0 else if (x.fl || y.fl) = true then 2 else 1 := by
 have h1 := (h.num hp).1
 have h2 := (k.num hp').1
 unfold jointM
 rw [h1, h2]
 unfold howR
 cases x.ab <;> cases y.ab <;> cases x.fl <;> cases y.fl <;> simp
theorem num_over {b : List UInt8} {q : Nat} {z : Int} (h : b.length < q) : numM b q z = none := by
 unfold numM okB
 rw [if_neg]
 simp only [decide_eq_true_eq]
 omega
theorem load_rq {s : Sg} {x : Ng} {p : Pt} {q : Pm} {r : Rp} (h : RqOk p q r) (hp : p.truth = false) (ho : 1 ≤ x.of ∧ x.of ≤ 12) : (loadM s x q).how = howR (loadR s x r) ∧ ((loadM s x q).how = 1 → (loadM s x q).val = (loadR s x r).v) := by
 have h1 := (h.num hp).1
 have h2 := (h.num hp).2
 unfold loadM loadR
 rw [baseR_eq s.v ho.1 (by omega)]
 cases hb : (baseM s.v x.of).2 with
 | false =>
  simp only [if_true]
  exact ⟨rfl, fun e => absurd e (by decide)⟩
 | true =>
  simp only [Bool.true_eq_false, if_false]
  by_cases hw : q.how = 1
  ·have hv := h2 hw
   rw [if_neg (show ¬ (q.how ≠ 1) from fun e => e hw), hv]
   have hab : r.ab = false ∧ r.fl = false := by
    rw [hw] at h1
    unfold howR at h1
    cases ha : r.ab <;> cases hf : r.fl <;> simp [ha, hf] at h1
    exact ⟨rfl, rfl⟩
   rw [hab.1, hab.2]
   by_cases hl : s.b.length < r.v
   ·rw [num_over (by omega)]
    simp only [Bool.or_self, Bool.false_or, decide_eq_true_eq, if_pos hl]
    exact ⟨rfl, fun e => absurd e (by decide)⟩
   ·simp only [Bool.or_self, Bool.false_or, decide_eq_true_eq, if_neg hl]
    cases numM s.b ((baseM s.v x.of).1 + r.v) x.size with
    | none => exact ⟨rfl, fun e => absurd e (by decide)⟩
    | some k => exact ⟨rfl, fun _ => rfl⟩
  ·rw [if_pos hw]
   have hbad : (r.ab || r.fl || decide (s.b.length < r.v)) = true := by
    unfold howR at h1
    cases ha : r.ab <;> cases hf : r.fl <;> simp [ha, hf] at h1 ⊢
    exact absurd h1 hw
   rw [if_pos hbad]
   refine ⟨?_, fun e => absurd e hw⟩
   rw [h1]
   unfold howR
   cases ha : r.ab <;> cases hf : r.fl <;> simp
   exact hw (by rw [h1]; unfold howR; simp [ha, hf])
theorem load_le (s : Sg) (x : Ng) (r : Rp) : (loadR s x r).v ≤ 4294967295 := by
 unfold loadR
 split
 ·exact Nat.zero_le _
 ·split
  ·exact Nat.zero_le _
  ·split
   ·exact Nat.zero_le _
   ·rename_i k hk
    exact num_lt hk
theorem over_rq {s : Sg} {x : Ng} {ps : List Pt} {qs : List Pm} {rs : List Rp} (hb : s.b.length ≤ 65535) (hn : x.n ≤ 4294967295) (h : St3 ps qs rs) (ha : arG x.kind = some ps.length) (hf : faultG x ps = 0) : RqOk (joinG x ps) (overM s x qs) (ovR s x rs) := by
 have hok := over_ok hb hn h.st ha hf
 have htr := joinG_truth x ps
 obtain ⟨hfm, hke, -, -⟩ := mfault_zero hf
 have hmay : mayG x = true := (Bool.and_eq_true_iff.1 hfm).2
 have hkk : ∀ p ∈ ps, p.truth = wantsG x.kind := fun p hp => by
  unfold kindE at hke
  by_cases hall : ps.all (fun p => p.truth == wantsG x.kind) = true
  ·have := List.all_eq_true.1 hall p hp
   exact beq_iff_eq.1 this
  ·rw [if_neg hall] at hke
   split at hke <;> exact absurd hke (by decide)
 have hT : ∀ z : Rp, z.v ≤ 4294967295 → x.kind < 6 → ((overM s x qs).how = howR z ∧ ((overM s x qs).how = 1 → (overM s x qs).val = z.v)) → RqOk (joinG x ps) (overM s x qs) z := fun z hz hk hn => ⟨hok, hz, fun e => by
  rw [htr, truthG] at e
  have := of_decide_eq_true e
  omega, fun _ => hn⟩
 have hS : ∀ z : Rp, z.v ≤ 4294967295 → 6 ≤ x.kind → z.sd = (overM s x qs).how → RqOk (joinG x ps) (overM s x qs) z := fun z hz hk hn => ⟨hok, hz, fun _ => hn, fun e => by
  rw [htr, truthG] at e
  exact absurd e (by rw [decide_eq_true hk]; simp)⟩
 unfold ovR
 rw [ha]
 simp only [Option.getD_some]
 rcases arG_cases ha with ⟨h1, hk⟩ | ⟨h1, hk⟩ | ⟨h1, hk⟩
 ·rw [if_neg (by omega)]
  match ps, qs, rs, h, h1 with
  | [p], [q], [r], .cons h0 _, _ =>
   have hpk := hkk p (by simp)
   show RqOk _ _ (overR s x r rp0)
   rcases hk with hk | hk | hk
   ·have e : overM s x [q] = loadM s x q := by simp [overM, hk]
    have e2 : overR s x r rp0 = loadR s x r := by unfold overR; rw [if_pos hk]
    have hp0 : p.truth = false := by rw [hpk, hk]; rfl
    have ho : 1 ≤ x.of ∧ x.of ≤ 12 := by
     unfold mayG at hmay
     rw [if_pos hk] at hmay
     exact in_out hmay
    rw [e2]
    refine hT _ (load_le s x r) (by omega) ?_
    rw [e]
    exact load_rq h0 hp0 ho
   ·have e : overM s x [q] = minusM q := by simp [overM, hk]
    have e2 : overR s x r rp0 = ⟨minusG r.v, r.ab, r.fl, r.sd⟩ := by unfold overR; rw [if_neg (by omega), if_pos hk]
    have hp0 : p.truth = false := by rw [hpk, hk]; rfl
    rw [e2]
    refine hT _ (minusG_le _) (by omega) ?_
    rw [e]
    have hn := h0.num hp0
    unfold minusM
    by_cases hw : q.how = 1
    ·rw [if_neg (by simpa using hw)]
     refine ⟨?_, fun _ => ?_⟩
     ·rw [← hw, hn.1]; rfl
     ·show minusG q.val = minusG r.v
      rw [hn.2 hw]
    ·rw [if_pos hw]
     exact ⟨hn.1, fun e => absurd e hw⟩
   ·have e : overM s x [q] = ⟨notM q.how, 0⟩ := by simp [overM, hk]
    have hp1 : p.truth = true := by rw [hpk, hk]; rfl
    have hsd := h0.truth hp1
    have e2 : overR s x r rp0 = if r.sd = 2 then r else ⟨0, false, false, jdg (r.sd == 0)⟩ := by unfold overR; rw [if_neg (by omega), if_neg (by omega), if_neg (by omega), if_neg (by omega), if_neg (by omega), if_neg (by omega)]
    rw [e2]
    refine hS _ ?_ (by omega) ?_
    ·split
     ·exact h0.v
     ·exact Nat.zero_le _
    ·rw [e]
     show _ = notM q.how
     rw [← hsd]
     have hh := h0.ok.how
     rw [← hsd] at hh
     rcases hh with e | e | e <;> rw [e]
     ·rfl
     ·rfl
     ·rw [if_pos rfl, e]; rfl
 ·rw [if_neg (by omega)]
  match ps, qs, rs, h, h1 with
  | [p, p'], [q, q'], [r, r'], .cons h0 (.cons h0' _), _ =>
   have hpk := hkk p (by simp)
   have hpk' := hkk p' (by simp)
   show RqOk _ _ (overR s x r r')
   rcases hk with hk | hk | hk | hk
   ·have e : overM s x [q, q'] = arithM x.op q q' := by simp [overM, hk]
    have e2 : overR s x r r' = arithR x.op r r' := by unfold overR; rw [if_neg (by omega), if_neg (by omega), if_pos hk]
    have hp0 : p.truth = false := by rw [hpk, hk]; rfl
    have hp0' : p'.truth = false := by rw [hpk', hk]; rfl
    have hj := jointR h0 h0' hp0 hp0'
    have hn := h0.num hp0
    have hn' := h0'.num hp0'
    have key : (arithM x.op q q').how = howR (arithR x.op r r') ∧ ((arithM x.op q q').how = 1 → (arithM x.op q q').val = (arithR x.op r r').v) ∧ (arithR x.op r r').v ≤ (arithM x.op q q').val := by
     unfold arithM arithR
     by_cases hab : (r.ab || r'.ab) = true
     ·rw [if_pos hab] at hj
      rw [hj, if_pos (show (0 : Int) ≠ 1 by decide), if_pos (show (r.ab || r'.ab || (r.fl || r'.fl)) = true by rw [hab]; rfl)]
      refine ⟨?_, fun e => absurd e (by decide), Nat.le_refl _⟩
      show (0 : Int) = howR ⟨0, r.ab || r'.ab, r.fl || r'.fl, 0⟩
      rw [hab]; rfl
     ·have hab' : (r.ab || r'.ab) = false := by simpa using hab
      rw [if_neg hab] at hj
      by_cases hfl : (r.fl || r'.fl) = true
      ·rw [if_pos hfl] at hj
       rw [hj, if_pos (show (2 : Int) ≠ 1 by decide), if_pos (show (r.ab || r'.ab || (r.fl || r'.fl)) = true by rw [hab', hfl]; rfl)]
       refine ⟨?_, fun e => absurd e (by decide), Nat.le_refl _⟩
       show (2 : Int) = howR ⟨0, r.ab || r'.ab, r.fl || r'.fl, 0⟩
       rw [hab', hfl]; rfl
      ·have hfl' : (r.fl || r'.fl) = false := by simpa using hfl
       rw [if_neg hfl] at hj
       rw [hj, if_neg (show ¬ ((1 : Int) ≠ 1) by decide), if_neg (show ¬ (r.ab || r'.ab || (r.fl || r'.fl)) = true by rw [hab', hfl']; simp)]
       have f1 : q.how = 1 ∧ q'.how = 1 := by
        have ha := Bool.or_eq_false_iff.1 hab'
        have hf := Bool.or_eq_false_iff.1 hfl'
        rw [hn.1, hn'.1]
        unfold howR
        rw [ha.1, ha.2, hf.1, hf.2]
        exact ⟨rfl, rfl⟩
       rw [hn.2 f1.1, hn'.2 f1.2]
       by_cases hz : divG x.op = true ∧ r'.v = 0
       ·rw [if_pos hz, if_pos hz]
        exact ⟨rfl, fun e => absurd e (by decide), Nat.le_refl _⟩
       ·rw [if_neg hz, if_neg hz]
        exact ⟨rfl, fun _ => rfl, Nat.le_refl _⟩
    rw [e2]
    have hbd := hok.val
    rw [e] at hbd
    refine hT _ (Nat.le_trans key.2.2 hbd) (by omega) ?_
    rw [e]
    exact ⟨key.1, key.2.1⟩
   ·have e : overM s x [q, q'] = ⟨relM x.op q q', 0⟩ := by simp [overM, hk]
    have e2 : overR s x r r' = ⟨0, false, false, relR x.op r r'⟩ := by unfold overR; rw [if_neg (by omega), if_neg (by omega), if_neg (by omega), if_pos hk]
    have hp0 : p.truth = false := by rw [hpk, hk]; rfl
    have hp0' : p'.truth = false := by rw [hpk', hk]; rfl
    have hj := jointR h0 h0' hp0 hp0'
    have hn := h0.num hp0
    have hn' := h0'.num hp0'
    rw [e2]
    refine hS _ (Nat.zero_le _) (by omega) ?_
    rw [e]
    show relR x.op r r' = relM x.op q q'
    unfold relM relR
    by_cases hab : (r.ab || r'.ab) = true
    ·rw [if_pos hab] at hj ⊢
     rw [hj, if_pos (by decide)]
    ·have hab' : (r.ab || r'.ab) = false := by simpa using hab
     rw [if_neg hab] at hj ⊢
     by_cases hfl : (r.fl || r'.fl) = true
     ·rw [if_pos hfl] at hj ⊢
      rw [hj, if_pos (by decide)]
     ·have hfl' : (r.fl || r'.fl) = false := by simpa using hfl
      rw [if_neg hfl] at hj ⊢
      rw [hj, if_neg (by decide)]
      have f1 : q.how = 1 ∧ q'.how = 1 := by
       have ha := Bool.or_eq_false_iff.1 hab'
       have hf := Bool.or_eq_false_iff.1 hfl'
       rw [hn.1, hn'.1]
       unfold howR
       rw [ha.1, ha.2, hf.1, hf.2]
       exact ⟨rfl, rfl⟩
      rw [hn.2 f1.1, hn'.2 f1.2]
   ·have e : overM s x [q, q'] = ⟨andM q.how q'.how, 0⟩ := by simp [overM, hk]
    have e2 : overR s x r r' = ⟨0, false, false, andM r.sd r'.sd⟩ := by unfold overR; rw [if_neg (by omega), if_neg (by omega), if_neg (by omega), if_neg (by omega), if_pos hk]
    have hp1 := h0.truth (by rw [hpk, hk]; rfl)
    have hp1' := h0'.truth (by rw [hpk', hk]; rfl)
    rw [e2]
    refine hS _ (Nat.zero_le _) (by omega) ?_
    rw [e, hp1, hp1']
   ·have e : overM s x [q, q'] = ⟨orM q.how q'.how, 0⟩ := by simp [overM, hk]
    have e2 : overR s x r r' = ⟨0, false, false, orM r.sd r'.sd⟩ := by unfold overR; rw [if_neg (by omega), if_neg (by omega), if_neg (by omega), if_neg (by omega), if_neg (by omega), if_pos hk]
    have hp1 := h0.truth (by rw [hpk, hk]; rfl)
    have hp1' := h0'.truth (by rw [hpk', hk]; rfl)
    rw [e2]
    refine hS _ (Nat.zero_le _) (by omega) ?_
    rw [e, hp1, hp1']
 ·rw [if_pos (by omega)]
  by_cases k1 : x.kind = 1
  ·have e : overM s x qs = ⟨1, x.n⟩ := by simp [overM, k1]
   have e2 : leafR s x = ⟨x.n, false, false, 0⟩ := by unfold leafR; rw [if_pos k1]
   rw [e2]
   refine hT _ hn (by omega) ?_
   rw [e]
   exact ⟨rfl, fun _ => rfl⟩
  ·by_cases k2 : x.kind = 2
   ·have e : overM s x qs = ⟨1, s.b.length⟩ := by simp [overM, k2]
    have e2 : leafR s x = ⟨s.b.length, false, false, 0⟩ := by unfold leafR; rw [if_neg k1, if_pos k2]
    rw [e2]
    refine hT _ (by show s.b.length ≤ _; omega) (by omega) ?_
    rw [e]
    exact ⟨rfl, fun _ => rfl⟩
   ·have e : overM s x qs = ⟨truthM s x, 0⟩ := by
     unfold overM
     rw [if_neg (by omega), if_neg (by omega), if_neg (by omega), if_neg (by omega), if_neg (by omega), if_neg (by omega), if_neg (by omega), if_neg (by omega), if_neg (by omega)]
    rw [leafR_t (by omega)]
    refine hS _ (Nat.zero_le _) (by omega) ?_
    rw [e]
theorem stp_rq {s : Sg} {x : Ng} {ps ps' : List Pt} {qs : List Pm} {rs : List Rp} (hb : s.b.length ≤ 65535) (hn : x.n ≤ 4294967295) (h : St3 ps qs rs) (hs : stepG x ps = .ok ps') : St3 ps' (stpM s qs x) (stpR s rs x) := by
 obtain ⟨a, ha, hle, hf, rfl⟩ := mstep_inv hs
 obtain ⟨l1, l2⟩ := h.len
 unfold stpM stpR
 rw [ha]
 simp only [Option.getD_some]
 rw [l2, ← l1]
 refine (h.take _).append (.cons ?_ .nil)
 exact over_rq hb hn (h.drop _) (by rw [ha, List.length_drop]; congr 1; omega) hf
theorem eval_rq {s : Sg} (hb : s.b.length ≤ 65535) : ∀ (t : List Ng) (st st' : List Pt) (qs : List Pm) (rs : List Rp) (k : Nat), (∀ x ∈ t, x.n ≤ 4294967295) → walkG st k t = .ok st' → St3 st qs rs → St3 st' (evalM s qs t) (evalR s rs t)
 | [], st, st', qs, rs, k, _, h, hs => by cases h; exact hs
 | x :: t, st, st', qs, rs, k, hn, h, hs => by
  simp only [walkG] at h
  cases e : stepG x st with
  | error e' => rw [e] at h; cases h
  | ok s1 =>
   rw [e] at h
   exact eval_rq hb t s1 st' _ _ (k + 1) (fun y hy => hn y (.tail _ hy)) h (stp_rq hb (hn x (.head _)) hs e)
theorem box_adr (x : Ng) (W : World) : (Instr.box 50 (.agg ((adgs x).map bv).toArray)).run Tryz.prog W = .ok (.pointer (some ⟨W.heap.size, 0, none⟩)) (W.alloc (.cells ((adgs x).map bv).toArray 50)) := by kernel_rfl
theorem short_iff {l : List UInt8} (hl : l.length = 16) : l.drop 4 = zeros 12 ↔ ∀ j (h : j < l.length), 4 ≤ j → l[j] = 0 := by
 constructor
 ·intro h j hj h4
  have e : (l.drop 4)[j - 4]? = some 0 := by
   rw [h]
   unfold zeros
   rw [List.getElem?_replicate, if_pos (by omega)]
  rw [List.getElem?_drop, show 4 + (j - 4) = j by omega, List.getElem?_eq_getElem hj] at e
  exact Option.some.inj e
 ·intro h
  refine List.ext_getElem (by rw [List.length_drop, hl]; simp [zeros]) fun i h1 h2 => ?_
  rw [List.length_drop] at h1
  rw [List.getElem_drop, h (4 + i) (by omega) (by omega)]
  exact (List.eq_of_mem_replicate (n := 12) (a := (0 : UInt8)) (List.getElem_mem h2)).symm
set_option maxHeartbeats 4000000 in
theorem short12_any (x : Ng) (w : World) : Calls Tryz.prog 165 #[.agg ((adgs x).map bv).toArray] w fun e w' => e = .returned (.bool (decide ((adgs x).drop 4 = zeros 12))) ∧ w.grownBy w' none := by
 have HBX := box_adr x
 have h3 := World.grownBy_alloc w (.cells ((adgs x).map bv).toArray 50) none
 have V := VAt.alloc w 50 ((adgs x).map bv).toArray
 have HL : Hid ((adgs x).length = 16) := adgs_len x
 obtain ⟨E, hE⟩ : ∃ E, decide ((adgs x).drop 4 = zeros 12) = E := ⟨_, rfl⟩
 rw [hE]
 have HE : Hid (decide ((adgs x).drop 4 = zeros 12) = E) := hE
 obtain ⟨l, hl⟩ : ∃ l, adgs x = l := ⟨_, rfl⟩
 rw [hl] at HBX h3 V HL HE ⊢
 obtain ⟨X, hX⟩ : ∃ X, (l.map bv).toArray = X := ⟨_, rfl⟩
 rw [hX] at HBX h3 V ⊢
 have HX : Hid ((l.map bv).toArray = X) := hX
 clear hE hl hX
 go_enter Tryz.func165, Tryz.ntmps165
 go_upto_region 1 with fail
 generalize w.alloc (.cells X 50) = w1 at *
 generalize w.heap.size = B at *
 have HV : Hid (VAt w1 B 50 X) := V
 clear HBX V
 go_wp2
 go_loopw [3] (fun i wr => ∃ k : Nat, 4 ≤ k ∧ k ≤ 16 ∧ i = .int .i64 k ∧ Hid (∀ j (h : j < l.length), 4 ≤ j → j < k → l[j] = 0) ∧ wr = w1) (fun i _ => 16 - (intOf i).toNat)
 case atStart => exact ⟨4, Nat.le_refl _, by omega, rfl, fun j h h4 h5 => by omega, rfl⟩
 case round =>
  obtain ⟨k, h4, hk, rfl, H1, rfl⟩ := hrel
  by_cases hlt : k < 16
  ·have hkl : k < l.length := by rw [HL.out]; exact hlt
   have c0 : wr.cell? ⟨B, k, none⟩ = some (.int .u8 (l[k].toNat : Int)) := by
    rw [VAt.cell HV.out k, ← HX.out]
    simp [bv, hkl]
   have hl : (k : Int) < 16 := by omega
   have z0 : (0 : Int) ≤ (k : Int) := by omega
   have w3 : IntKind.i64.wrap ((k : Int) + 1) = (k : Int) + 1 := by rw [IntKind.wrap_i64]; omega
   by_cases h0 : l[k] = 0
   ·have n0 : (((l[k].toNat : Nat) : Int) != 0) = false := by rw [h0]; rfl
    have H2 : Hid (∀ j (h : j < l.length), 4 ≤ j → j < k + 1 → l[j] = 0) := fun j h h4' h5 => by
     by_cases e : j = k
     ·subst e; exact h0
     ·exact H1.out j h h4' (by omega)
    generalize ((l[k].toNat : Nat) : Int) = y at *
    clear h0 H1
    go_wp2
    go_roundw
    case rel => exact ⟨k + 1, by omega, by omega, by go_num, H2, trivial⟩
    case measure => simp [intOf]; omega
   ·have n0 : (((l[k].toNat : Nat) : Int) != 0) = true := by
     rw [bne_iff_ne]
     intro e
     exact h0 (UInt8.toNat_inj.1 (by simpa using e))
    obtain rfl : E = false := by
     rw [← HE.out, decide_eq_false_iff_not]
     intro e
     exact h0 ((short_iff HL.out).1 e k hkl h4)
    generalize ((l[k].toNat : Nat) : Int) = y at *
    clear h0 H1
    go_wp2
    go_ret
    exact ⟨rfl, h3⟩
  ·have hl : ¬ (k : Int) < 16 := by omega
   obtain rfl : E = true := by
    rw [← HE.out, decide_eq_true_iff]
    exact (short_iff HL.out).2 fun j h h4' => H1.out j h h4' (by have := HL.out; omega)
   clear H1
   go_wp2
   go_ret
   exact ⟨rfl, h3⟩
def bareG (x : Ng) : Ng :=
 if x.kind = 1 ∨ x.kind = 12 then { x with n := 0 }
 else if x.kind = 3 then { x with of := 0, size := 0 }
 else if x.kind = 4 ∨ x.kind = 6 then { x with op := 0 }
 else if x.kind = 10 then { x with side := 0 }
 else if x.kind = 11 then { x with of := 0 }
 else if x.kind = 13 then { x with of := 0, n := 0 }
 else if x.kind = 14 then { x with of := 0, side := 0, addr := zeros 16 }
 else if x.kind = 15 then { x with of := 0, side := 0, addr := zeros 16, bits := 0 }
 else if x.kind = 16 then { x with of := 0, side := 0, n := 0, m := 0 }
 else x
def kindN (k : Int) : Ng := ⟨k, 0, 0, 0, 0, 0, 0, zeros 16, 0⟩
theorem sameG_mk (k1 op1 n1 m1 s1 o1 d1 ad1 b1 k2 op2 n2 m2 s2 o2 d2 ad2 b2) : sameG ⟨k1, op1, n1, m1, s1, o1, d1, ad1, b1⟩ ⟨k2, op2, n2, m2, s2, o2, d2, ad2, b2⟩ = (decide (k1 = k2) && decide (op1 = op2) && decide (n1 = n2) && decide (m1 = m2) && decide (s1 = s2) && decide (o1 = o2) && decide (d1 = d2) && decide (adgs ⟨0, 0, 0, 0, 0, 0, 0, ad1, 0⟩ = adgs ⟨0, 0, 0, 0, 0, 0, 0, ad2, 0⟩) && decide (b1 = b2)) := rfl
theorem bare_form (x : Ng) : sameG (bareG x) (kindN x.kind) = sameG x (useG x) := by
 obtain ⟨k, op, n, m, s, o, d, ad, b⟩ := x
 unfold bareG useG kindN
 simp only
 by_cases h1 : k = 1 ∨ k = 12
 ·rw [if_pos h1, if_pos h1, sameG_mk, sameG_mk]; simp
 rw [if_neg h1, if_neg h1]
 by_cases h3 : k = 3
 ·rw [if_pos h3, if_pos h3, sameG_mk, sameG_mk]; simp
 rw [if_neg h3, if_neg h3]
 by_cases h4 : k = 4 ∨ k = 6
 ·rw [if_pos h4, if_pos h4, sameG_mk, sameG_mk]; simp
 rw [if_neg h4, if_neg h4]
 by_cases h10 : k = 10
 ·rw [if_pos h10, if_pos h10, sameG_mk, sameG_mk]; simp
 rw [if_neg h10, if_neg h10]
 by_cases h11 : k = 11
 ·rw [if_pos h11, if_pos h11, sameG_mk, sameG_mk]; simp
 rw [if_neg h11, if_neg h11]
 by_cases h13 : k = 13
 ·rw [if_pos h13, if_pos h13, sameG_mk, sameG_mk]; simp
 rw [if_neg h13, if_neg h13]
 by_cases h14 : k = 14
 ·rw [if_pos h14, if_pos h14, sameG_mk, sameG_mk]; simp
 rw [if_neg h14, if_neg h14]
 by_cases h15 : k = 15
 ·rw [if_pos h15, if_pos h15, sameG_mk, sameG_mk]; simp
 rw [if_neg h15, if_neg h15]
 by_cases h16 : k = 16
 ·rw [if_pos h16, if_pos h16, sameG_mk, sameG_mk]; simp
 rw [if_neg h16, if_neg h16]
theorem ret_rowT {P : Program} {fn : Func} {p u : Tmp} {ty : TypeId} (h : fn.results = #[.cell p ty, .tmp u]) (tmps : Array Value) (w : World) (g : Nat) (cs : Array Value) (d : TypeDesc) (hp : tmps.getD p undef = .pointer (some ⟨g, 0, none⟩)) (A : VAt w g ty cs)
  (hu : P.underlying ty = some d) (hd : (match d with | .struct _ | .array _ _ => true | _ => false) = true) (hi : (P.info? ty).map (·.size) = some cs.size) : (results fn tmps).run P w = .ok (.tuple #[.agg cs, tmps.getD u undef]) w := by
 rw [results_cell_tmp h, hp]
 have := run_loadVar_row (P := P) w g ty ty cs (0, 0) _ A hu hd hi
 simp only [asAddr, Sem.run_pure, Result.andThen, this]
def BW (w W : World) (B : Nat) (y : Ng) : Prop := NB W B y ∧ NB W (B + 1) ngZ ∧ w.grownBy W none
theorem nb_other {W : World} {B C j : Nat} {x : Ng} {v : Value} (h : NB W B x) (hk : B ≠ C) : NB (W.setCell ⟨C, j, none⟩ v) B x := by
 unfold NB VAt at *
 simp only [World.setCell, Array.getElem?_modify, if_neg (Ne.symm hk)]
 exact h
theorem BW.set {w W : World} {B : Nat} {y z : Ng} (h : BW w W B y) (hB : w.heap.size ≤ B) (j : Nat) (v : Value) (e : y.cells.toArray.setIfInBounds j v = z.cells.toArray) : BW w (W.setCell ⟨B, j, none⟩ v) B z := by
 refine ⟨?_, nb_other h.2.1 (by omega), grown_setCell h.2.2 _ _ (.inr hB)⟩
 have := VAt.set h.1 j v
 rw [e] at this
 exact this
def zA : Array Value := #[.int .u8 0, .int .u8 0, .int .u8 0, .int .u8 0, .int .u8 0, .int .u8 0, .int .u8 0, .int .u8 0, .int .u8 0, .int .u8 0, .int .u8 0, .int .u8 0, .int .u8 0, .int .u8 0, .int .u8 0, .int .u8 0]
theorem zA_size : (Tryz.prog.info? 50).map (·.size) = some zA.size := by kernel_rfl
theorem zA_all : zA.all (·.oneCell') = true := by simp [zA, Value.oneCell']
theorem BW.there {w W : World} {B : Nat} {y : Ng} (h : BW w W B y) : W.there B 7 zA.size := fun j hj => by
 have hj : j < 16 := hj
 refine ⟨?_, VAt.free h.1 _⟩
 rw [VAt.cell h.1 (7 + j)]
 have : j = 0 ∨ j = 1 ∨ j = 2 ∨ j = 3 ∨ j = 4 ∨ j = 5 ∨ j = 6 ∨ j = 7 ∨ j = 8 ∨ j = 9 ∨ j = 10 ∨ j = 11 ∨ j = 12 ∨ j = 13 ∨ j = 14 ∨ j = 15 := by omega
 rcases this with rfl | rfl | rfl | rfl | rfl | rfl | rfl | rfl | rfl | rfl | rfl | rfl | rfl | rfl | rfl | rfl <;> rfl
theorem BW.setA {w W : World} {B : Nat} {y z : Ng} (h : BW w W B y) (hB : w.heap.size ≤ B) (e : z = { y with addr := zeros 16 }) : BW w (W.setCells B 7 zA.toList) B z := by
 subst e
 have h0 := h.set (z := { y with addr := (0 : UInt8) :: (adgs y).drop 1 }) hB 7 (.int .u8 0) rfl
 have h1 := h0.set (z := { y with addr := 0 :: 0 :: (adgs y).drop 2 }) hB 8 (.int .u8 0) rfl
 have h2 := h1.set (z := { y with addr := 0 :: 0 :: 0 :: (adgs y).drop 3 }) hB 9 (.int .u8 0) rfl
 have h3 := h2.set (z := { y with addr := 0 :: 0 :: 0 :: 0 :: (adgs y).drop 4 }) hB 10 (.int .u8 0) rfl
 have h4 := h3.set (z := { y with addr := 0 :: 0 :: 0 :: 0 :: 0 :: (adgs y).drop 5 }) hB 11 (.int .u8 0) rfl
 have h5 := h4.set (z := { y with addr := 0 :: 0 :: 0 :: 0 :: 0 :: 0 :: (adgs y).drop 6 }) hB 12 (.int .u8 0) rfl
 have h6 := h5.set (z := { y with addr := 0 :: 0 :: 0 :: 0 :: 0 :: 0 :: 0 :: (adgs y).drop 7 }) hB 13 (.int .u8 0) rfl
 have h7 := h6.set (z := { y with addr := 0 :: 0 :: 0 :: 0 :: 0 :: 0 :: 0 :: 0 :: (adgs y).drop 8 }) hB 14 (.int .u8 0) rfl
 have h8 := h7.set (z := { y with addr := 0 :: 0 :: 0 :: 0 :: 0 :: 0 :: 0 :: 0 :: 0 :: (adgs y).drop 9 }) hB 15 (.int .u8 0) rfl
 have h9 := h8.set (z := { y with addr := 0 :: 0 :: 0 :: 0 :: 0 :: 0 :: 0 :: 0 :: 0 :: 0 :: (adgs y).drop 10 }) hB 16 (.int .u8 0) rfl
 have h10 := h9.set (z := { y with addr := 0 :: 0 :: 0 :: 0 :: 0 :: 0 :: 0 :: 0 :: 0 :: 0 :: 0 :: (adgs y).drop 11 }) hB 17 (.int .u8 0) rfl
 have h11 := h10.set (z := { y with addr := 0 :: 0 :: 0 :: 0 :: 0 :: 0 :: 0 :: 0 :: 0 :: 0 :: 0 :: 0 :: (adgs y).drop 12 }) hB 18 (.int .u8 0) rfl
 have h12 := h11.set (z := { y with addr := 0 :: 0 :: 0 :: 0 :: 0 :: 0 :: 0 :: 0 :: 0 :: 0 :: 0 :: 0 :: 0 :: (adgs y).drop 13 }) hB 19 (.int .u8 0) rfl
 have h13 := h12.set (z := { y with addr := 0 :: 0 :: 0 :: 0 :: 0 :: 0 :: 0 :: 0 :: 0 :: 0 :: 0 :: 0 :: 0 :: 0 :: (adgs y).drop 14 }) hB 20 (.int .u8 0) rfl
 have h14 := h13.set (z := { y with addr := 0 :: 0 :: 0 :: 0 :: 0 :: 0 :: 0 :: 0 :: 0 :: 0 :: 0 :: 0 :: 0 :: 0 :: 0 :: (adgs y).drop 15 }) hB 21 (.int .u8 0) rfl
 exact h14.set (z := { y with addr := zeros 16 }) hB 22 (.int .u8 0) rfl
theorem BW.kept {w W W' : World} {B : Nat} {y : Ng} (h : BW w W B y) (K : W.grownBy W' none) : BW w W' B y := ⟨h.1.kept K, h.2.1.kept K, grown_trans h.2.2 K⟩
set_option maxRecDepth 100000 in
set_option maxHeartbeats 16000000 in
theorem bare_a (x : Ng) (w : World) (hc : x.kind = 1 ∨ x.kind = 3 ∨ x.kind = 4 ∨ x.kind = 6 ∨ x.kind = 10 ∨ x.kind = 11 ∨ x.kind = 12 ∨ x.kind = 13) : Calls Tryz.prog 163 #[.agg x.cells.toArray] w fun e w' => e = .returned (.tuple #[.agg (bareG x).cells.toArray, .bool (mayG x)]) ∧ w.grownBy w' none := by
 have HBX := box_ng x
 obtain ⟨h1, h2, h3⟩ := two_ng w x
 obtain ⟨X, hX⟩ : ∃ X, x.cells.toArray = X := ⟨_, rfl⟩
 rw [hX] at HBX ⊢
 go_enter Tryz.func163, Tryz.ntmps163
 go_upto_region 1 with fail
 rw [← hX] at *
 rw [show #[.int .i64 0, .int .i64 0, .int .u32 0, .int .u32 0, .int .i64 0, .int .i64 0, .int .i64 0, .int .u8 0, .int .u8 0, .int .u8 0, .int .u8 0, .int .u8 0, .int .u8 0, .int .u8 0, .int .u8 0, .int .u8 0, .int .u8 0, .int .u8 0, .int .u8 0, .int .u8 0, .int .u8 0, .int .u8 0, .int .u8 0, .int .i64 0] = ngZ.cells.toArray from rfl]
 generalize (w.alloc (.cells x.cells.toArray 52)).alloc (.cells ngZ.cells.toArray 52) = W at *
 obtain ⟨B, hB⟩ : ∃ B, w.heap.size = B := ⟨_, rfl⟩
 rw [hB] at h1 h2 ⊢
 have HB : Hid (w.heap.size ≤ B) := Nat.le_of_eq hB
 have HW0 : Hid (BW w W B x) := ⟨h1, h2, h3⟩
 have c0 := h1.kind
 have c1 := h1.op
 have c2 := h1.n
 have c3 := h1.m
 have c4 := h1.size
 have c5 := h1.of
 have c6 := h1.side
 have c23 := h1.bits
 have f1 := VAt.free h1 1
 have f2 := VAt.free h1 2
 have f3 := VAt.free h1 3
 have f4 := VAt.free h1 4
 have f5 := VAt.free h1 5
 have f6 := VAt.free h1 6
 have f23 := VAt.free h1 23
 obtain ⟨kk, hkk⟩ : ∃ kk, x.kind = kk := ⟨_, rfl⟩
 have HK : Hid (x.kind = kk) := hkk
 rw [hkk] at c0 hc
 clear HBX hX X h1 h2 h3 hB hkk
 have HEB : Hid (∀ (y : Ng) (bb : Bool), bareG x = y → mayG x = bb → Ending.returned (.tuple #[.agg (bareG x).cells.toArray, .bool (mayG x)]) = .returned (.tuple #[.agg y.cells.toArray, .bool bb])) := fun y bb h h' => by rw [h, h']
 rcases hc with rfl | rfl | rfl | rfl | rfl | rfl | rfl | rfl
 ·obtain ⟨bf, hbf⟩ : ∃ bf, true = bf := ⟨_, rfl⟩
  have HM : Hid (mayG x = bf) := by show mayG x = _; rw [← hbf]; unfold mayG; rw [HK.out]; rfl
  subst hbf
  go_upto_region 40 with fail
  have HW := (BW.set (z := ({ x with n := 0 } : Ng)) HW0.out HB.out 2 (.int .u32 0) rfl)
  obtain ⟨Yn, hYn⟩ : ∃ Yn, ({ x with n := 0 } : Ng) = Yn := ⟨_, rfl⟩
  have HE : Hid (bareG x = Yn ∧ mayG x = true) := ⟨by rw [← hYn]; unfold bareG; rw [HK.out]; rfl, HM.out⟩
  rw [hYn] at HW
  clear hYn HM
  generalize W.setCell ⟨B, 2, none⟩ (.int .u32 0) = Wf at *
  have HY : Hid ((Tryz.prog.info? 52).map (·.size) = some Yn.cells.toArray.size ∧ ngZ.cells.toArray.size = Yn.cells.toArray.size ∧ Yn.cells.toArray.all (·.oneCell') = true) := ⟨ng_size _, rfl, ng_all _⟩
  obtain ⟨Y, hY⟩ : ∃ Y, Yn.cells.toArray = Y := ⟨_, rfl⟩
  have HW1 : Hid (VAt Wf B 52 Y ∧ VAt Wf (B + 1) 52 ngZ.cells.toArray ∧ w.grownBy Wf none) := by
   obtain ⟨g1, g2, g3⟩ := HW
   exact ⟨hY ▸ g1, g2, g3⟩
  have HEB1 : Hid (Ending.returned (.tuple #[.agg (bareG x).cells.toArray, .bool (mayG x)]) = .returned (.tuple #[.agg Y, .bool true])) := by
   show _ = _
   rw [HE.out.1, HE.out.2, hY]
  rw [hY] at HY
  clear HW HE HEB HW0 hY
  go_wp2_with (first | refine wpList_load_row rfl 52 (.tmp 1) rfl B rfl 52 Y (0, 0) _ HW1.out.1 Tryz.underlying52 rfl HY.out.1 ?_ | refine wpList_store_row rfl 52 (.tmp 2) (.tmp 102) rfl (B + 1) Y rfl rfl 52 _ HW1.out.2.1 HY.out.1 HY.out.2.1 HY.out.2.2 ?_)
  refine bodyPost_ret (ret_rowT rfl _ _ (B + 1) Y _ rfl (VAt.setRow HW1.out.2.1 _) Tryz.underlying52 rfl HY.out.1) rfl ?_
  exact ⟨HEB1.out.symm, vgrown_setRow HW1.out.2.2 (B + 1) _ (.inr (by have := HB.out; omega))⟩
 ·have CB := between_any x.of 1 12 W
  obtain ⟨vv, hvv⟩ : ∃ vv, x.of = vv := ⟨_, rfl⟩
  have HM : Hid (mayG x = inG vv 1 12) := by show mayG x = _; unfold mayG; rw [HK.out, hvv]; rfl
  rw [hvv] at CB c5
  clear hvv
  go_wp2_with fail
  refine CB.mono ?_
  rintro e w1 ⟨rfl, rfl⟩
  obtain ⟨bf, hbf⟩ : ∃ bf, inG vv 1 12 = bf := ⟨_, rfl⟩
  rw [hbf] at HM ⊢
  clear CB hbf
  go_upto_region 40 with fail
  have HW := (BW.set (z := ({ x with of := 0, size := 0 } : Ng)) (BW.set (z := ({ x with of := 0 } : Ng)) HW0.out HB.out 5 (.int .i64 0) rfl) HB.out 4 (.int .i64 0) rfl)
  obtain ⟨Yn, hYn⟩ : ∃ Yn, ({ x with of := 0, size := 0 } : Ng) = Yn := ⟨_, rfl⟩
  have HE : Hid (bareG x = Yn ∧ mayG x = bf) := ⟨by rw [← hYn]; unfold bareG; rw [HK.out]; rfl, HM.out⟩
  rw [hYn] at HW
  clear hYn HM
  generalize (w1.setCell ⟨B, 5, none⟩ (.int .i64 0)).setCell ⟨B, 4, none⟩ (.int .i64 0) = Wf at *
  have HY : Hid ((Tryz.prog.info? 52).map (·.size) = some Yn.cells.toArray.size ∧ ngZ.cells.toArray.size = Yn.cells.toArray.size ∧ Yn.cells.toArray.all (·.oneCell') = true) := ⟨ng_size _, rfl, ng_all _⟩
  obtain ⟨Y, hY⟩ : ∃ Y, Yn.cells.toArray = Y := ⟨_, rfl⟩
  have HW1 : Hid (VAt Wf B 52 Y ∧ VAt Wf (B + 1) 52 ngZ.cells.toArray ∧ w.grownBy Wf none) := by
   obtain ⟨g1, g2, g3⟩ := HW
   exact ⟨hY ▸ g1, g2, g3⟩
  have HEB1 : Hid (Ending.returned (.tuple #[.agg (bareG x).cells.toArray, .bool (mayG x)]) = .returned (.tuple #[.agg Y, .bool bf])) := by
   show _ = _
   rw [HE.out.1, HE.out.2, hY]
  rw [hY] at HY
  clear HW HE HEB HW0 hY
  go_wp2_with (first | refine wpList_load_row rfl 52 (.tmp 1) rfl B rfl 52 Y (0, 0) _ HW1.out.1 Tryz.underlying52 rfl HY.out.1 ?_ | refine wpList_store_row rfl 52 (.tmp 2) (.tmp 102) rfl (B + 1) Y rfl rfl 52 _ HW1.out.2.1 HY.out.1 HY.out.2.1 HY.out.2.2 ?_)
  refine bodyPost_ret (ret_rowT rfl _ _ (B + 1) Y _ rfl (VAt.setRow HW1.out.2.1 _) Tryz.underlying52 rfl HY.out.1) rfl ?_
  exact ⟨HEB1.out.symm, vgrown_setRow HW1.out.2.2 (B + 1) _ (.inr (by have := HB.out; omega))⟩
 ·have CB := between_any x.op 1 10 W
  obtain ⟨vv, hvv⟩ : ∃ vv, x.op = vv := ⟨_, rfl⟩
  have HM : Hid (mayG x = inG vv 1 10) := by show mayG x = _; unfold mayG; rw [HK.out, hvv]; rfl
  rw [hvv] at CB c1
  clear hvv
  go_wp2_with fail
  refine CB.mono ?_
  rintro e w1 ⟨rfl, rfl⟩
  obtain ⟨bf, hbf⟩ : ∃ bf, inG vv 1 10 = bf := ⟨_, rfl⟩
  rw [hbf] at HM ⊢
  clear CB hbf
  go_upto_region 40 with fail
  have HW := (BW.set (z := ({ x with op := 0 } : Ng)) HW0.out HB.out 1 (.int .i64 0) rfl)
  obtain ⟨Yn, hYn⟩ : ∃ Yn, ({ x with op := 0 } : Ng) = Yn := ⟨_, rfl⟩
  have HE : Hid (bareG x = Yn ∧ mayG x = bf) := ⟨by rw [← hYn]; unfold bareG; rw [HK.out]; rfl, HM.out⟩
  rw [hYn] at HW
  clear hYn HM
  generalize w1.setCell ⟨B, 1, none⟩ (.int .i64 0) = Wf at *
  have HY : Hid ((Tryz.prog.info? 52).map (·.size) = some Yn.cells.toArray.size ∧ ngZ.cells.toArray.size = Yn.cells.toArray.size ∧ Yn.cells.toArray.all (·.oneCell') = true) := ⟨ng_size _, rfl, ng_all _⟩
  obtain ⟨Y, hY⟩ : ∃ Y, Yn.cells.toArray = Y := ⟨_, rfl⟩
  have HW1 : Hid (VAt Wf B 52 Y ∧ VAt Wf (B + 1) 52 ngZ.cells.toArray ∧ w.grownBy Wf none) := by
   obtain ⟨g1, g2, g3⟩ := HW
   exact ⟨hY ▸ g1, g2, g3⟩
  have HEB1 : Hid (Ending.returned (.tuple #[.agg (bareG x).cells.toArray, .bool (mayG x)]) = .returned (.tuple #[.agg Y, .bool bf])) := by
   show _ = _
   rw [HE.out.1, HE.out.2, hY]
  rw [hY] at HY
  clear HW HE HEB HW0 hY
  go_wp2_with (first | refine wpList_load_row rfl 52 (.tmp 1) rfl B rfl 52 Y (0, 0) _ HW1.out.1 Tryz.underlying52 rfl HY.out.1 ?_ | refine wpList_store_row rfl 52 (.tmp 2) (.tmp 102) rfl (B + 1) Y rfl rfl 52 _ HW1.out.2.1 HY.out.1 HY.out.2.1 HY.out.2.2 ?_)
  refine bodyPost_ret (ret_rowT rfl _ _ (B + 1) Y _ rfl (VAt.setRow HW1.out.2.1 _) Tryz.underlying52 rfl HY.out.1) rfl ?_
  exact ⟨HEB1.out.symm, vgrown_setRow HW1.out.2.2 (B + 1) _ (.inr (by have := HB.out; omega))⟩
 ·have CB := between_any x.op 1 6 W
  obtain ⟨vv, hvv⟩ : ∃ vv, x.op = vv := ⟨_, rfl⟩
  have HM : Hid (mayG x = inG vv 1 6) := by show mayG x = _; unfold mayG; rw [HK.out, hvv]; rfl
  rw [hvv] at CB c1
  clear hvv
  go_wp2_with fail
  refine CB.mono ?_
  rintro e w1 ⟨rfl, rfl⟩
  obtain ⟨bf, hbf⟩ : ∃ bf, inG vv 1 6 = bf := ⟨_, rfl⟩
  rw [hbf] at HM ⊢
  clear CB hbf
  go_upto_region 40 with fail
  have HW := (BW.set (z := ({ x with op := 0 } : Ng)) HW0.out HB.out 1 (.int .i64 0) rfl)
  obtain ⟨Yn, hYn⟩ : ∃ Yn, ({ x with op := 0 } : Ng) = Yn := ⟨_, rfl⟩
  have HE : Hid (bareG x = Yn ∧ mayG x = bf) := ⟨by rw [← hYn]; unfold bareG; rw [HK.out]; rfl, HM.out⟩
  rw [hYn] at HW
  clear hYn HM
  generalize w1.setCell ⟨B, 1, none⟩ (.int .i64 0) = Wf at *
  have HY : Hid ((Tryz.prog.info? 52).map (·.size) = some Yn.cells.toArray.size ∧ ngZ.cells.toArray.size = Yn.cells.toArray.size ∧ Yn.cells.toArray.all (·.oneCell') = true) := ⟨ng_size _, rfl, ng_all _⟩
  obtain ⟨Y, hY⟩ : ∃ Y, Yn.cells.toArray = Y := ⟨_, rfl⟩
  have HW1 : Hid (VAt Wf B 52 Y ∧ VAt Wf (B + 1) 52 ngZ.cells.toArray ∧ w.grownBy Wf none) := by
   obtain ⟨g1, g2, g3⟩ := HW
   exact ⟨hY ▸ g1, g2, g3⟩
  have HEB1 : Hid (Ending.returned (.tuple #[.agg (bareG x).cells.toArray, .bool (mayG x)]) = .returned (.tuple #[.agg Y, .bool bf])) := by
   show _ = _
   rw [HE.out.1, HE.out.2, hY]
  rw [hY] at HY
  clear HW HE HEB HW0 hY
  go_wp2_with (first | refine wpList_load_row rfl 52 (.tmp 1) rfl B rfl 52 Y (0, 0) _ HW1.out.1 Tryz.underlying52 rfl HY.out.1 ?_ | refine wpList_store_row rfl 52 (.tmp 2) (.tmp 102) rfl (B + 1) Y rfl rfl 52 _ HW1.out.2.1 HY.out.1 HY.out.2.1 HY.out.2.2 ?_)
  refine bodyPost_ret (ret_rowT rfl _ _ (B + 1) Y _ rfl (VAt.setRow HW1.out.2.1 _) Tryz.underlying52 rfl HY.out.1) rfl ?_
  exact ⟨HEB1.out.symm, vgrown_setRow HW1.out.2.2 (B + 1) _ (.inr (by have := HB.out; omega))⟩
 ·have CB := between_any x.side 1 2 W
  obtain ⟨vv, hvv⟩ : ∃ vv, x.side = vv := ⟨_, rfl⟩
  have HM : Hid (mayG x = inG vv 1 2) := by show mayG x = _; unfold mayG; rw [HK.out, hvv]; rfl
  rw [hvv] at CB c6
  clear hvv
  go_wp2_with fail
  refine CB.mono ?_
  rintro e w1 ⟨rfl, rfl⟩
  obtain ⟨bf, hbf⟩ : ∃ bf, inG vv 1 2 = bf := ⟨_, rfl⟩
  rw [hbf] at HM ⊢
  clear CB hbf
  go_upto_region 40 with fail
  have HW := (BW.set (z := ({ x with side := 0 } : Ng)) HW0.out HB.out 6 (.int .i64 0) rfl)
  obtain ⟨Yn, hYn⟩ : ∃ Yn, ({ x with side := 0 } : Ng) = Yn := ⟨_, rfl⟩
  have HE : Hid (bareG x = Yn ∧ mayG x = bf) := ⟨by rw [← hYn]; unfold bareG; rw [HK.out]; rfl, HM.out⟩
  rw [hYn] at HW
  clear hYn HM
  generalize w1.setCell ⟨B, 6, none⟩ (.int .i64 0) = Wf at *
  have HY : Hid ((Tryz.prog.info? 52).map (·.size) = some Yn.cells.toArray.size ∧ ngZ.cells.toArray.size = Yn.cells.toArray.size ∧ Yn.cells.toArray.all (·.oneCell') = true) := ⟨ng_size _, rfl, ng_all _⟩
  obtain ⟨Y, hY⟩ : ∃ Y, Yn.cells.toArray = Y := ⟨_, rfl⟩
  have HW1 : Hid (VAt Wf B 52 Y ∧ VAt Wf (B + 1) 52 ngZ.cells.toArray ∧ w.grownBy Wf none) := by
   obtain ⟨g1, g2, g3⟩ := HW
   exact ⟨hY ▸ g1, g2, g3⟩
  have HEB1 : Hid (Ending.returned (.tuple #[.agg (bareG x).cells.toArray, .bool (mayG x)]) = .returned (.tuple #[.agg Y, .bool bf])) := by
   show _ = _
   rw [HE.out.1, HE.out.2, hY]
  rw [hY] at HY
  clear HW HE HEB HW0 hY
  go_wp2_with (first | refine wpList_load_row rfl 52 (.tmp 1) rfl B rfl 52 Y (0, 0) _ HW1.out.1 Tryz.underlying52 rfl HY.out.1 ?_ | refine wpList_store_row rfl 52 (.tmp 2) (.tmp 102) rfl (B + 1) Y rfl rfl 52 _ HW1.out.2.1 HY.out.1 HY.out.2.1 HY.out.2.2 ?_)
  refine bodyPost_ret (ret_rowT rfl _ _ (B + 1) Y _ rfl (VAt.setRow HW1.out.2.1 _) Tryz.underlying52 rfl HY.out.1) rfl ?_
  exact ⟨HEB1.out.symm, vgrown_setRow HW1.out.2.2 (B + 1) _ (.inr (by have := HB.out; omega))⟩
 ·have CB := between_any x.of 2 13 W
  obtain ⟨vv, hvv⟩ : ∃ vv, x.of = vv := ⟨_, rfl⟩
  have HM : Hid (mayG x = inG vv 2 13) := by show mayG x = _; unfold mayG; rw [HK.out, hvv]; rfl
  rw [hvv] at CB c5
  clear hvv
  go_wp2_with fail
  refine CB.mono ?_
  rintro e w1 ⟨rfl, rfl⟩
  obtain ⟨bf, hbf⟩ : ∃ bf, inG vv 2 13 = bf := ⟨_, rfl⟩
  rw [hbf] at HM ⊢
  clear CB hbf
  go_upto_region 40 with fail
  have HW := (BW.set (z := ({ x with of := 0 } : Ng)) HW0.out HB.out 5 (.int .i64 0) rfl)
  obtain ⟨Yn, hYn⟩ : ∃ Yn, ({ x with of := 0 } : Ng) = Yn := ⟨_, rfl⟩
  have HE : Hid (bareG x = Yn ∧ mayG x = bf) := ⟨by rw [← hYn]; unfold bareG; rw [HK.out]; rfl, HM.out⟩
  rw [hYn] at HW
  clear hYn HM
  generalize w1.setCell ⟨B, 5, none⟩ (.int .i64 0) = Wf at *
  have HY : Hid ((Tryz.prog.info? 52).map (·.size) = some Yn.cells.toArray.size ∧ ngZ.cells.toArray.size = Yn.cells.toArray.size ∧ Yn.cells.toArray.all (·.oneCell') = true) := ⟨ng_size _, rfl, ng_all _⟩
  obtain ⟨Y, hY⟩ : ∃ Y, Yn.cells.toArray = Y := ⟨_, rfl⟩
  have HW1 : Hid (VAt Wf B 52 Y ∧ VAt Wf (B + 1) 52 ngZ.cells.toArray ∧ w.grownBy Wf none) := by
   obtain ⟨g1, g2, g3⟩ := HW
   exact ⟨hY ▸ g1, g2, g3⟩
  have HEB1 : Hid (Ending.returned (.tuple #[.agg (bareG x).cells.toArray, .bool (mayG x)]) = .returned (.tuple #[.agg Y, .bool bf])) := by
   show _ = _
   rw [HE.out.1, HE.out.2, hY]
  rw [hY] at HY
  clear HW HE HEB HW0 hY
  go_wp2_with (first | refine wpList_load_row rfl 52 (.tmp 1) rfl B rfl 52 Y (0, 0) _ HW1.out.1 Tryz.underlying52 rfl HY.out.1 ?_ | refine wpList_store_row rfl 52 (.tmp 2) (.tmp 102) rfl (B + 1) Y rfl rfl 52 _ HW1.out.2.1 HY.out.1 HY.out.2.1 HY.out.2.2 ?_)
  refine bodyPost_ret (ret_rowT rfl _ _ (B + 1) Y _ rfl (VAt.setRow HW1.out.2.1 _) Tryz.underlying52 rfl HY.out.1) rfl ?_
  exact ⟨HEB1.out.symm, vgrown_setRow HW1.out.2.2 (B + 1) _ (.inr (by have := HB.out; omega))⟩
 ·obtain ⟨bf, hbf⟩ : ∃ bf, true = bf := ⟨_, rfl⟩
  have HM : Hid (mayG x = bf) := by show mayG x = _; rw [← hbf]; unfold mayG; rw [HK.out]; rfl
  subst hbf
  go_upto_region 40 with fail
  have HW := (BW.set (z := ({ x with n := 0 } : Ng)) HW0.out HB.out 2 (.int .u32 0) rfl)
  obtain ⟨Yn, hYn⟩ : ∃ Yn, ({ x with n := 0 } : Ng) = Yn := ⟨_, rfl⟩
  have HE : Hid (bareG x = Yn ∧ mayG x = true) := ⟨by rw [← hYn]; unfold bareG; rw [HK.out]; rfl, HM.out⟩
  rw [hYn] at HW
  clear hYn HM
  generalize W.setCell ⟨B, 2, none⟩ (.int .u32 0) = Wf at *
  have HY : Hid ((Tryz.prog.info? 52).map (·.size) = some Yn.cells.toArray.size ∧ ngZ.cells.toArray.size = Yn.cells.toArray.size ∧ Yn.cells.toArray.all (·.oneCell') = true) := ⟨ng_size _, rfl, ng_all _⟩
  obtain ⟨Y, hY⟩ : ∃ Y, Yn.cells.toArray = Y := ⟨_, rfl⟩
  have HW1 : Hid (VAt Wf B 52 Y ∧ VAt Wf (B + 1) 52 ngZ.cells.toArray ∧ w.grownBy Wf none) := by
   obtain ⟨g1, g2, g3⟩ := HW
   exact ⟨hY ▸ g1, g2, g3⟩
  have HEB1 : Hid (Ending.returned (.tuple #[.agg (bareG x).cells.toArray, .bool (mayG x)]) = .returned (.tuple #[.agg Y, .bool true])) := by
   show _ = _
   rw [HE.out.1, HE.out.2, hY]
  rw [hY] at HY
  clear HW HE HEB HW0 hY
  go_wp2_with (first | refine wpList_load_row rfl 52 (.tmp 1) rfl B rfl 52 Y (0, 0) _ HW1.out.1 Tryz.underlying52 rfl HY.out.1 ?_ | refine wpList_store_row rfl 52 (.tmp 2) (.tmp 102) rfl (B + 1) Y rfl rfl 52 _ HW1.out.2.1 HY.out.1 HY.out.2.1 HY.out.2.2 ?_)
  refine bodyPost_ret (ret_rowT rfl _ _ (B + 1) Y _ rfl (VAt.setRow HW1.out.2.1 _) Tryz.underlying52 rfl HY.out.1) rfl ?_
  exact ⟨HEB1.out.symm, vgrown_setRow HW1.out.2.2 (B + 1) _ (.inr (by have := HB.out; omega))⟩
 ·have CB := between_any x.of 2 3 W
  obtain ⟨vv, hvv⟩ : ∃ vv, x.of = vv := ⟨_, rfl⟩
  have HM : Hid (mayG x = inG vv 2 3) := by show mayG x = _; unfold mayG; rw [HK.out, hvv]; rfl
  rw [hvv] at CB c5
  clear hvv
  go_wp2_with fail
  refine CB.mono ?_
  rintro e w1 ⟨rfl, rfl⟩
  obtain ⟨bf, hbf⟩ : ∃ bf, inG vv 2 3 = bf := ⟨_, rfl⟩
  rw [hbf] at HM ⊢
  clear CB hbf
  go_upto_region 40 with fail
  have HW := (BW.set (z := ({ x with of := 0, n := 0 } : Ng)) (BW.set (z := ({ x with of := 0 } : Ng)) HW0.out HB.out 5 (.int .i64 0) rfl) HB.out 2 (.int .u32 0) rfl)
  obtain ⟨Yn, hYn⟩ : ∃ Yn, ({ x with of := 0, n := 0 } : Ng) = Yn := ⟨_, rfl⟩
  have HE : Hid (bareG x = Yn ∧ mayG x = bf) := ⟨by rw [← hYn]; unfold bareG; rw [HK.out]; rfl, HM.out⟩
  rw [hYn] at HW
  clear hYn HM
  generalize (w1.setCell ⟨B, 5, none⟩ (.int .i64 0)).setCell ⟨B, 2, none⟩ (.int .u32 0) = Wf at *
  have HY : Hid ((Tryz.prog.info? 52).map (·.size) = some Yn.cells.toArray.size ∧ ngZ.cells.toArray.size = Yn.cells.toArray.size ∧ Yn.cells.toArray.all (·.oneCell') = true) := ⟨ng_size _, rfl, ng_all _⟩
  obtain ⟨Y, hY⟩ : ∃ Y, Yn.cells.toArray = Y := ⟨_, rfl⟩
  have HW1 : Hid (VAt Wf B 52 Y ∧ VAt Wf (B + 1) 52 ngZ.cells.toArray ∧ w.grownBy Wf none) := by
   obtain ⟨g1, g2, g3⟩ := HW
   exact ⟨hY ▸ g1, g2, g3⟩
  have HEB1 : Hid (Ending.returned (.tuple #[.agg (bareG x).cells.toArray, .bool (mayG x)]) = .returned (.tuple #[.agg Y, .bool bf])) := by
   show _ = _
   rw [HE.out.1, HE.out.2, hY]
  rw [hY] at HY
  clear HW HE HEB HW0 hY
  go_wp2_with (first | refine wpList_load_row rfl 52 (.tmp 1) rfl B rfl 52 Y (0, 0) _ HW1.out.1 Tryz.underlying52 rfl HY.out.1 ?_ | refine wpList_store_row rfl 52 (.tmp 2) (.tmp 102) rfl (B + 1) Y rfl rfl 52 _ HW1.out.2.1 HY.out.1 HY.out.2.1 HY.out.2.2 ?_)
  refine bodyPost_ret (ret_rowT rfl _ _ (B + 1) Y _ rfl (VAt.setRow HW1.out.2.1 _) Tryz.underlying52 rfl HY.out.1) rfl ?_
  exact ⟨HEB1.out.symm, vgrown_setRow HW1.out.2.2 (B + 1) _ (.inr (by have := HB.out; omega))⟩

end Go.Proofs.YtcodofamdhcfiaaGreat
