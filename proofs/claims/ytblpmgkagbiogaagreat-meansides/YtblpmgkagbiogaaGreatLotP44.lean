/-
  What chapter 14 says of two filters laid together by and, or, not. No Go text here. Hosts, nets and ports of either side. No Go text here. What is read of an argument that is a list of bytes; how much the second form counts.
-/
import Derived.Test.YtblpmgkagbiogaaGreatLotP43
import Derived.Test.YtblpmgkagbiogaaGreatLotP11
import Derived.Test.YtblpmgkagbiogaaGreatLotP2
import Derived.Test.YtblpmgkagbiogaaGreatRows
import Derived.ProofKit
import Derived.OpenShut
import Derived.ShutString
import Derived.ChangeOld
import Derived.SizedLaws
import Derived.JoinedCond
namespace Go.Proofs.YtblpmgkagbiogaaGreat
open Go.RowKit
set_option maxRecDepth 100000

/-- A list that is walked to one part, as chapter 14 takes it: what it says over whatever stands below. -/
structure Tr14 (t : List Ng) (s : Sg) (x : Int) : Prop where
  walk : ∃ p : Pt, walkG [] 0 t = .ok [p] ∧ p.truth = true
  eval : ∀ st : List Pm, evalM s (st ++ []) t = st ++ [⟨x, 0⟩]

theorem tr_of {t : List Ng} {s : Sg} {p : Pt} (hb : s.b.length ≤ 65535) (hn : ∀ x ∈ t, x.n ≤ 4294967295) (hw : walkG [] 0 t = .ok [p]) (hp : p.truth = true) : ∃ x, Hw x ∧ Tr14 t s x ∧ (evalM s [] t).getD 0 pm0 = ⟨x, 0⟩ := by
  obtain ⟨q, hq, k⟩ := eval_one hb hn hw
  have hv := k.truth hp
  have e : q = ⟨q.how, 0⟩ := by cases q; simp only at hv; rw [hv]
  refine ⟨q.how, k.how, ⟨⟨p, hw, hp⟩, fun st => ?_⟩, by rw [hq]; exact e⟩
  rw [mev_frame (s := s) t [] [p] [] st 0 hw rfl, hq, ← e]
theorem Tr14.mean {t : List Ng} {l : Lk} {way : Int} {b : List UInt8} {v : Vw} {x : Int} (hl : lookX l b = .ok v) (h : Tr14 t ⟨v, way, b⟩ x) : (meanM t l way b).how = x := by
  have := h.eval []
  simp only [List.nil_append] at this
  unfold meanM
  rw [hl]
  simp only [this]
  rfl
theorem Tr14.two {t u : List Ng} {s : Sg} {x y : Int} (h : Tr14 t s x) (k : Tr14 u s y) (n : Ng) (hn : n = adN ∨ n = orN) : Tr14 (t ++ u ++ [n]) s (if n.kind = 7 then andM x y else orM x y) := by
  obtain ⟨p, hp, hp2⟩ := h.walk
  obtain ⟨q, hq, hq2⟩ := k.walk
  have hw := two_walk hp hq
  constructor
  · obtain ⟨r, hr, hr2⟩ := step_two (x := n) (p := p) (q := q) (by rcases hn with rfl | rfl <;> decide) (by rcases hn with rfl | rfl <;> rfl) hp2 hq2
    exact ⟨r, by rw [walkG_snoc n hw, hr], hr2⟩
  · intro st
    have e1 : evalM s (st ++ []) (t ++ u ++ [n]) = evalM s (evalM s (evalM s (st ++ []) t) u) [n] := by
      unfold evalM
      rw [List.foldl_append, List.foldl_append]
    have e2 := k.eval (st ++ [⟨x, 0⟩])
    rw [List.append_nil] at e2
    rw [e1, h.eval st, e2]
    show stpM s (st ++ [⟨x, 0⟩] ++ [⟨y, 0⟩]) n = _
    rw [List.append_assoc, mstp_frame (a := 2) st _ n (by rcases hn with rfl | rfl <;> rfl) (by simp)]
    rcases hn with rfl | rfl <;> rfl
theorem Tr14.not {t : List Ng} {s : Sg} {x : Int} (h : Tr14 t s x) : Tr14 (t ++ [noN]) s (notM x) := by
  obtain ⟨p, hp, hp2⟩ := h.walk
  constructor
  · obtain ⟨r, hr, hr2⟩ := step_one (p := p) hp2
    exact ⟨r, by rw [walkG_snoc noN hp, hr], hr2⟩
  · intro st
    have e1 : evalM s (st ++ []) (t ++ [noN]) = evalM s (evalM s (st ++ []) t) [noN] := by
      unfold evalM
      rw [List.foldl_append]
    rw [e1, h.eval st]
    show stpM s (st ++ [⟨x, 0⟩]) noN = _
    rw [mstp_frame (a := 1) st _ noN rfl (by simp)]
    rfl
theorem wt_one (t : List Ng) (n : Ng) (hn : n = adN ∨ n = orN ∨ n = noN) : weightG (t ++ [n]) = weightG t + 1 := by
  rcases hn with rfl | rfl | rfl <;> simp [weightG, adN, orN, noN, weighG]
theorem wt_two (t u : List Ng) : weightG (t ++ u) = weightG t + weightG u := by simp [weightG]
theorem tr_law {t : List Ng} {l : Lk} {way : Int} {b : List UInt8} (hw : ∃ p : Pt, walkG [] 0 t = .ok [p] ∧ p.truth = true) (hg : weightG t ≤ 3000) (h2 : checkF l = 0) (h3 : way = 0 ∨ way = 1) : lawJ t l way b = (meanM t l way b).how := by
  obtain ⟨p, hp, hp2⟩ := hw
  exact law_ok (refuse_ok (filt_iff.2 ⟨p, hp, hp2, hg⟩) h2 h3)
theorem not_two {x : Int} (h : Hw x) : notM (notM x) = x := by rcases h with rfl | rfl | rfl <;> rfl
theorem de_morgan {x y : Int} (h : Hw x) (k : Hw y) : notM (orM (notM x) (notM y)) = andM x y := by
  rcases h with rfl | rfl | rfl <;> rcases k with rfl | rfl | rfl <;> rfl

/-- MeanTruths. -/
theorem truths_pure {t u : List Ng} {l : Lk} {way : Int} {b : List UInt8} (hn : ∀ x ∈ t, x.n ≤ 4294967295) (hm : ∀ x ∈ u, x.n ≤ 4294967295) (h1 : ¬ lawJ t l way b < 0) (h2 : ¬ lawJ u l way b < 0) :
    weightG t ≤ 3000 ∧ weightG u ≤ 3000 ∧ t.length ≤ 3000 ∧ u.length ≤ 3000 ∧ Hw (lawJ t l way b) ∧ Hw (lawJ u l way b) ∧ (weightG t + weightG u ≤ 2995 →
      lawJ (t ++ u ++ [adN]) l way b = andM (lawJ t l way b) (lawJ u l way b) ∧ lawJ (t ++ u ++ [orN]) l way b = orM (lawJ t l way b) (lawJ u l way b) ∧ lawJ (t ++ [noN]) l way b = notM (lawJ t l way b) ∧
      lawJ (t ++ [noN] ++ [noN]) l way b = lawJ t l way b ∧ lawJ (t ++ [noN] ++ (u ++ [noN]) ++ [orN] ++ [noN]) l way b = andM (lawJ t l way b) (lawJ u l way b)) := by
  have hr : refuseM t l way = 0 := by
    unfold lawJ at h1
    split at h1
    · omega
    · rename_i hh; omega
  have hk : refuseM u l way = 0 := by
    unfold lawJ at h2
    split at h2
    · omega
    · rename_i hh; omega
  obtain ⟨c1, c2, c3⟩ := refuse_zero hr
  obtain ⟨d1, -, -⟩ := refuse_zero hk
  obtain ⟨p, wa, pa, ga⟩ := filt_iff.1 c1
  obtain ⟨q, wb, qb, gb⟩ := filt_iff.1 d1
  have la := walkG_weighs t [] _ 0 wa
  have lb := walkG_weighs u [] _ 0 wb
  refine ⟨ga, gb, by omega, by omega, law_how hn hr, law_how hm hk, fun hw => ?_⟩
  rw [law_ok hr, law_ok hk]
  -- walks of the five lists, over whatever there is
  have key : ∀ (s : Sg) (x y : Int), Tr14 t s x → Tr14 u s y → Tr14 (t ++ u ++ [adN]) s (andM x y) ∧ Tr14 (t ++ u ++ [orN]) s (orM x y) ∧ Tr14 (t ++ [noN]) s (notM x) ∧ Tr14 (t ++ [noN] ++ [noN]) s (notM (notM x)) ∧ Tr14 (t ++ [noN] ++ (u ++ [noN]) ++ [orN] ++ [noN]) s (notM (orM (notM x) (notM y))) := fun s x y h k => by
    refine ⟨?_, ?_, h.not, h.not.not, ?_⟩
    · have := h.two k adN (.inl rfl)
      rwa [if_pos (show adN.kind = 7 from rfl)] at this
    · have := h.two k orN (.inr rfl)
      rwa [if_neg (show ¬ orN.kind = 7 by decide)] at this
    · have := (h.not.two k.not orN (.inr rfl)).not
      rwa [if_neg (show ¬ orN.kind = 7 by decide)] at this
  obtain ⟨x0, -, tx0, -⟩ := tr_of (s := ⟨Vw.zero, 0, []⟩) (by simp) hn wa pa
  obtain ⟨y0, -, ty0, -⟩ := tr_of (s := ⟨Vw.zero, 0, []⟩) (by simp) hm wb qb
  obtain ⟨r1, r2, r3, r4, r5⟩ := key _ _ _ tx0 ty0
  have g1 : weightG (t ++ u ++ [adN]) ≤ 3000 := by rw [wt_one _ _ (.inl rfl), wt_two]; omega
  have g2 : weightG (t ++ u ++ [orN]) ≤ 3000 := by rw [wt_one _ _ (.inr (.inl rfl)), wt_two]; omega
  have g3 : weightG (t ++ [noN]) ≤ 3000 := by rw [wt_one _ _ (.inr (.inr rfl))]; omega
  have g4 : weightG (t ++ [noN] ++ [noN]) ≤ 3000 := by rw [wt_one _ _ (.inr (.inr rfl)), wt_one _ _ (.inr (.inr rfl))]; omega
  have g5 : weightG (t ++ [noN] ++ (u ++ [noN]) ++ [orN] ++ [noN]) ≤ 3000 := by rw [wt_one _ _ (.inr (.inr rfl)), wt_one _ _ (.inr (.inl rfl)), wt_two, wt_one _ _ (.inr (.inr rfl)), wt_one _ _ (.inr (.inr rfl))]; omega
  rw [tr_law r1.walk g1 c2 c3, tr_law r2.walk g2 c2 c3, tr_law r3.walk g3 c2 c3, tr_law r4.walk g4 c2 c3, tr_law r5.walk g5 c2 c3]
  cases hl : lookX l b with
  | error e => simp only [mean_bad hl]; exact ⟨rfl, rfl, rfl, trivial, rfl⟩
  | ok v =>
    obtain ⟨x, hx, tx, -⟩ := tr_of (s := ⟨v, way, b⟩) (look_sg way hl).len hn wa pa
    obtain ⟨y, hy, ty, -⟩ := tr_of (s := ⟨v, way, b⟩) (look_sg way hl).len hm wb qb
    obtain ⟨q1, q2, q3, q4, q5⟩ := key _ _ _ tx ty
    rw [q1.mean hl, q2.mean hl, q3.mean hl, q4.mean hl, q5.mean hl, tx.mean hl, ty.mean hl, not_two hx, de_morgan hx hy]
    exact ⟨rfl, rfl, rfl, rfl, rfl⟩
end Go.Proofs.YtblpmgkagbiogaaGreat

namespace Go.Proofs.YtblpmgkagbiogaaGreat
open Go.RowKit
set_option maxRecDepth 100000

def sdN (s : Int) (x : Ng) : Ng := ⟨x.kind, x.op, x.n, x.m, x.size, x.of, s, x.addr, x.bits⟩
def ntN (x : Ng) (b : Int) : Ng := ⟨15, x.op, x.n, x.m, x.size, x.of, 0, x.addr, b⟩
def n0N (of : Int) : Ng := ⟨15, 0, 0, 0, 0, of, 0, zeros 16, 0⟩
def wdN (of : Int) : Ng := ⟨11, 0, 0, 0, 0, of, 0, zeros 16, 0⟩

theorem ar_leaf {x : Ng} (h1 : 10 ≤ x.kind) (h2 : x.kind ≤ 16) : arG x.kind = some 0 := by
  unfold arG
  rw [if_neg (by omega), if_neg (by omega), if_pos (by omega)]
theorem weigh_leaf (x : Ng) : weighG x ≤ 80 := by
  unfold weighG
  repeat' split
  all_goals omega
theorem leaf_step {x : Ng} (h1 : 10 ≤ x.kind) (h2 : x.kind ≤ 16) : stepG x [] = if faultG x [] ≠ 0 then .error (faultG x []) else .ok [joinG x []] := by
  unfold stepG
  rw [ar_leaf h1 h2]
  rfl
theorem leaf_fault {x : Ng} (h1 : 10 ≤ x.kind) : faultG x [] = if formG x = false then 120 else rangeE x := by
  unfold faultG
  have k : kindE x.kind [] = 0 := rfl
  have z : zeroE x [] = false := by
    unfold zeroE
    rw [decide_eq_false (show ¬ x.kind = 4 by omega)]
    rfl
  rw [k, z]
  simp
theorem leaf_truth {x : Ng} (h1 : 10 ≤ x.kind) : (joinG x []).truth = true := by
  have ht : truthG x.kind = true := decide_eq_true (by omega)
  unfold joinG
  split
  · split <;> exact ht
  · exact ht
theorem leaf_iff {x : Ng} (h1 : 10 ≤ x.kind) (h2 : x.kind ≤ 16) : (checkG [x]).2 = 0 ↔ formG x = true ∧ rangeE x = 0 := by
  rw [filt_iff]
  constructor
  · rintro ⟨p, hw, -, -⟩
    simp only [walkG, leaf_step h1 h2] at hw
    by_cases hf : faultG x [] = 0
    · rw [leaf_fault h1] at hf
      cases hfm : formG x with
      | false => rw [hfm] at hf; simp at hf
      | true => rw [hfm] at hf; exact ⟨rfl, by simpa using hf⟩
    · rw [if_pos hf] at hw
      cases hw
  · rintro ⟨hf, hr⟩
    have h0 : faultG x [] = 0 := by rw [leaf_fault h1, hf, hr]; rfl
    refine ⟨joinG x [], ?_, leaf_truth h1, ?_⟩
    · simp only [walkG, leaf_step h1 h2, h0, ne_eq, not_true_eq_false, if_false]
    · have := weigh_leaf x
      simp only [weightG, List.map_cons, List.map_nil, List.sum_cons, List.sum_nil]
      omega
theorem leaf_tr {x : Ng} (h1 : 10 ≤ x.kind) (h2 : x.kind ≤ 16) (hc : (checkG [x]).2 = 0) (s : Sg) : Tr14 [x] s (truthM s x) := by
  obtain ⟨p, hw, hp, -⟩ := filt_iff.1 hc
  refine ⟨⟨p, hw, hp⟩, fun st => ?_⟩
  show stpM s (st ++ []) x = _
  rw [List.append_nil]
  unfold stpM
  rw [ar_leaf h1 h2]
  simp only [Option.getD_some, Nat.sub_zero, List.take_length]
  congr 2
  unfold overM
  rw [if_neg (by omega), if_neg (by omega), if_neg (by omega), if_neg (by omega), if_neg (by omega), if_neg (by omega), if_neg (by omega), if_neg (by omega), if_neg (by omega)]
theorem leaf_law {x : Ng} {l : Lk} {way : Int} {b : List UInt8} (h1 : 10 ≤ x.kind) (h2 : x.kind ≤ 16) (hc : (checkG [x]).2 = 0) (hl : checkF l = 0) (hw : way = 0 ∨ way = 1) : lawJ [x] l way b = match lookX l b with | .error _ => 2 | .ok v => truthM ⟨v, way, b⟩ x := by
  rw [law_ok (refuse_ok hc hl hw)]
  cases hk : lookX l b with
  | error e => rw [mean_bad hk]
  | ok v => exact (leaf_tr h1 h2 hc ⟨v, way, b⟩).mean hk

theorem sd_form {x : Ng} (hk : x.kind = 14 ∨ x.kind = 15 ∨ x.kind = 16) (h : formG (sdN 0 x) = true) (s : Int) (hs : s = 1 ∨ s = 2) : formG (sdN s x) = true := by
  obtain ⟨k, op, n, m, size, of, side, addr, bits⟩ := x
  simp only at hk
  rcases hk with rfl | rfl | rfl <;> rcases hs with rfl | rfl <;> (simp [formG, sameG, useG, mayG, hostG, inG, sdN, adgs] at h ⊢; exact h)
theorem sd_range (x : Ng) (s : Int) : rangeE (sdN s x) = rangeE x := rfl
theorem host_of {x : Ng} (hk : x.kind = 14) (h : formG (sdN 0 x) = true) : x.of = 2 ∨ x.of = 3 := by
  have h2 := (Bool.and_eq_true_iff.1 h).2
  unfold mayG at h2
  have e : (sdN 0 x).kind = 14 := hk
  rw [if_neg (by omega), if_neg (by omega), if_neg (by omega), if_neg (by omega), if_neg (by omega), if_neg (by omega), if_pos (.inl e)] at h2
  unfold hostG at h2
  have h3 := (Bool.and_eq_true_iff.1 (Bool.and_eq_true_iff.1 h2).1).1
  unfold inG at h3
  have h4 := Bool.and_eq_true_iff.1 h3
  have h5 : 2 ≤ x.of := of_decide_eq_true h4.1
  have h6 : x.of ≤ 3 := of_decide_eq_true h4.2
  omega
theorem nt_form {x : Ng} (hk : x.kind = 14) (h : formG (sdN 0 x) = true) (b : Int) : formG (ntN x b) = true := by
  obtain ⟨k, op, n, m, size, of, side, addr, bits⟩ := x
  simp only at hk
  subst hk
  simp [formG, sameG, useG, mayG, hostG, inG, sdN, ntN, adgs] at h ⊢
  obtain ⟨h1, h2⟩ := h
  refine ⟨?_, h2⟩
  revert h1
  simp only [and_imp]
  intros
  simp_all
theorem addr_long (x : Ng) (h : x.of = 2 ∨ x.of = 3) : (addrG x).length = longM x.of := by
  unfold addrG longM
  rcases h with h | h <;> rw [h] <;> rfl
theorem nt_range {x : Ng} (h : x.of = 2 ∨ x.of = 3) : rangeE (ntN x (8 * (longM x.of : Int))) = 0 := by
  have hl : (addrG (ntN x (8 * (longM x.of : Int)))).length = longM x.of := addr_long (ntN x (8 * (longM x.of : Int))) h
  show (if ¬ (0 ≤ 8 * (longM x.of : Int) ∧ 8 * (longM x.of : Int) ≤ 8 * ((addrG (ntN x (8 * (longM x.of : Int)))).length : Int)) then (124 : Int) else if maskV (8 * (longM x.of : Int)).toNat (addrG (ntN x (8 * (longM x.of : Int)))) = addrG (ntN x (8 * (longM x.of : Int))) then 0 else 125) = 0
  rw [if_neg (by rw [hl]; omega), if_pos (mask_all _ _ (by rw [hl]; omega))]
theorem n0_check {of : Int} (h : of = 2 ∨ of = 3) : (checkG [n0N of]).2 = 0 := by
  rcases h with rfl | rfl <;> kernel_rfl
theorem wd_check {of : Int} (h : of = 2 ∨ of = 3) : (checkG [wdN of]).2 = 0 := by
  rcases h with rfl | rfl <;> kernel_rfl
theorem n0_truth {s : Sg} (H : MSgOk s) {of : Int} (h : of = 2 ∨ of = 3) : truthM s (n0N of) = truthM s (wdN of) := by
  have e2 : truthM s (wdN of) = jdg (wordM s.v of) := rfl
  have e1 : truthM s (n0N of) = withinM s (n0N of) 0 := rfl
  have eb : baseM s.v of = (s.v.pos, wordM s.v of) := by
    unfold baseM
    rw [if_neg (by omega), if_neg (by omega)]
  have hof : (n0N of).of = of := rfl
  rw [e1, e2]
  unfold withinM
  rw [hof, eb]
  cases hw : wordM s.v of with
  | false => rfl
  | true =>
    have hal : ∀ p, p + longM of ≤ s.b.length → alikeM s.b p (addrG (n0N of)) 0 = true := by
      intro p hp
      have hl : (addrG (n0N of)).length = longM of := addr_long (n0N of) h
      unfold alikeM
      refine decide_eq_true ?_
      refine mask_0 _ _ ?_
      rw [List.length_take, List.length_drop, hl]
      omega
    have hb : s.v.pos + srcM of + longM of ≤ s.b.length := by
      rcases h with rfl | rfl
      · have : s.v.net = 4 := by
          have : wordM s.v 2 = decide (s.v.net = 4) := rfl
          rw [this] at hw
          exact of_decide_eq_true hw
        have := H.four this
        show s.v.pos + 12 + 4 ≤ _
        omega
      · have : s.v.net = 6 := by
          have : wordM s.v 3 = decide (s.v.net = 6) := rfl
          rw [this] at hw
          exact of_decide_eq_true hw
        have := H.six this
        show s.v.pos + 8 + 16 ≤ _
        omega
    simp only [Bool.true_eq_false, if_false]
    rw [hal _ hb]
    show sidedM 0 (jdg true) _ = jdg true
    rfl

theorem sides_truth (s : Sg) {x : Ng} (hk : x.kind = 14 ∨ x.kind = 15 ∨ x.kind = 16) : truthM s (sdN 0 x) = orM (truthM s (sdN 1 x)) (truthM s (sdN 2 x)) := by
  have hw : ∀ b, withinM s (sdN 0 x) b = orM (withinM s (sdN 1 x) b) (withinM s (sdN 2 x) b) := by
    intro b
    unfold withinM
    have e : ∀ t, (sdN t x).of = x.of := fun _ => rfl
    simp only [e]
    split
    · rfl
    · rfl
  have hp : portsM s (sdN 0 x) = orM (portsM s (sdN 1 x)) (portsM s (sdN 2 x)) := by
    unfold portsM
    have e : ∀ t, (sdN t x).of = x.of := fun _ => rfl
    simp only [e]
    split
    · rfl
    · rfl
  have ht : ∀ t, truthM s (sdN t x) = if x.kind = 14 then withinM s (sdN t x) (8 * (longM x.of : Int)) else if x.kind = 15 then withinM s (sdN t x) x.bits else portsM s (sdN t x) := fun t => by
    have e : (sdN t x).kind = x.kind := rfl
    unfold truthM
    rw [e, if_neg (by omega), if_neg (by omega), if_neg (by omega), if_neg (by omega)]
    rfl
  rw [ht, ht, ht]
  split
  · exact hw _
  · split
    · exact hw _
    · exact hp

/-- MeanSides. -/
theorem sides_pure {x : Ng} {l : Lk} {way : Int} {b : List UInt8} (hk : x.kind = 14 ∨ x.kind = 15 ∨ x.kind = 16) (h : ¬ lawJ [sdN 0 x] l way b < 0) :
    lawJ [sdN 1 x, sdN 2 x, orN] l way b = lawJ [sdN 0 x] l way b ∧ (x.kind = 14 → lawJ [ntN x (8 * (if x.of = 3 then 16 else 4))] l way b = lawJ [sdN 0 x] l way b ∧ lawJ [n0N x.of] l way b = lawJ [wdN x.of] l way b) := by
  have hr : refuseM [sdN 0 x] l way = 0 := by
    unfold lawJ at h
    split at h
    · omega
    · rename_i hh; omega
  obtain ⟨c1, c2, c3⟩ := refuse_zero hr
  have k1 : ∀ t, 10 ≤ (sdN t x).kind := fun t => by show 10 ≤ x.kind; omega
  have k2 : ∀ t, (sdN t x).kind ≤ 16 := fun t => by show x.kind ≤ 16; omega
  obtain ⟨f1, f2⟩ := (leaf_iff (k1 0) (k2 0)).1 c1
  have d1 : (checkG [sdN 1 x]).2 = 0 := (leaf_iff (k1 1) (k2 1)).2 ⟨sd_form hk f1 1 (.inl rfl), f2⟩
  have d2 : (checkG [sdN 2 x]).2 = 0 := (leaf_iff (k1 2) (k2 2)).2 ⟨sd_form hk f1 2 (.inr rfl), f2⟩
  constructor
  · have tw := fun s => (leaf_tr (k1 1) (k2 1) d1 s).two (leaf_tr (k1 2) (k2 2) d2 s) orN (.inr rfl)
    have hwt : weightG [sdN 1 x, sdN 2 x, orN] ≤ 3000 := by
      have h1 := weigh_leaf (sdN 1 x)
      have h2 := weigh_leaf (sdN 2 x)
      have h3 := weigh_leaf orN
      simp only [weightG, List.map_cons, List.map_nil, List.sum_cons, List.sum_nil]
      omega
    rw [leaf_law (k1 0) (k2 0) c1 c2 c3, tr_law (t := [sdN 1 x, sdN 2 x, orN]) (tw ⟨⟨0, false, false, false, 0, 0, 0, 0, 0⟩, 0, []⟩).walk hwt c2 c3]
    cases hl : lookX l b with
    | error e => rw [mean_bad hl]
    | ok v =>
      have := (tw ⟨v, way, b⟩).mean hl
      show _ = truthM ⟨v, way, b⟩ (sdN 0 x)
      rw [sides_truth _ hk]
      exact this
  · intro h14
    have hof := host_of h14 f1
    have hlo : (if x.of = 3 then (16 : Int) else 4) = (longM x.of : Int) := by
      unfold longM
      rcases hof with e | e <;> rw [e] <;> rfl
    rw [hlo]
    have d3 : (checkG [ntN x (8 * (longM x.of : Int))]).2 = 0 := (leaf_iff (by show (10 : Int) ≤ 15; omega) (by show (15 : Int) ≤ 16; omega)).2 ⟨nt_form h14 f1 _, nt_range hof⟩
    constructor
    · rw [leaf_law (k1 0) (k2 0) c1 c2 c3, leaf_law (by show (10 : Int) ≤ 15; omega) (by show (15 : Int) ≤ 16; omega) d3 c2 c3]
      cases hl : lookX l b with
      | error e => rfl
      | ok v =>
        have e1 : truthM ⟨v, way, b⟩ (sdN 0 x) = withinM ⟨v, way, b⟩ (sdN 0 x) (8 * (longM x.of : Int)) := by
          unfold truthM
          have e : (sdN 0 x).kind = 14 := h14
          rw [if_neg (by omega), if_neg (by omega), if_neg (by omega), if_neg (by omega), if_pos e]
          rfl
        show _ = truthM ⟨v, way, b⟩ (sdN 0 x)
        rw [e1]
        rfl
    · rw [leaf_law (by show (10 : Int) ≤ 15; omega) (by show (15 : Int) ≤ 16; omega) (n0_check hof) c2 c3, leaf_law (by show (10 : Int) ≤ 11; omega) (by show (11 : Int) ≤ 16; omega) (wd_check hof) c2 c3]
      cases hl : lookX l b with
      | error e => rfl
      | ok v => exact n0_truth (look_sg way hl) hof

end Go.Proofs.YtblpmgkagbiogaaGreat

namespace Go.Proofs.YtblpmgkagbiogaaGreat
open Go.ChangeShapes Go.WideShapes Go.ChangeAt Go.RowKit
set_option maxRecDepth 100000

theorem own : ownKnob Tryz.prog.godebug = none := by kernel_rfl
theorem laidOut : laidOutB Tryz.prog = true := by kernel_rfl
theorem bytes5 : Tryz.prog.bytesOf 5 = 1 := by kernel_rfl

theorem open_bytes {H : Type} {enc : TypeId × Value → H} {P : Program} {W : World} {t e : TypeId} {d : DataW H} {ps : List MemPlace} {a : Option Addr} {len cap : Nat}
    (ht : P.underlying t = some (.slice e)) (he : P.underlying e = some (.int .u8)) (hc : P.cellsOf e = 1)
    (h : DataW.Trod enc P W 0 (fun _ => true) true t (.slice a len cap) d ps) :
    ∃ xs : List UInt8, len = xs.length ∧ Cells W a xs ∧ (a = none → cap = 0) ∧ ((d = .nil ∧ xs = []) ∨ ∃ elems spare, d = .slice elems spare ∧ xs.length ≤ elems.length + spare.length) := by
  obtain ⟨fuel, hf⟩ := h
  rcases open_ints ht he hc hf with ⟨hcs, hx⟩ | ⟨x, l, c, zs, hcs, _, hl, hm, hz, hx, hcell, hwz⟩
  · simp [Value.cells] at hcs
    obtain ⟨rfl, rfl, rfl⟩ := hcs
    simp only [Prod.mk.injEq] at hx
    exact ⟨[], rfl, ⟨fun _ => rfl, fun ad had => (by cases had)⟩, fun _ => rfl, .inl ⟨hx.1, rfl⟩⟩
  · simp [Value.cells] at hcs
    obtain ⟨rfl, rfl, rfl⟩ := hcs
    simp only [Prod.mk.injEq] at hx
    have hz' : zs.length = cap := by simpa using hz
    have hlen : ((zs.take len).map fun z => UInt8.ofNat z.toNat).length = len := by simp; omega
    refine ⟨(zs.take len).map fun z => UInt8.ofNat z.toNat, hlen.symm, ⟨fun h => (by cases h), fun ad had i hi => ?_⟩, fun h => (by cases h), .inr ⟨_, _, hx.1, ?_⟩⟩
    · obtain rfl := Option.some.inj had
      rw [hlen] at hi
      have hiz : i < zs.length := by omega
      rw [hcell i hiz]
      have hw := bounds_u8 (hwz (zs[i]) (List.getElem_mem hiz))
      simp only [List.getD_eq_getElem?_getD, List.getElem?_eq_getElem hiz, Option.getD_some, List.getElem_map, List.getElem_take, bv]
      congr 2
      simp
      omega
    · rw [hlen]
      simp [lits]
      omega

theorem bulk_one {H : Type} (d : DataW H) : 1 ≤ Rows.uptoBulk d := by
  unfold Rows.uptoBulk
  split <;> omega

theorem bulk_all {H : Type} (l : List (DataW H)) : l.length ≤ Rows.uptoBulkAll l := by
  induction l with
  | nil => exact Nat.zero_le _
  | cons x r ih =>
    have := bulk_one x
    rw [Rows.uptoBulkAll, List.length_cons]
    omega

/-- A list's places count. -/
theorem bulk_slice {H : Type} (elems spare : List (DataW H)) : elems.length + spare.length + 1 ≤ Rows.uptoBulk (.slice elems spare) := by
  have h1 := bulk_all elems
  have h2 := bulk_all spare
  rw [Rows.uptoBulk]
  omega

/-- A text's letters count. -/
theorem bulk_string {H : Type} (s : ByteArray) : Rows.uptoBulk (DataW.lit (H := H) (.string s.data.toList)) = s.size + 1 := by
  rw [Rows.uptoBulk, Array.length_toList]
  rfl

end Go.Proofs.YtblpmgkagbiogaaGreat
