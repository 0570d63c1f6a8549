/-
  What chapter 14 says of two numbers laid together and compared. No Go text here. What chapter 14 says of two filters laid together by and, or, not. No Go text here.
-/
import Derived.Test.YtkipmkkikcnejaaGreatLotP45
namespace Go.Proofs.YtkipmkkikcnejaaGreat
open Go.RowKit
set_option maxRecDepth 100000

theorem mstp_frame {s : Sg} (pre st : List Pm) (x : Ng) {a : Nat} (ha : arG x.kind = some a) (h : a ≤ st.length) : stpM s (pre ++ st) x = pre ++ stpM s st x := by
  have hd : (pre ++ st).drop ((pre ++ st).length - a) = st.drop (st.length - a) := by
    rw [List.length_append, show pre.length + st.length - a = pre.length + (st.length - a) by omega, List.drop_append, List.drop_eq_nil_of_le (by omega), List.nil_append, Nat.add_sub_cancel_left]
  have ht : (pre ++ st).take ((pre ++ st).length - a) = pre ++ st.take (st.length - a) := by
    rw [List.length_append, show pre.length + st.length - a = pre.length + (st.length - a) by omega, List.take_append, List.take_of_length_le (by omega), Nat.add_sub_cancel_left]
  unfold stpM
  rw [ha]
  simp only [Option.getD_some]
  rw [hd, ht, List.append_assoc]
theorem mstp_len {s : Sg} (st : List Pm) (x : Ng) {a : Nat} (ha : arG x.kind = some a) (_h : a ≤ st.length) : (stpM s st x).length = st.length - a + 1 := by
  unfold stpM
  rw [ha, List.length_append, List.length_take]
  simp only [Option.getD_some, List.length_singleton]
  omega
theorem mev_frame {s : Sg} : ∀ (t : List Ng) (ps ps' : List Pt) (qs pre : List Pm) (k : Nat), walkG ps k t = .ok ps' → qs.length = ps.length → evalM s (pre ++ qs) t = pre ++ evalM s qs t
  | [], _, _, _, _, _, _, _ => rfl
  | x :: t, ps, ps', qs, pre, k, h, hl => by
    simp only [walkG] at h
    cases e : stepG x ps with
    | error e' => rw [e] at h; cases h
    | ok s1 =>
      rw [e] at h
      obtain ⟨a, ha, hle, -, h1⟩ := mstep_inv e
      have h2 : s1.length = ps.length - a + 1 := by rw [h1, List.length_append, List.length_take, List.length_singleton]; omega
      show evalM s (stpM s (pre ++ qs) x) t = pre ++ evalM s (stpM s qs x) t
      rw [mstp_frame pre qs x ha (by omega)]
      exact mev_frame t s1 ps' _ pre (k + 1) h (by rw [mstp_len qs x ha (by omega)]; omega)

def reN (op : Int) : Ng := ⟨6, op, 0, 0, 0, 0, 0, zeros 16, 0⟩
theorem re_form {op : Int} (h1 : 1 ≤ op) (h2 : op ≤ 6) : formG (reN op) = true := by
  have : op = 1 ∨ op = 2 ∨ op = 3 ∨ op = 4 ∨ op = 5 ∨ op = 6 := by omega
  rcases this with rfl | rfl | rfl | rfl | rfl | rfl <;> rfl
theorem re_step {op : Int} {p q : Pt} (h1 : 1 ≤ op) (h2 : op ≤ 6) (hp : p.truth = false) (hq : q.truth = false) : ∃ r, stepG (reN op) [p, q] = .ok [r] ∧ r.truth = true := by
  have h0 : faultG (reN op) [p, q] = 0 := by
    have hkE : kindE (reN op).kind [p, q] = 0 := kindE_none (fun z hz => by
      rcases List.mem_cons.1 hz with rfl | hz
      · rw [hp]; rfl
      · rw [List.mem_singleton.1 hz, hq]; rfl)
    unfold faultG
    rw [re_form h1 h2, hkE]
    rfl
  refine ⟨joinG (reN op) [p, q], ?_, ?_⟩
  · rw [stepG_good (a := 2) rfl (by simp) (by simpa using h0)]
    rfl
  · rw [joinG_truth]
    rfl
def saidR (E op x y : Int) (v w : Nat) : Int := if E ≠ 0 then 2 else if x = 0 ∨ y = 0 then 0 else if x = 2 ∨ y = 2 then 2 else jdg (cmpM op v w)
/-- MeanRelations. -/
theorem rel_pure {a b : List Ng} {l : Lk} {way : Int} {f : List UInt8} (hna : ∀ x ∈ a, x.n ≤ 4294967295) (hnb : ∀ x ∈ b, x.n ≤ 4294967295) (h1 : refuseM (cmpdM a) l way = 0) (h2 : refuseM (cmpdM b) l way = 0) :
    weightG a ≤ 2991 ∧ weightG b ≤ 2991 ∧ a.length ≤ 2991 ∧ b.length ≤ 2991 ∧ (weightG a + weightG b ≤ 2992 → ∀ op : Int, 1 ≤ op → op ≤ 6 → lawJ (a ++ b ++ [reN op]) l way f = saidR (exE (lookX l f)) op (meanM a l way f).how (meanM b l way f).how (meanM a l way f).val (meanM b l way f).val) := by
  obtain ⟨c1, c2, c3⟩ := refuse_zero h1
  obtain ⟨d1, -, -⟩ := refuse_zero h2
  obtain ⟨p, hwa, hp, hga⟩ := cmpd_iff.1 c1
  obtain ⟨q, hwb, hq, hgb⟩ := cmpd_iff.1 d1
  have hla := walkG_weighs a [] _ 0 hwa
  have hlb := walkG_weighs b [] _ 0 hwb
  refine ⟨hga, hgb, by omega, by omega, fun hw op o1 o2 => ?_⟩
  have hab := two_walk hwa hwb
  obtain ⟨r, hr, hrt⟩ := re_step (p := p) (q := q) o1 o2 hp hq
  have hck := check_snoc_ok hab hr hrt
  have hwt : weightG (a ++ b ++ [reN op]) = weightG a + weightG b + 8 := by simp [weightG, reN, weighG, Nat.add_assoc]
  rw [hwt, if_pos (by omega)] at hck
  rw [law_ok (refuse_ok hck c2 c3)]
  unfold saidR
  cases hl : lookX l f with
  | error e =>
    have := look_err hl
    rw [bne_iff_ne] at this
    rw [mean_bad hl]
    rw [if_pos (by simpa [exE] using this)]
  | ok v =>
    rw [if_neg (by simp [exE])]
    obtain ⟨x, hx, kx⟩ := eval_one (s := ⟨v, way, f⟩) (look_sg way hl).len hna hwa
    obtain ⟨y, hy, ky⟩ := eval_one (s := ⟨v, way, f⟩) (look_sg way hl).len hnb hwb
    have hev : evalM ⟨v, way, f⟩ [] (a ++ b ++ [reN op]) = [⟨relM op x y, 0⟩] := by
      have e1 : evalM ⟨v, way, f⟩ [] (a ++ b ++ [reN op]) = evalM ⟨v, way, f⟩ (evalM ⟨v, way, f⟩ (evalM ⟨v, way, f⟩ [] a) b) [reN op] := by
        unfold evalM
        rw [List.foldl_append, List.foldl_append]
      rw [e1, hx]
      have e2 := mev_frame (s := ⟨v, way, f⟩) b [] [q] [] [x] 0 hwb rfl
      rw [List.append_nil] at e2
      rw [e2, hy]
      rfl
    unfold meanM
    rw [hl]
    simp only [hev, hx, hy, List.getD_cons_zero]
    have hx3 := kx.how
    have hy3 := ky.how
    unfold relM jointM
    rcases hx3 with h | h | h <;> rcases hy3 with h' | h' | h' <;> simp [h, h']
end Go.Proofs.YtkipmkkikcnejaaGreat

namespace Go.Proofs.YtkipmkkikcnejaaGreat
open Go.RowKit
set_option maxRecDepth 100000

/-- A list that is walked to one part, as chapter 14 takes it: what it says over whatever stands below. -/
structure Tr14 (t : List Ng) (s : Sg) (x : Int) : Prop where
  walk : ∃ p : Pt, walkG [] 0 t = .ok [p] ∧ p.truth = true
  eval : ∀ st : List Pm, evalM s (st ++ []) t = st ++ [⟨x, 0⟩]

theorem tr_of {t : List Ng} {s : Sg} {p : Pt} (hb : s.b.length ≤ 65535) (hn : ∀ x ∈ t, x.n ≤ 4294967295) (hw : walkG [] 0 t = .ok [p]) (hp : p.truth = true) : ∃ x, Hw x ∧ Tr14 t s x ∧ (evalM s [] t).getD 0 pm0 = ⟨x, 0⟩ := by
  obtain ⟨q, hq, k⟩ := eval_one hb hn hw
  have hv := k.truth hp
  have e : q = ⟨q.how, 0⟩ := by cases q; simp only at hv; rw [hv]
  refine ⟨q.how, k.how, ⟨⟨p, hw, hp⟩, fun st => ?_⟩, by rw [hq]; exact e⟩
  rw [mev_frame (s := s) t [] [p] [] st 0 hw rfl, hq, ← e]
theorem Tr14.mean {t : List Ng} {l : Lk} {way : Int} {b : List UInt8} {v : Vw} {x : Int} (hl : lookX l b = .ok v) (h : Tr14 t ⟨v, way, b⟩ x) : (meanM t l way b).how = x := by
  have := h.eval []
  simp only [List.nil_append] at this
  unfold meanM
  rw [hl]
  simp only [this]
  rfl
theorem Tr14.two {t u : List Ng} {s : Sg} {x y : Int} (h : Tr14 t s x) (k : Tr14 u s y) (n : Ng) (hn : n = adN ∨ n = orN) : Tr14 (t ++ u ++ [n]) s (if n.kind = 7 then andM x y else orM x y) := by
  obtain ⟨p, hp, hp2⟩ := h.walk
  obtain ⟨q, hq, hq2⟩ := k.walk
  have hw := two_walk hp hq
  constructor
  · obtain ⟨r, hr, hr2⟩ := step_two (x := n) (p := p) (q := q) (by rcases hn with rfl | rfl <;> decide) (by rcases hn with rfl | rfl <;> rfl) hp2 hq2
    exact ⟨r, by rw [walkG_snoc n hw, hr], hr2⟩
  · intro st
    have e1 : evalM s (st ++ []) (t ++ u ++ [n]) = evalM s (evalM s (evalM s (st ++ []) t) u) [n] := by
      unfold evalM
      rw [List.foldl_append, List.foldl_append]
    have e2 := k.eval (st ++ [⟨x, 0⟩])
    rw [List.append_nil] at e2
    rw [e1, h.eval st, e2]
    show stpM s (st ++ [⟨x, 0⟩] ++ [⟨y, 0⟩]) n = _
    rw [List.append_assoc, mstp_frame (a := 2) st _ n (by rcases hn with rfl | rfl <;> rfl) (by simp)]
    rcases hn with rfl | rfl <;> rfl
theorem Tr14.not {t : List Ng} {s : Sg} {x : Int} (h : Tr14 t s x) : Tr14 (t ++ [noN]) s (notM x) := by
  obtain ⟨p, hp, hp2⟩ := h.walk
  constructor
  · obtain ⟨r, hr, hr2⟩ := step_one (p := p) hp2
    exact ⟨r, by rw [walkG_snoc noN hp, hr], hr2⟩
  · intro st
    have e1 : evalM s (st ++ []) (t ++ [noN]) = evalM s (evalM s (st ++ []) t) [noN] := by
      unfold evalM
      rw [List.foldl_append]
    rw [e1, h.eval st]
    show stpM s (st ++ [⟨x, 0⟩]) noN = _
    rw [mstp_frame (a := 1) st _ noN rfl (by simp)]
    rfl
theorem wt_one (t : List Ng) (n : Ng) (hn : n = adN ∨ n = orN ∨ n = noN) : weightG (t ++ [n]) = weightG t + 1 := by
  rcases hn with rfl | rfl | rfl <;> simp [weightG, adN, orN, noN, weighG]
theorem wt_two (t u : List Ng) : weightG (t ++ u) = weightG t + weightG u := by simp [weightG]
theorem tr_law {t : List Ng} {l : Lk} {way : Int} {b : List UInt8} (hw : ∃ p : Pt, walkG [] 0 t = .ok [p] ∧ p.truth = true) (hg : weightG t ≤ 3000) (h2 : checkF l = 0) (h3 : way = 0 ∨ way = 1) : lawJ t l way b = (meanM t l way b).how := by
  obtain ⟨p, hp, hp2⟩ := hw
  exact law_ok (refuse_ok (filt_iff.2 ⟨p, hp, hp2, hg⟩) h2 h3)
theorem not_two {x : Int} (h : Hw x) : notM (notM x) = x := by rcases h with rfl | rfl | rfl <;> rfl
theorem de_morgan {x y : Int} (h : Hw x) (k : Hw y) : notM (orM (notM x) (notM y)) = andM x y := by
  rcases h with rfl | rfl | rfl <;> rcases k with rfl | rfl | rfl <;> rfl

/-- MeanTruths. -/
theorem truths_pure {t u : List Ng} {l : Lk} {way : Int} {b : List UInt8} (hn : ∀ x ∈ t, x.n ≤ 4294967295) (hm : ∀ x ∈ u, x.n ≤ 4294967295) (h1 : ¬ lawJ t l way b < 0) (h2 : ¬ lawJ u l way b < 0) :
    weightG t ≤ 3000 ∧ weightG u ≤ 3000 ∧ t.length ≤ 3000 ∧ u.length ≤ 3000 ∧ Hw (lawJ t l way b) ∧ Hw (lawJ u l way b) ∧ (weightG t + weightG u ≤ 2995 →
      lawJ (t ++ u ++ [adN]) l way b = andM (lawJ t l way b) (lawJ u l way b) ∧ lawJ (t ++ u ++ [orN]) l way b = orM (lawJ t l way b) (lawJ u l way b) ∧ lawJ (t ++ [noN]) l way b = notM (lawJ t l way b) ∧
      lawJ (t ++ [noN] ++ [noN]) l way b = lawJ t l way b ∧ lawJ (t ++ [noN] ++ (u ++ [noN]) ++ [orN] ++ [noN]) l way b = andM (lawJ t l way b) (lawJ u l way b)) := by
  have hr : refuseM t l way = 0 := by
    unfold lawJ at h1
    split at h1
    · omega
    · rename_i hh; omega
  have hk : refuseM u l way = 0 := by
    unfold lawJ at h2
    split at h2
    · omega
    · rename_i hh; omega
  obtain ⟨c1, c2, c3⟩ := refuse_zero hr
  obtain ⟨d1, -, -⟩ := refuse_zero hk
  obtain ⟨p, wa, pa, ga⟩ := filt_iff.1 c1
  obtain ⟨q, wb, qb, gb⟩ := filt_iff.1 d1
  have la := walkG_weighs t [] _ 0 wa
  have lb := walkG_weighs u [] _ 0 wb
  refine ⟨ga, gb, by omega, by omega, law_how hn hr, law_how hm hk, fun hw => ?_⟩
  rw [law_ok hr, law_ok hk]
  -- walks of the five lists, over whatever there is
  have key : ∀ (s : Sg) (x y : Int), Tr14 t s x → Tr14 u s y → Tr14 (t ++ u ++ [adN]) s (andM x y) ∧ Tr14 (t ++ u ++ [orN]) s (orM x y) ∧ Tr14 (t ++ [noN]) s (notM x) ∧ Tr14 (t ++ [noN] ++ [noN]) s (notM (notM x)) ∧ Tr14 (t ++ [noN] ++ (u ++ [noN]) ++ [orN] ++ [noN]) s (notM (orM (notM x) (notM y))) := fun s x y h k => by
    refine ⟨?_, ?_, h.not, h.not.not, ?_⟩
    · have := h.two k adN (.inl rfl)
      rwa [if_pos (show adN.kind = 7 from rfl)] at this
    · have := h.two k orN (.inr rfl)
      rwa [if_neg (show ¬ orN.kind = 7 by decide)] at this
    · have := (h.not.two k.not orN (.inr rfl)).not
      rwa [if_neg (show ¬ orN.kind = 7 by decide)] at this
  obtain ⟨x0, -, tx0, -⟩ := tr_of (s := ⟨Vw.zero, 0, []⟩) (by simp) hn wa pa
  obtain ⟨y0, -, ty0, -⟩ := tr_of (s := ⟨Vw.zero, 0, []⟩) (by simp) hm wb qb
  obtain ⟨r1, r2, r3, r4, r5⟩ := key _ _ _ tx0 ty0
  have g1 : weightG (t ++ u ++ [adN]) ≤ 3000 := by rw [wt_one _ _ (.inl rfl), wt_two]; omega
  have g2 : weightG (t ++ u ++ [orN]) ≤ 3000 := by rw [wt_one _ _ (.inr (.inl rfl)), wt_two]; omega
  have g3 : weightG (t ++ [noN]) ≤ 3000 := by rw [wt_one _ _ (.inr (.inr rfl))]; omega
  have g4 : weightG (t ++ [noN] ++ [noN]) ≤ 3000 := by rw [wt_one _ _ (.inr (.inr rfl)), wt_one _ _ (.inr (.inr rfl))]; omega
  have g5 : weightG (t ++ [noN] ++ (u ++ [noN]) ++ [orN] ++ [noN]) ≤ 3000 := by rw [wt_one _ _ (.inr (.inr rfl)), wt_one _ _ (.inr (.inl rfl)), wt_two, wt_one _ _ (.inr (.inr rfl)), wt_one _ _ (.inr (.inr rfl))]; omega
  rw [tr_law r1.walk g1 c2 c3, tr_law r2.walk g2 c2 c3, tr_law r3.walk g3 c2 c3, tr_law r4.walk g4 c2 c3, tr_law r5.walk g5 c2 c3]
  cases hl : lookX l b with
  | error e => simp only [mean_bad hl]; exact ⟨rfl, rfl, rfl, trivial, rfl⟩
  | ok v =>
    obtain ⟨x, hx, tx, -⟩ := tr_of (s := ⟨v, way, b⟩) (look_sg way hl).len hn wa pa
    obtain ⟨y, hy, ty, -⟩ := tr_of (s := ⟨v, way, b⟩) (look_sg way hl).len hm wb qb
    obtain ⟨q1, q2, q3, q4, q5⟩ := key _ _ _ tx ty
    rw [q1.mean hl, q2.mean hl, q3.mean hl, q4.mean hl, q5.mean hl, tx.mean hl, ty.mean hl, not_two hx, de_morgan hx hy]
    exact ⟨rfl, rfl, rfl, rfl, rfl⟩
end Go.Proofs.YtkipmkkikcnejaaGreat
