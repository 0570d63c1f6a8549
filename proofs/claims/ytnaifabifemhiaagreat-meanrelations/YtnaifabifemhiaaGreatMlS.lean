/-
  What chapter 14 says of two numbers laid together and compared. No Go text here.
-/
import Derived.Test.YtnaifabifemhiaaGreatLotP45
namespace Go.Proofs.YtnaifabifemhiaaGreat
open Go.RowKit
set_option maxRecDepth 100000

theorem mstp_frame {s : Sg} (pre st : List Pm) (x : Ng) {a : Nat} (ha : arG x.kind = some a) (h : a ≤ st.length) : stpM s (pre ++ st) x = pre ++ stpM s st x := by
  have hd : (pre ++ st).drop ((pre ++ st).length - a) = st.drop (st.length - a) := by
    rw [List.length_append, show pre.length + st.length - a = pre.length + (st.length - a) by omega, List.drop_append, List.drop_eq_nil_of_le (by omega), List.nil_append, Nat.add_sub_cancel_left]
  have ht : (pre ++ st).take ((pre ++ st).length - a) = pre ++ st.take (st.length - a) := by
    rw [List.length_append, show pre.length + st.length - a = pre.length + (st.length - a) by omega, List.take_append, List.take_of_length_le (by omega), Nat.add_sub_cancel_left]
  unfold stpM
  rw [ha]
  simp only [Option.getD_some]
  rw [hd, ht, List.append_assoc]
theorem mstp_len {s : Sg} (st : List Pm) (x : Ng) {a : Nat} (ha : arG x.kind = some a) (_h : a ≤ st.length) : (stpM s st x).length = st.length - a + 1 := by
  unfold stpM
  rw [ha, List.length_append, List.length_take]
  simp only [Option.getD_some, List.length_singleton]
  omega
theorem mev_frame {s : Sg} : ∀ (t : List Ng) (ps ps' : List Pt) (qs pre : List Pm) (k : Nat), walkG ps k t = .ok ps' → qs.length = ps.length → evalM s (pre ++ qs) t = pre ++ evalM s qs t
  | [], _, _, _, _, _, _, _ => rfl
  | x :: t, ps, ps', qs, pre, k, h, hl => by
    simp only [walkG] at h
    cases e : stepG x ps with
    | error e' => rw [e] at h; cases h
    | ok s1 =>
      rw [e] at h
      obtain ⟨a, ha, hle, -, h1⟩ := mstep_inv e
      have h2 : s1.length = ps.length - a + 1 := by rw [h1, List.length_append, List.length_take, List.length_singleton]; omega
      show evalM s (stpM s (pre ++ qs) x) t = pre ++ evalM s (stpM s qs x) t
      rw [mstp_frame pre qs x ha (by omega)]
      exact mev_frame t s1 ps' _ pre (k + 1) h (by rw [mstp_len qs x ha (by omega)]; omega)

def reN (op : Int) : Ng := ⟨6, op, 0, 0, 0, 0, 0, zeros 16, 0⟩
theorem re_form {op : Int} (h1 : 1 ≤ op) (h2 : op ≤ 6) : formG (reN op) = true := by
  have : op = 1 ∨ op = 2 ∨ op = 3 ∨ op = 4 ∨ op = 5 ∨ op = 6 := by omega
  rcases this with rfl | rfl | rfl | rfl | rfl | rfl <;> rfl
theorem re_step {op : Int} {p q : Pt} (h1 : 1 ≤ op) (h2 : op ≤ 6) (hp : p.truth = false) (hq : q.truth = false) : ∃ r, stepG (reN op) [p, q] = .ok [r] ∧ r.truth = true := by
  have h0 : faultG (reN op) [p, q] = 0 := by
    have hkE : kindE (reN op).kind [p, q] = 0 := kindE_none (fun z hz => by
      rcases List.mem_cons.1 hz with rfl | hz
      · rw [hp]; rfl
      · rw [List.mem_singleton.1 hz, hq]; rfl)
    unfold faultG
    rw [re_form h1 h2, hkE]
    rfl
  refine ⟨joinG (reN op) [p, q], ?_, ?_⟩
  · rw [stepG_good (a := 2) rfl (by simp) (by simpa using h0)]
    rfl
  · rw [joinG_truth]
    rfl
def saidR (E op x y : Int) (v w : Nat) : Int := if E ≠ 0 then 2 else if x = 0 ∨ y = 0 then 0 else if x = 2 ∨ y = 2 then 2 else jdg (cmpM op v w)
/-- MeanRelations. -/
theorem rel_pure {a b : List Ng} {l : Lk} {way : Int} {f : List UInt8} (hna : ∀ x ∈ a, x.n ≤ 4294967295) (hnb : ∀ x ∈ b, x.n ≤ 4294967295) (h1 : refuseM (cmpdM a) l way = 0) (h2 : refuseM (cmpdM b) l way = 0) :
    weightG a ≤ 2991 ∧ weightG b ≤ 2991 ∧ a.length ≤ 2991 ∧ b.length ≤ 2991 ∧ (weightG a + weightG b ≤ 2992 → ∀ op : Int, 1 ≤ op → op ≤ 6 → lawJ (a ++ b ++ [reN op]) l way f = saidR (exE (lookX l f)) op (meanM a l way f).how (meanM b l way f).how (meanM a l way f).val (meanM b l way f).val) := by
  obtain ⟨c1, c2, c3⟩ := refuse_zero h1
  obtain ⟨d1, -, -⟩ := refuse_zero h2
  obtain ⟨p, hwa, hp, hga⟩ := cmpd_iff.1 c1
  obtain ⟨q, hwb, hq, hgb⟩ := cmpd_iff.1 d1
  have hla := walkG_weighs a [] _ 0 hwa
  have hlb := walkG_weighs b [] _ 0 hwb
  refine ⟨hga, hgb, by omega, by omega, fun hw op o1 o2 => ?_⟩
  have hab := two_walk hwa hwb
  obtain ⟨r, hr, hrt⟩ := re_step (p := p) (q := q) o1 o2 hp hq
  have hck := check_snoc_ok hab hr hrt
  have hwt : weightG (a ++ b ++ [reN op]) = weightG a + weightG b + 8 := by simp [weightG, reN, weighG, Nat.add_assoc]
  rw [hwt, if_pos (by omega)] at hck
  rw [law_ok (refuse_ok hck c2 c3)]
  unfold saidR
  cases hl : lookX l f with
  | error e =>
    have := look_err hl
    rw [bne_iff_ne] at this
    rw [mean_bad hl]
    rw [if_pos (by simpa [exE] using this)]
  | ok v =>
    rw [if_neg (by simp [exE])]
    obtain ⟨x, hx, kx⟩ := eval_one (s := ⟨v, way, f⟩) (look_sg way hl).len hna hwa
    obtain ⟨y, hy, ky⟩ := eval_one (s := ⟨v, way, f⟩) (look_sg way hl).len hnb hwb
    have hev : evalM ⟨v, way, f⟩ [] (a ++ b ++ [reN op]) = [⟨relM op x y, 0⟩] := by
      have e1 : evalM ⟨v, way, f⟩ [] (a ++ b ++ [reN op]) = evalM ⟨v, way, f⟩ (evalM ⟨v, way, f⟩ (evalM ⟨v, way, f⟩ [] a) b) [reN op] := by
        unfold evalM
        rw [List.foldl_append, List.foldl_append]
      rw [e1, hx]
      have e2 := mev_frame (s := ⟨v, way, f⟩) b [] [q] [] [x] 0 hwb rfl
      rw [List.append_nil] at e2
      rw [e2, hy]
      rfl
    unfold meanM
    rw [hl]
    simp only [hev, hx, hy, List.getD_cons_zero]
    have hx3 := kx.how
    have hy3 := ky.how
    unfold relM jointM
    rcases hx3 with h | h | h <;> rcases hy3 with h' | h' | h' <;> simp [h, h']
end Go.Proofs.YtnaifabifemhiaaGreat
