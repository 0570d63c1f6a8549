/-
  Hosts, nets and ports of either side. No Go text here. Law MeanMade without Go: what a frame that was made says.
-/
import Derived.Test.YtnojpepjloceoaaGreatLotP44
import Derived.Test.YtnojpepjloceoaaGreatLotP20
import Derived.Test.YtnojpepjloceoaaGreatLotP18
import Derived.Test.YtnojpepjloceoaaGreatLotP3
namespace Go.Proofs.YtnojpepjloceoaaGreat
open Go.RowKit
set_option maxRecDepth 100000

def sdN (s : Int) (x : Ng) : Ng := ⟨x.kind, x.op, x.n, x.m, x.size, x.of, s, x.addr, x.bits⟩
def ntN (x : Ng) (b : Int) : Ng := ⟨15, x.op, x.n, x.m, x.size, x.of, 0, x.addr, b⟩
def n0N (of : Int) : Ng := ⟨15, 0, 0, 0, 0, of, 0, zeros 16, 0⟩
def wdN (of : Int) : Ng := ⟨11, 0, 0, 0, 0, of, 0, zeros 16, 0⟩

theorem ar_leaf {x : Ng} (h1 : 10 ≤ x.kind) (h2 : x.kind ≤ 16) : arG x.kind = some 0 := by
  unfold arG
  rw [if_neg (by omega), if_neg (by omega), if_pos (by omega)]
theorem weigh_leaf (x : Ng) : weighG x ≤ 80 := by
  unfold weighG
  repeat' split
  all_goals omega
theorem leaf_step {x : Ng} (h1 : 10 ≤ x.kind) (h2 : x.kind ≤ 16) : stepG x [] = if faultG x [] ≠ 0 then .error (faultG x []) else .ok [joinG x []] := by
  unfold stepG
  rw [ar_leaf h1 h2]
  rfl
theorem leaf_fault {x : Ng} (h1 : 10 ≤ x.kind) : faultG x [] = if formG x = false then 120 else rangeE x := by
  unfold faultG
  have k : kindE x.kind [] = 0 := rfl
  have z : zeroE x [] = false := by
    unfold zeroE
    rw [decide_eq_false (show ¬ x.kind = 4 by omega)]
    rfl
  rw [k, z]
  simp
theorem leaf_truth {x : Ng} (h1 : 10 ≤ x.kind) : (joinG x []).truth = true := by
  have ht : truthG x.kind = true := decide_eq_true (by omega)
  unfold joinG
  split
  · split <;> exact ht
  · exact ht
theorem leaf_iff {x : Ng} (h1 : 10 ≤ x.kind) (h2 : x.kind ≤ 16) : (checkG [x]).2 = 0 ↔ formG x = true ∧ rangeE x = 0 := by
  rw [filt_iff]
  constructor
  · rintro ⟨p, hw, -, -⟩
    simp only [walkG, leaf_step h1 h2] at hw
    by_cases hf : faultG x [] = 0
    · rw [leaf_fault h1] at hf
      cases hfm : formG x with
      | false => rw [hfm] at hf; simp at hf
      | true => rw [hfm] at hf; exact ⟨rfl, by simpa using hf⟩
    · rw [if_pos hf] at hw
      cases hw
  · rintro ⟨hf, hr⟩
    have h0 : faultG x [] = 0 := by rw [leaf_fault h1, hf, hr]; rfl
    refine ⟨joinG x [], ?_, leaf_truth h1, ?_⟩
    · simp only [walkG, leaf_step h1 h2, h0, ne_eq, not_true_eq_false, if_false]
    · have := weigh_leaf x
      simp only [weightG, List.map_cons, List.map_nil, List.sum_cons, List.sum_nil]
      omega
theorem leaf_tr {x : Ng} (h1 : 10 ≤ x.kind) (h2 : x.kind ≤ 16) (hc : (checkG [x]).2 = 0) (s : Sg) : Tr14 [x] s (truthM s x) := by
  obtain ⟨p, hw, hp, -⟩ := filt_iff.1 hc
  refine ⟨⟨p, hw, hp⟩, fun st => ?_⟩
  show stpM s (st ++ []) x = _
  rw [List.append_nil]
  unfold stpM
  rw [ar_leaf h1 h2]
  simp only [Option.getD_some, Nat.sub_zero, List.take_length]
  congr 2
  unfold overM
  rw [if_neg (by omega), if_neg (by omega), if_neg (by omega), if_neg (by omega), if_neg (by omega), if_neg (by omega), if_neg (by omega), if_neg (by omega), if_neg (by omega)]
theorem leaf_law {x : Ng} {l : Lk} {way : Int} {b : List UInt8} (h1 : 10 ≤ x.kind) (h2 : x.kind ≤ 16) (hc : (checkG [x]).2 = 0) (hl : checkF l = 0) (hw : way = 0 ∨ way = 1) : lawJ [x] l way b = match lookX l b with | .error _ => 2 | .ok v => truthM ⟨v, way, b⟩ x := by
  rw [law_ok (refuse_ok hc hl hw)]
  cases hk : lookX l b with
  | error e => rw [mean_bad hk]
  | ok v => exact (leaf_tr h1 h2 hc ⟨v, way, b⟩).mean hk

theorem sd_form {x : Ng} (hk : x.kind = 14 ∨ x.kind = 15 ∨ x.kind = 16) (h : formG (sdN 0 x) = true) (s : Int) (hs : s = 1 ∨ s = 2) : formG (sdN s x) = true := by
  obtain ⟨k, op, n, m, size, of, side, addr, bits⟩ := x
  simp only at hk
  rcases hk with rfl | rfl | rfl <;> rcases hs with rfl | rfl <;> (simp [formG, sameG, useG, mayG, hostG, inG, sdN, adgs] at h ⊢; exact h)
theorem sd_range (x : Ng) (s : Int) : rangeE (sdN s x) = rangeE x := rfl
theorem host_of {x : Ng} (hk : x.kind = 14) (h : formG (sdN 0 x) = true) : x.of = 2 ∨ x.of = 3 := by
  have h2 := (Bool.and_eq_true_iff.1 h).2
  unfold mayG at h2
  have e : (sdN 0 x).kind = 14 := hk
  rw [if_neg (by omega), if_neg (by omega), if_neg (by omega), if_neg (by omega), if_neg (by omega), if_neg (by omega), if_pos (.inl e)] at h2
  unfold hostG at h2
  have h3 := (Bool.and_eq_true_iff.1 (Bool.and_eq_true_iff.1 h2).1).1
  unfold inG at h3
  have h4 := Bool.and_eq_true_iff.1 h3
  have h5 : 2 ≤ x.of := of_decide_eq_true h4.1
  have h6 : x.of ≤ 3 := of_decide_eq_true h4.2
  omega
theorem nt_form {x : Ng} (hk : x.kind = 14) (h : formG (sdN 0 x) = true) (b : Int) : formG (ntN x b) = true := by
  obtain ⟨k, op, n, m, size, of, side, addr, bits⟩ := x
  simp only at hk
  subst hk
  simp [formG, sameG, useG, mayG, hostG, inG, sdN, ntN, adgs] at h ⊢
  obtain ⟨h1, h2⟩ := h
  refine ⟨?_, h2⟩
  revert h1
  simp only [and_imp]
  intros
  simp_all
theorem addr_long (x : Ng) (h : x.of = 2 ∨ x.of = 3) : (addrG x).length = longM x.of := by
  unfold addrG longM
  rcases h with h | h <;> rw [h] <;> rfl
theorem nt_range {x : Ng} (h : x.of = 2 ∨ x.of = 3) : rangeE (ntN x (8 * (longM x.of : Int))) = 0 := by
  have hl : (addrG (ntN x (8 * (longM x.of : Int)))).length = longM x.of := addr_long (ntN x (8 * (longM x.of : Int))) h
  show (if ¬ (0 ≤ 8 * (longM x.of : Int) ∧ 8 * (longM x.of : Int) ≤ 8 * ((addrG (ntN x (8 * (longM x.of : Int)))).length : Int)) then (124 : Int) else if maskV (8 * (longM x.of : Int)).toNat (addrG (ntN x (8 * (longM x.of : Int)))) = addrG (ntN x (8 * (longM x.of : Int))) then 0 else 125) = 0
  rw [if_neg (by rw [hl]; omega), if_pos (mask_all _ _ (by rw [hl]; omega))]
theorem n0_check {of : Int} (h : of = 2 ∨ of = 3) : (checkG [n0N of]).2 = 0 := by
  rcases h with rfl | rfl <;> kernel_rfl
theorem wd_check {of : Int} (h : of = 2 ∨ of = 3) : (checkG [wdN of]).2 = 0 := by
  rcases h with rfl | rfl <;> kernel_rfl
theorem n0_truth {s : Sg} (H : MSgOk s) {of : Int} (h : of = 2 ∨ of = 3) : truthM s (n0N of) = truthM s (wdN of) := by
  have e2 : truthM s (wdN of) = jdg (wordM s.v of) := rfl
  have e1 : truthM s (n0N of) = withinM s (n0N of) 0 := rfl
  have eb : baseM s.v of = (s.v.pos, wordM s.v of) := by
    unfold baseM
    rw [if_neg (by omega), if_neg (by omega)]
  have hof : (n0N of).of = of := rfl
  rw [e1, e2]
  unfold withinM
  rw [hof, eb]
  cases hw : wordM s.v of with
  | false => rfl
  | true =>
    have hal : ∀ p, p + longM of ≤ s.b.length → alikeM s.b p (addrG (n0N of)) 0 = true := by
      intro p hp
      have hl : (addrG (n0N of)).length = longM of := addr_long (n0N of) h
      unfold alikeM
      refine decide_eq_true ?_
      refine mask_0 _ _ ?_
      rw [List.length_take, List.length_drop, hl]
      omega
    have hb : s.v.pos + srcM of + longM of ≤ s.b.length := by
      rcases h with rfl | rfl
      · have : s.v.net = 4 := by
          have : wordM s.v 2 = decide (s.v.net = 4) := rfl
          rw [this] at hw
          exact of_decide_eq_true hw
        have := H.four this
        show s.v.pos + 12 + 4 ≤ _
        omega
      · have : s.v.net = 6 := by
          have : wordM s.v 3 = decide (s.v.net = 6) := rfl
          rw [this] at hw
          exact of_decide_eq_true hw
        have := H.six this
        show s.v.pos + 8 + 16 ≤ _
        omega
    simp only [Bool.true_eq_false, if_false]
    rw [hal _ hb]
    show sidedM 0 (jdg true) _ = jdg true
    rfl

theorem sides_truth (s : Sg) {x : Ng} (hk : x.kind = 14 ∨ x.kind = 15 ∨ x.kind = 16) : truthM s (sdN 0 x) = orM (truthM s (sdN 1 x)) (truthM s (sdN 2 x)) := by
  have hw : ∀ b, withinM s (sdN 0 x) b = orM (withinM s (sdN 1 x) b) (withinM s (sdN 2 x) b) := by
    intro b
    unfold withinM
    have e : ∀ t, (sdN t x).of = x.of := fun _ => rfl
    simp only [e]
    split
    · rfl
    · rfl
  have hp : portsM s (sdN 0 x) = orM (portsM s (sdN 1 x)) (portsM s (sdN 2 x)) := by
    unfold portsM
    have e : ∀ t, (sdN t x).of = x.of := fun _ => rfl
    simp only [e]
    split
    · rfl
    · rfl
  have ht : ∀ t, truthM s (sdN t x) = if x.kind = 14 then withinM s (sdN t x) (8 * (longM x.of : Int)) else if x.kind = 15 then withinM s (sdN t x) x.bits else portsM s (sdN t x) := fun t => by
    have e : (sdN t x).kind = x.kind := rfl
    unfold truthM
    rw [e, if_neg (by omega), if_neg (by omega), if_neg (by omega), if_neg (by omega)]
    rfl
  rw [ht, ht, ht]
  split
  · exact hw _
  · split
    · exact hw _
    · exact hp

/-- MeanSides. -/
theorem sides_pure {x : Ng} {l : Lk} {way : Int} {b : List UInt8} (hk : x.kind = 14 ∨ x.kind = 15 ∨ x.kind = 16) (h : ¬ lawJ [sdN 0 x] l way b < 0) :
    lawJ [sdN 1 x, sdN 2 x, orN] l way b = lawJ [sdN 0 x] l way b ∧ (x.kind = 14 → lawJ [ntN x (8 * (if x.of = 3 then 16 else 4))] l way b = lawJ [sdN 0 x] l way b ∧ lawJ [n0N x.of] l way b = lawJ [wdN x.of] l way b) := by
  have hr : refuseM [sdN 0 x] l way = 0 := by
    unfold lawJ at h
    split at h
    · omega
    · rename_i hh; omega
  obtain ⟨c1, c2, c3⟩ := refuse_zero hr
  have k1 : ∀ t, 10 ≤ (sdN t x).kind := fun t => by show 10 ≤ x.kind; omega
  have k2 : ∀ t, (sdN t x).kind ≤ 16 := fun t => by show x.kind ≤ 16; omega
  obtain ⟨f1, f2⟩ := (leaf_iff (k1 0) (k2 0)).1 c1
  have d1 : (checkG [sdN 1 x]).2 = 0 := (leaf_iff (k1 1) (k2 1)).2 ⟨sd_form hk f1 1 (.inl rfl), f2⟩
  have d2 : (checkG [sdN 2 x]).2 = 0 := (leaf_iff (k1 2) (k2 2)).2 ⟨sd_form hk f1 2 (.inr rfl), f2⟩
  constructor
  · have tw := fun s => (leaf_tr (k1 1) (k2 1) d1 s).two (leaf_tr (k1 2) (k2 2) d2 s) orN (.inr rfl)
    have hwt : weightG [sdN 1 x, sdN 2 x, orN] ≤ 3000 := by
      have h1 := weigh_leaf (sdN 1 x)
      have h2 := weigh_leaf (sdN 2 x)
      have h3 := weigh_leaf orN
      simp only [weightG, List.map_cons, List.map_nil, List.sum_cons, List.sum_nil]
      omega
    rw [leaf_law (k1 0) (k2 0) c1 c2 c3, tr_law (t := [sdN 1 x, sdN 2 x, orN]) (tw ⟨⟨0, false, false, false, 0, 0, 0, 0, 0⟩, 0, []⟩).walk hwt c2 c3]
    cases hl : lookX l b with
    | error e => rw [mean_bad hl]
    | ok v =>
      have := (tw ⟨v, way, b⟩).mean hl
      show _ = truthM ⟨v, way, b⟩ (sdN 0 x)
      rw [sides_truth _ hk]
      exact this
  · intro h14
    have hof := host_of h14 f1
    have hlo : (if x.of = 3 then (16 : Int) else 4) = (longM x.of : Int) := by
      unfold longM
      rcases hof with e | e <;> rw [e] <;> rfl
    rw [hlo]
    have d3 : (checkG [ntN x (8 * (longM x.of : Int))]).2 = 0 := (leaf_iff (by show (10 : Int) ≤ 15; omega) (by show (15 : Int) ≤ 16; omega)).2 ⟨nt_form h14 f1 _, nt_range hof⟩
    constructor
    · rw [leaf_law (k1 0) (k2 0) c1 c2 c3, leaf_law (by show (10 : Int) ≤ 15; omega) (by show (15 : Int) ≤ 16; omega) d3 c2 c3]
      cases hl : lookX l b with
      | error e => rfl
      | ok v =>
        have e1 : truthM ⟨v, way, b⟩ (sdN 0 x) = withinM ⟨v, way, b⟩ (sdN 0 x) (8 * (longM x.of : Int)) := by
          unfold truthM
          have e : (sdN 0 x).kind = 14 := h14
          rw [if_neg (by omega), if_neg (by omega), if_neg (by omega), if_neg (by omega), if_pos e]
          rfl
        show _ = truthM ⟨v, way, b⟩ (sdN 0 x)
        rw [e1]
        rfl
    · rw [leaf_law (by show (10 : Int) ≤ 15; omega) (by show (15 : Int) ≤ 16; omega) (n0_check hof) c2 c3, leaf_law (by show (10 : Int) ≤ 11; omega) (by show (11 : Int) ≤ 16; omega) (wd_check hof) c2 c3]
      cases hl : lookX l b with
      | error e => rfl
      | ok v => exact n0_truth (look_sg way hl) hof

end Go.Proofs.YtnojpepjloceoaaGreat

namespace Go.Proofs.YtnojpepjloceoaaGreat
open Go.RowKit
set_option maxRecDepth 100000

/-- The carrier that was asked for. -/
def netM (s : Sp) : Int := if ipB s = true then (if s.proto = 33 then 2 else 3) else 0
def prM (s : Sp) : Nat := if saidB s = true then s.proto else 61
def tcpM (s : Sp) : Bool := (netM s != 0) && (s.next == 6)
def udpM (s : Sp) : Bool := (netM s != 0) && (s.next == 17)
def prN (n : Nat) : Ng := ⟨12, 0, n, 0, 0, 0, 0, zeros 16, 0⟩
def hsN (of side : Int) (ad : List UInt8) : Ng := ⟨14, 0, 0, 0, 0, of, side, ad, 0⟩
def nxN (of : Int) (n : Nat) : Ng := ⟨13, 0, n, 0, 0, of, 0, zeros 16, 0⟩
def ptN (of side : Int) (n m : Nat) : Ng := ⟨16, 0, n, m, 0, of, side, zeros 16, 0⟩

theorem made_words (l : Lk) (s : Sp) (F : Fits l s) : wordM (madeV l s) 2 = decide (netM s = 2) ∧ wordM (madeV l s) 3 = decide (netM s = 3) ∧ wordM (madeV l s) 13 = s.multi ∧ wordM (madeV l s) 4 = tcpM s ∧ wordM (madeV l s) 5 = udpM s ∧ wordM (madeV l s) 8 = decide (prM s = 49185) := by
  have hn := F.next
  have e6 : (s.next.toNat = 6) = (s.next = 6) := by
    apply propext
    omega
  have e17 : (s.next.toNat = 17) = (s.next = 17) := by
    apply propext
    omega
  refine ⟨?_, ?_, rfl, ?_, ?_, rfl⟩
  · show decide ((madeV l s).net = 4) = _
    unfold madeV netM
    cases hi : ipB s <;> by_cases h : s.proto = 33 <;> simp [h]
  · show decide ((madeV l s).net = 6) = _
    unfold madeV netM
    cases hi : ipB s <;> by_cases h : s.proto = 33 <;> simp [h]
  · show (decide ((madeV l s).net ≠ 0) && decide ((madeV l s).next = 6)) = _
    unfold madeV tcpM netM
    cases hi : ipB s <;> by_cases h : s.proto = 33 <;> simp [h, e6] <;> rfl
  · show (decide ((madeV l s).net ≠ 0) && decide ((madeV l s).next = 17)) = _
    unfold madeV udpM netM
    cases hi : ipB s <;> by_cases h : s.proto = 33 <;> simp [h, e17] <;> rfl

theorem net_cases (s : Sp) : netM s = 0 ∧ ipB s = false ∨ netM s = 2 ∧ ipB s = true ∧ s.proto = 33 ∨ netM s = 3 ∧ ipB s = true ∧ s.proto = 87 := by
  unfold netM
  cases hi : ipB s with
  | false => exact .inl ⟨rfl, rfl⟩
  | true =>
    have hpp : s.proto = 33 ∨ s.proto = 87 := by
      simp only [ipB, Bool.and_eq_true, Bool.or_eq_true, beq_iff_eq] at hi
      exact hi.2
    rcases hpp with h | h
    · exact .inr (.inl ⟨by rw [if_pos rfl, if_pos h], rfl, h⟩)
    · exact .inr (.inr ⟨by rw [if_pos rfl, if_neg (by omega)], rfl, h⟩)

theorem drop_at (a b : List UInt8) (i : Nat) : (a ++ b).drop (a.length + i) = b.drop i := by
  rw [← List.drop_drop, List.drop_left]

theorem made_lie {l : Lk} {s : Sp} (hs : s.src.length = 16) (hd : s.dst.length = 16) (h : netM s ≠ 0) :
    ∃ p q : List UInt8, outV l s = (frontV l s ++ p) ++ (q ++ loadV s) ∧ (frontV l s ++ p).length = (madeV l s).pos + srcM (netM s) ∧ (frontV l s).length + p.length + q.length = (madeV l s).load ∧ (madeV l s).pos = (frontV l s).length ∧ q = s.src.take (longM (netM s)) ++ s.dst.take (longM (netM s)) ∧ dstM (netM s) = srcM (netM s) + longM (netM s) := by
  rcases net_cases s with ⟨h0, -⟩ | ⟨hn, hi, h33⟩ | ⟨hn, hi, h87⟩
  · exact absurd h0 h
  · have hsd : ¬ (s.multi = true ∧ s.beg = false) := by
      intro h
      simp [ipB, saidB, h.1, h.2] at hi
    refine ⟨[69, 0] ++ be2 (20 + (loadV s).length) ++ [0, 0, 0, 0, 64, UInt8.ofNat s.next.toNat, 0, 0], s.src.take 4 ++ s.dst.take 4, ?_, ?_, ?_, rfl, ?_, ?_⟩
    · rw [outV, carV, if_neg hsd, if_pos h33]
      simp only [List.append_assoc]
    · rw [hn]
      simp [be2, madeV, srcM]
    · simp [be2, madeV, hi, h33, hs, hd]
    · rw [hn]
      rfl
    · rw [hn]
      rfl
  · have hsd : ¬ (s.multi = true ∧ s.beg = false) := by
      intro h
      simp [ipB, saidB, h.1, h.2] at hi
    have n33 : ¬ s.proto = 33 := by omega
    refine ⟨[96, 0, 0, 0] ++ be2 (loadV s).length ++ [UInt8.ofNat s.next.toNat, 64], s.src ++ s.dst, ?_, ?_, ?_, rfl, ?_, ?_⟩
    · rw [outV, carV, if_neg hsd, if_neg n33, if_pos h87]
      simp only [List.append_assoc]
    · rw [hn]
      simp [be2, madeV, srcM]
    · simp [be2, madeV, hi, n33, hs, hd]
    · rw [hn]
      show _ = s.src.take 16 ++ s.dst.take 16
      rw [List.take_of_length_le (by omega), List.take_of_length_le (by omega)]
    · rw [hn]
      rfl

/-! Hosts. -/
theorem adgs16 {x : Ng} (h : x.addr.length = 16) : adgs x = x.addr := by
  obtain ⟨k, op, n, m, size, of, side, addr, bits⟩ := x
  simp only at h
  match addr, h with
  | [a0, a1, a2, a3, a4, a5, a6, a7, a8, a9, a10, a11, a12, a13, a14, a15], _ => rfl
theorem host_addr {of side : Int} {ad : List UInt8} (h : ad.length = 16) (ho : of = 2 ∨ of = 3) : addrG (hsN of side ad) = ad.take (longM of) := by
  unfold addrG
  rw [adgs16 (x := hsN of side ad) h]
  rcases ho with rfl | rfl
  · rfl
  · show ad = ad.take 16
    rw [List.take_of_length_le (by omega)]
theorem alike_all {b ad : List UInt8} {p : Nat} {bits : Int} (hb : bits = 8 * (ad.length : Int)) : alikeM b p ad bits = decide ((b.drop p).take ad.length = ad) := by
  unfold alikeM
  rw [mask_all _ _ (by rw [List.length_take, List.length_drop]; omega), mask_all _ _ (by omega)]
theorem sides_at {l : Lk} {s : Sp} (hs : s.src.length = 16) (hd : s.dst.length = 16) (h : netM s ≠ 0) :
    ((outV l s).drop ((madeV l s).pos + srcM (netM s))).take (longM (netM s)) = s.src.take (longM (netM s)) ∧ ((outV l s).drop ((madeV l s).pos + dstM (netM s))).take (longM (netM s)) = s.dst.take (longM (netM s)) ∧ (madeV l s).pos + dstM (netM s) + longM (netM s) ≤ (outV l s).length := by
  obtain ⟨p, q, e, hl, ho, hp, hq, hdm⟩ := made_lie (l := l) hs hd h
  have h16 : longM (netM s) ≤ 16 := by unfold longM; split <;> omega
  have hsl : (s.src.take (longM (netM s))).length = longM (netM s) := by rw [List.length_take]; omega
  have hdl : (s.dst.take (longM (netM s))).length = longM (netM s) := by rw [List.length_take]; omega
  have e1 : (madeV l s).pos + srcM (netM s) = (frontV l s ++ p).length + 0 := by omega
  have e2 : (madeV l s).pos + dstM (netM s) = (frontV l s ++ p).length + longM (netM s) := by omega
  refine ⟨?_, ?_, ?_⟩
  · rw [e1, e, drop_at, hq, List.drop_zero, List.append_assoc, List.take_left' hsl]
  · rw [e2, e, drop_at, hq, List.append_assoc, List.drop_left' hsl, List.take_left' hdl]
  · rw [e2, e, hq]
    simp only [List.length_append] at *
    omega
theorem host_truth {l : Lk} {s : Sp} (F : Fits l s) (hs : s.src.length = 16) (hd : s.dst.length = 16) (h : netM s ≠ 0) (way side : Int) (hsd : side = 1 ∨ side = 2) (ad : List UInt8) (ha : ad.length = 16) :
    truthM ⟨madeV l s, way, outV l s⟩ (hsN (netM s) side ad) = jdg (decide ((if side = 1 then s.src else s.dst).take (longM (netM s)) = ad.take (longM (netM s)))) := by
  have hn : netM s = 2 ∨ netM s = 3 := by
    rcases net_cases s with ⟨h0, -⟩ | ⟨hn, -⟩ | ⟨hn, -⟩
    · exact absurd h0 h
    · exact .inl hn
    · exact .inr hn
  obtain ⟨k1, k2, k3⟩ := sides_at (l := l) hs hd h
  have h16 : longM (netM s) ≤ 16 := by unfold longM; split <;> omega
  have hal : (ad.take (longM (netM s))).length = longM (netM s) := by rw [List.length_take]; omega
  have hsm : srcM (netM s) ≤ dstM (netM s) := by rcases hn with e | e <;> rw [e] <;> decide
  have hb : baseM (madeV l s) (netM s) = ((madeV l s).pos, true) := by
    obtain ⟨w2, w3, -⟩ := made_words l s F
    rcases hn with e | e
    · rw [e] at w2 ⊢
      unfold baseM
      rw [if_neg (by omega), if_neg (by omega), w2]
      rfl
    · rw [e] at w3 ⊢
      unfold baseM
      rw [if_neg (by omega), if_neg (by omega), w3]
      rfl
  show withinM _ (hsN (netM s) side ad) (8 * (longM (netM s) : Int)) = _
  unfold withinM
  rw [host_addr ha hn]
  show (if (baseM (madeV l s) (netM s)).2 = false then (0 : Int) else sidedM side (jdg (alikeM (outV l s) ((baseM (madeV l s) (netM s)).1 + srcM (netM s)) (ad.take (longM (netM s))) _)) (jdg (alikeM (outV l s) ((baseM (madeV l s) (netM s)).1 + dstM (netM s)) (ad.take (longM (netM s))) _))) = _
  rw [hb]
  simp only [Bool.true_eq_false, if_false]
  rw [alike_all (by rw [hal]), alike_all (by rw [hal]), hal, k1, k2]
  rcases hsd with rfl | rfl
  · rfl
  · rfl
/-- The first four tell of all where the others are nothing. -/
theorem take_all {a b : List UInt8} (ha : a.length = 16) (hb : b.length = 16) (h1 : zeroB a 4 = true) (h2 : zeroB b 4 = true) : a.take 4 = b.take 4 ↔ a = b := by
  constructor
  · intro h
    have z : ∀ c : List UInt8, c.length = 16 → zeroB c 4 = true → c.drop 4 = zeros 12 := by
      intro c hc hz
      unfold zeroB at hz
      rw [List.all_eq_true] at hz
      refine List.eq_replicate_iff.2 ⟨by rw [List.length_drop]; omega, fun x hx => ?_⟩
      exact eq_of_beq (hz x hx)
    rw [← List.take_append_drop 4 a, ← List.take_append_drop 4 b, h, z a ha h1, z b hb h2]
  · rintro rfl
    rfl
theorem host_same {l : Lk} {s : Sp} (F : Fits l s) (hs : s.src.length = 16) (hd : s.dst.length = 16) (h : netM s ≠ 0) : decide (s.dst.take (longM (netM s)) = s.src.take (longM (netM s))) = decide (s.src = s.dst) := by
  rcases net_cases s with ⟨h0, -⟩ | ⟨hn, hi, h33⟩ | ⟨hn, hi, h87⟩
  · exact absurd h0 h
  · obtain ⟨z1, z2⟩ := F.four hi h33
    rw [hn]
    show decide (s.dst.take 4 = s.src.take 4) = _
    exact decide_eq_decide.2 ((take_all hd hs z2 z1).trans ⟨Eq.symm, Eq.symm⟩)
  · rw [hn]
    show decide (s.dst.take 16 = s.src.take 16) = _
    rw [List.take_of_length_le (by omega), List.take_of_length_le (by omega)]
    exact decide_eq_decide.2 ⟨Eq.symm, Eq.symm⟩

/-! Ports. -/
theorem made_port {l : Lk} {s : Sp} (F : Fits l s) (hs : s.src.length = 16) (hd : s.dst.length = 16) (h : netM s ≠ 0) (hp : s.ports = true) :
    numM (outV l s) (madeV l s).load 2 = some s.frm ∧ numM (outV l s) ((madeV l s).load + 2) 2 = some s.til ∧ (madeV l s).load ≠ 0 := by
  obtain ⟨p, q, e, hl, ho, hpo, hq, hdm⟩ := made_lie (l := l) hs hd h
  have e1 : outV l s = (frontV l s ++ p ++ q) ++ (be2 s.frm ++ (be2 s.til ++ s.data)) := by
    rw [e, loadV, if_pos hp]
    simp only [List.append_assoc]
  have e2 : outV l s = (frontV l s ++ p ++ q ++ be2 s.frm) ++ (be2 s.til ++ s.data) := by
    rw [e1]
    simp only [List.append_assoc]
  have l1 : (madeV l s).load = (frontV l s ++ p ++ q).length := by
    simp only [List.length_append]
    omega
  have l2 : (madeV l s).load + 2 = (frontV l s ++ p ++ q ++ be2 s.frm).length := by
    rw [List.length_append, ← l1]
    rfl
  have hb2 : ∀ v, (be2 v).length = 2 := fun _ => rfl
  have hlw := F.low
  have hlen : (outV l s).length = (madeV l s).load + 4 + s.data.length := by
    rw [e2, List.length_append, ← l2, List.length_append, hb2]
    omega
  have ok1 : okB (outV l s).length (((madeV l s).load : Nat) : Int) 2 = true := decide_eq_true ⟨.inr (.inl rfl), by omega, by omega⟩
  have ok2 : okB (outV l s).length (((madeV l s).load + 2 : Nat) : Int) 2 = true := decide_eq_true ⟨.inr (.inl rfl), by omega, by omega⟩
  refine ⟨?_, ?_, ?_⟩
  · unfold numM
    rw [if_pos ok1, e1, l1]
    exact congrArg some (num_be2 s.frm _ _ (by omega))
  · unfold numM
    rw [if_pos ok2, e2, l2]
    exact congrArg some (num_be2 s.til _ _ (by omega))
  · have : srcM (netM s) ≠ 0 := by unfold srcM; split <;> decide
    rw [List.length_append] at hl
    omega
theorem port_truth {l : Lk} {s : Sp} (F : Fits l s) (hs : s.src.length = 16) (hd : s.dst.length = 16) (h : netM s ≠ 0) (hp : s.ports = true) (way : Int) :
    truthM ⟨madeV l s, way, outV l s⟩ (ptN 0 1 s.frm s.frm) = jdg (tcpM s || udpM s) ∧ truthM ⟨madeV l s, way, outV l s⟩ (ptN 4 2 s.til s.til) = jdg (tcpM s) ∧ truthM ⟨madeV l s, way, outV l s⟩ (ptN 0 0 s.til s.til) = jdg (tcpM s || udpM s) := by
  obtain ⟨n1, n2, n3⟩ := made_port F hs hd h hp
  obtain ⟨-, -, -, w4, w5, -⟩ := made_words l s F
  have b4 : baseM (madeV l s) 4 = ((madeV l s).load, tcpM s) := by
    unfold baseM
    rw [if_neg (by omega), if_pos (.inl rfl), w4, decide_eq_true n3, Bool.and_true]
  have b5 : baseM (madeV l s) 5 = ((madeV l s).load, udpM s) := by
    unfold baseM
    rw [if_neg (by omega), if_pos (.inr (.inl rfl)), w5, decide_eq_true n3, Bool.and_true]
  have c0 : carrierM (madeV l s) 0 = ((madeV l s).load, tcpM s || udpM s) := by
    unfold carrierM
    rw [if_neg (by simp), b4, b5]
    cases tcpM s <;> rfl
  have c4 : carrierM (madeV l s) 4 = ((madeV l s).load, tcpM s) := by
    unfold carrierM
    rw [if_pos (by decide), b4]
  have p1 : portM ⟨madeV l s, way, outV l s⟩ (ptN 0 1 s.frm s.frm) (madeV l s).load = 1 := by
    show (match numM (outV l s) (madeV l s).load 2 with | none => (2 : Int) | some k => jdg (decide (s.frm ≤ k ∧ k ≤ s.frm))) = 1
    rw [n1]
    simp [jdg]
  have p2 : ∀ of side, portM ⟨madeV l s, way, outV l s⟩ (ptN of side s.til s.til) ((madeV l s).load + 2) = 1 := by
    intro of side
    show (match numM (outV l s) ((madeV l s).load + 2) 2 with | none => (2 : Int) | some k => jdg (decide (s.til ≤ k ∧ k ≤ s.til))) = 1
    rw [n2]
    simp [jdg]
  have p3 : portM ⟨madeV l s, way, outV l s⟩ (ptN 0 0 s.til s.til) (madeV l s).load = 0 ∨ portM ⟨madeV l s, way, outV l s⟩ (ptN 0 0 s.til s.til) (madeV l s).load = 1 := by
    show (match numM (outV l s) (madeV l s).load 2 with | none => (2 : Int) | some k => jdg (decide (s.til ≤ k ∧ k ≤ s.til))) = 0 ∨ (match numM (outV l s) (madeV l s).load 2 with | none => (2 : Int) | some k => jdg (decide (s.til ≤ k ∧ k ≤ s.til))) = 1
    rw [n1]
    simp only [jdg]
    split
    · exact .inr rfl
    · exact .inl rfl
  refine ⟨?_, ?_, ?_⟩
  · show (if (carrierM (madeV l s) 0).2 = false then (0 : Int) else sidedM 1 (portM _ _ (carrierM (madeV l s) 0).1) _) = _
    rw [c0]
    cases tcpM s || udpM s with
    | false => rfl
    | true => exact p1
  · show (if (carrierM (madeV l s) 4).2 = false then (0 : Int) else sidedM 2 _ (portM _ (ptN 4 2 s.til s.til) ((carrierM (madeV l s) 4).1 + 2))) = _
    rw [c4]
    cases tcpM s with
    | false => rfl
    | true => exact p2 4 2
  · show (if (carrierM (madeV l s) 0).2 = false then (0 : Int) else orM (portM _ (ptN 0 0 s.til s.til) (carrierM (madeV l s) 0).1) (portM _ (ptN 0 0 s.til s.til) ((carrierM (madeV l s) 0).1 + 2))) = _
    rw [c0]
    cases tcpM s || udpM s with
    | false => rfl
    | true =>
      show orM (portM _ (ptN 0 0 s.til s.til) (madeV l s).load) (portM _ (ptN 0 0 s.til s.til) ((madeV l s).load + 2)) = 1
      rw [p2]
      rcases p3 with e | e <;> rw [e] <;> rfl
end Go.Proofs.YtnojpepjloceoaaGreat
