/-
  Nodes as an argument: a side is a number of 64 bits. The ways exchanged. No Go text here.
-/
import Derived.Test.YtnaifabifemhiabGreatLotP45
import Derived.Test.YtnaifabifemhiabGreatLotP44
namespace Go.Proofs.YtnaifabifemhiabGreat
open Go.ChangeShapes Go.WideShapes Go.ChangeAt Go.RowKit
set_option maxRecDepth 100000

def Rg (x : Ng) : Prop := -9223372036854775808 ≤ x.side ∧ x.side ≤ 9223372036854775807
theorem one_rng {H : Type} {enc : TypeId × Value → H} {W : World} {base : Nat} {spare : Nat → Bool} {held : Bool} {fuel : Nat} {cs : List Value} {x : DataW H × List MemPlace} (o : Nat) (ho : o < cs.length)
    (h : DataW.trod enc Tryz.prog W base spare held fuel 3 ((cs.drop o).take 1) = some x) : -9223372036854775808 ≤ ivl cs o ∧ ivl cs o ≤ 9223372036854775807 := by
  rw [List.drop_eq_getElem_cons ho, List.take_succ_cons, List.take_zero] at h
  obtain ⟨k, e, _, w⟩ := DataW.trod_int Tryz.underlying3 h
  simp only [List.cons.injEq, and_true] at e
  have b := bounds_i64 w
  have hi : ivl cs o = k := by
    unfold ivl
    rw [List.getD_eq_getElem?_getD, List.getElem?_eq_getElem ho, e]
    rfl
  rw [hi]
  exact b
theorem node_side {H : Type} {enc : TypeId × Value → H} {W : World} {base : Nat} {spare : Nat → Bool} {held : Bool} {fuel : Nat} {cs : List Value} {x : DataW H × List MemPlace} (h : DataW.trod enc Tryz.prog W base spare held fuel 37 cs = some x) : Rg (ngOf cs) := by
  obtain ⟨ys, n, _, rfl, hl, hlen, hf⟩ := DataW.trod_struct Tryz.underlying37 h
  rw [cellsNd] at hl
  have hy9 : ys.length = 9 := hlen
  have f6 : DataW.trod enc Tryz.prog W base spare held n 3 ((cs.drop 6).take (Tryz.prog.cellsOf 3)) = ys[6]? := hf 6 _ rfl
  rw [cellsI, List.getElem?_eq_getElem (by omega)] at f6
  exact one_rng 6 (by omega) f6
theorem open_nodesR {H : Type} {enc : TypeId × Value → H} {W : World} {d : DataW H} {ps : List MemPlace} {a : Option Addr} {len cap : Nat}
    (h : DataW.Trod enc Tryz.prog W 0 (fun _ => true) true 38 (.slice a len cap) d ps) :
    ∃ xs : List Ng, len = xs.length ∧ CV W a (flatG xs) ∧ (a = none → cap = 0) ∧ (xs.length ≤ cap ∧ cap ≤ maxLen) ∧ (∀ x ∈ xs, x.ok ∧ Rg x) ∧ ((d = .nil ∧ xs = []) ∨ ∃ elems spare, d = .slice elems spare ∧ xs.length ≤ elems.length + spare.length) := by
  obtain ⟨fuel, hf⟩ := h
  rcases Go.Deep.open_slice Tryz.underlying38 hf with ⟨hcs, hx⟩ | ⟨x, l, c, m, n, D, Pl, hcs, _, hl, hm, hmm, hx, hcell⟩
  · simp [Value.cells] at hcs
    obtain ⟨rfl, rfl, rfl⟩ := hcs
    simp only [Prod.mk.injEq] at hx
    exact ⟨[], rfl, ⟨fun _ => rfl, fun ad had => (by cases had)⟩, fun _ => rfl, ⟨Nat.le_refl _, Nat.zero_le _⟩, (fun x hx => by cases hx), .inl ⟨hx.1, rfl⟩⟩
  · simp [Value.cells] at hcs
    obtain ⟨rfl, rfl, rfl⟩ := hcs
    simp only [Prod.mk.injEq] at hx
    simp only [if_true] at hmm
    have hmm' : m = cap := hmm
    rw [cellsNd] at hcell
    have hlen : ((List.range len).map fun i => ngOf ((W.cells? 0 (x.add (i * 24)) 24).getD [])).length = len := by simp
    refine ⟨(List.range len).map fun i => ngOf ((W.cells? 0 (x.add (i * 24)) 24).getD []), hlen.symm, ⟨fun h => (by cases h), fun ad had q hq => ?_⟩, fun h => (by cases h), ⟨by rw [hlen]; exact hl, hm⟩, fun y hy => ?_, .inr ⟨_, _, hx.1, ?_⟩⟩
    · obtain rfl := Option.some.inj had
      have hq4 : q < len * 24 := by rw [flatG_len, hlen] at hq; exact hq
      obtain ⟨cs', hcs', htr⟩ := hcell (q / 24) (by omega)
      obtain ⟨_, hl4, hget⟩ := World.cells?_some hcs'
      have hk := (node_cells htr).1
      have hj : q % 24 < 24 := Nat.mod_lt _ (by decide)
      have e1 : (x.add (q / 24 * 24)).add (q % 24) = x.add q := by
        rw [Addr.add_add]
        congr 1
        omega
      have e2 := hget (q % 24) hj
      rw [e1] at e2
      rw [e2]
      have e3 := flatG_get ((List.range len).map fun i => ngOf ((W.cells? 0 (x.add (i * 24)) 24).getD [])) (q / 24) (q % 24) (by rw [hlen]; omega) hj
      rw [show q / 24 * 24 + q % 24 = q by omega, List.getElem?_eq_getElem hq] at e3
      rw [e3]
      simp only [List.getElem_map, List.getElem_range, hcs', Option.getD_some]
      rw [← hk]
    · obtain ⟨i, hi, rfl⟩ := List.mem_map.1 hy
      rw [List.mem_range] at hi
      obtain ⟨cs', hcs', htr⟩ := hcell i (by omega)
      rw [hcs', Option.getD_some]
      exact ⟨(node_cells htr).2, node_side htr⟩
    · rw [hlen]
      simp

end Go.Proofs.YtnaifabifemhiabGreat

namespace Go.Proofs.YtnaifabifemhiabGreat
open Go.RowKit
set_option maxRecDepth 100000

def swpS (s : Int) : Int := IntKind.i64.wrap (3 - s)
/-- Inbound for outbound, outbound for inbound. -/
def swp14 (x : Ng) : Ng := if x.kind = 10 then ⟨x.kind, x.op, x.n, x.m, x.size, x.of, swpS x.side, x.addr, x.bits⟩ else x
theorem swp_side {x : Ng} (h : Rg x) : (swpS x.side = 1 ↔ x.side = 2) ∧ (swpS x.side = 2 ↔ x.side = 1) := by
  unfold Rg at h
  unfold swpS
  rw [IntKind.wrap_i64]
  omega
theorem swp_kind (x : Ng) : (swp14 x).kind = x.kind := by unfold swp14; split <;> rfl
theorem swp_n (x : Ng) : (swp14 x).n = x.n := by unfold swp14; split <;> rfl
theorem swp_weigh (x : Ng) : weighG (swp14 x) = weighG x := by
  unfold swp14
  split
  · rename_i h
    unfold weighG
    simp only [h]
  · rfl
theorem swp_form {x : Ng} (hx : x.kind = 10) (hr : Rg x) : formG (swp14 x) = formG x := by
  have hs := swp_side hr
  have e : inG (swpS x.side) 1 2 = inG x.side 1 2 := by
    unfold inG
    rw [Bool.eq_iff_iff]
    simp only [Bool.and_eq_true, decide_eq_true_eq]
    omega
  have e1 : formG x = (decide (x.op = 0) && decide (x.n = 0) && decide (x.m = 0) && decide (x.size = 0) && decide (x.of = 0) && decide (adgs x = adgs ⟨10, 0, 0, 0, 0, 0, x.side, zeros 16, 0⟩) && decide (x.bits = 0) && inG x.side 1 2) := by
    obtain ⟨k, op, n, m, size, of, side, addr, bits⟩ := x
    simp only at hx
    subst hx
    simp [formG, sameG, useG, mayG, adgs]
  have e2 : formG (swp14 x) = (decide (x.op = 0) && decide (x.n = 0) && decide (x.m = 0) && decide (x.size = 0) && decide (x.of = 0) && decide (adgs x = adgs ⟨10, 0, 0, 0, 0, 0, x.side, zeros 16, 0⟩) && decide (x.bits = 0) && inG (swpS x.side) 1 2) := by
    obtain ⟨k, op, n, m, size, of, side, addr, bits⟩ := x
    simp only at hx
    subst hx
    simp [swp14, formG, sameG, useG, mayG, adgs]
  rw [e1, e2, e]
theorem swp_step {x : Ng} (hr : Rg x) (st : List Pt) : stepG (swp14 x) st = stepG x st := by
  by_cases hx : x.kind = 10
  · have hk := swp_kind x
    have hfm := swp_form hx hr
    unfold stepG
    rw [hk, hx]
    show (if st.length < 0 then _ else _) = (if st.length < 0 then _ else _)
    rw [if_neg (Nat.not_lt_zero st.length), if_neg (Nat.not_lt_zero st.length)]
    simp only [Nat.sub_zero, List.drop_length, List.take_length]
    have hf : faultG (swp14 x) [] = faultG x [] := by
      unfold faultG
      rw [hfm, hk, hx]
      have z1 : zeroE (swp14 x) [] = zeroE x [] := by unfold zeroE; rw [hk, hx]; rfl
      have r1 : rangeE (swp14 x) = rangeE x := by unfold rangeE; rw [hk, hx]; rfl
      rw [z1, r1]
    have hj : joinG (swp14 x) [] = joinG x [] := by
      unfold joinG
      have v1 : valG (swp14 x) [] = valG x [] := by unfold valG; rw [hk, hx]; rfl
      rw [v1, hk]
    rw [hf, hj]
  · unfold swp14
    rw [if_neg hx]
theorem swp_walk : ∀ (t : List Ng) (st : List Pt) (k : Nat), (∀ x ∈ t, Rg x) → walkG st k (t.map swp14) = walkG st k t
  | [], st, k, _ => rfl
  | x :: t, st, k, h => by
    simp only [List.map_cons, walkG]
    rw [swp_step (h x (.head _)) st]
    cases stepG x st with
    | error e => rfl
    | ok s => exact swp_walk t s (k + 1) (fun y hy => h y (.tail _ hy))
theorem swp_weight (t : List Ng) : weightG (t.map swp14) = weightG t := by
  unfold weightG
  rw [List.map_map]
  congr 1
  apply List.map_congr_left
  intro x _
  exact swp_weigh x
theorem swp_filt {t : List Ng} (h : ∀ x ∈ t, Rg x) : (checkG (t.map swp14)).2 = 0 ↔ (checkG t).2 = 0 := by
  rw [filt_iff, filt_iff, swp_walk t [] 0 h, swp_weight]
/-- The other way. -/
def swpM (s : Sg) : Sg := ⟨s.v, 1 - s.way, s.b⟩
theorem swp_over {s : Sg} (_hw : s.way = 0 ∨ s.way = 1) {x : Ng} (hr : Rg x) (hx : x.kind = 10 → x.side = 1 ∨ x.side = 2) (ps : List Pm) : overM (swpM s) (swp14 x) ps = overM s x ps := by
  by_cases h : x.kind = 10
  · have hs := swp_side hr
    have e : swpS x.side = 3 - x.side := by rcases hx h with h1 | h1 <;> rw [h1] <;> rfl
    have t1 : truthM (swpM s) (swp14 x) = truthM s x := by
      unfold truthM
      rw [swp_kind, if_pos h, if_pos h]
      have e2 : (swp14 x).side = 3 - x.side := by unfold swp14; rw [if_pos h]; exact e
      rw [e2]
      congr 1
      apply decide_eq_decide.2
      unfold swpM wayM
      simp only
      rcases hx h with h1 | h1 <;> rw [h1] <;> simp <;> omega
    unfold overM
    rw [swp_kind, h]
    simp only [show ¬ ((10 : Int) = 1) by decide, show ¬ ((10 : Int) = 2) by decide, show ¬ ((10 : Int) = 3) by decide, show ¬ ((10 : Int) = 4) by decide, show ¬ ((10 : Int) = 5) by decide, show ¬ ((10 : Int) = 6) by decide, show ¬ ((10 : Int) = 7) by decide, show ¬ ((10 : Int) = 8) by decide, show ¬ ((10 : Int) = 9) by decide, if_false]
    rw [t1]
  · have e : swp14 x = x := by unfold swp14; rw [if_neg h]
    rw [e]
    have t1 : truthM (swpM s) x = truthM s x := by
      unfold truthM
      rw [if_neg h, if_neg h]
      rfl
    unfold overM
    rw [t1]
    rfl
theorem step_side {x : Ng} {st st' : List Pt} (h : stepG x st = .ok st') (hk : x.kind = 10) : x.side = 1 ∨ x.side = 2 := by
  obtain ⟨a, -, -, hf, -⟩ := mstep_inv h
  obtain ⟨h1, -, -, -⟩ := mfault_zero hf
  unfold formG at h1
  have hm := (Bool.and_eq_true_iff.1 h1).2
  unfold mayG at hm
  rw [if_neg (by omega), if_neg (by omega), if_neg (by omega), if_pos hk] at hm
  unfold inG at hm
  have h6 := Bool.and_eq_true_iff.1 hm
  have h7 := of_decide_eq_true h6.1
  have h8 := of_decide_eq_true h6.2
  omega
theorem swp_eval {s : Sg} (hw : s.way = 0 ∨ s.way = 1) : ∀ (t : List Ng) (st st' : List Pt) (qs : List Pm) (k : Nat), (∀ x ∈ t, Rg x) → walkG st k t = .ok st' → evalM (swpM s) qs (t.map swp14) = evalM s qs t
  | [], st, st', qs, k, _, _ => rfl
  | x :: t, st, st', qs, k, hr, h => by
    simp only [walkG] at h
    cases e : stepG x st with
    | error e' => rw [e] at h; cases h
    | ok s1 =>
      rw [e] at h
      have h1 : stpM (swpM s) qs (swp14 x) = stpM s qs x := by
        unfold stpM
        rw [swp_kind, swp_over hw (hr x (.head _)) (step_side e)]
      show evalM (swpM s) (stpM (swpM s) qs (swp14 x)) (t.map swp14) = evalM s (stpM s qs x) t
      rw [h1]
      exact swp_eval hw t s1 st' _ (k + 1) (fun y hy => hr y (.tail _ hy)) h
/-- MeanWays. -/
theorem ways_pure {t : List Ng} {l : Lk} {b : List UInt8} (hr : ∀ x ∈ t, Rg x) (way : Int) (hw : way = 0 ∨ way = 1) : lawJ (t.map swp14) l (1 - way) b = lawJ t l way b := by
  by_cases h : refuseM t l way = 0
  · obtain ⟨h1, h2, -⟩ := refuse_zero h
    have h3 : refuseM (t.map swp14) l (1 - way) = 0 := refuse_ok ((swp_filt hr).2 h1) h2 (by omega)
    rw [law_ok h, law_ok h3]
    unfold meanM
    cases hl : lookX l b with
    | error e => rfl
    | ok v =>
      obtain ⟨p, hp, -, -⟩ := filt_iff.1 h1
      have := swp_eval (s := ⟨v, way, b⟩) hw t [] [p] [] 0 hr hp
      simp only [swpM] at this
      simp only [this]
  · have h3 : refuseM (t.map swp14) l (1 - way) ≠ 0 := fun h4 => by
      obtain ⟨h5, h6, -⟩ := refuse_zero h4
      exact h (refuse_ok ((swp_filt hr).1 h5) h6 hw)
    unfold lawJ
    rw [if_pos h, if_pos h3]
theorem swp_none {t : List Ng} (h : ∀ x ∈ t, x.kind ≠ 10) : t.map swp14 = t := by
  have e : t.map swp14 = t.map id := List.map_congr_left (fun x hx => by unfold swp14; rw [if_neg (h x hx)]; rfl)
  rw [e, List.map_id]
end Go.Proofs.YtnaifabifemhiabGreat
