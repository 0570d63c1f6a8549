/-
  riddlelaw14.judge. Chapter 12 in words: two filters laid together. No Go text here. What chapter 14 says of filters laid together. No Go text here. What chapter 14 says of two numbers laid together and compared. No Go text here. What chapter 14 says of two filters laid together by and, or, not. No Go text here.
-/
import Derived.Test.YtnojpepjloceoaaGreatLotP43
import Derived.Test.YtnojpepjloceoaaGreatLotP17
import Derived.Test.YtnojpepjloceoaaGreatLotP39
import Derived.Test.YtnojpepjloceoaaGreatLotP42
namespace Go.Proofs.YtnojpepjloceoaaGreat
open Go.RowKit
set_option maxRecDepth 100000

/-- A struct put together may be taken first. -/
theorem yieldsIf_bld {P : Program} {ops : Array Oper} {S : World → Prop} {op : Oper} {a : Act} (hw : Region.wanted op (yielded ops a.tmps) = true) (t : TypeId) (ps : Array (Nat × Operand)) (ho : op.op = .build t ps) (qs : Array (Nat × Value)) (hq : ps.map (fun (i, x) => (i, a.eval x)) = qs) (v : Value) (hr : ∀ W : World, (Instr.build t qs).run P W = .ok v W) : YieldsIf P ops S op v a :=
  .inl ⟨hw, fun w _ => by
    unfold execOp
    have hr' := hr w
    rw [← hq] at hr'
    simp only [ho, Sem.run_bind, Sem.run_pure, Result.andThen_ok, hr']⟩
def lawJ (t : List Ng) (l : Lk) (way : Int) (b : List UInt8) : Int := if refuseM t l way ≠ 0 then -1 else (meanM t l way b).how

set_option maxHeartbeats 2000000 in
theorem ljudge_any (ao : Option Addr) (cap : Nat) (t : List Ng) (l : Lk) (way : Int) (a : Option Addr) (ca : Nat) (b : List UInt8) (w : World) (C : CV w ao (flatG t)) (hc0 : ao = none → cap = 0) (hm : t.length * 72 ≤ 140737488355328) (hn : ∀ x ∈ t, x.n ≤ 4294967295) (hc : Cells w a b) (hb0 : a = none → ca = 0) (hb : b.length ≤ 140737488355328) :
    Calls Tryz.prog 8 #[.slice ao t.length cap, .agg (lkA l), .int .i64 way, .slice a b.length ca] w fun e w' => e = .returned (.int .i64 (lawJ t l way b)) ∧ w.grownBy w' none := by
  have HBL := box_lk l
  have K1 := World.grownBy_alloc w (.cells (lkA l) 23) none
  have HLS := lk_sz l
  have HCN : Hid (∀ W, w.grownBy W none → Calls Tryz.prog 21 #[.slice ao t.length cap] W fun e w' => ∃ v, e = .returned v ∧ NgOwns w' W.heap.size v t ∧ W.grownBy w' none) := fun W K => gcopy_any ao cap t W (C.keptNone K) hc0 hm
  have HCB : Hid (∀ W, w.grownBy W none → Calls Tryz.prog 22 #[.slice a b.length ca] W fun e w' => ∃ v, e = .returned v ∧ Owns w' W.heap.size v b ∧ W.grownBy w' none) := fun W K => copy_any a ca b W (hc.keptNone K) hb0 hb
  have HCJ : Hid (∀ W ao' cap' a' ca', CV W ao' (flatG t) → Cells W a' b → b.length ≤ ca' → Calls Tryz.prog 18 #[.slice ao' t.length cap', .agg (lkA l), .int .i64 way, .slice a' b.length ca'] W fun e w' => e = .returned (.tuple #[.int .i64 (judgeM t l way b), .int .i64 (refuseM t l way)]) ∧ W.grownBy w' none) := fun W ao' cap' a' ca' h1 h2 h3 => judge_any ao' cap' t l way a' ca' b W h1 hm hn h2 hb h3
  obtain ⟨E, hE⟩ : ∃ E, lawJ t l way b = E := ⟨_, rfl⟩
  have HE : Hid (E = if refuseM t l way ≠ 0 then -1 else judgeM t l way b) := by
    show E = _
    rw [← hE]
    unfold lawJ judgeM
    split <;> rfl
  rw [hE]
  clear C hm hn hc hb0 hb hE hc0
  obtain ⟨LA, hLA⟩ : ∃ LA, lkA l = LA := ⟨_, rfl⟩
  have V1 : VAt (w.alloc (.cells LA 23)) w.heap.size 23 LA := VAt.alloc _ _ _
  rw [hLA] at HBL K1 HCJ HLS ⊢
  clear hLA
  generalize refuseM t l way = Rf at *
  generalize judgeM t l way b = J at *
  go_enter Tryz.func8, Tryz.ntmps8
  go_upto_region 1 with fail
  generalize w.alloc (.cells LA 23) = w1 at *
  generalize w.heap.size = B at *
  have HS0 : Hid (VAt w1.drew B 23 LA ∧ w.grownBy w1.drew none) := ⟨V1.kept (grown_drewN w1 1 none), grown_trans K1 (grown_drewN w1 1 none)⟩
  clear HBL V1 K1
  refine wp_region_held_drew (S := fun W => VAt W B 23 LA ∧ w.grownBy W none) (by kernel_rfl) (HS0.out) (fun hHeld => ?_)
  refine wpAnyH_take (i := 0) (v := .slice ao t.length cap) rfl (by kernel_rfl) (by kernel_rfl) (by kernel_rfl) (fun _ _ _ h => h) (Or.inl ⟨by rfl, fun W hW => ?_⟩) hHeld ?_
  · clear hW
    go_simp
  try simp only [Act.put, List.getElem_toArray, List.getElem_cons_zero, List.setIfInBounds_toArray, List.set_cons_zero, List.set_cons_succ]
  refine wpAnyH_take (i := 2) (v := .agg (LA)) rfl (by kernel_rfl) (by kernel_rfl) (by kernel_rfl) (fun _ _ _ h => h) (yieldsIf_load_row (by rfl) _ _ rfl B rfl 23 (LA) _ (fun W hW => hW.1) Tryz.underlying23 rfl HLS) hHeld ?_
  try simp only [Act.put, List.getElem_toArray, List.getElem_cons_zero, List.getElem_cons_succ, List.setIfInBounds_toArray, List.set_cons_zero, List.set_cons_succ]
  refine wpAnyH_take (i := 3) (v := .int .i64 way) rfl (by kernel_rfl) (by kernel_rfl) (by kernel_rfl) (fun _ _ _ h => h) (Or.inl ⟨by rfl, fun W hW => ?_⟩) hHeld ?_
  · clear hW
    go_simp
  try simp only [Act.put, List.getElem_toArray, List.getElem_cons_zero, List.getElem_cons_succ, List.setIfInBounds_toArray, List.set_cons_zero, List.set_cons_succ]
  refine wpAnyH_take (i := 4) (v := .slice a b.length ca) rfl (by kernel_rfl) (by kernel_rfl) (by kernel_rfl) (fun _ _ _ h => h) (Or.inl ⟨by rfl, fun W hW => ?_⟩) hHeld ?_
  · clear hW
    go_simp
  try simp only [Act.put, List.getElem_toArray, List.getElem_cons_zero, List.getElem_cons_succ, List.setIfInBounds_toArray, List.set_cons_zero, List.set_cons_succ]
  refine wpAnyH_ready (rs := [1]) (by kernel_rfl) (by simp) (AllReadyH.cons rfl (fun K hK => ?_) AllReadyH.nil)
  go_simp
  refine (HCN.out _ hHeld.2).mono ?_
  rintro e w2 ⟨v2, rfl, O2, K2⟩
  obtain ⟨a2, c2, rfl, C2, -⟩ := cv_of_row O2
  go_wp2_with fail
  refine hK.out _ _ (⟨hHeld.1.kept K2, grown_trans hHeld.2 K2⟩) (fun hHeld => ?_)
  clear hK K
  try simp only [Act.put, List.getElem_toArray, List.getElem_cons_zero, List.getElem_cons_succ, List.setIfInBounds_toArray, List.set_cons_zero, List.set_cons_succ]
  refine wpAnyH_ready (rs := [5]) (by kernel_rfl) (by simp) (AllReadyH.cons rfl (fun K hK => ?_) AllReadyH.nil)
  go_simp
  refine (HCB.out _ hHeld.2).mono ?_
  rintro e w3 ⟨v3, rfl, O3, K3⟩
  obtain ⟨a3, c3, hv3, C3, hl3, -⟩ := cv_of_row O3
  subst hv3
  go_wp2_with fail
  refine hK.out _ _ (⟨hHeld.1.kept K3, grown_trans hHeld.2 K3⟩) (fun hHeld => ?_)
  clear hK K
  try simp only [Act.put, List.getElem_toArray, List.getElem_cons_zero, List.getElem_cons_succ, List.setIfInBounds_toArray, List.set_cons_zero, List.set_cons_succ]
  refine wpAnyH_ready (rs := [6]) (by kernel_rfl) (by simp) (AllReadyH.cons rfl (fun K hK => ?_) AllReadyH.nil)
  go_simp
  refine (HCJ.out _ _ _ _ _ (C2.keptNone K3) C3.cells hl3).mono ?_
  rintro e w4 ⟨rfl, K4⟩
  go_wp2_with fail
  refine hK.out _ _ (⟨hHeld.1.kept K4, grown_trans hHeld.2 K4⟩) (fun hHeld => ?_)
  clear hK K
  try simp only [Act.put, List.getElem_toArray, List.getElem_cons_zero, List.getElem_cons_succ, List.setIfInBounds_toArray, List.set_cons_zero, List.set_cons_succ]
  refine wpAnyH_take (i := 7) (v := .tuple #[.int .i64 J, .int .i64 Rf]) rfl (by kernel_rfl) (by kernel_rfl) (by kernel_rfl) (fun _ _ _ h => h) (Or.inl ⟨by rfl, fun W hW => ?_⟩) hHeld ?_
  · clear hW
    go_simp
  try simp only [Act.put, List.getElem_toArray, List.getElem_cons_zero, List.getElem_cons_succ, List.setIfInBounds_toArray, List.set_cons_zero, List.set_cons_succ]
  refine wpAnyH_take (i := 8) (v := .int .i64 J) rfl (by kernel_rfl) (by kernel_rfl) (by kernel_rfl) (fun _ _ _ h => h) (Or.inl ⟨by rfl, fun W hW => ?_⟩) hHeld ?_
  · clear hW
    go_simp
  try simp only [Act.put, List.getElem_toArray, List.getElem_cons_zero, List.getElem_cons_succ, List.setIfInBounds_toArray, List.set_cons_zero, List.set_cons_succ]
  refine wpAnyH_take (i := 9) (v := .int .i64 Rf) rfl (by kernel_rfl) (by kernel_rfl) (by kernel_rfl) (fun _ _ _ h => h) (Or.inl ⟨by rfl, fun W hW => ?_⟩) hHeld ?_
  · clear hW
    go_simp
  try simp only [Act.put, List.getElem_toArray, List.getElem_cons_zero, List.getElem_cons_succ, List.setIfInBounds_toArray, List.set_cons_zero, List.set_cons_succ]
  refine wpAnyH_take (i := 10) (v := .int .i64 J) rfl (by kernel_rfl) (by kernel_rfl) (by kernel_rfl) (fun _ _ _ h => h) (Or.inl ⟨by rfl, fun W hW => ?_⟩) hHeld ?_
  · clear hW
    go_simp
  try simp only [Act.put, List.getElem_toArray, List.getElem_cons_zero, List.getElem_cons_succ, List.setIfInBounds_toArray, List.set_cons_zero, List.set_cons_succ]
  refine wpAnyH_take (i := 11) (v := .int .i64 Rf) rfl (by kernel_rfl) (by kernel_rfl) (by kernel_rfl) (fun _ _ _ h => h) (Or.inl ⟨by rfl, fun W hW => ?_⟩) hHeld ?_
  · clear hW
    go_simp
  try simp only [Act.put, List.getElem_toArray, List.getElem_cons_zero, List.getElem_cons_succ, List.setIfInBounds_toArray, List.set_cons_zero, List.set_cons_succ]
  refine wpAnyH_done (by kernel_rfl) ?_ _

  have G := hHeld.2
  clear hHeld C2 O2 O3 C3 HCN HCB HCJ
  by_cases h1 : Rf = 0
  case neg =>
    have e1 : (Rf != 0) = true := by rw [bne_iff_ne]; exact h1
    have HF : Hid (E = -1) := by show E = _; rw [HE.out, if_pos h1]
    clear h1 HE
    go_wp2
    go_ret
    exact ⟨ret_int HF.out.symm, G⟩
  case pos =>
    have HF : Hid (E = J) := by show E = _; rw [HE.out, if_neg (by simpa using h1)]
    subst h1
    clear HE
    go_wp2
    go_ret
    exact ⟨ret_int HF.out.symm, G⟩

end Go.Proofs.YtnojpepjloceoaaGreat

namespace Go.Proofs.YtnojpepjloceoaaGreat
open Go.RowKit
set_option maxRecDepth 100000

def adN : Ng := ⟨7, 0, 0, 0, 0, 0, 0, zeros 16, 0⟩
def orN : Ng := ⟨8, 0, 0, 0, 0, 0, 0, zeros 16, 0⟩
def rlN : Ng := ⟨6, 3, 0, 0, 0, 0, 0, zeros 16, 0⟩
def arN : Ng := ⟨4, 1, 0, 0, 0, 0, 0, zeros 16, 0⟩
def miN : Ng := ⟨5, 0, 0, 0, 0, 0, 0, zeros 16, 0⟩
def noN : Ng := ⟨9, 0, 0, 0, 0, 0, 0, zeros 16, 0⟩

theorem check_weight {t : List Ng} {p : Pt} (hw : walkG [] 0 t = .ok [p]) (hp : p.truth = true) : (checkG t).2 = if weightG t ≤ 3000 then 0 else 126 := by
  by_cases h : weightG t ≤ 3000
  · rw [if_pos h]
    exact filt_iff.2 ⟨p, hw, hp, h⟩
  · rw [if_neg h, checkG, hw]
    simp only [List.length_singleton, ne_eq, not_true_eq_false, if_false, List.getD_cons_zero, hp]
    cases hh : heavyG 0 0 t with
    | some q => rfl
    | none =>
      rcases (heavy_none t 0 0).1 hh with rfl | h2
      · exact absurd (Nat.zero_le _) h
      · omega
theorem two_walk {a b : List Ng} {p q : Pt} (ha : walkG [] 0 a = .ok [p]) (hb : walkG [] 0 b = .ok [q]) : walkG [] 0 (a ++ b) = .ok [p, q] := by
  rw [walkG_app, ha]
  have := walkG_frame b [] [q] [p] 0 (0 + a.length) hb
  simpa using this
theorem step_two {x : Ng} {p q : Pt} (hk : x.kind = 7 ∨ x.kind = 8) (hf : formG x = true) (hp : p.truth = true) (hq : q.truth = true) : ∃ r, stepG x [p, q] = .ok [r] ∧ r.truth = true := by
  have har : arG x.kind = some 2 := by rcases hk with h | h <;> rw [h] <;> rfl
  have hwt : wantsG x.kind = true := by rcases hk with h | h <;> rw [h] <;> rfl
  have h0 : faultG x [p, q] = 0 := by
    have hkE : kindE x.kind [p, q] = 0 := kindE_none (fun z hz => by
      rcases List.mem_cons.1 hz with rfl | hz
      · rw [hp, hwt]; rfl
      · rw [List.mem_singleton.1 hz, hq, hwt]; rfl)
    have hz : zeroE x [p, q] = false := by unfold zeroE; rw [decide_eq_false (by omega)]; rfl
    have hr : rangeE x = 0 := by
      unfold rangeE
      rw [if_neg (by omega), if_neg (by omega), if_neg (by omega), if_neg (by omega), if_neg (by omega)]
    unfold faultG
    rw [hf, hkE, hz, hr]
    rfl
  refine ⟨joinG x [p, q], ?_, ?_⟩
  · rw [stepG_good har (by simp) (by simpa using h0)]
    rfl
  · rw [joinG_truth]
    unfold truthG
    exact decide_eq_true (by omega)
theorem step_one {p : Pt} (hp : p.truth = true) : ∃ r, stepG noN [p] = .ok [r] ∧ r.truth = true := by
  have h0 : faultG noN [p] = 0 := by
    have hkE : kindE noN.kind [p] = 0 := kindE_none (fun z hz => by rw [List.mem_singleton.1 hz, hp]; rfl)
    unfold faultG
    rw [show formG noN = true by kernel_rfl, hkE]
    rfl
  exact ⟨joinG noN [p], by rw [stepG_good (a := 1) rfl (by simp) (by simpa using h0)]; rfl, by rw [joinG_truth]; rfl⟩
theorem step_num2 {x : Ng} {p q : Pt} (har : arG x.kind = some 2) (hwt : wantsG x.kind = false) (hf : formG x = true) (hp : p.truth = true) : stepG x [p, q] = .error 122 := by
  have h0 : faultG x [p, q] = 122 := by
    have hkE := kindE_hit (k := x.kind) (ps := [p, q]) (p := p) (by simp) (by rw [hp, hwt]; rfl)
    rw [hwt] at hkE
    unfold faultG
    rw [hf, hkE]
    rfl
  rw [stepG_bad har (by simp) (by simp [h0])]
  simp [h0]
theorem step_num1 {p : Pt} (hp : p.truth = true) : stepG miN [p] = .error 122 := by
  have h0 : faultG miN [p] = 122 := by
    have hkE := kindE_hit (k := miN.kind) (ps := [p]) (p := p) (by simp) (by rw [hp]; rfl)
    unfold faultG
    rw [show formG miN = true by kernel_rfl, hkE]
    rfl
  rw [stepG_bad (a := 1) rfl (by simp) (by simp [h0])]
  simp [h0]
theorem check_snoc_er {t : List Ng} {st : List Pt} {x : Ng} {e : Int} (h : walkG [] 0 t = .ok st) (hs : stepG x st = .error e) : checkG (t ++ [x]) = (t.length, e) := by
  apply checkG_er
  rw [walkG_snoc x h, hs]
theorem check_snoc_ok {t : List Ng} {st : List Pt} {x : Ng} {r : Pt} (h : walkG [] 0 t = .ok st) (hs : stepG x st = .ok [r]) (hr : r.truth = true) : (checkG (t ++ [x])).2 = if weightG (t ++ [x]) ≤ 3000 then 0 else 126 := by
  refine check_weight (p := r) ?_ hr
  rw [walkG_snoc x h, hs]

/-- The four nodes of the law. -/
def fourN (k : Nat) : Ng := ([adN, orN, rlN, arN] : List Ng).getD k adN
theorem four_check {a b : List Ng} (ha : (checkG a).2 = 0) (hb : (checkG b).2 = 0) (k : Nat) (hk : k < 4) : (2 ≤ k → checkG (a ++ b ++ [fourN k]) = ((a ++ b).length, 122)) ∧ (k < 2 → (checkG (a ++ b ++ [fourN k])).2 = if weightG (a ++ b) < 3000 then 0 else 126) := by
  obtain ⟨p, hwa, hp, -⟩ := filt_iff.1 ha
  obtain ⟨q, hwb, hq, -⟩ := filt_iff.1 hb
  have hw := two_walk hwa hwb
  have : k = 0 ∨ k = 1 ∨ k = 2 ∨ k = 3 := by omega
  rcases this with rfl | rfl | rfl | rfl
  · refine ⟨fun h => by omega, fun _ => ?_⟩
    obtain ⟨r, hr, ht⟩ := step_two (x := adN) (p := p) (q := q) (.inl rfl) (by kernel_rfl) hp hq
    rw [show fourN 0 = adN from rfl, check_snoc_ok hw hr ht, weightG_app, weightG_one, show weighG adN = 1 by kernel_rfl]
    by_cases h : weightG (a ++ b) < 3000
    · rw [if_pos h, if_pos (by omega)]
    · rw [if_neg h, if_neg (by omega)]
  · refine ⟨fun h => by omega, fun _ => ?_⟩
    obtain ⟨r, hr, ht⟩ := step_two (x := orN) (p := p) (q := q) (.inr rfl) (by kernel_rfl) hp hq
    rw [show fourN 1 = orN from rfl, check_snoc_ok hw hr ht, weightG_app, weightG_one, show weighG orN = 1 by kernel_rfl]
    by_cases h : weightG (a ++ b) < 3000
    · rw [if_pos h, if_pos (by omega)]
    · rw [if_neg h, if_neg (by omega)]
  · exact ⟨fun _ => check_snoc_er hw (step_num2 (x := rlN) rfl rfl (by kernel_rfl) hp), fun h => by omega⟩
  · exact ⟨fun _ => check_snoc_er hw (step_num2 (x := arN) rfl rfl (by kernel_rfl) hp), fun h => by omega⟩
theorem minus_check {a : List Ng} (ha : (checkG a).2 = 0) : checkG (a ++ [miN]) = (a.length, 122) := by
  obtain ⟨p, hwa, hp, -⟩ := filt_iff.1 ha
  exact check_snoc_er hwa (step_num1 hp)
theorem not_check {a : List Ng} (ha : (checkG a).2 = 0) : (checkG (a ++ [noN])).2 = if weightG a < 3000 then 0 else 126 := by
  obtain ⟨p, hwa, hp, -⟩ := filt_iff.1 ha
  obtain ⟨r, hr, ht⟩ := step_one hp
  rw [check_snoc_ok hwa hr ht, weightG_app, weightG_one, show weighG noN = 1 by kernel_rfl]
  by_cases h : weightG a < 3000
  · rw [if_pos h, if_pos (by omega)]
  · rw [if_neg h, if_neg (by omega)]

end Go.Proofs.YtnojpepjloceoaaGreat

namespace Go.Proofs.YtnojpepjloceoaaGreat
open Go.RowKit
set_option maxRecDepth 100000

def wyN (s : Int) : Ng := ⟨10, 0, 0, 0, 0, 0, s, zeros 16, 0⟩
theorem law_ok {t : List Ng} {l : Lk} {way : Int} {b : List UInt8} (h : refuseM t l way = 0) : lawJ t l way b = (meanM t l way b).how := by
  unfold lawJ
  rw [if_neg (by simpa using h)]
theorem mean_bad {t : List Ng} {l : Lk} {way : Int} {b : List UInt8} {e : Int} (h : lookX l b = .error e) : meanM t l way b = ⟨2, 0⟩ := by
  unfold meanM
  rw [h]
theorem law_how {t : List Ng} {l : Lk} {way : Int} {b : List UInt8} (hn : ∀ x ∈ t, x.n ≤ 4294967295) (h : refuseM t l way = 0) : Hw (lawJ t l way b) := by
  rw [law_ok h]
  unfold meanM
  cases hl : lookX l b with
  | error e => exact .inr (.inr rfl)
  | ok v =>
    obtain ⟨p, hw, -, -⟩ := filt_iff.1 (refuse_zero h).1
    obtain ⟨q, hq, k⟩ := eval_one (s := ⟨v, way, b⟩) (look_sg way hl).len hn hw
    simp only [hq]
    exact k.how
theorem way_check (s : Int) (hs : s = 1 ∨ s = 2) : (checkG [wyN s]).2 = 0 := by
  rcases hs with rfl | rfl <;> kernel_rfl
theorem law_way {l : Lk} {way : Int} {b : List UInt8} (s : Int) (hs : s = 1 ∨ s = 2) (h2 : checkF l = 0) (h3 : way = 0 ∨ way = 1) : lawJ [wyN s] l way b = match lookX l b with | .error _ => 2 | .ok _ => jdg (decide (way = wayM s)) := by
  rw [law_ok (refuse_ok (way_check s hs) h2 h3)]
  unfold meanM
  cases hl : lookX l b with
  | error e => rfl
  | ok v => rcases hs with rfl | rfl <;> rfl

/-- MeanMalformed. -/
theorem mal_pure {t : List Ng} {l : Lk} {way : Int} {b : List UInt8} (h : ¬ lawJ t l way b < 0) :
    (exE (lookX l b) ≠ 0 → lawJ t l way b = 2 ∧ (weightG t ≠ 3000 → lawJ (t ++ [noN]) l way b = 2) ∧ lawJ [wyN 1] l way b = 2 ∧ lawJ [wyN 2] l way b = 2) ∧
    (exE (lookX l b) = 0 → (way = 0 → lawJ [wyN 1] l way b = 1 ∧ lawJ [wyN 2] l way b = 0) ∧ (way ≠ 0 → lawJ [wyN 1] l way b = 0 ∧ lawJ [wyN 2] l way b = 1)) := by
  have hr : refuseM t l way = 0 := by
    unfold lawJ at h
    split at h
    · omega
    · rename_i hh; omega
  obtain ⟨h1, h2, h3⟩ := refuse_zero hr
  have hwt := filt_iff.1 h1
  obtain ⟨p, -, -, hw3⟩ := hwt
  refine ⟨fun he => ?_, fun he => ?_⟩
  · cases hl : lookX l b with
    | ok v => rw [hl] at he; exact absurd rfl he
    | error e =>
      refine ⟨by rw [law_ok hr, mean_bad hl], fun hw => ?_, ?_, ?_⟩
      · have hc := not_check h1
        rw [if_pos (by omega)] at hc
        rw [law_ok (refuse_ok hc h2 h3), mean_bad hl]
      · rw [law_way 1 (.inl rfl) h2 h3, hl]
      · rw [law_way 2 (.inr rfl) h2 h3, hl]
  · cases hl : lookX l b with
    | error e =>
      rw [hl] at he
      have := look_err hl
      rw [bne_iff_ne] at this
      exact absurd he this
    | ok v =>
      rw [law_way 1 (.inl rfl) h2 h3, law_way 2 (.inr rfl) h2 h3, hl]
      refine ⟨fun h0 => ?_, fun h0 => ?_⟩
      · subst h0; exact ⟨rfl, rfl⟩
      · obtain rfl : way = 1 := by omega
        exact ⟨rfl, rfl⟩
end Go.Proofs.YtnojpepjloceoaaGreat

namespace Go.Proofs.YtnojpepjloceoaaGreat
open Go.RowKit
set_option maxRecDepth 100000

theorem mstp_frame {s : Sg} (pre st : List Pm) (x : Ng) {a : Nat} (ha : arG x.kind = some a) (h : a ≤ st.length) : stpM s (pre ++ st) x = pre ++ stpM s st x := by
  have hd : (pre ++ st).drop ((pre ++ st).length - a) = st.drop (st.length - a) := by
    rw [List.length_append, show pre.length + st.length - a = pre.length + (st.length - a) by omega, List.drop_append, List.drop_eq_nil_of_le (by omega), List.nil_append, Nat.add_sub_cancel_left]
  have ht : (pre ++ st).take ((pre ++ st).length - a) = pre ++ st.take (st.length - a) := by
    rw [List.length_append, show pre.length + st.length - a = pre.length + (st.length - a) by omega, List.take_append, List.take_of_length_le (by omega), Nat.add_sub_cancel_left]
  unfold stpM
  rw [ha]
  simp only [Option.getD_some]
  rw [hd, ht, List.append_assoc]
theorem mstp_len {s : Sg} (st : List Pm) (x : Ng) {a : Nat} (ha : arG x.kind = some a) (_h : a ≤ st.length) : (stpM s st x).length = st.length - a + 1 := by
  unfold stpM
  rw [ha, List.length_append, List.length_take]
  simp only [Option.getD_some, List.length_singleton]
  omega
theorem mev_frame {s : Sg} : ∀ (t : List Ng) (ps ps' : List Pt) (qs pre : List Pm) (k : Nat), walkG ps k t = .ok ps' → qs.length = ps.length → evalM s (pre ++ qs) t = pre ++ evalM s qs t
  | [], _, _, _, _, _, _, _ => rfl
  | x :: t, ps, ps', qs, pre, k, h, hl => by
    simp only [walkG] at h
    cases e : stepG x ps with
    | error e' => rw [e] at h; cases h
    | ok s1 =>
      rw [e] at h
      obtain ⟨a, ha, hle, -, h1⟩ := mstep_inv e
      have h2 : s1.length = ps.length - a + 1 := by rw [h1, List.length_append, List.length_take, List.length_singleton]; omega
      show evalM s (stpM s (pre ++ qs) x) t = pre ++ evalM s (stpM s qs x) t
      rw [mstp_frame pre qs x ha (by omega)]
      exact mev_frame t s1 ps' _ pre (k + 1) h (by rw [mstp_len qs x ha (by omega)]; omega)

def reN (op : Int) : Ng := ⟨6, op, 0, 0, 0, 0, 0, zeros 16, 0⟩
theorem re_form {op : Int} (h1 : 1 ≤ op) (h2 : op ≤ 6) : formG (reN op) = true := by
  have : op = 1 ∨ op = 2 ∨ op = 3 ∨ op = 4 ∨ op = 5 ∨ op = 6 := by omega
  rcases this with rfl | rfl | rfl | rfl | rfl | rfl <;> rfl
theorem re_step {op : Int} {p q : Pt} (h1 : 1 ≤ op) (h2 : op ≤ 6) (hp : p.truth = false) (hq : q.truth = false) : ∃ r, stepG (reN op) [p, q] = .ok [r] ∧ r.truth = true := by
  have h0 : faultG (reN op) [p, q] = 0 := by
    have hkE : kindE (reN op).kind [p, q] = 0 := kindE_none (fun z hz => by
      rcases List.mem_cons.1 hz with rfl | hz
      · rw [hp]; rfl
      · rw [List.mem_singleton.1 hz, hq]; rfl)
    unfold faultG
    rw [re_form h1 h2, hkE]
    rfl
  refine ⟨joinG (reN op) [p, q], ?_, ?_⟩
  · rw [stepG_good (a := 2) rfl (by simp) (by simpa using h0)]
    rfl
  · rw [joinG_truth]
    rfl
def saidR (E op x y : Int) (v w : Nat) : Int := if E ≠ 0 then 2 else if x = 0 ∨ y = 0 then 0 else if x = 2 ∨ y = 2 then 2 else jdg (cmpM op v w)
/-- MeanRelations. -/
theorem rel_pure {a b : List Ng} {l : Lk} {way : Int} {f : List UInt8} (hna : ∀ x ∈ a, x.n ≤ 4294967295) (hnb : ∀ x ∈ b, x.n ≤ 4294967295) (h1 : refuseM (cmpdM a) l way = 0) (h2 : refuseM (cmpdM b) l way = 0) :
    weightG a ≤ 2991 ∧ weightG b ≤ 2991 ∧ a.length ≤ 2991 ∧ b.length ≤ 2991 ∧ (weightG a + weightG b ≤ 2992 → ∀ op : Int, 1 ≤ op → op ≤ 6 → lawJ (a ++ b ++ [reN op]) l way f = saidR (exE (lookX l f)) op (meanM a l way f).how (meanM b l way f).how (meanM a l way f).val (meanM b l way f).val) := by
  obtain ⟨c1, c2, c3⟩ := refuse_zero h1
  obtain ⟨d1, -, -⟩ := refuse_zero h2
  obtain ⟨p, hwa, hp, hga⟩ := cmpd_iff.1 c1
  obtain ⟨q, hwb, hq, hgb⟩ := cmpd_iff.1 d1
  have hla := walkG_weighs a [] _ 0 hwa
  have hlb := walkG_weighs b [] _ 0 hwb
  refine ⟨hga, hgb, by omega, by omega, fun hw op o1 o2 => ?_⟩
  have hab := two_walk hwa hwb
  obtain ⟨r, hr, hrt⟩ := re_step (p := p) (q := q) o1 o2 hp hq
  have hck := check_snoc_ok hab hr hrt
  have hwt : weightG (a ++ b ++ [reN op]) = weightG a + weightG b + 8 := by simp [weightG, reN, weighG, Nat.add_assoc]
  rw [hwt, if_pos (by omega)] at hck
  rw [law_ok (refuse_ok hck c2 c3)]
  unfold saidR
  cases hl : lookX l f with
  | error e =>
    have := look_err hl
    rw [bne_iff_ne] at this
    rw [mean_bad hl]
    rw [if_pos (by simpa [exE] using this)]
  | ok v =>
    rw [if_neg (by simp [exE])]
    obtain ⟨x, hx, kx⟩ := eval_one (s := ⟨v, way, f⟩) (look_sg way hl).len hna hwa
    obtain ⟨y, hy, ky⟩ := eval_one (s := ⟨v, way, f⟩) (look_sg way hl).len hnb hwb
    have hev : evalM ⟨v, way, f⟩ [] (a ++ b ++ [reN op]) = [⟨relM op x y, 0⟩] := by
      have e1 : evalM ⟨v, way, f⟩ [] (a ++ b ++ [reN op]) = evalM ⟨v, way, f⟩ (evalM ⟨v, way, f⟩ (evalM ⟨v, way, f⟩ [] a) b) [reN op] := by
        unfold evalM
        rw [List.foldl_append, List.foldl_append]
      rw [e1, hx]
      have e2 := mev_frame (s := ⟨v, way, f⟩) b [] [q] [] [x] 0 hwb rfl
      rw [List.append_nil] at e2
      rw [e2, hy]
      rfl
    unfold meanM
    rw [hl]
    simp only [hev, hx, hy, List.getD_cons_zero]
    have hx3 := kx.how
    have hy3 := ky.how
    unfold relM jointM
    rcases hx3 with h | h | h <;> rcases hy3 with h' | h' | h' <;> simp [h, h']
end Go.Proofs.YtnojpepjloceoaaGreat

namespace Go.Proofs.YtnojpepjloceoaaGreat
open Go.RowKit
set_option maxRecDepth 100000

/-- A list that is walked to one part, as chapter 14 takes it: what it says over whatever stands below. -/
structure Tr14 (t : List Ng) (s : Sg) (x : Int) : Prop where
  walk : ∃ p : Pt, walkG [] 0 t = .ok [p] ∧ p.truth = true
  eval : ∀ st : List Pm, evalM s (st ++ []) t = st ++ [⟨x, 0⟩]

theorem tr_of {t : List Ng} {s : Sg} {p : Pt} (hb : s.b.length ≤ 65535) (hn : ∀ x ∈ t, x.n ≤ 4294967295) (hw : walkG [] 0 t = .ok [p]) (hp : p.truth = true) : ∃ x, Hw x ∧ Tr14 t s x ∧ (evalM s [] t).getD 0 pm0 = ⟨x, 0⟩ := by
  obtain ⟨q, hq, k⟩ := eval_one hb hn hw
  have hv := k.truth hp
  have e : q = ⟨q.how, 0⟩ := by cases q; simp only at hv; rw [hv]
  refine ⟨q.how, k.how, ⟨⟨p, hw, hp⟩, fun st => ?_⟩, by rw [hq]; exact e⟩
  rw [mev_frame (s := s) t [] [p] [] st 0 hw rfl, hq, ← e]
theorem Tr14.mean {t : List Ng} {l : Lk} {way : Int} {b : List UInt8} {v : Vw} {x : Int} (hl : lookX l b = .ok v) (h : Tr14 t ⟨v, way, b⟩ x) : (meanM t l way b).how = x := by
  have := h.eval []
  simp only [List.nil_append] at this
  unfold meanM
  rw [hl]
  simp only [this]
  rfl
theorem Tr14.two {t u : List Ng} {s : Sg} {x y : Int} (h : Tr14 t s x) (k : Tr14 u s y) (n : Ng) (hn : n = adN ∨ n = orN) : Tr14 (t ++ u ++ [n]) s (if n.kind = 7 then andM x y else orM x y) := by
  obtain ⟨p, hp, hp2⟩ := h.walk
  obtain ⟨q, hq, hq2⟩ := k.walk
  have hw := two_walk hp hq
  constructor
  · obtain ⟨r, hr, hr2⟩ := step_two (x := n) (p := p) (q := q) (by rcases hn with rfl | rfl <;> decide) (by rcases hn with rfl | rfl <;> rfl) hp2 hq2
    exact ⟨r, by rw [walkG_snoc n hw, hr], hr2⟩
  · intro st
    have e1 : evalM s (st ++ []) (t ++ u ++ [n]) = evalM s (evalM s (evalM s (st ++ []) t) u) [n] := by
      unfold evalM
      rw [List.foldl_append, List.foldl_append]
    have e2 := k.eval (st ++ [⟨x, 0⟩])
    rw [List.append_nil] at e2
    rw [e1, h.eval st, e2]
    show stpM s (st ++ [⟨x, 0⟩] ++ [⟨y, 0⟩]) n = _
    rw [List.append_assoc, mstp_frame (a := 2) st _ n (by rcases hn with rfl | rfl <;> rfl) (by simp)]
    rcases hn with rfl | rfl <;> rfl
theorem Tr14.not {t : List Ng} {s : Sg} {x : Int} (h : Tr14 t s x) : Tr14 (t ++ [noN]) s (notM x) := by
  obtain ⟨p, hp, hp2⟩ := h.walk
  constructor
  · obtain ⟨r, hr, hr2⟩ := step_one (p := p) hp2
    exact ⟨r, by rw [walkG_snoc noN hp, hr], hr2⟩
  · intro st
    have e1 : evalM s (st ++ []) (t ++ [noN]) = evalM s (evalM s (st ++ []) t) [noN] := by
      unfold evalM
      rw [List.foldl_append]
    rw [e1, h.eval st]
    show stpM s (st ++ [⟨x, 0⟩]) noN = _
    rw [mstp_frame (a := 1) st _ noN rfl (by simp)]
    rfl
theorem wt_one (t : List Ng) (n : Ng) (hn : n = adN ∨ n = orN ∨ n = noN) : weightG (t ++ [n]) = weightG t + 1 := by
  rcases hn with rfl | rfl | rfl <;> simp [weightG, adN, orN, noN, weighG]
theorem wt_two (t u : List Ng) : weightG (t ++ u) = weightG t + weightG u := by simp [weightG]
theorem tr_law {t : List Ng} {l : Lk} {way : Int} {b : List UInt8} (hw : ∃ p : Pt, walkG [] 0 t = .ok [p] ∧ p.truth = true) (hg : weightG t ≤ 3000) (h2 : checkF l = 0) (h3 : way = 0 ∨ way = 1) : lawJ t l way b = (meanM t l way b).how := by
  obtain ⟨p, hp, hp2⟩ := hw
  exact law_ok (refuse_ok (filt_iff.2 ⟨p, hp, hp2, hg⟩) h2 h3)
theorem not_two {x : Int} (h : Hw x) : notM (notM x) = x := by rcases h with rfl | rfl | rfl <;> rfl
theorem de_morgan {x y : Int} (h : Hw x) (k : Hw y) : notM (orM (notM x) (notM y)) = andM x y := by
  rcases h with rfl | rfl | rfl <;> rcases k with rfl | rfl | rfl <;> rfl

/-- MeanTruths. -/
theorem truths_pure {t u : List Ng} {l : Lk} {way : Int} {b : List UInt8} (hn : ∀ x ∈ t, x.n ≤ 4294967295) (hm : ∀ x ∈ u, x.n ≤ 4294967295) (h1 : ¬ lawJ t l way b < 0) (h2 : ¬ lawJ u l way b < 0) :
    weightG t ≤ 3000 ∧ weightG u ≤ 3000 ∧ t.length ≤ 3000 ∧ u.length ≤ 3000 ∧ Hw (lawJ t l way b) ∧ Hw (lawJ u l way b) ∧ (weightG t + weightG u ≤ 2995 →
      lawJ (t ++ u ++ [adN]) l way b = andM (lawJ t l way b) (lawJ u l way b) ∧ lawJ (t ++ u ++ [orN]) l way b = orM (lawJ t l way b) (lawJ u l way b) ∧ lawJ (t ++ [noN]) l way b = notM (lawJ t l way b) ∧
      lawJ (t ++ [noN] ++ [noN]) l way b = lawJ t l way b ∧ lawJ (t ++ [noN] ++ (u ++ [noN]) ++ [orN] ++ [noN]) l way b = andM (lawJ t l way b) (lawJ u l way b)) := by
  have hr : refuseM t l way = 0 := by
    unfold lawJ at h1
    split at h1
    · omega
    · rename_i hh; omega
  have hk : refuseM u l way = 0 := by
    unfold lawJ at h2
    split at h2
    · omega
    · rename_i hh; omega
  obtain ⟨c1, c2, c3⟩ := refuse_zero hr
  obtain ⟨d1, -, -⟩ := refuse_zero hk
  obtain ⟨p, wa, pa, ga⟩ := filt_iff.1 c1
  obtain ⟨q, wb, qb, gb⟩ := filt_iff.1 d1
  have la := walkG_weighs t [] _ 0 wa
  have lb := walkG_weighs u [] _ 0 wb
  refine ⟨ga, gb, by omega, by omega, law_how hn hr, law_how hm hk, fun hw => ?_⟩
  rw [law_ok hr, law_ok hk]
  -- walks of the five lists, over whatever there is
  have key : ∀ (s : Sg) (x y : Int), Tr14 t s x → Tr14 u s y → Tr14 (t ++ u ++ [adN]) s (andM x y) ∧ Tr14 (t ++ u ++ [orN]) s (orM x y) ∧ Tr14 (t ++ [noN]) s (notM x) ∧ Tr14 (t ++ [noN] ++ [noN]) s (notM (notM x)) ∧ Tr14 (t ++ [noN] ++ (u ++ [noN]) ++ [orN] ++ [noN]) s (notM (orM (notM x) (notM y))) := fun s x y h k => by
    refine ⟨?_, ?_, h.not, h.not.not, ?_⟩
    · have := h.two k adN (.inl rfl)
      rwa [if_pos (show adN.kind = 7 from rfl)] at this
    · have := h.two k orN (.inr rfl)
      rwa [if_neg (show ¬ orN.kind = 7 by decide)] at this
    · have := (h.not.two k.not orN (.inr rfl)).not
      rwa [if_neg (show ¬ orN.kind = 7 by decide)] at this
  obtain ⟨x0, -, tx0, -⟩ := tr_of (s := ⟨Vw.zero, 0, []⟩) (by simp) hn wa pa
  obtain ⟨y0, -, ty0, -⟩ := tr_of (s := ⟨Vw.zero, 0, []⟩) (by simp) hm wb qb
  obtain ⟨r1, r2, r3, r4, r5⟩ := key _ _ _ tx0 ty0
  have g1 : weightG (t ++ u ++ [adN]) ≤ 3000 := by rw [wt_one _ _ (.inl rfl), wt_two]; omega
  have g2 : weightG (t ++ u ++ [orN]) ≤ 3000 := by rw [wt_one _ _ (.inr (.inl rfl)), wt_two]; omega
  have g3 : weightG (t ++ [noN]) ≤ 3000 := by rw [wt_one _ _ (.inr (.inr rfl))]; omega
  have g4 : weightG (t ++ [noN] ++ [noN]) ≤ 3000 := by rw [wt_one _ _ (.inr (.inr rfl)), wt_one _ _ (.inr (.inr rfl))]; omega
  have g5 : weightG (t ++ [noN] ++ (u ++ [noN]) ++ [orN] ++ [noN]) ≤ 3000 := by rw [wt_one _ _ (.inr (.inr rfl)), wt_one _ _ (.inr (.inl rfl)), wt_two, wt_one _ _ (.inr (.inr rfl)), wt_one _ _ (.inr (.inr rfl))]; omega
  rw [tr_law r1.walk g1 c2 c3, tr_law r2.walk g2 c2 c3, tr_law r3.walk g3 c2 c3, tr_law r4.walk g4 c2 c3, tr_law r5.walk g5 c2 c3]
  cases hl : lookX l b with
  | error e => simp only [mean_bad hl]; exact ⟨rfl, rfl, rfl, trivial, rfl⟩
  | ok v =>
    obtain ⟨x, hx, tx, -⟩ := tr_of (s := ⟨v, way, b⟩) (look_sg way hl).len hn wa pa
    obtain ⟨y, hy, ty, -⟩ := tr_of (s := ⟨v, way, b⟩) (look_sg way hl).len hm wb qb
    obtain ⟨q1, q2, q3, q4, q5⟩ := key _ _ _ tx ty
    rw [q1.mean hl, q2.mean hl, q3.mean hl, q4.mean hl, q5.mean hl, tx.mean hl, ty.mean hl, not_two hx, de_morgan hx hy]
    exact ⟨rfl, rfl, rfl, rfl, rfl⟩
end Go.Proofs.YtnojpepjloceoaaGreat
