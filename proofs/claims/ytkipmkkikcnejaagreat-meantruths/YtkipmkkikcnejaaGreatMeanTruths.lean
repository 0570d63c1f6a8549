/-
  For every two lists of nodes, link, way and bytes riddlelaw14.MeanTruths returns true and leaves what was there as it was: no condition of ours.
-/
import Derived.Test.YtkipmkkikcnejaaGreatLotP45
import Derived.Test.YtkipmkkikcnejaaGreatLotP47
import Derived.Test.YtkipmkkikcnejaaGreatLotP44
import Derived.Test.YtkipmkkikcnejaaGreatLotP46
import Derived.Test.YtkipmkkikcnejaaGreatLotP30
import Derived.Deep.DeepCutAuto
namespace Go.Proofs.YtkipmkkikcnejaaGreat
open Go.ChangeShapes Go.WideShapes Go.ChangeAt Go.RowKit
set_option maxRecDepth 100000
namespace meanTruths

theorem bld_k (k : Int) (W : World) : (Instr.build 44 #[(0, .int .i64 k)]).run Tryz.prog W = .ok (.agg (Ng.mk k 0 0 0 0 0 0 (zeros 16) 0).cells.toArray) W := by kernel_rfl

theorem step_litW {P : Program} {ops : Array Oper} {o : Oper} {a : Act} {w : World} {K : Act → World → Prop} {Q : Exit → Act → World → Prop} {E : Prop}
    (hw : Region.wanted o (yielded ops a.tmps) = true) (t : TypeId) (n : Nat) (ps : Array (Nat × Operand)) (ho : o.op = .buildSlice t n ps) (qs : Array (Nat × Value)) (hq : ps.map (fun (i, x) => (i, a.eval x)) = qs) (cs : List Value) (e : TypeId)
    (hr : ∀ W : World, (Instr.buildSlice t n qs).run P W = .ok (.slice (some ⟨W.heap.size, 0, none⟩) n n) (W.alloc (.cells cs.toArray e)))
    (hK : ∀ ad w', CV w' (some ad) cs → ad.block = w.heap.size → ad.block < w'.heap.size → w.grownBy w' none → K (a.put o.dst (.slice (some ad) n n)) w') :
    if Region.wanted o (yielded ops a.tmps) = true then Oper.wp P o a w K Q else E := by
  rw [if_pos hw]
  unfold Oper.wp execOp
  have hr' := hr w
  rw [← hq] at hr'
  simp only [ho, Sem.run_bind, Sem.run_pure, Result.andThen_ok, hr']
  exact hK _ _ (cv_lit w e cs) rfl (VAt.alloc w e cs.toArray).lt (World.grownBy_alloc _ _ _)
theorem step_append_ownW {P : Program} {ops : Array Oper} {o : Oper} {a : Act} {w : World} {K : Act → World → Prop} {Q : Exit → Act → World → Prop} {E : Prop}
    (hw : Region.wanted o (yielded ops a.tmps) = true) (s x : Operand) (t : TypeId) (ho : o.op = .call { callee := .builtin .append, args := #[s, x], argTypes := #[t, t] })
    (e : TypeId) (i : TypeInfo) (z : Value) (size bytes : Nat) (ht : P.underlying t = some (.slice e)) (hi : P.info? e = some i) (hz : i.zero = some z) (hsize : i.size = size) (hby : i.bytes = bytes) (hzs : z.cells.size = size) (hsz : 0 < size)
    (base : Nat) (v : Value) (n : Nat) (vs : List Value) (hs : a.eval s = v) (hown : w.ownsRow base e size v n vs)
    (ad : Addr) (m c : Nat) (us : List Value) (hx : a.eval x = .slice (some ad) m c) (hl : us.length = m * size) (hus : CV w (some ad) us) (h1 : ∀ u ∈ us, u.oneCell' = true)
    (h63 : n + m ≤ maxLen) (hbytes : (n + m) * bytes ≤ 140737488355328) (hbase : base ≤ w.heap.size)
    (hK : ∀ v' w', w'.ownsRow base e size v' (n + m) (vs ++ us) → w.grownBy w' v.ownBlock → (v'.ownBlock = v.ownBlock ∨ v'.ownBlock = some w.heap.size) → K (a.put o.dst v') w') :
    if Region.wanted o (yielded ops a.tmps) = true then Oper.wp P o a w K Q else E := by
  rw [if_pos hw]
  obtain ⟨v', w', hr, h2, h3, _, h5⟩ := run_append_own_at (P := P) w base t o.type e i z size bytes ht hi hz hsize hby hzs hsz v n vs hown ad m c us hl (by
    intro j u hj
    obtain ⟨hlt, e⟩ := List.getElem?_eq_some_iff.1 hj
    rw [hus.2 ad rfl j hlt, e]) h1 h63 hbytes hbase
  unfold Oper.wp execOp
  simp only [ho, resolve, invoke, builtin, Sem.run_bind, Sem.run_pure, Result.andThen_ok, List.map_toArray, List.map_cons, List.map_nil, hs, hx, hr]
  exact hK v' w' h2 h3 h5

set_option maxRecDepth 100000 in
set_option maxHeartbeats 16000000 in
theorem walk (ao : Option Addr) (cap : Nat) (t : List Ng) (bo : Option Addr) (bp : Nat) (u : List Ng) (l : Lk) (way : Int) (a : Option Addr) (ca : Nat) (b : List UInt8) (w : World) (hA : CV w ao (flatG t)) (ha0 : ao = none → cap = 0) (_hac : t.length ≤ cap) (_hax : cap ≤ maxLen) (hal : t.length * 72 ≤ 140737488351232) (hao : ∀ x ∈ t, x.ok) (hB : CV w bo (flatG u)) (hbo0 : bo = none → bp = 0) (_hbc : u.length ≤ bp) (_hbx : bp ≤ maxLen) (hbl : u.length * 72 ≤ 140737488351232) (hbo : ∀ x ∈ u, x.ok) (hb : Cells w a b) (hb0 : a = none → ca = 0) (hbn : b.length ≤ 140737488351232) :
    Calls Tryz.prog 5 #[.slice ao t.length cap, .slice bo u.length bp, .agg (lkA l), .int .i64 way, .slice a b.length ca] w fun e w' => e = .returned (.bool true) ∧ w.grownBy w' none := by
  have hn : ∀ x ∈ t, x.n ≤ 4294967295 := fun x hx => (hao x hx).1
  have hm : ∀ x ∈ u, x.n ≤ 4294967295 := fun x hx => (hbo x hx).1
  have HBL := box_lk l
  have K1 := World.grownBy_alloc w (.cells (lkA l) 24) none
  have HLS := lk_sz l
  have HCN : Hid (∀ W, w.grownBy W none → Calls Tryz.prog 20 #[.slice ao t.length cap] W fun e w' => ∃ v, e = .returned v ∧ NgOwns w' W.heap.size v t ∧ W.grownBy w' none) := fun W K => gcopy_any ao cap t W (hA.keptNone K) ha0 (by omega)
  have HCM : Hid (∀ W, w.grownBy W none → Calls Tryz.prog 20 #[.slice bo u.length bp] W fun e w' => ∃ v, e = .returned v ∧ NgOwns w' W.heap.size v u ∧ W.grownBy w' none) := fun W K => gcopy_any bo bp u W (hB.keptNone K) hbo0 (by omega)
  have HCX : Hid (∀ (W : World) (z : List Ng) (au : Option Addr) (cu n : Nat), z.length = n → CV W au (flatG z) → (au = none → cu = 0) → n * 72 ≤ 140737488351232 → Calls Tryz.prog 20 #[.slice au n cu] W fun e w' => ∃ v, e = .returned v ∧ NgOwns w' W.heap.size v z ∧ W.grownBy w' none) := fun W z au cu n hz h1 h2 h3 => by
    subst hz
    exact gcopy_any au cu z W h1 h2 (by omega)
  have HWT : Hid (∀ (W : World) (au : Option Addr) (cu : Nat), CV W au (flatG t) → Calls Tryz.prog 19 #[.slice au t.length cu] W fun e w' => e = .returned (.int .i64 (weightG t : Int)) ∧ W.grownBy w' none) := fun W au cu h => weight_any au cu t W h (by omega)
  have HWU : Hid (∀ (W : World) (au : Option Addr) (cu : Nat), CV W au (flatG u) → Calls Tryz.prog 19 #[.slice au u.length cu] W fun e w' => e = .returned (.int .i64 (weightG u : Int)) ∧ W.grownBy w' none) := fun W au cu h => weight_any au cu u W h (by omega)
  have HJU : Hid (∀ (x : List Ng) (n cu : Nat) (W : World) (au : Option Addr), x.length = n → CV W au (flatG x) → (au = none → cu = 0) → n * 72 ≤ 140737488355328 → (∀ y ∈ x, y.n ≤ 4294967295) → w.grownBy W none → Calls Tryz.prog 18 #[.slice au n cu, .agg (lkA l), .int .i64 way, .slice a b.length ca] W fun e w' => e = .returned (.int .i64 (lawJ x l way b)) ∧ W.grownBy w' none) := fun x n cu W au hu h1 h2 h3 h4 K => by
    subst hu
    exact ljudge_any au cu x l way a ca b W h1 h2 h3 h4 (hb.keptNone K) hb0 (by omega)
  have HJT : Hid (∀ W, w.grownBy W none → Calls Tryz.prog 18 #[.slice ao t.length cap, .agg (lkA l), .int .i64 way, .slice a b.length ca] W fun e w' => e = .returned (.int .i64 (lawJ t l way b)) ∧ W.grownBy w' none) := fun W K => HJU.out t t.length cap W ao rfl (hA.keptNone K) ha0 (by omega) hn K
  have HJV : Hid (∀ W, w.grownBy W none → Calls Tryz.prog 18 #[.slice bo u.length bp, .agg (lkA l), .int .i64 way, .slice a b.length ca] W fun e w' => e = .returned (.int .i64 (lawJ u l way b)) ∧ W.grownBy w' none) := fun W K => HJU.out u u.length bp W bo rfl (hB.keptNone K) hbo0 (by omega) hm K
  have HPP : Hid _ := fun h1 h2 => truths_pure (l := l) (way := way) (b := b) hn hm h1 h2
  have HB : Hid (CV w bo (flatG u) ∧ (bo = none → bp = 0)) := ⟨hB, hbo0⟩
  have HNN : Hid ((∀ x ∈ t, x.n ≤ 4294967295) ∧ (∀ x ∈ u, x.n ≤ 4294967295)) := ⟨hn, hm⟩
  obtain ⟨i0, hi, hz0, hz1, hz2⟩ := ng_zero
  have HI : Hid (Tryz.prog.info? 44 = some i0 ∧ i0.zero = some (.agg ngZ.cells.toArray) ∧ i0.size = 24 ∧ i0.bytes = 72) := ⟨hi, hz0, hz1, hz2⟩
  clear hA ha0 hal hao hB hbo0 hbl hbo hb hb0 hbn hn hm _hac _hax _hbc _hbx hi hz0 hz1 hz2
  obtain ⟨LA, hLA⟩ : ∃ LA, lkA l = LA := ⟨_, rfl⟩
  have V1 : VAt (w.alloc (.cells LA 24)) w.heap.size 24 LA := VAt.alloc _ _ _
  rw [hLA] at HBL K1 HLS HJU HJT HJV ⊢
  clear hLA
  obtain ⟨x, hx⟩ : ∃ x, lawJ t l way b = x := ⟨_, rfl⟩
  obtain ⟨y, hy⟩ : ∃ y, lawJ u l way b = y := ⟨_, rfl⟩
  rw [hx] at HJT HPP
  rw [hy] at HJV HPP
  have HXY : Hid (lawJ t l way b = x ∧ lawJ u l way b = y) := ⟨hx, hy⟩
  clear hx hy
  have HAW : Hid (∀ W, w.grownBy W none → Calls Tryz.prog 15 #[] W fun e w' => e = .returned (.bool true) ∧ w.grownBy w' none) := fun W K => (awake14_any W).mono (fun e w' h => ⟨h.1, grown_trans K h.2⟩)
  go_enter Tryz.func5, Tryz.ntmps5
  go_upto_region 1 with fail
  generalize w.alloc (.cells LA 24) = w1 at *
  generalize w.heap.size = B at *
  clear HBL
  have HS0 : Hid (VAt w1.drew B 24 LA ∧ w.grownBy w1.drew none) := ⟨V1.kept (grown_drewN w1 1 none), grown_trans K1 (grown_drewN w1 1 none)⟩
  clear V1 K1
  refine wp_region_held_drew (S := fun W => VAt W B 24 LA ∧ w.grownBy W none) (by kernel_rfl) (HS0.out) (fun hHeld => ?_)
  refine wpAnyH_take (i := 0) (v := .slice ao t.length cap) rfl (by kernel_rfl) (by kernel_rfl) (by kernel_rfl) (fun _ _ _ h => h) (Or.inl ⟨by rfl, fun W hW => ?_⟩) hHeld ?_
  · clear hW
    go_simp
  try simp only [Act.put, List.getElem_toArray, List.getElem_cons_zero, List.setIfInBounds_toArray, List.set_cons_zero, List.set_cons_succ]
  refine wpAnyH_take (i := 1) (v := .agg (LA)) rfl (by kernel_rfl) (by kernel_rfl) (by kernel_rfl) (fun _ _ _ h => h) (yieldsIf_load_row (by rfl) _ _ rfl B rfl 24 (LA) _ (fun W hW => hW.1) Tryz.underlying24 rfl HLS) hHeld ?_
  try simp only [Act.put, List.getElem_toArray, List.getElem_cons_zero, List.getElem_cons_succ, List.setIfInBounds_toArray, List.set_cons_zero, List.set_cons_succ]
  refine wpAnyH_take (i := 2) (v := .int .i64 way) rfl (by kernel_rfl) (by kernel_rfl) (by kernel_rfl) (fun _ _ _ h => h) (Or.inl ⟨by rfl, fun W hW => ?_⟩) hHeld ?_
  · clear hW
    go_simp
  try simp only [Act.put, List.getElem_toArray, List.getElem_cons_zero, List.getElem_cons_succ, List.setIfInBounds_toArray, List.set_cons_zero, List.set_cons_succ]
  refine wpAnyH_take (i := 3) (v := .slice a b.length ca) rfl (by kernel_rfl) (by kernel_rfl) (by kernel_rfl) (fun _ _ _ h => h) (Or.inl ⟨by rfl, fun W hW => ?_⟩) hHeld ?_
  · clear hW
    go_simp
  try simp only [Act.put, List.getElem_toArray, List.getElem_cons_zero, List.getElem_cons_succ, List.setIfInBounds_toArray, List.set_cons_zero, List.set_cons_succ]
  refine wpAnyH_take (i := 5) (v := .slice bo u.length bp) rfl (by kernel_rfl) (by kernel_rfl) (by kernel_rfl) (fun _ _ _ h => h) (Or.inl ⟨by rfl, fun W hW => ?_⟩) hHeld ?_
  · clear hW
    go_simp
  try simp only [Act.put, List.getElem_toArray, List.getElem_cons_zero, List.getElem_cons_succ, List.setIfInBounds_toArray, List.set_cons_zero, List.set_cons_succ]
  refine wpAnyH_take (i := 6) (v := .agg (LA)) rfl (by kernel_rfl) (by kernel_rfl) (by kernel_rfl) (fun _ _ _ h => h) (yieldsIf_load_row (by rfl) _ _ rfl B rfl 24 (LA) _ (fun W hW => hW.1) Tryz.underlying24 rfl HLS) hHeld ?_
  try simp only [Act.put, List.getElem_toArray, List.getElem_cons_zero, List.getElem_cons_succ, List.setIfInBounds_toArray, List.set_cons_zero, List.set_cons_succ]
  refine wpAnyH_take (i := 7) (v := .int .i64 way) rfl (by kernel_rfl) (by kernel_rfl) (by kernel_rfl) (fun _ _ _ h => h) (Or.inl ⟨by rfl, fun W hW => ?_⟩) hHeld ?_
  · clear hW
    go_simp
  try simp only [Act.put, List.getElem_toArray, List.getElem_cons_zero, List.getElem_cons_succ, List.setIfInBounds_toArray, List.set_cons_zero, List.set_cons_succ]
  refine wpAnyH_take (i := 8) (v := .slice a b.length ca) rfl (by kernel_rfl) (by kernel_rfl) (by kernel_rfl) (fun _ _ _ h => h) (Or.inl ⟨by rfl, fun W hW => ?_⟩) hHeld ?_
  · clear hW
    go_simp
  try simp only [Act.put, List.getElem_toArray, List.getElem_cons_zero, List.getElem_cons_succ, List.setIfInBounds_toArray, List.set_cons_zero, List.set_cons_succ]
  refine wpAnyH_ready (rs := [4]) (by kernel_rfl) (by simp) (AllReadyH.cons rfl (fun K hK => ?_) AllReadyH.nil)
  go_simp
  refine (HJT.out _ hHeld.2).mono ?_
  rintro e w2 ⟨rfl, K2⟩
  go_wp2_with fail
  refine hK.out _ _ (⟨hHeld.1.kept K2, grown_trans hHeld.2 K2⟩) (fun hHeld => ?_)
  clear hK K
  try simp only [Act.put, List.getElem_toArray, List.getElem_cons_zero, List.getElem_cons_succ, List.setIfInBounds_toArray, List.set_cons_zero, List.set_cons_succ]
  refine wpAnyH_ready (rs := [9]) (by kernel_rfl) (by simp) (AllReadyH.cons rfl (fun K hK => ?_) AllReadyH.nil)
  go_simp
  refine (HJV.out _ hHeld.2).mono ?_
  rintro e wb ⟨rfl, K3⟩
  go_wp2_with fail
  refine hK.out _ _ (⟨hHeld.1.kept K3, grown_trans hHeld.2 K3⟩) (fun hHeld => ?_)
  clear hK K
  try simp only [Act.put, List.getElem_toArray, List.getElem_cons_zero, List.getElem_cons_succ, List.setIfInBounds_toArray, List.set_cons_zero, List.set_cons_succ]
  refine wpAnyH_take (i := 10) (v := .int .i64 x) rfl (by kernel_rfl) (by kernel_rfl) (by kernel_rfl) (fun _ _ _ h => h) (Or.inl ⟨by rfl, fun W hW => ?_⟩) hHeld ?_
  · clear hW
    go_simp
  try simp only [Act.put, List.getElem_toArray, List.getElem_cons_zero, List.getElem_cons_succ, List.setIfInBounds_toArray, List.set_cons_zero, List.set_cons_succ]
  refine wpAnyH_take (i := 11) (v := .int .i64 y) rfl (by kernel_rfl) (by kernel_rfl) (by kernel_rfl) (fun _ _ _ h => h) (Or.inl ⟨by rfl, fun W hW => ?_⟩) hHeld ?_
  · clear hW
    go_simp
  try simp only [Act.put, List.getElem_toArray, List.getElem_cons_zero, List.getElem_cons_succ, List.setIfInBounds_toArray, List.set_cons_zero, List.set_cons_succ]
  refine wpAnyH_done (by kernel_rfl) ?_ _

  have HS2 : Hid (VAt wb B 24 LA ∧ w.grownBy wb none) := hHeld
  clear hHeld K2 K3 HJT HJV HS0
  by_cases hx0 : x < 0
  · have e1 : decide (x < 0) = true := decide_eq_true hx0
    clear hx0
    go_wp2_with fail
    refine (HAW.out _ HS2.out.2).mono ?_
    rintro e ws ⟨rfl, Ks⟩
    go_wp2
    go_ret
    exact ⟨rfl, Ks⟩
  have e1 : decide (x < 0) = false := decide_eq_false hx0
  by_cases hy0 : y < 0
  · have e2 : decide (y < 0) = true := decide_eq_true hy0
    clear hy0 hx0
    go_wp2_with fail
    refine (HAW.out _ HS2.out.2).mono ?_
    rintro e ws ⟨rfl, Ks⟩
    go_wp2
    go_ret
    exact ⟨rfl, Ks⟩
  have e2 : decide (y < 0) = false := decide_eq_false hy0
  obtain ⟨p1, p2, p3, p4, p5, p6, p7⟩ := HPP.out (by omega) (by omega)
  obtain ⟨wt, hwt⟩ : ∃ wt, weightG t = wt := ⟨_, rfl⟩
  obtain ⟨wu, hwu⟩ : ∃ wu, weightG u = wu := ⟨_, rfl⟩
  rw [hwt] at HWT p1 p7
  rw [hwu] at HWU p2 p7
  have HP7 : Hid _ := p7
  have HH : Hid (Hw x ∧ Hw y) := ⟨p5, p6⟩
  have HPW : Hid (wt ≤ 3000 ∧ wu ≤ 3000 ∧ t.length ≤ 3000 ∧ u.length ≤ 3000) := ⟨p1, p2, p3, p4⟩
  clear p1 p2 p3 p4 p5 p6 p7 hwt hwu HPP hx0 hy0
  go_wp2_with fail
  refine (HCN.out _ HS2.out.2).mono ?_
  rintro e w2 ⟨v2, rfl, O2, K2⟩
  obtain ⟨a2, c2, hv2, C2, -⟩ := cv_of_row O2
  subst hv2
  go_wp2_with fail
  refine (HWT.out _ _ _ C2).mono ?_
  rintro e w3 ⟨rfl, K3⟩
  have HS3 : Hid (VAt w3 B 24 LA ∧ w.grownBy w3 none) := ⟨(HS2.out.1.kept K2).kept K3, grown_trans (grown_trans HS2.out.2 K2) K3⟩
  clear O2 C2 K2 K3 HS2 HWT
  go_wp2_with fail
  refine (HCM.out _ HS3.out.2).mono ?_
  rintro e w4 ⟨v4, rfl, O4, K4⟩
  obtain ⟨a4, c4, hv4, C4, -⟩ := cv_of_row O4
  subst hv4
  go_wp2_with fail
  refine (HWU.out _ _ _ C4).mono ?_
  rintro e wd ⟨rfl, K5⟩
  have HS4 : Hid (VAt wd B 24 LA ∧ w.grownBy wd none) := ⟨(HS3.out.1.kept K4).kept K5, grown_trans (grown_trans HS3.out.2 K4) K5⟩
  clear O4 C4 K4 K5 HS3 HWU
  have hsum : IntKind.i64.wrap ((wt : Int) + (wu : Int)) = (wt : Int) + (wu : Int) := by rw [IntKind.wrap_i64]; have := HPW.out; omega
  by_cases hw : wt + wu ≤ 2995
  case neg =>
    have e3 : decide ((2995 : Int) < (wt : Int) + (wu : Int)) = true := decide_eq_true (by omega)
    clear hw
    go_wp2_with fail
    refine (HAW.out _ HS4.out.2).mono ?_
    rintro e ws ⟨rfl, Ks⟩
    go_wp2
    go_ret
    exact ⟨rfl, Ks⟩
  have e3 : decide ((2995 : Int) < (wt : Int) + (wu : Int)) = false := decide_eq_false (by omega)
  have HP8 : Hid _ := HP7.out hw
  clear hw HP7
  have HB9 := bld_k 9
  obtain ⟨N9, h9⟩ : ∃ N9, noN.cells.toArray = N9 := ⟨_, rfl⟩
  have HB9 : ∀ W : World, (Instr.build 44 #[(0, .int .i64 9)]).run Tryz.prog W = .ok (.agg N9) W := fun W => by rw [← h9]; exact HB9 W
  have HXC : Hid ((Tryz.prog.info? 44).map (·.size) = some N9.size ∧ ngZ.cells.toArray.size = N9.size ∧ N9.all (·.oneCell') = true) := by
    show _ ∧ _ ∧ _
    rw [← h9]
    exact ⟨ng_size _, rfl, ng_all _⟩
  have HL9 := fun W => lit_ng1 noN W
  simp only [h9] at HL9
  have HN9 : Hid (noN.cells.toArray = N9) := h9
  clear h9
  go_upto_region 5 with (first
    | (refine wpList_bld rfl 44 #[(0, .const (.int .i64 9))] rfl _ (by kernel_rfl) (.agg N9) HB9 ?_)
    | (refine wpList_store_row rfl 44 (.tmp 13) (.tmp 48) rfl wd.heap.size N9 rfl rfl 44 _ (heap_alloc_new wd _) HXC.out.1 HXC.out.2.1 HXC.out.2.2 ?_))
  rw [World.setRow_alloc_new]
  have HS5 : Hid (VAt (wd.alloc (.cells N9 44)) B 24 LA ∧ w.grownBy (wd.alloc (.cells N9 44)) none ∧ VAt (wd.alloc (.cells N9 44)) wd.heap.size 44 N9) := ⟨HS4.out.1.kept (World.grownBy_alloc wd _ none), grown_trans HS4.out.2 (World.grownBy_alloc wd _ none), VAt.alloc _ _ _⟩
  generalize wd.alloc (.cells N9 44) = we at *
  generalize wd.heap.size = D at *
  clear HS4 e3 hsum
  have HE : Hid (w.grownBy we none) := HS5.out.2.1
  try simp only [Act.put]
  have hsub : IntKind.i64.wrap (1 - x) = 1 - x := by rw [IntKind.wrap_i64]; have := HH.out.1; unfold Hw at this; omega
  go_upto_if 54 with fail
  go_cut [14, 54] from 55 to 55 (fun i _ wx => i = .int .i64 (andM x y) ∧ wx = we)
  case first =>
    by_cases hx1 : x = 1
    · have e4 : (x != 1) = false := by rw [hx1]; rfl
      have e5 : andM x y = y := by unfold andM; rw [if_neg (by simpa using hx1)]
      clear hx1
      go_wp2
      go_meet
      exact ⟨by rw [e5], rfl⟩
    · have e4 : (x != 1) = true := by rw [bne_iff_ne]; exact hx1
      have e5 : andM x y = x := by unfold andM; rw [if_pos hx1]
      clear hx1
      go_wp2
      go_meet
      exact ⟨by rw [e5], rfl⟩
  case rest =>
  obtain ⟨rfl, rfl⟩ := hcut
  obtain ⟨wf, hwf⟩ : ∃ wf : World, wf = wc := ⟨_, rfl⟩
  subst hwf
  go_upto_if 57 with fail
  go_cut [15, 57] from 58 to 58 (fun i _ wx => i = .int .i64 (orM x y) ∧ wx = wf)
  case first =>
    by_cases hx1 : x = 0
    · have e4 : (x != 0) = false := by rw [hx1]; rfl
      have e5 : orM x y = y := by unfold orM; rw [if_neg (by simpa using hx1)]
      clear hx1
      go_wp2
      go_meet
      exact ⟨by rw [e5], rfl⟩
    · have e4 : (x != 0) = true := by rw [bne_iff_ne]; exact hx1
      have e5 : orM x y = x := by unfold orM; rw [if_pos hx1]
      clear hx1
      go_wp2
      go_meet
      exact ⟨by rw [e5], rfl⟩
  case rest =>
  obtain ⟨rfl, rfl⟩ := hcut
  obtain ⟨wg, hwg⟩ : ∃ wg : World, wg = wc := ⟨_, rfl⟩
  subst hwg
  go_upto_if 60 with fail
  go_cut [16, 60] from 61 to 61 (fun i _ wx => i = .int .i64 (notM x) ∧ wx = wg)
  case first =>
    by_cases hx1 : x = 2
    · have e4 : (x == 2) = true := by rw [hx1]; rfl
      have e5 : notM x = x := by rw [hx1]; rfl
      clear hx1
      go_wp2
      go_meet
      exact ⟨by rw [e5], rfl⟩
    · have e4 : (x == 2) = false := by rw [beq_eq_false_iff_ne]; exact hx1
      have e5 : notM x = 1 - x := by
        rcases HH.out.1 with h | h | h
        · rw [h]; rfl
        · rw [h]; rfl
        · exact absurd h hx1
      clear hx1
      go_wp2
      go_meet
      exact ⟨by rw [e5], rfl⟩
  case rest =>
  obtain ⟨rfl, rfl⟩ := hcut
  obtain ⟨wh, hwh⟩ : ∃ wh : World, wh = wc := ⟨_, rfl⟩
  subst hwh
  clear hsub e1 e2
  obtain ⟨xa, hxa⟩ : ∃ z, andM x y = z := ⟨_, rfl⟩
  obtain ⟨xo, hxo⟩ : ∃ z, orM x y = z := ⟨_, rfl⟩
  obtain ⟨xn, hxn⟩ : ∃ z, notM x = z := ⟨_, rfl⟩
  rw [hxa, hxo, hxn] at HP8
  rw [hxa, hxo, hxn]
  clear hxa hxo hxn
  have HLA : Hid (t.length + u.length ≤ maxLen ∧ (t.length + u.length) * 72 ≤ 140737488355328) := by have := HPW.out; refine ⟨?_, ?_⟩ <;> (try unfold maxLen) <;> omega
  have HLC : Hid (t.length + 1 ≤ maxLen ∧ (t.length + 1) * 72 ≤ 140737488355328 ∧ u.length + 1 ≤ maxLen ∧ (u.length + 1) * 72 ≤ 140737488355328) := by have := HPW.out; refine ⟨?_, ?_, ?_, ?_⟩ <;> (try unfold maxLen) <;> omega
  go_wp2_with fail
  refine (HCN.out _ HS5.out.2.1).mono ?_
  rintro e w5 ⟨v5, rfl, O5, K5⟩
  go_upto_region 13 with (at_builtin; refine wpList_append_cv rfl (.tmp 63) (.tmp 64) 22 rfl 44 i0 _ 24 72 Tryz.underlying22 HI.out.1 HI.out.2.1 HI.out.2.2.1 HI.out.2.2.2 rfl (by decide) wh.heap.size _ t.length (flatG t) rfl O5 bo u.length bp (flatG u) rfl (flatG_len u) HB.out.2 (HB.out.1.keptNone (grown_trans HS5.out.2.1 K5)) (flatG_one u) HLA.out.1 HLA.out.2 K5.size ?_; intro v6 w6 O6 K6; rw [← flatG_append] at O6; have G6 : wh.grownBy w6 none := grown_trans_new K5 K6 (fun z hz => (O5.lt z hz).1))
  obtain ⟨a6, c6, hv6, C6, -, -, h06, -⟩ := cv_of_row O6
  subst hv6
  have HS6 : Hid ((VAt w6 B 24 LA ∧ VAt w6 D 44 N9 ∧ w.grownBy w6 none) ∧ CV w6 a6 (flatG (t ++ u)) ∧ (a6 = none → c6 = 0)) := ⟨⟨HS5.out.1.kept G6, HS5.out.2.2.kept G6, grown_trans HS5.out.2.1 G6⟩, C6, h06⟩
  clear O5 K5 O6 K6 G6 C6 h06 HS5 HE HLA
  go_cut [18] from 66 to 70 (fun s wx => ∃ a7 c7, s = .slice a7 (t.length + 1) c7 ∧ CV wx a7 (flatG (t ++ [noN])) ∧ (a7 = none → c7 = 0) ∧ w6.grownBy wx none)
  case first =>
    have HSZ : Hid (B < w6.heap.size ∧ D < w6.heap.size) := ⟨HS6.out.1.1.lt, HS6.out.1.2.1.lt⟩
    refine wp_region_held_drew (S := fun W => VAt W B 24 LA ∧ VAt W D 44 N9 ∧ w6.grownBy W none) (by kernel_rfl) (⟨HS6.out.1.1.kept (grown_drewN w6 1 none), HS6.out.1.2.1.kept (grown_drewN w6 1 none), grown_drewN w6 1 none⟩) (fun hHeld => ?_)
    refine wpAnyH_take (i := 0) (v := .slice ao t.length cap) rfl (by kernel_rfl) (by kernel_rfl) (by kernel_rfl) (fun _ _ _ h => h) (Or.inl ⟨by rfl, fun W hW => ?_⟩) hHeld ?_
    · clear hW
      go_simp
    try simp only [Act.put, List.getElem_toArray, List.getElem_cons_zero, List.setIfInBounds_toArray, List.set_cons_zero, List.set_cons_succ]
    refine wpAnyH_take (i := 2) (v := .agg (N9)) rfl (by kernel_rfl) (by kernel_rfl) (by kernel_rfl) (fun _ _ _ h => h) (yieldsIf_load_row (by rfl) _ _ rfl D rfl 44 (N9) _ (fun W hW => hW.2.1) Tryz.underlying44 rfl HXC.out.1) hHeld ?_
    try simp only [Act.put, List.getElem_toArray, List.getElem_cons_zero, List.getElem_cons_succ, List.setIfInBounds_toArray, List.set_cons_zero, List.set_cons_succ]
    refine wpAnyH_ready (rs := [1, 3]) (by kernel_rfl) (by simp) (AllReadyH.cons rfl (fun K hK => ?_) (AllReadyH.cons rfl (fun K hK => ?_) AllReadyH.nil))
    · as_aux_lemma =>
        go_simp
        refine (HCN.out _ (grown_trans HS6.out.1.2.2 hHeld.2.2)).mono ?_
        rintro e w2 ⟨v2, rfl, O2, K2⟩
        have O2 := owns_mono O2 hHeld.2.2.size
        go_wp2_with fail
        refine hK.out _ _ (⟨hHeld.1.kept K2, hHeld.2.1.kept K2, grown_trans hHeld.2.2 K2⟩) (fun hHeld => ?_)
        clear hK K
        try simp only [Act.put, List.getElem_toArray, List.getElem_cons_zero, List.getElem_cons_succ, List.setIfInBounds_toArray, List.set_cons_zero, List.set_cons_succ]
        refine wpAnyH_ready (rs := [3]) (by kernel_rfl) (by simp) (AllReadyH.cons rfl (fun K hK => ?_) AllReadyH.nil)
        refine step_lit (by rfl) 22 1 _ (by rfl) #[(0, .agg N9)] (by kernel_rfl) (flatG [noN]) 44 HL9 ?_
        intro ad w3 CL K3
        have O2 := owns_keptNone O2 K3
        refine hK.out _ _ (⟨hHeld.1.kept K3, hHeld.2.1.kept K3, grown_trans hHeld.2.2 K3⟩) (fun hHeld => ?_)
        clear hK K
        try simp only [Act.put, List.getElem_toArray, List.getElem_cons_zero, List.getElem_cons_succ, List.setIfInBounds_toArray, List.set_cons_zero, List.set_cons_succ]
        refine wpAnyH_ready (rs := [4]) (by kernel_rfl) (by simp) (AllReadyH.cons rfl (fun K hK => ?_) AllReadyH.nil)
        refine step_append_own (by rfl) (.tmp 67) (.tmp 69) 22 (by rfl) 44 i0 _ 24 72 Tryz.underlying22 HI.out.1 HI.out.2.1 HI.out.2.2.1 HI.out.2.2.2 rfl (by decide) w6.heap.size v2 t.length (flatG t) (by rfl) O2 ad 1 1 (flatG [noN]) (by rfl) rfl CL (flatG_one _) HLC.out.1 HLC.out.2.1 hHeld.2.2.size ?_
        intro v4 w4 O4 K4 B4
        have nB : ¬ v2.ownBlock = some B := fun e => by have := (O2.lt B e).1; have := HSZ.out; omega
        have nD : ¬ v2.ownBlock = some D := fun e => by have := (O2.lt D e).1; have := HSZ.out; omega
        have hG4 : w6.grownBy w4 none := grown_trans_new hHeld.2.2 K4 (fun z hz => (O2.lt z hz).1)
        rw [← flatG_append] at O4
        obtain ⟨a4, c4, hv4, C4, -, -, h04, -⟩ := cv_of_row O4
        subst hv4
        refine hK.out _ _ ⟨hHeld.1.grown K4 nB, hHeld.2.1.grown K4 nD, hG4⟩ (fun hHeld => ?_)
        clear hK K
        try simp only [Act.put, List.getElem_toArray, List.getElem_cons_zero, List.getElem_cons_succ, List.setIfInBounds_toArray, List.set_cons_zero, List.set_cons_succ]
        refine wpAnyH_take (i := 5) (v := .slice a4 (t.length + 1) c4) rfl (by kernel_rfl) (by kernel_rfl) (by kernel_rfl) (fun _ _ _ h => h) (Or.inl ⟨by rfl, fun W hW => ?_⟩) hHeld ?_
        · clear hW
          go_simp
        try simp only [Act.put, List.getElem_toArray, List.getElem_cons_zero, List.getElem_cons_succ, List.setIfInBounds_toArray, List.set_cons_zero, List.set_cons_succ]
        refine wpAnyH_done (by kernel_rfl) ?_ _
        have HFIN : Hid (CV _ a4 (flatG (t ++ [noN])) ∧ (a4 = none → c4 = 0) ∧ w6.grownBy _ none) := ⟨C4, h04, hHeld.2.2⟩
        clear hHeld O4 K4 B4 CL O2 C4 h04 nB nD hG4
        go_wp2
        go_meet
        exact ⟨a4, c4, rfl, HFIN.out.1, HFIN.out.2.1, HFIN.out.2.2⟩
    · as_aux_lemma =>
        refine step_lit (by rfl) 22 1 _ (by rfl) #[(0, .agg N9)] (by kernel_rfl) (flatG [noN]) 44 HL9 ?_
        intro ad w3 CL K3
        refine hK.out _ _ (⟨hHeld.1.kept K3, hHeld.2.1.kept K3, grown_trans hHeld.2.2 K3⟩) (fun hHeld => ?_)
        clear hK K
        try simp only [Act.put, List.getElem_toArray, List.getElem_cons_zero, List.getElem_cons_succ, List.setIfInBounds_toArray, List.set_cons_zero, List.set_cons_succ]
        refine wpAnyH_ready (rs := [1]) (by kernel_rfl) (by simp) (AllReadyH.cons rfl (fun K hK => ?_) AllReadyH.nil)
        go_simp
        refine (HCN.out _ (grown_trans HS6.out.1.2.2 hHeld.2.2)).mono ?_
        rintro e w2 ⟨v2, rfl, O2, K2⟩
        have O2 := owns_mono O2 hHeld.2.2.size
        have CL := CL.keptNone K2
        go_wp2_with fail
        refine hK.out _ _ (⟨hHeld.1.kept K2, hHeld.2.1.kept K2, grown_trans hHeld.2.2 K2⟩) (fun hHeld => ?_)
        clear hK K
        try simp only [Act.put, List.getElem_toArray, List.getElem_cons_zero, List.getElem_cons_succ, List.setIfInBounds_toArray, List.set_cons_zero, List.set_cons_succ]
        refine wpAnyH_ready (rs := [4]) (by kernel_rfl) (by simp) (AllReadyH.cons rfl (fun K hK => ?_) AllReadyH.nil)
        refine step_append_own (by rfl) (.tmp 67) (.tmp 69) 22 (by rfl) 44 i0 _ 24 72 Tryz.underlying22 HI.out.1 HI.out.2.1 HI.out.2.2.1 HI.out.2.2.2 rfl (by decide) w6.heap.size v2 t.length (flatG t) (by rfl) O2 ad 1 1 (flatG [noN]) (by rfl) rfl CL (flatG_one _) HLC.out.1 HLC.out.2.1 hHeld.2.2.size ?_
        intro v4 w4 O4 K4 B4
        have nB : ¬ v2.ownBlock = some B := fun e => by have := (O2.lt B e).1; have := HSZ.out; omega
        have nD : ¬ v2.ownBlock = some D := fun e => by have := (O2.lt D e).1; have := HSZ.out; omega
        have hG4 : w6.grownBy w4 none := grown_trans_new hHeld.2.2 K4 (fun z hz => (O2.lt z hz).1)
        rw [← flatG_append] at O4
        obtain ⟨a4, c4, hv4, C4, -, -, h04, -⟩ := cv_of_row O4
        subst hv4
        refine hK.out _ _ ⟨hHeld.1.grown K4 nB, hHeld.2.1.grown K4 nD, hG4⟩ (fun hHeld => ?_)
        clear hK K
        try simp only [Act.put, List.getElem_toArray, List.getElem_cons_zero, List.getElem_cons_succ, List.setIfInBounds_toArray, List.set_cons_zero, List.set_cons_succ]
        refine wpAnyH_take (i := 5) (v := .slice a4 (t.length + 1) c4) rfl (by kernel_rfl) (by kernel_rfl) (by kernel_rfl) (fun _ _ _ h => h) (Or.inl ⟨by rfl, fun W hW => ?_⟩) hHeld ?_
        · clear hW
          go_simp
        try simp only [Act.put, List.getElem_toArray, List.getElem_cons_zero, List.getElem_cons_succ, List.setIfInBounds_toArray, List.set_cons_zero, List.set_cons_succ]
        refine wpAnyH_done (by kernel_rfl) ?_ _
        have HFIN : Hid (CV _ a4 (flatG (t ++ [noN])) ∧ (a4 = none → c4 = 0) ∧ w6.grownBy _ none) := ⟨C4, h04, hHeld.2.2⟩
        clear hHeld O4 K4 B4 CL O2 C4 h04 nB nD hG4
        go_wp2
        go_meet
        exact ⟨a4, c4, rfl, HFIN.out.1, HFIN.out.2.1, HFIN.out.2.2⟩
  case rest =>
  obtain ⟨a7, c7, rfl, C7, h07, K7⟩ := hcut
  have HS7 : Hid (((VAt wc B 24 LA ∧ VAt wc D 44 N9 ∧ w.grownBy wc none) ∧ CV wc a6 (flatG (t ++ u)) ∧ (a6 = none → c6 = 0)) ∧ CV wc a7 (flatG (t ++ [noN])) ∧ (a7 = none → c7 = 0)) := ⟨⟨⟨HS6.out.1.1.kept K7, HS6.out.1.2.1.kept K7, grown_trans HS6.out.1.2.2 K7⟩, HS6.out.2.1.keptNone K7, HS6.out.2.2⟩, C7, h07⟩
  clear C7 h07 K7 HS6
  obtain ⟨w7, hw7⟩ : ∃ w7 : World, w7 = wc := ⟨_, rfl⟩
  subst hw7
  go_upto_region 14 with fail
  go_cut [19] from 71 to 75 (fun s wx => ∃ a8 c8, s = .slice a8 (u.length + 1) c8 ∧ CV wx a8 (flatG (u ++ [noN])) ∧ (a8 = none → c8 = 0) ∧ w7.grownBy wx none)
  case first =>
    have HSZ : Hid (B < w7.heap.size ∧ D < w7.heap.size) := ⟨HS7.out.1.1.1.lt, HS7.out.1.1.2.1.lt⟩
    refine wp_region_held_drew (S := fun W => VAt W B 24 LA ∧ VAt W D 44 N9 ∧ w7.grownBy W none) (by kernel_rfl) (⟨HS7.out.1.1.1.kept (grown_drewN w7 1 none), HS7.out.1.1.2.1.kept (grown_drewN w7 1 none), grown_drewN w7 1 none⟩) (fun hHeld => ?_)
    refine wpAnyH_take (i := 0) (v := .slice bo u.length bp) rfl (by kernel_rfl) (by kernel_rfl) (by kernel_rfl) (fun _ _ _ h => h) (Or.inl ⟨by rfl, fun W hW => ?_⟩) hHeld ?_
    · clear hW
      go_simp
    try simp only [Act.put, List.getElem_toArray, List.getElem_cons_zero, List.setIfInBounds_toArray, List.set_cons_zero, List.set_cons_succ]
    refine wpAnyH_take (i := 2) (v := .agg (N9)) rfl (by kernel_rfl) (by kernel_rfl) (by kernel_rfl) (fun _ _ _ h => h) (yieldsIf_load_row (by rfl) _ _ rfl D rfl 44 (N9) _ (fun W hW => hW.2.1) Tryz.underlying44 rfl HXC.out.1) hHeld ?_
    try simp only [Act.put, List.getElem_toArray, List.getElem_cons_zero, List.getElem_cons_succ, List.setIfInBounds_toArray, List.set_cons_zero, List.set_cons_succ]
    refine wpAnyH_ready (rs := [1, 3]) (by kernel_rfl) (by simp) (AllReadyH.cons rfl (fun K hK => ?_) (AllReadyH.cons rfl (fun K hK => ?_) AllReadyH.nil))
    · as_aux_lemma =>
        go_simp
        refine (HCM.out _ (grown_trans HS7.out.1.1.2.2 hHeld.2.2)).mono ?_
        rintro e w2 ⟨v2, rfl, O2, K2⟩
        have O2 := owns_mono O2 hHeld.2.2.size
        go_wp2_with fail
        refine hK.out _ _ (⟨hHeld.1.kept K2, hHeld.2.1.kept K2, grown_trans hHeld.2.2 K2⟩) (fun hHeld => ?_)
        clear hK K
        try simp only [Act.put, List.getElem_toArray, List.getElem_cons_zero, List.getElem_cons_succ, List.setIfInBounds_toArray, List.set_cons_zero, List.set_cons_succ]
        refine wpAnyH_ready (rs := [3]) (by kernel_rfl) (by simp) (AllReadyH.cons rfl (fun K hK => ?_) AllReadyH.nil)
        refine step_lit (by rfl) 22 1 _ (by rfl) #[(0, .agg N9)] (by kernel_rfl) (flatG [noN]) 44 HL9 ?_
        intro ad w3 CL K3
        have O2 := owns_keptNone O2 K3
        refine hK.out _ _ (⟨hHeld.1.kept K3, hHeld.2.1.kept K3, grown_trans hHeld.2.2 K3⟩) (fun hHeld => ?_)
        clear hK K
        try simp only [Act.put, List.getElem_toArray, List.getElem_cons_zero, List.getElem_cons_succ, List.setIfInBounds_toArray, List.set_cons_zero, List.set_cons_succ]
        refine wpAnyH_ready (rs := [4]) (by kernel_rfl) (by simp) (AllReadyH.cons rfl (fun K hK => ?_) AllReadyH.nil)
        refine step_append_own (by rfl) (.tmp 72) (.tmp 74) 22 (by rfl) 44 i0 _ 24 72 Tryz.underlying22 HI.out.1 HI.out.2.1 HI.out.2.2.1 HI.out.2.2.2 rfl (by decide) w7.heap.size v2 u.length (flatG u) (by rfl) O2 ad 1 1 (flatG [noN]) (by rfl) rfl CL (flatG_one _) HLC.out.2.2.1 HLC.out.2.2.2 hHeld.2.2.size ?_
        intro v4 w4 O4 K4 B4
        have nB : ¬ v2.ownBlock = some B := fun e => by have := (O2.lt B e).1; have := HSZ.out; omega
        have nD : ¬ v2.ownBlock = some D := fun e => by have := (O2.lt D e).1; have := HSZ.out; omega
        have hG4 : w7.grownBy w4 none := grown_trans_new hHeld.2.2 K4 (fun z hz => (O2.lt z hz).1)
        rw [← flatG_append] at O4
        obtain ⟨a4, c4, hv4, C4, -, -, h04, -⟩ := cv_of_row O4
        subst hv4
        refine hK.out _ _ ⟨hHeld.1.grown K4 nB, hHeld.2.1.grown K4 nD, hG4⟩ (fun hHeld => ?_)
        clear hK K
        try simp only [Act.put, List.getElem_toArray, List.getElem_cons_zero, List.getElem_cons_succ, List.setIfInBounds_toArray, List.set_cons_zero, List.set_cons_succ]
        refine wpAnyH_take (i := 5) (v := .slice a4 (u.length + 1) c4) rfl (by kernel_rfl) (by kernel_rfl) (by kernel_rfl) (fun _ _ _ h => h) (Or.inl ⟨by rfl, fun W hW => ?_⟩) hHeld ?_
        · clear hW
          go_simp
        try simp only [Act.put, List.getElem_toArray, List.getElem_cons_zero, List.getElem_cons_succ, List.setIfInBounds_toArray, List.set_cons_zero, List.set_cons_succ]
        refine wpAnyH_done (by kernel_rfl) ?_ _
        have HFIN : Hid (CV _ a4 (flatG (u ++ [noN])) ∧ (a4 = none → c4 = 0) ∧ w7.grownBy _ none) := ⟨C4, h04, hHeld.2.2⟩
        clear hHeld O4 K4 B4 CL O2 C4 h04 nB nD hG4
        go_wp2
        go_meet
        exact ⟨a4, c4, rfl, HFIN.out.1, HFIN.out.2.1, HFIN.out.2.2⟩
    · as_aux_lemma =>
        refine step_lit (by rfl) 22 1 _ (by rfl) #[(0, .agg N9)] (by kernel_rfl) (flatG [noN]) 44 HL9 ?_
        intro ad w3 CL K3
        refine hK.out _ _ (⟨hHeld.1.kept K3, hHeld.2.1.kept K3, grown_trans hHeld.2.2 K3⟩) (fun hHeld => ?_)
        clear hK K
        try simp only [Act.put, List.getElem_toArray, List.getElem_cons_zero, List.getElem_cons_succ, List.setIfInBounds_toArray, List.set_cons_zero, List.set_cons_succ]
        refine wpAnyH_ready (rs := [1]) (by kernel_rfl) (by simp) (AllReadyH.cons rfl (fun K hK => ?_) AllReadyH.nil)
        go_simp
        refine (HCM.out _ (grown_trans HS7.out.1.1.2.2 hHeld.2.2)).mono ?_
        rintro e w2 ⟨v2, rfl, O2, K2⟩
        have O2 := owns_mono O2 hHeld.2.2.size
        have CL := CL.keptNone K2
        go_wp2_with fail
        refine hK.out _ _ (⟨hHeld.1.kept K2, hHeld.2.1.kept K2, grown_trans hHeld.2.2 K2⟩) (fun hHeld => ?_)
        clear hK K
        try simp only [Act.put, List.getElem_toArray, List.getElem_cons_zero, List.getElem_cons_succ, List.setIfInBounds_toArray, List.set_cons_zero, List.set_cons_succ]
        refine wpAnyH_ready (rs := [4]) (by kernel_rfl) (by simp) (AllReadyH.cons rfl (fun K hK => ?_) AllReadyH.nil)
        refine step_append_own (by rfl) (.tmp 72) (.tmp 74) 22 (by rfl) 44 i0 _ 24 72 Tryz.underlying22 HI.out.1 HI.out.2.1 HI.out.2.2.1 HI.out.2.2.2 rfl (by decide) w7.heap.size v2 u.length (flatG u) (by rfl) O2 ad 1 1 (flatG [noN]) (by rfl) rfl CL (flatG_one _) HLC.out.2.2.1 HLC.out.2.2.2 hHeld.2.2.size ?_
        intro v4 w4 O4 K4 B4
        have nB : ¬ v2.ownBlock = some B := fun e => by have := (O2.lt B e).1; have := HSZ.out; omega
        have nD : ¬ v2.ownBlock = some D := fun e => by have := (O2.lt D e).1; have := HSZ.out; omega
        have hG4 : w7.grownBy w4 none := grown_trans_new hHeld.2.2 K4 (fun z hz => (O2.lt z hz).1)
        rw [← flatG_append] at O4
        obtain ⟨a4, c4, hv4, C4, -, -, h04, -⟩ := cv_of_row O4
        subst hv4
        refine hK.out _ _ ⟨hHeld.1.grown K4 nB, hHeld.2.1.grown K4 nD, hG4⟩ (fun hHeld => ?_)
        clear hK K
        try simp only [Act.put, List.getElem_toArray, List.getElem_cons_zero, List.getElem_cons_succ, List.setIfInBounds_toArray, List.set_cons_zero, List.set_cons_succ]
        refine wpAnyH_take (i := 5) (v := .slice a4 (u.length + 1) c4) rfl (by kernel_rfl) (by kernel_rfl) (by kernel_rfl) (fun _ _ _ h => h) (Or.inl ⟨by rfl, fun W hW => ?_⟩) hHeld ?_
        · clear hW
          go_simp
        try simp only [Act.put, List.getElem_toArray, List.getElem_cons_zero, List.getElem_cons_succ, List.setIfInBounds_toArray, List.set_cons_zero, List.set_cons_succ]
        refine wpAnyH_done (by kernel_rfl) ?_ _
        have HFIN : Hid (CV _ a4 (flatG (u ++ [noN])) ∧ (a4 = none → c4 = 0) ∧ w7.grownBy _ none) := ⟨C4, h04, hHeld.2.2⟩
        clear hHeld O4 K4 B4 CL O2 C4 h04 nB nD hG4
        go_wp2
        go_meet
        exact ⟨a4, c4, rfl, HFIN.out.1, HFIN.out.2.1, HFIN.out.2.2⟩
  case rest =>
  obtain ⟨a8, c8, rfl, C8, h08, K8⟩ := hcut
  have HS8 : Hid ((((VAt wc B 24 LA ∧ VAt wc D 44 N9 ∧ w.grownBy wc none) ∧ CV wc a6 (flatG (t ++ u)) ∧ (a6 = none → c6 = 0)) ∧ CV wc a7 (flatG (t ++ [noN])) ∧ (a7 = none → c7 = 0)) ∧ CV wc a8 (flatG (u ++ [noN]))) := ⟨⟨⟨⟨HS7.out.1.1.1.kept K8, HS7.out.1.1.2.1.kept K8, grown_trans HS7.out.1.1.2.2 K8⟩, HS7.out.1.2.1.keptNone K8, HS7.out.1.2.2⟩, HS7.out.2.1.keptNone K8, HS7.out.2.2⟩, C8⟩
  obtain ⟨bb, of8, ha8, -⟩ := C8.addr (k := 0) (by rw [flatG_len]; simp)
  subst ha8
  clear C8 h08 K8 HS7 HCN HCM
  obtain ⟨w8, hw8⟩ : ∃ w8 : World, w8 = wc := ⟨_, rfl⟩
  subst hw8
  have HC7 : Hid (∀ W, w8.grownBy W none → Calls Tryz.prog 20 #[.slice a7 (t.length + 1) c7] W fun e w' => ∃ v, e = .returned v ∧ w'.ownsRow W.heap.size 44 24 v (t.length + 1) (flatG (t ++ [noN])) ∧ W.grownBy w' none) := fun W K => by
    refine (HCX.out W (t ++ [noN]) a7 c7 (t.length + 1) (by simp) (HS8.out.1.2.1.keptNone K) HS8.out.1.2.2 (by have := HPW.out; omega)).mono ?_
    rintro e w' ⟨v, rfl, O, K'⟩
    refine ⟨v, rfl, ?_, K'⟩
    unfold NgOwns at O
    rw [List.length_append, List.length_singleton] at O
    exact O
  have HC6 : Hid (∀ W, w8.grownBy W none → Calls Tryz.prog 20 #[.slice a6 (t.length + u.length) c6] W fun e w' => ∃ v, e = .returned v ∧ w'.ownsRow W.heap.size 44 24 v (t.length + u.length) (flatG (t ++ u)) ∧ W.grownBy w' none) := fun W K => by
    refine (HCX.out W (t ++ u) a6 c6 (t.length + u.length) (by simp) (HS8.out.1.1.2.1.keptNone K) HS8.out.1.1.2.2 (by have := HPW.out; omega)).mono ?_
    rintro e w' ⟨v, rfl, O, K'⟩
    refine ⟨v, rfl, ?_, K'⟩
    unfold NgOwns at O
    rw [List.length_append] at O
    exact O
  have HLN : Hid (((t.length + 1) + (u.length + 1) ≤ maxLen ∧ ((t.length + 1) + (u.length + 1)) * 72 ≤ 140737488355328) ∧ ((t.length + 1) + (u.length + 1) + 2 ≤ maxLen ∧ ((t.length + 1) + (u.length + 1) + 2) * 72 ≤ 140737488355328) ∧ (t.length + u.length + 1 ≤ maxLen ∧ (t.length + u.length + 1) * 72 ≤ 140737488355328) ∧ (t.length + 1 + 1 ≤ maxLen ∧ (t.length + 1 + 1) * 72 ≤ 140737488355328)) := by have := HPW.out; refine ⟨⟨?_, ?_⟩, ⟨?_, ?_⟩, ⟨?_, ?_⟩, ⟨?_, ?_⟩⟩ <;> (try unfold maxLen) <;> omega
  have HB8 := bld_k 8
  have HB7 := bld_k 7
  obtain ⟨N8, h8⟩ : ∃ N8, orN.cells.toArray = N8 := ⟨_, rfl⟩
  obtain ⟨N7, h7⟩ : ∃ N7, adN.cells.toArray = N7 := ⟨_, rfl⟩
  have HB8 : ∀ W : World, (Instr.build 44 #[(0, .int .i64 8)]).run Tryz.prog W = .ok (.agg N8) W := fun W => by rw [← h8]; exact HB8 W
  have HB7 : ∀ W : World, (Instr.build 44 #[(0, .int .i64 7)]).run Tryz.prog W = .ok (.agg N7) W := fun W => by rw [← h7]; exact HB7 W
  have HL8 := fun W => lit_ng1 orN W
  simp only [h8] at HL8
  have HL7 := fun W => lit_ng1 adN W
  simp only [h7] at HL7
  have HL89 : ∀ W : World, (Instr.buildSlice 22 2 #[(0, .agg N8), (1, .agg N9)]).run Tryz.prog W = .ok (.slice (some ⟨W.heap.size, 0, none⟩) 2 2) (W.alloc (.cells (flatG [orN, noN]).toArray 44)) := fun W => by
    rw [← h8, ← HN9.out]
    exact lit_duo orN noN W
  clear h7 h8
  go_upto_region 15 with fail
  go_cut [20] from 76 to 83 (fun s wx => ∃ a9 c9, s = .slice a9 ((t.length + 1) + (u.length + 1) + 2) c9 ∧ CV wx a9 (flatG (t ++ [noN] ++ (u ++ [noN]) ++ [orN, noN])) ∧ (a9 = none → c9 = 0) ∧ w8.grownBy wx none)
  case first =>
    have HSZ : Hid (B < w8.heap.size ∧ D < w8.heap.size) := ⟨HS8.out.1.1.1.1.lt, HS8.out.1.1.1.2.1.lt⟩
    refine wp_region_held_drew (S := fun W => VAt W B 24 LA ∧ VAt W D 44 N9 ∧ w8.grownBy W none) (by kernel_rfl) (⟨HS8.out.1.1.1.1.kept (grown_drewN w8 1 none), HS8.out.1.1.1.2.1.kept (grown_drewN w8 1 none), grown_drewN w8 1 none⟩) (fun hHeld => ?_)
    refine wpAnyH_take (i := 0) (v := .slice a7 (t.length + 1) c7) rfl (by kernel_rfl) (by kernel_rfl) (by kernel_rfl) (fun _ _ _ h => h) (Or.inl ⟨by rfl, fun W hW => ?_⟩) hHeld ?_
    · clear hW
      go_simp
    try simp only [Act.put, List.getElem_toArray, List.getElem_cons_zero, List.setIfInBounds_toArray, List.set_cons_zero, List.set_cons_succ]
    refine wpAnyH_take (i := 2) (v := .slice (some ⟨bb, of8, none⟩) (u.length + 1) c8) rfl (by kernel_rfl) (by kernel_rfl) (by kernel_rfl) (fun _ _ _ h => h) (Or.inl ⟨by rfl, fun W hW => ?_⟩) hHeld ?_
    · clear hW
      go_simp
    try simp only [Act.put, List.getElem_toArray, List.getElem_cons_zero, List.getElem_cons_succ, List.setIfInBounds_toArray, List.set_cons_zero, List.set_cons_succ]
    refine wpAnyH_take (i := 4) (v := .agg N8) rfl (by kernel_rfl) (by kernel_rfl) (by kernel_rfl) (fun _ _ _ h => h) (yieldsIf_bld (by rfl) 44 _ (by rfl) #[(0, .int .i64 8)] (by kernel_rfl) (.agg N8) HB8) hHeld ?_
    try simp only [Act.put, List.getElem_toArray, List.getElem_cons_zero, List.getElem_cons_succ, List.setIfInBounds_toArray, List.set_cons_zero, List.set_cons_succ]
    refine wpAnyH_take (i := 5) (v := .agg (N9)) rfl (by kernel_rfl) (by kernel_rfl) (by kernel_rfl) (fun _ _ _ h => h) (yieldsIf_load_row (by rfl) _ _ rfl D rfl 44 (N9) _ (fun W hW => hW.2.1) Tryz.underlying44 rfl HXC.out.1) hHeld ?_
    try simp only [Act.put, List.getElem_toArray, List.getElem_cons_zero, List.getElem_cons_succ, List.setIfInBounds_toArray, List.set_cons_zero, List.set_cons_succ]
    refine wpAnyH_ready (rs := [1, 6]) (by kernel_rfl) (by simp) (AllReadyH.cons rfl (fun K hK => ?_) (AllReadyH.cons rfl (fun K hK => ?_) AllReadyH.nil))
    · skip
      go_simp
      refine (HC7.out _ hHeld.2.2).mono ?_
      rintro e w2 ⟨v2, rfl, O2, K2⟩
      have O2 := owns_mono O2 hHeld.2.2.size
      go_wp2_with fail
      refine hK.out _ _ (⟨hHeld.1.kept K2, hHeld.2.1.kept K2, grown_trans hHeld.2.2 K2⟩) (fun hHeld => ?_)
      clear hK K K2
      try simp only [Act.put, List.getElem_toArray, List.getElem_cons_zero, List.getElem_cons_succ, List.setIfInBounds_toArray, List.set_cons_zero, List.set_cons_succ]
      refine wpAnyH_ready (rs := [3, 6]) (by kernel_rfl) (by simp) (AllReadyH.cons rfl (fun K hK => ?_) (AllReadyH.cons rfl (fun K hK => ?_) AllReadyH.nil))
      · skip
        refine step_append_ownW (by rfl) (.tmp 77) (.tmp 78) 22 (by rfl) 44 i0 _ 24 72 Tryz.underlying22 HI.out.1 HI.out.2.1 HI.out.2.2.1 HI.out.2.2.2 rfl (by decide) w8.heap.size v2 (t.length + 1) (flatG (t ++ [noN])) (by rfl) O2 ⟨bb, of8, none⟩ (u.length + 1) c8 (flatG (u ++ [noN])) (by rfl) (by rw [flatG_len]; simp) (HS8.out.2.keptNone hHeld.2.2) (flatG_one _) HLN.out.1.1 HLN.out.1.2 hHeld.2.2.size ?_
        intro v4 w4 O4 K4 B4
        have nB : ¬ v2.ownBlock = some B := fun e => by have := (O2.lt B e).1; have := HSZ.out; omega
        have nD : ¬ v2.ownBlock = some D := fun e => by have := (O2.lt D e).1; have := HSZ.out; omega
        have hG4 : w8.grownBy w4 none := grown_trans_new hHeld.2.2 K4 (fun z hz => (O2.lt z hz).1)
        rw [← flatG_append] at O4
        have hB4 := hHeld.1.grown K4 nB
        have hD4 := hHeld.2.1.grown K4 nD
        refine hK.out _ _ ⟨hB4, hD4, hG4⟩ (fun hHeld => ?_)
        clear hK K
        try simp only [Act.put, List.getElem_toArray, List.getElem_cons_zero, List.getElem_cons_succ, List.setIfInBounds_toArray, List.set_cons_zero, List.set_cons_succ]
        have O2 := O4
        clear O4 K4 B4 nB nD hG4 hB4 hD4
        refine wpAnyH_ready (rs := [6]) (by kernel_rfl) (by simp) (AllReadyH.cons rfl (fun K hK => ?_) AllReadyH.nil)
        refine step_litW (by rfl) 22 2 _ (by rfl) #[(0, .agg N8), (1, .agg N9)] (by kernel_rfl) (flatG [orN, noN]) 44 HL89 ?_
        intro ad w3 CL hAD hAL K3
        have nA : ¬ v4.ownBlock = some ad.block := fun e => by have := (O2.lt _ e).2; omega
        have O2 := owns_keptNone O2 K3
        refine hK.out _ _ (⟨hHeld.1.kept K3, hHeld.2.1.kept K3, grown_trans hHeld.2.2 K3⟩) (fun hHeld => ?_)
        clear hK K K3
        try simp only [Act.put, List.getElem_toArray, List.getElem_cons_zero, List.getElem_cons_succ, List.setIfInBounds_toArray, List.set_cons_zero, List.set_cons_succ]
        refine wpAnyH_ready (rs := [7]) (by kernel_rfl) (by simp) (AllReadyH.cons rfl (fun K hK => ?_) AllReadyH.nil)
        refine step_append_ownW (by rfl) (.tmp 79) (.tmp 82) 22 (by rfl) 44 i0 _ 24 72 Tryz.underlying22 HI.out.1 HI.out.2.1 HI.out.2.2.1 HI.out.2.2.2 rfl (by decide) w8.heap.size v4 ((t.length + 1) + (u.length + 1)) (flatG (t ++ [noN] ++ (u ++ [noN]))) (by rfl) O2 ad (2) 2 (flatG [orN, noN]) (by rfl) (rfl) (CL) (flatG_one _) HLN.out.2.1.1 HLN.out.2.1.2 hHeld.2.2.size ?_
        intro v5 w4 O4 K4 B4
        have nB : ¬ v4.ownBlock = some B := fun e => by have := (O2.lt B e).1; have := HSZ.out; omega
        have nD : ¬ v4.ownBlock = some D := fun e => by have := (O2.lt D e).1; have := HSZ.out; omega
        have hG4 : w8.grownBy w4 none := grown_trans_new hHeld.2.2 K4 (fun z hz => (O2.lt z hz).1)
        rw [← flatG_append] at O4
        have hB4 := hHeld.1.grown K4 nB
        have hD4 := hHeld.2.1.grown K4 nD
        obtain ⟨a4, c4, hv4, C4, -, -, h04, -⟩ := cv_of_row O4
        subst hv4
        refine hK.out _ _ ⟨hB4, hD4, hG4⟩ (fun hHeld => ?_)
        clear hK K
        try simp only [Act.put, List.getElem_toArray, List.getElem_cons_zero, List.getElem_cons_succ, List.setIfInBounds_toArray, List.set_cons_zero, List.set_cons_succ]
        refine wpAnyH_take (i := 8) (v := .slice a4 ((t.length + 1) + (u.length + 1) + 2) c4) rfl (by kernel_rfl) (by kernel_rfl) (by kernel_rfl) (fun _ _ _ h => h) (Or.inl ⟨by rfl, fun W hW => ?_⟩) hHeld ?_
        · clear hW
          go_simp
        try simp only [Act.put, List.getElem_toArray, List.getElem_cons_zero, List.getElem_cons_succ, List.setIfInBounds_toArray, List.set_cons_zero, List.set_cons_succ]
        refine wpAnyH_done (by kernel_rfl) ?_ _
        have HFIN : Hid (CV _ a4 (flatG (t ++ [noN] ++ (u ++ [noN]) ++ [orN, noN])) ∧ (a4 = none → c4 = 0) ∧ w8.grownBy _ none) := ⟨C4, h04, hHeld.2.2⟩
        clear hHeld O4 K4 B4 CL O2 C4 h04 nB nD hG4 hB4 hD4
        go_wp2
        go_meet
        exact ⟨a4, c4, rfl, HFIN.out.1, HFIN.out.2.1, HFIN.out.2.2⟩
      · skip
        refine step_litW (by rfl) 22 2 _ (by rfl) #[(0, .agg N8), (1, .agg N9)] (by kernel_rfl) (flatG [orN, noN]) 44 HL89 ?_
        intro ad w3 CL hAD hAL K3
        have nA : ¬ v2.ownBlock = some ad.block := fun e => by have := (O2.lt _ e).2; omega
        have O2 := owns_keptNone O2 K3
        refine hK.out _ _ (⟨hHeld.1.kept K3, hHeld.2.1.kept K3, grown_trans hHeld.2.2 K3⟩) (fun hHeld => ?_)
        clear hK K K3
        try simp only [Act.put, List.getElem_toArray, List.getElem_cons_zero, List.getElem_cons_succ, List.setIfInBounds_toArray, List.set_cons_zero, List.set_cons_succ]
        refine wpAnyH_ready (rs := [3]) (by kernel_rfl) (by simp) (AllReadyH.cons rfl (fun K hK => ?_) AllReadyH.nil)
        refine step_append_ownW (by rfl) (.tmp 77) (.tmp 78) 22 (by rfl) 44 i0 _ 24 72 Tryz.underlying22 HI.out.1 HI.out.2.1 HI.out.2.2.1 HI.out.2.2.2 rfl (by decide) w8.heap.size v2 (t.length + 1) (flatG (t ++ [noN])) (by rfl) O2 ⟨bb, of8, none⟩ (u.length + 1) c8 (flatG (u ++ [noN])) (by rfl) (by rw [flatG_len]; simp) (HS8.out.2.keptNone hHeld.2.2) (flatG_one _) HLN.out.1.1 HLN.out.1.2 hHeld.2.2.size ?_
        intro v4 w4 O4 K4 B4
        have nB : ¬ v2.ownBlock = some B := fun e => by have := (O2.lt B e).1; have := HSZ.out; omega
        have nD : ¬ v2.ownBlock = some D := fun e => by have := (O2.lt D e).1; have := HSZ.out; omega
        have hG4 : w8.grownBy w4 none := grown_trans_new hHeld.2.2 K4 (fun z hz => (O2.lt z hz).1)
        rw [← flatG_append] at O4
        have hB4 := hHeld.1.grown K4 nB
        have hD4 := hHeld.2.1.grown K4 nD
        have CL := CL.kept K4 (fun ad2 h _ e => nA (by cases h; exact e.symm))
        refine hK.out _ _ ⟨hB4, hD4, hG4⟩ (fun hHeld => ?_)
        clear hK K
        try simp only [Act.put, List.getElem_toArray, List.getElem_cons_zero, List.getElem_cons_succ, List.setIfInBounds_toArray, List.set_cons_zero, List.set_cons_succ]
        have O2 := O4
        clear O4 K4 B4 nB nD hG4 hB4 hD4
        refine wpAnyH_ready (rs := [7]) (by kernel_rfl) (by simp) (AllReadyH.cons rfl (fun K hK => ?_) AllReadyH.nil)
        refine step_append_ownW (by rfl) (.tmp 79) (.tmp 82) 22 (by rfl) 44 i0 _ 24 72 Tryz.underlying22 HI.out.1 HI.out.2.1 HI.out.2.2.1 HI.out.2.2.2 rfl (by decide) w8.heap.size v4 ((t.length + 1) + (u.length + 1)) (flatG (t ++ [noN] ++ (u ++ [noN]))) (by rfl) O2 ad (2) 2 (flatG [orN, noN]) (by rfl) (rfl) (CL) (flatG_one _) HLN.out.2.1.1 HLN.out.2.1.2 hHeld.2.2.size ?_
        intro v5 w4 O4 K4 B4
        have nB : ¬ v4.ownBlock = some B := fun e => by have := (O2.lt B e).1; have := HSZ.out; omega
        have nD : ¬ v4.ownBlock = some D := fun e => by have := (O2.lt D e).1; have := HSZ.out; omega
        have hG4 : w8.grownBy w4 none := grown_trans_new hHeld.2.2 K4 (fun z hz => (O2.lt z hz).1)
        rw [← flatG_append] at O4
        have hB4 := hHeld.1.grown K4 nB
        have hD4 := hHeld.2.1.grown K4 nD
        obtain ⟨a4, c4, hv4, C4, -, -, h04, -⟩ := cv_of_row O4
        subst hv4
        refine hK.out _ _ ⟨hB4, hD4, hG4⟩ (fun hHeld => ?_)
        clear hK K
        try simp only [Act.put, List.getElem_toArray, List.getElem_cons_zero, List.getElem_cons_succ, List.setIfInBounds_toArray, List.set_cons_zero, List.set_cons_succ]
        refine wpAnyH_take (i := 8) (v := .slice a4 ((t.length + 1) + (u.length + 1) + 2) c4) rfl (by kernel_rfl) (by kernel_rfl) (by kernel_rfl) (fun _ _ _ h => h) (Or.inl ⟨by rfl, fun W hW => ?_⟩) hHeld ?_
        · clear hW
          go_simp
        try simp only [Act.put, List.getElem_toArray, List.getElem_cons_zero, List.getElem_cons_succ, List.setIfInBounds_toArray, List.set_cons_zero, List.set_cons_succ]
        refine wpAnyH_done (by kernel_rfl) ?_ _
        have HFIN : Hid (CV _ a4 (flatG (t ++ [noN] ++ (u ++ [noN]) ++ [orN, noN])) ∧ (a4 = none → c4 = 0) ∧ w8.grownBy _ none) := ⟨C4, h04, hHeld.2.2⟩
        clear hHeld O4 K4 B4 CL O2 C4 h04 nB nD hG4 hB4 hD4
        go_wp2
        go_meet
        exact ⟨a4, c4, rfl, HFIN.out.1, HFIN.out.2.1, HFIN.out.2.2⟩
    · skip
      refine step_litW (by rfl) 22 2 _ (by rfl) #[(0, .agg N8), (1, .agg N9)] (by kernel_rfl) (flatG [orN, noN]) 44 HL89 ?_
      intro ad w3 CL hAD hAL K3
      have HAL : Hid (ad.block < w3.heap.size) := hAL
      refine hK.out _ _ (⟨hHeld.1.kept K3, hHeld.2.1.kept K3, grown_trans hHeld.2.2 K3⟩) (fun hHeld => ?_)
      clear hK K K3
      try simp only [Act.put, List.getElem_toArray, List.getElem_cons_zero, List.getElem_cons_succ, List.setIfInBounds_toArray, List.set_cons_zero, List.set_cons_succ]
      refine wpAnyH_ready (rs := [1]) (by kernel_rfl) (by simp) (AllReadyH.cons rfl (fun K hK => ?_) AllReadyH.nil)
      go_simp
      refine (HC7.out _ hHeld.2.2).mono ?_
      rintro e w2 ⟨v2, rfl, O2, K2⟩
      have nA : ¬ v2.ownBlock = some ad.block := fun e => by have := (O2.lt _ e).1; have := HAL.out; omega
      have O2 := owns_mono O2 hHeld.2.2.size
      have CL := CL.keptNone K2
      go_wp2_with fail
      refine hK.out _ _ (⟨hHeld.1.kept K2, hHeld.2.1.kept K2, grown_trans hHeld.2.2 K2⟩) (fun hHeld => ?_)
      clear hK K K2
      try simp only [Act.put, List.getElem_toArray, List.getElem_cons_zero, List.getElem_cons_succ, List.setIfInBounds_toArray, List.set_cons_zero, List.set_cons_succ]
      refine wpAnyH_ready (rs := [3]) (by kernel_rfl) (by simp) (AllReadyH.cons rfl (fun K hK => ?_) AllReadyH.nil)
      refine step_append_ownW (by rfl) (.tmp 77) (.tmp 78) 22 (by rfl) 44 i0 _ 24 72 Tryz.underlying22 HI.out.1 HI.out.2.1 HI.out.2.2.1 HI.out.2.2.2 rfl (by decide) w8.heap.size v2 (t.length + 1) (flatG (t ++ [noN])) (by rfl) O2 ⟨bb, of8, none⟩ (u.length + 1) c8 (flatG (u ++ [noN])) (by rfl) (by rw [flatG_len]; simp) (HS8.out.2.keptNone hHeld.2.2) (flatG_one _) HLN.out.1.1 HLN.out.1.2 hHeld.2.2.size ?_
      intro v4 w4 O4 K4 B4
      have nB : ¬ v2.ownBlock = some B := fun e => by have := (O2.lt B e).1; have := HSZ.out; omega
      have nD : ¬ v2.ownBlock = some D := fun e => by have := (O2.lt D e).1; have := HSZ.out; omega
      have hG4 : w8.grownBy w4 none := grown_trans_new hHeld.2.2 K4 (fun z hz => (O2.lt z hz).1)
      rw [← flatG_append] at O4
      have hB4 := hHeld.1.grown K4 nB
      have hD4 := hHeld.2.1.grown K4 nD
      have CL := CL.kept K4 (fun ad2 h _ e => nA (by cases h; exact e.symm))
      refine hK.out _ _ ⟨hB4, hD4, hG4⟩ (fun hHeld => ?_)
      clear hK K
      try simp only [Act.put, List.getElem_toArray, List.getElem_cons_zero, List.getElem_cons_succ, List.setIfInBounds_toArray, List.set_cons_zero, List.set_cons_succ]
      have O2 := O4
      clear O4 K4 B4 nB nD hG4 hB4 hD4
      refine wpAnyH_ready (rs := [7]) (by kernel_rfl) (by simp) (AllReadyH.cons rfl (fun K hK => ?_) AllReadyH.nil)
      refine step_append_ownW (by rfl) (.tmp 79) (.tmp 82) 22 (by rfl) 44 i0 _ 24 72 Tryz.underlying22 HI.out.1 HI.out.2.1 HI.out.2.2.1 HI.out.2.2.2 rfl (by decide) w8.heap.size v4 ((t.length + 1) + (u.length + 1)) (flatG (t ++ [noN] ++ (u ++ [noN]))) (by rfl) O2 ad (2) 2 (flatG [orN, noN]) (by rfl) (rfl) (CL) (flatG_one _) HLN.out.2.1.1 HLN.out.2.1.2 hHeld.2.2.size ?_
      intro v5 w4 O4 K4 B4
      have nB : ¬ v4.ownBlock = some B := fun e => by have := (O2.lt B e).1; have := HSZ.out; omega
      have nD : ¬ v4.ownBlock = some D := fun e => by have := (O2.lt D e).1; have := HSZ.out; omega
      have hG4 : w8.grownBy w4 none := grown_trans_new hHeld.2.2 K4 (fun z hz => (O2.lt z hz).1)
      rw [← flatG_append] at O4
      have hB4 := hHeld.1.grown K4 nB
      have hD4 := hHeld.2.1.grown K4 nD
      obtain ⟨a4, c4, hv4, C4, -, -, h04, -⟩ := cv_of_row O4
      subst hv4
      refine hK.out _ _ ⟨hB4, hD4, hG4⟩ (fun hHeld => ?_)
      clear hK K
      try simp only [Act.put, List.getElem_toArray, List.getElem_cons_zero, List.getElem_cons_succ, List.setIfInBounds_toArray, List.set_cons_zero, List.set_cons_succ]
      refine wpAnyH_take (i := 8) (v := .slice a4 ((t.length + 1) + (u.length + 1) + 2) c4) rfl (by kernel_rfl) (by kernel_rfl) (by kernel_rfl) (fun _ _ _ h => h) (Or.inl ⟨by rfl, fun W hW => ?_⟩) hHeld ?_
      · clear hW
        go_simp
      try simp only [Act.put, List.getElem_toArray, List.getElem_cons_zero, List.getElem_cons_succ, List.setIfInBounds_toArray, List.set_cons_zero, List.set_cons_succ]
      refine wpAnyH_done (by kernel_rfl) ?_ _
      have HFIN : Hid (CV _ a4 (flatG (t ++ [noN] ++ (u ++ [noN]) ++ [orN, noN])) ∧ (a4 = none → c4 = 0) ∧ w8.grownBy _ none) := ⟨C4, h04, hHeld.2.2⟩
      clear hHeld O4 K4 B4 CL O2 C4 h04 nB nD hG4 hB4 hD4
      go_wp2
      go_meet
      exact ⟨a4, c4, rfl, HFIN.out.1, HFIN.out.2.1, HFIN.out.2.2⟩
  case rest =>
  obtain ⟨a9, c9, rfl, C9, h09, K9⟩ := hcut
  have HS9 : Hid (((((VAt wc B 24 LA ∧ VAt wc D 44 N9 ∧ w.grownBy wc none) ∧ w8.grownBy wc none) ∧ CV wc a7 (flatG (t ++ [noN])) ∧ (a7 = none → c7 = 0)) ∧ CV wc a9 (flatG (t ++ [noN] ++ (u ++ [noN]) ++ [orN, noN]))) ∧ (a9 = none → c9 = 0)) := ⟨⟨⟨⟨⟨HS8.out.1.1.1.1.kept K9, HS8.out.1.1.1.2.1.kept K9, grown_trans HS8.out.1.1.1.2.2 K9⟩, K9⟩, HS8.out.1.2.1.keptNone K9, HS8.out.1.2.2⟩, C9⟩, h09⟩
  clear C9 h09 K9 HS8
  obtain ⟨w9, hw9⟩ : ∃ w9 : World, w9 = wc := ⟨_, rfl⟩
  subst hw9
  have HJ : Hid (∀ (z : List Ng) (n : Nat) (r : Int) (W : World) (au : Option Addr) (cu : Nat), z.length = n → n ≤ 7000 → (∀ y ∈ z, y ∈ t ∨ y ∈ u ∨ y = adN ∨ y = orN ∨ y = noN) → lawJ z l way b = r → CV W au (flatG z) → (au = none → cu = 0) → w9.grownBy W none → Calls Tryz.prog 18 #[.slice au n cu, .agg LA, .int .i64 way, .slice a b.length ca] W fun e w' => e = .returned (.int .i64 r) ∧ W.grownBy w' none) := fun z n r W au cu h1 h2 h3 h4 h5 h6 K => by
    have := HJU.out z n cu W au h1 h5 h6 (by omega) (fun y hy => by
      rcases h3 y hy with h | h | h | h | h
      · exact HNN.out.1 y h
      · exact HNN.out.2 y h
      · rw [h]; exact Nat.zero_le _
      · rw [h]; exact Nat.zero_le _
      · rw [h]; exact Nat.zero_le _) (grown_trans HS9.out.1.1.1.1.2.2 K)
    rw [h4] at this
    exact this
  have HM : Hid ((∀ n : Ng, (n = adN ∨ n = orN) → ∀ y ∈ t ++ u ++ [n], y ∈ t ∨ y ∈ u ∨ y = adN ∨ y = orN ∨ y = noN) ∧ (∀ y ∈ t ++ [noN], y ∈ t ∨ y ∈ u ∨ y = adN ∨ y = orN ∨ y = noN) ∧ (∀ y ∈ t ++ [noN] ++ [noN], y ∈ t ∨ y ∈ u ∨ y = adN ∨ y = orN ∨ y = noN) ∧ (∀ y ∈ t ++ [noN] ++ (u ++ [noN]) ++ [orN, noN], y ∈ t ∨ y ∈ u ∨ y = adN ∨ y = orN ∨ y = noN)) := by
    refine ⟨fun n hn y hy => ?_, fun y hy => ?_, fun y hy => ?_, fun y hy => ?_⟩
    · simp only [List.mem_append, List.mem_singleton] at hy
      rcases hy with (h | h) | h
      · exact .inl h
      · exact .inr (.inl h)
      · rcases hn with hn | hn
        · exact .inr (.inr (.inl (h.trans hn)))
        · exact .inr (.inr (.inr (.inl (h.trans hn))))
    · simp only [List.mem_append, List.mem_singleton] at hy
      rcases hy with h | h
      · exact .inl h
      · exact .inr (.inr (.inr (.inr h)))
    · simp only [List.mem_append, List.mem_singleton] at hy
      rcases hy with (h | h) | h
      · exact .inl h
      · exact .inr (.inr (.inr (.inr h)))
      · exact .inr (.inr (.inr (.inr h)))
    · simp only [List.mem_append, List.mem_cons, List.not_mem_nil, or_false] at hy
      rcases hy with ((h | h) | h | h) | h | h
      · exact .inl h
      · exact .inr (.inr (.inr (.inr h)))
      · exact .inr (.inl h)
      · exact .inr (.inr (.inr (.inr h)))
      · exact .inr (.inr (.inr (.inl h)))
      · exact .inr (.inr (.inr (.inr h)))
  have HPL : Hid (t.length + u.length + 1 ≤ 7000 ∧ t.length + 1 ≤ 7000 ∧ t.length + 1 + 1 ≤ 7000 ∧ (t.length + 1) + (u.length + 1) + 2 ≤ 7000) := by have := HPW.out; refine ⟨?_, ?_, ?_, ?_⟩ <;> omega
  have HP9 : Hid (lawJ (t ++ [noN] ++ (u ++ [noN]) ++ [orN, noN]) l way b = xa) := by
    have := HP8.out.2.2.2.2
    rw [List.append_assoc _ [orN] [noN]] at this
    exact this
  have bxa : (xa == xa) = true := by simp
  have bxo : (xo == xo) = true := by simp
  have bxn : (xn == xn) = true := by simp
  have bx : (x == x) = true := by simp
  have HSZ : Hid (B < w9.heap.size ∧ D < w9.heap.size) := ⟨HS9.out.1.1.1.1.1.lt, HS9.out.1.1.1.1.2.1.lt⟩
  go_upto_region 16 with fail
  refine wp_region_held_drew (S := fun W => VAt W B 24 LA ∧ VAt W D 44 N9 ∧ w9.grownBy W none) (by kernel_rfl) (⟨HS9.out.1.1.1.1.1.kept (grown_drewN w9 1 none), HS9.out.1.1.1.1.2.1.kept (grown_drewN w9 1 none), grown_drewN w9 1 none⟩) (fun hHeld => ?_)
  refine wpAnyH_take (i := 0) (v := .slice a6 (t.length + u.length) c6) rfl (by kernel_rfl) (by kernel_rfl) (by kernel_rfl) (fun _ _ _ h => h) (Or.inl ⟨by rfl, fun W hW => ?_⟩) hHeld ?_
  · clear hW
    go_simp
  try simp only [Act.put, List.getElem_toArray, List.getElem_cons_zero, List.setIfInBounds_toArray, List.set_cons_zero, List.set_cons_succ]
  refine wpAnyH_take (i := 2) (v := .agg N7) rfl (by kernel_rfl) (by kernel_rfl) (by kernel_rfl) (fun _ _ _ h => h) (yieldsIf_bld (by rfl) 44 _ (by rfl) #[(0, .int .i64 7)] (by kernel_rfl) (.agg N7) HB7) hHeld ?_
  try simp only [Act.put, List.getElem_toArray, List.getElem_cons_zero, List.getElem_cons_succ, List.setIfInBounds_toArray, List.set_cons_zero, List.set_cons_succ]
  refine wpAnyH_take (i := 5) (v := .agg (LA)) rfl (by kernel_rfl) (by kernel_rfl) (by kernel_rfl) (fun _ _ _ h => h) (yieldsIf_load_row (by rfl) _ _ rfl B rfl 24 (LA) _ (fun W hW => hW.1) Tryz.underlying24 rfl HLS) hHeld ?_
  try simp only [Act.put, List.getElem_toArray, List.getElem_cons_zero, List.getElem_cons_succ, List.setIfInBounds_toArray, List.set_cons_zero, List.set_cons_succ]
  refine wpAnyH_take (i := 6) (v := .int .i64 way) rfl (by kernel_rfl) (by kernel_rfl) (by kernel_rfl) (fun _ _ _ h => h) (Or.inl ⟨by rfl, fun W hW => ?_⟩) hHeld ?_
  · clear hW
    go_simp
  try simp only [Act.put, List.getElem_toArray, List.getElem_cons_zero, List.getElem_cons_succ, List.setIfInBounds_toArray, List.set_cons_zero, List.set_cons_succ]
  refine wpAnyH_take (i := 7) (v := .slice a b.length ca) rfl (by kernel_rfl) (by kernel_rfl) (by kernel_rfl) (fun _ _ _ h => h) (Or.inl ⟨by rfl, fun W hW => ?_⟩) hHeld ?_
  · clear hW
    go_simp
  try simp only [Act.put, List.getElem_toArray, List.getElem_cons_zero, List.getElem_cons_succ, List.setIfInBounds_toArray, List.set_cons_zero, List.set_cons_succ]
  refine wpAnyH_take (i := 9) (v := .int .i64 xa) rfl (by kernel_rfl) (by kernel_rfl) (by kernel_rfl) (fun _ _ _ h => h) (Or.inl ⟨by rfl, fun W hW => ?_⟩) hHeld ?_
  · clear hW
    go_simp
  try simp only [Act.put, List.getElem_toArray, List.getElem_cons_zero, List.getElem_cons_succ, List.setIfInBounds_toArray, List.set_cons_zero, List.set_cons_succ]
  refine wpAnyH_ready (rs := [1, 3]) (by kernel_rfl) (by simp) (AllReadyH.cons rfl (fun K hK => ?_) (AllReadyH.cons rfl (fun K hK => ?_) AllReadyH.nil))
  · as_aux_lemma =>
      go_simp
      refine (HC6.out _ (grown_trans HS9.out.1.1.1.2 hHeld.2.2)).mono ?_
      rintro e w2 ⟨v2, rfl, O2, K2⟩
      have O2 := owns_mono O2 hHeld.2.2.size
      go_wp2_with fail
      refine hK.out _ _ (⟨hHeld.1.kept K2, hHeld.2.1.kept K2, grown_trans hHeld.2.2 K2⟩) (fun hHeld => ?_)
      clear hK K K2
      try simp only [Act.put, List.getElem_toArray, List.getElem_cons_zero, List.getElem_cons_succ, List.setIfInBounds_toArray, List.set_cons_zero, List.set_cons_succ]
      refine wpAnyH_ready (rs := [3]) (by kernel_rfl) (by simp) (AllReadyH.cons rfl (fun K hK => ?_) AllReadyH.nil)
      refine step_litW (by rfl) 22 1 _ (by rfl) #[(0, .agg N7)] (by kernel_rfl) (flatG [adN]) 44 HL7 ?_
      intro ad w3 CL hAD hAL K3
      have nA : ¬ v2.ownBlock = some ad.block := fun e => by have := (O2.lt _ e).2; omega
      have O2 := owns_keptNone O2 K3
      refine hK.out _ _ (⟨hHeld.1.kept K3, hHeld.2.1.kept K3, grown_trans hHeld.2.2 K3⟩) (fun hHeld => ?_)
      clear hK K K3
      try simp only [Act.put, List.getElem_toArray, List.getElem_cons_zero, List.getElem_cons_succ, List.setIfInBounds_toArray, List.set_cons_zero, List.set_cons_succ]
      refine wpAnyH_ready (rs := [4]) (by kernel_rfl) (by simp) (AllReadyH.cons rfl (fun K hK => ?_) AllReadyH.nil)
      refine step_append_ownW (by rfl) (.tmp 85) (.tmp 87) 22 (by rfl) 44 i0 _ 24 72 Tryz.underlying22 HI.out.1 HI.out.2.1 HI.out.2.2.1 HI.out.2.2.2 rfl (by decide) w9.heap.size v2 (t.length + u.length) (flatG (t ++ u)) (by rfl) O2 ad (1) 1 (flatG [adN]) (by rfl) (rfl) (CL) (flatG_one _) HLN.out.2.2.1.1 HLN.out.2.2.1.2 hHeld.2.2.size ?_
      intro v4 w4 O4 K4 B4
      have nB : ¬ v2.ownBlock = some B := fun e => by have := (O2.lt B e).1; have := HSZ.out; omega
      have nD : ¬ v2.ownBlock = some D := fun e => by have := (O2.lt D e).1; have := HSZ.out; omega
      have hG4 : w9.grownBy w4 none := grown_trans_new hHeld.2.2 K4 (fun z hz => (O2.lt z hz).1)
      rw [← flatG_append] at O4
      have hB4 := hHeld.1.grown K4 nB
      have hD4 := hHeld.2.1.grown K4 nD
      obtain ⟨a4, c4, hv4, C4, -, -, h04, -⟩ := cv_of_row O4
      subst hv4
      refine hK.out _ _ ⟨hB4, hD4, hG4⟩ (fun hHeld => ?_)
      clear hK K
      try simp only [Act.put, List.getElem_toArray, List.getElem_cons_zero, List.getElem_cons_succ, List.setIfInBounds_toArray, List.set_cons_zero, List.set_cons_succ]
      refine wpAnyH_ready (rs := [8]) (by kernel_rfl) (by simp) (AllReadyH.cons rfl (fun K hK => ?_) AllReadyH.nil)
      go_simp
      refine (HJ.out (t ++ u ++ [adN]) (t.length + u.length + 1) xa _ a4 c4 (by rw [List.length_append, List.length_append]; rfl) HPL.out.1 (HM.out.1 adN (.inl rfl)) HP8.out.1 C4 h04 hHeld.2.2).mono ?_
      rintro e w5 ⟨rfl, K5⟩
      go_wp2_with fail
      refine hK.out _ _ (⟨hHeld.1.kept K5, hHeld.2.1.kept K5, grown_trans hHeld.2.2 K5⟩) (fun hHeld => ?_)
      clear hK K
      try simp only [Act.put, List.getElem_toArray, List.getElem_cons_zero, List.getElem_cons_succ, List.setIfInBounds_toArray, List.set_cons_zero, List.set_cons_succ]
      clear O4 K4 B4 CL O2 C4 h04 nB nD hG4 hB4 hD4 nA K5
      refine wpAnyH_take (i := 10) (v := .bool true) rfl (by kernel_rfl) (by kernel_rfl) (by kernel_rfl) (fun _ _ _ h => h) (Or.inl ⟨by rfl, fun W hW => ?_⟩) hHeld ?_
      · clear hW
        go_simp
      try simp only [Act.put, List.getElem_toArray, List.getElem_cons_zero, List.getElem_cons_succ, List.setIfInBounds_toArray, List.set_cons_zero, List.set_cons_succ]
      refine wpAnyH_take (i := 11) (v := .bool true) rfl (by kernel_rfl) (by kernel_rfl) (by kernel_rfl) (fun _ _ _ h => h) (Or.inl ⟨by rfl, fun W hW => ?_⟩) hHeld ?_
      · clear hW
        go_simp
      try simp only [Act.put, List.getElem_toArray, List.getElem_cons_zero, List.getElem_cons_succ, List.setIfInBounds_toArray, List.set_cons_zero, List.set_cons_succ]
      refine wpAnyH_take (i := 12) (v := .slice a6 (t.length + u.length) c6) rfl (by kernel_rfl) (by kernel_rfl) (by kernel_rfl) (fun _ _ _ h => h) (Or.inl ⟨by rfl, fun W hW => ?_⟩) hHeld ?_
      · clear hW
        go_simp
      try simp only [Act.put, List.getElem_toArray, List.getElem_cons_zero, List.getElem_cons_succ, List.setIfInBounds_toArray, List.set_cons_zero, List.set_cons_succ]
      refine wpAnyH_take (i := 14) (v := .agg N8) rfl (by kernel_rfl) (by kernel_rfl) (by kernel_rfl) (fun _ _ _ h => h) (yieldsIf_bld (by rfl) 44 _ (by rfl) #[(0, .int .i64 8)] (by kernel_rfl) (.agg N8) HB8) hHeld ?_
      try simp only [Act.put, List.getElem_toArray, List.getElem_cons_zero, List.getElem_cons_succ, List.setIfInBounds_toArray, List.set_cons_zero, List.set_cons_succ]
      refine wpAnyH_take (i := 17) (v := .agg (LA)) rfl (by kernel_rfl) (by kernel_rfl) (by kernel_rfl) (fun _ _ _ h => h) (yieldsIf_load_row (by rfl) _ _ rfl B rfl 24 (LA) _ (fun W hW => hW.1) Tryz.underlying24 rfl HLS) hHeld ?_
      try simp only [Act.put, List.getElem_toArray, List.getElem_cons_zero, List.getElem_cons_succ, List.setIfInBounds_toArray, List.set_cons_zero, List.set_cons_succ]
      refine wpAnyH_take (i := 18) (v := .int .i64 way) rfl (by kernel_rfl) (by kernel_rfl) (by kernel_rfl) (fun _ _ _ h => h) (Or.inl ⟨by rfl, fun W hW => ?_⟩) hHeld ?_
      · clear hW
        go_simp
      try simp only [Act.put, List.getElem_toArray, List.getElem_cons_zero, List.getElem_cons_succ, List.setIfInBounds_toArray, List.set_cons_zero, List.set_cons_succ]
      refine wpAnyH_take (i := 19) (v := .slice a b.length ca) rfl (by kernel_rfl) (by kernel_rfl) (by kernel_rfl) (fun _ _ _ h => h) (Or.inl ⟨by rfl, fun W hW => ?_⟩) hHeld ?_
      · clear hW
        go_simp
      try simp only [Act.put, List.getElem_toArray, List.getElem_cons_zero, List.getElem_cons_succ, List.setIfInBounds_toArray, List.set_cons_zero, List.set_cons_succ]
      refine wpAnyH_take (i := 21) (v := .int .i64 xo) rfl (by kernel_rfl) (by kernel_rfl) (by kernel_rfl) (fun _ _ _ h => h) (Or.inl ⟨by rfl, fun W hW => ?_⟩) hHeld ?_
      · clear hW
        go_simp
      try simp only [Act.put, List.getElem_toArray, List.getElem_cons_zero, List.getElem_cons_succ, List.setIfInBounds_toArray, List.set_cons_zero, List.set_cons_succ]
      refine wpAnyH_ready (rs := [13, 15]) (by kernel_rfl) (by simp) (AllReadyH.cons rfl (fun K hK => ?_) (AllReadyH.cons rfl (fun K hK => ?_) AllReadyH.nil))
      · as_aux_lemma =>
          go_simp
          refine (HC6.out _ (grown_trans HS9.out.1.1.1.2 hHeld.2.2)).mono ?_
          rintro e w2 ⟨v2, rfl, O2, K2⟩
          have O2 := owns_mono O2 hHeld.2.2.size
          go_wp2_with fail
          refine hK.out _ _ (⟨hHeld.1.kept K2, hHeld.2.1.kept K2, grown_trans hHeld.2.2 K2⟩) (fun hHeld => ?_)
          clear hK K K2
          try simp only [Act.put, List.getElem_toArray, List.getElem_cons_zero, List.getElem_cons_succ, List.setIfInBounds_toArray, List.set_cons_zero, List.set_cons_succ]
          refine wpAnyH_ready (rs := [15]) (by kernel_rfl) (by simp) (AllReadyH.cons rfl (fun K hK => ?_) AllReadyH.nil)
          refine step_litW (by rfl) 22 1 _ (by rfl) #[(0, .agg N8)] (by kernel_rfl) (flatG [orN]) 44 HL8 ?_
          intro ad w3 CL hAD hAL K3
          have nA : ¬ v2.ownBlock = some ad.block := fun e => by have := (O2.lt _ e).2; omega
          have O2 := owns_keptNone O2 K3
          refine hK.out _ _ (⟨hHeld.1.kept K3, hHeld.2.1.kept K3, grown_trans hHeld.2.2 K3⟩) (fun hHeld => ?_)
          clear hK K K3
          try simp only [Act.put, List.getElem_toArray, List.getElem_cons_zero, List.getElem_cons_succ, List.setIfInBounds_toArray, List.set_cons_zero, List.set_cons_succ]
          refine wpAnyH_ready (rs := [16]) (by kernel_rfl) (by simp) (AllReadyH.cons rfl (fun K hK => ?_) AllReadyH.nil)
          refine step_append_ownW (by rfl) (.tmp 97) (.tmp 99) 22 (by rfl) 44 i0 _ 24 72 Tryz.underlying22 HI.out.1 HI.out.2.1 HI.out.2.2.1 HI.out.2.2.2 rfl (by decide) w9.heap.size v2 (t.length + u.length) (flatG (t ++ u)) (by rfl) O2 ad (1) 1 (flatG [orN]) (by rfl) (rfl) (CL) (flatG_one _) HLN.out.2.2.1.1 HLN.out.2.2.1.2 hHeld.2.2.size ?_
          intro v4 w4 O4 K4 B4
          have nB : ¬ v2.ownBlock = some B := fun e => by have := (O2.lt B e).1; have := HSZ.out; omega
          have nD : ¬ v2.ownBlock = some D := fun e => by have := (O2.lt D e).1; have := HSZ.out; omega
          have hG4 : w9.grownBy w4 none := grown_trans_new hHeld.2.2 K4 (fun z hz => (O2.lt z hz).1)
          rw [← flatG_append] at O4
          have hB4 := hHeld.1.grown K4 nB
          have hD4 := hHeld.2.1.grown K4 nD
          obtain ⟨a4, c4, hv4, C4, -, -, h04, -⟩ := cv_of_row O4
          subst hv4
          refine hK.out _ _ ⟨hB4, hD4, hG4⟩ (fun hHeld => ?_)
          clear hK K
          try simp only [Act.put, List.getElem_toArray, List.getElem_cons_zero, List.getElem_cons_succ, List.setIfInBounds_toArray, List.set_cons_zero, List.set_cons_succ]
          refine wpAnyH_ready (rs := [20]) (by kernel_rfl) (by simp) (AllReadyH.cons rfl (fun K hK => ?_) AllReadyH.nil)
          go_simp
          refine (HJ.out (t ++ u ++ [orN]) (t.length + u.length + 1) xo _ a4 c4 (by rw [List.length_append, List.length_append]; rfl) HPL.out.1 (HM.out.1 orN (.inr rfl)) HP8.out.2.1 C4 h04 hHeld.2.2).mono ?_
          rintro e w5 ⟨rfl, K5⟩
          go_wp2_with fail
          refine hK.out _ _ (⟨hHeld.1.kept K5, hHeld.2.1.kept K5, grown_trans hHeld.2.2 K5⟩) (fun hHeld => ?_)
          clear hK K
          try simp only [Act.put, List.getElem_toArray, List.getElem_cons_zero, List.getElem_cons_succ, List.setIfInBounds_toArray, List.set_cons_zero, List.set_cons_succ]
          clear O4 K4 B4 CL O2 C4 h04 nB nD hG4 hB4 hD4 nA K5
          refine wpAnyH_take (i := 22) (v := .bool true) rfl (by kernel_rfl) (by kernel_rfl) (by kernel_rfl) (fun _ _ _ h => h) (Or.inl ⟨by rfl, fun W hW => ?_⟩) hHeld ?_
          · clear hW
            go_simp
          try simp only [Act.put, List.getElem_toArray, List.getElem_cons_zero, List.getElem_cons_succ, List.setIfInBounds_toArray, List.set_cons_zero, List.set_cons_succ]
          refine wpAnyH_take (i := 23) (v := .bool true) rfl (by kernel_rfl) (by kernel_rfl) (by kernel_rfl) (fun _ _ _ h => h) (Or.inl ⟨by rfl, fun W hW => ?_⟩) hHeld ?_
          · clear hW
            go_simp
          try simp only [Act.put, List.getElem_toArray, List.getElem_cons_zero, List.getElem_cons_succ, List.setIfInBounds_toArray, List.set_cons_zero, List.set_cons_succ]
          refine wpAnyH_take (i := 24) (v := .bool true) rfl (by kernel_rfl) (by kernel_rfl) (by kernel_rfl) (fun _ _ _ h => h) (Or.inl ⟨by rfl, fun W hW => ?_⟩) hHeld ?_
          · clear hW
            go_simp
          try simp only [Act.put, List.getElem_toArray, List.getElem_cons_zero, List.getElem_cons_succ, List.setIfInBounds_toArray, List.set_cons_zero, List.set_cons_succ]
          refine wpAnyH_take (i := 25) (v := .slice a7 (t.length + 1) c7) rfl (by kernel_rfl) (by kernel_rfl) (by kernel_rfl) (fun _ _ _ h => h) (Or.inl ⟨by rfl, fun W hW => ?_⟩) hHeld ?_
          · clear hW
            go_simp
          try simp only [Act.put, List.getElem_toArray, List.getElem_cons_zero, List.getElem_cons_succ, List.setIfInBounds_toArray, List.set_cons_zero, List.set_cons_succ]
          refine wpAnyH_take (i := 26) (v := .agg (LA)) rfl (by kernel_rfl) (by kernel_rfl) (by kernel_rfl) (fun _ _ _ h => h) (yieldsIf_load_row (by rfl) _ _ rfl B rfl 24 (LA) _ (fun W hW => hW.1) Tryz.underlying24 rfl HLS) hHeld ?_
          try simp only [Act.put, List.getElem_toArray, List.getElem_cons_zero, List.getElem_cons_succ, List.setIfInBounds_toArray, List.set_cons_zero, List.set_cons_succ]
          refine wpAnyH_take (i := 27) (v := .int .i64 way) rfl (by kernel_rfl) (by kernel_rfl) (by kernel_rfl) (fun _ _ _ h => h) (Or.inl ⟨by rfl, fun W hW => ?_⟩) hHeld ?_
          · clear hW
            go_simp
          try simp only [Act.put, List.getElem_toArray, List.getElem_cons_zero, List.getElem_cons_succ, List.setIfInBounds_toArray, List.set_cons_zero, List.set_cons_succ]
          refine wpAnyH_take (i := 28) (v := .slice a b.length ca) rfl (by kernel_rfl) (by kernel_rfl) (by kernel_rfl) (fun _ _ _ h => h) (Or.inl ⟨by rfl, fun W hW => ?_⟩) hHeld ?_
          · clear hW
            go_simp
          try simp only [Act.put, List.getElem_toArray, List.getElem_cons_zero, List.getElem_cons_succ, List.setIfInBounds_toArray, List.set_cons_zero, List.set_cons_succ]
          refine wpAnyH_take (i := 30) (v := .int .i64 xn) rfl (by kernel_rfl) (by kernel_rfl) (by kernel_rfl) (fun _ _ _ h => h) (Or.inl ⟨by rfl, fun W hW => ?_⟩) hHeld ?_
          · clear hW
            go_simp
          try simp only [Act.put, List.getElem_toArray, List.getElem_cons_zero, List.getElem_cons_succ, List.setIfInBounds_toArray, List.set_cons_zero, List.set_cons_succ]
          refine wpAnyH_ready (rs := [29]) (by kernel_rfl) (by simp) (AllReadyH.cons rfl (fun K hK => ?_) AllReadyH.nil)
          go_simp
          refine (HJ.out (t ++ [noN]) (t.length + 1) xn _ a7 c7 (by rw [List.length_append]; rfl) HPL.out.2.1 HM.out.2.1 HP8.out.2.2.1 (HS9.out.1.1.2.1.keptNone hHeld.2.2) HS9.out.1.1.2.2 hHeld.2.2).mono ?_
          rintro e w5 ⟨rfl, K5⟩
          go_wp2_with fail
          refine hK.out _ _ (⟨hHeld.1.kept K5, hHeld.2.1.kept K5, grown_trans hHeld.2.2 K5⟩) (fun hHeld => ?_)
          clear hK K
          try simp only [Act.put, List.getElem_toArray, List.getElem_cons_zero, List.getElem_cons_succ, List.setIfInBounds_toArray, List.set_cons_zero, List.set_cons_succ]
          clear K5
          refine wpAnyH_take (i := 31) (v := .bool true) rfl (by kernel_rfl) (by kernel_rfl) (by kernel_rfl) (fun _ _ _ h => h) (Or.inl ⟨by rfl, fun W hW => ?_⟩) hHeld ?_
          · clear hW
            go_simp
          try simp only [Act.put, List.getElem_toArray, List.getElem_cons_zero, List.getElem_cons_succ, List.setIfInBounds_toArray, List.set_cons_zero, List.set_cons_succ]
          refine wpAnyH_take (i := 32) (v := .bool true) rfl (by kernel_rfl) (by kernel_rfl) (by kernel_rfl) (fun _ _ _ h => h) (Or.inl ⟨by rfl, fun W hW => ?_⟩) hHeld ?_
          · clear hW
            go_simp
          try simp only [Act.put, List.getElem_toArray, List.getElem_cons_zero, List.getElem_cons_succ, List.setIfInBounds_toArray, List.set_cons_zero, List.set_cons_succ]
          refine wpAnyH_take (i := 33) (v := .bool true) rfl (by kernel_rfl) (by kernel_rfl) (by kernel_rfl) (fun _ _ _ h => h) (Or.inl ⟨by rfl, fun W hW => ?_⟩) hHeld ?_
          · clear hW
            go_simp
          try simp only [Act.put, List.getElem_toArray, List.getElem_cons_zero, List.getElem_cons_succ, List.setIfInBounds_toArray, List.set_cons_zero, List.set_cons_succ]
          refine wpAnyH_take (i := 34) (v := .slice a7 (t.length + 1) c7) rfl (by kernel_rfl) (by kernel_rfl) (by kernel_rfl) (fun _ _ _ h => h) (Or.inl ⟨by rfl, fun W hW => ?_⟩) hHeld ?_
          · clear hW
            go_simp
          try simp only [Act.put, List.getElem_toArray, List.getElem_cons_zero, List.getElem_cons_succ, List.setIfInBounds_toArray, List.set_cons_zero, List.set_cons_succ]
          refine wpAnyH_take (i := 36) (v := .agg (N9)) rfl (by kernel_rfl) (by kernel_rfl) (by kernel_rfl) (fun _ _ _ h => h) (yieldsIf_load_row (by rfl) _ _ rfl D rfl 44 (N9) _ (fun W hW => hW.2.1) Tryz.underlying44 rfl HXC.out.1) hHeld ?_
          try simp only [Act.put, List.getElem_toArray, List.getElem_cons_zero, List.getElem_cons_succ, List.setIfInBounds_toArray, List.set_cons_zero, List.set_cons_succ]
          refine wpAnyH_take (i := 39) (v := .agg (LA)) rfl (by kernel_rfl) (by kernel_rfl) (by kernel_rfl) (fun _ _ _ h => h) (yieldsIf_load_row (by rfl) _ _ rfl B rfl 24 (LA) _ (fun W hW => hW.1) Tryz.underlying24 rfl HLS) hHeld ?_
          try simp only [Act.put, List.getElem_toArray, List.getElem_cons_zero, List.getElem_cons_succ, List.setIfInBounds_toArray, List.set_cons_zero, List.set_cons_succ]
          refine wpAnyH_take (i := 40) (v := .int .i64 way) rfl (by kernel_rfl) (by kernel_rfl) (by kernel_rfl) (fun _ _ _ h => h) (Or.inl ⟨by rfl, fun W hW => ?_⟩) hHeld ?_
          · clear hW
            go_simp
          try simp only [Act.put, List.getElem_toArray, List.getElem_cons_zero, List.getElem_cons_succ, List.setIfInBounds_toArray, List.set_cons_zero, List.set_cons_succ]
          refine wpAnyH_take (i := 41) (v := .slice a b.length ca) rfl (by kernel_rfl) (by kernel_rfl) (by kernel_rfl) (fun _ _ _ h => h) (Or.inl ⟨by rfl, fun W hW => ?_⟩) hHeld ?_
          · clear hW
            go_simp
          try simp only [Act.put, List.getElem_toArray, List.getElem_cons_zero, List.getElem_cons_succ, List.setIfInBounds_toArray, List.set_cons_zero, List.set_cons_succ]
          refine wpAnyH_take (i := 43) (v := .int .i64 x) rfl (by kernel_rfl) (by kernel_rfl) (by kernel_rfl) (fun _ _ _ h => h) (Or.inl ⟨by rfl, fun W hW => ?_⟩) hHeld ?_
          · clear hW
            go_simp
          try simp only [Act.put, List.getElem_toArray, List.getElem_cons_zero, List.getElem_cons_succ, List.setIfInBounds_toArray, List.set_cons_zero, List.set_cons_succ]
          refine wpAnyH_ready (rs := [35, 37]) (by kernel_rfl) (by simp) (AllReadyH.cons rfl (fun K hK => ?_) (AllReadyH.cons rfl (fun K hK => ?_) AllReadyH.nil))
          · as_aux_lemma =>
              go_simp
              refine (HC7.out _ (grown_trans HS9.out.1.1.1.2 hHeld.2.2)).mono ?_
              rintro e w2 ⟨v2, rfl, O2, K2⟩
              have O2 := owns_mono O2 hHeld.2.2.size
              go_wp2_with fail
              refine hK.out _ _ (⟨hHeld.1.kept K2, hHeld.2.1.kept K2, grown_trans hHeld.2.2 K2⟩) (fun hHeld => ?_)
              clear hK K K2
              try simp only [Act.put, List.getElem_toArray, List.getElem_cons_zero, List.getElem_cons_succ, List.setIfInBounds_toArray, List.set_cons_zero, List.set_cons_succ]
              refine wpAnyH_ready (rs := [37]) (by kernel_rfl) (by simp) (AllReadyH.cons rfl (fun K hK => ?_) AllReadyH.nil)
              refine step_litW (by rfl) 22 1 _ (by rfl) #[(0, .agg N9)] (by kernel_rfl) (flatG [noN]) 44 HL9 ?_
              intro ad w3 CL hAD hAL K3
              have nA : ¬ v2.ownBlock = some ad.block := fun e => by have := (O2.lt _ e).2; omega
              have O2 := owns_keptNone O2 K3
              refine hK.out _ _ (⟨hHeld.1.kept K3, hHeld.2.1.kept K3, grown_trans hHeld.2.2 K3⟩) (fun hHeld => ?_)
              clear hK K K3
              try simp only [Act.put, List.getElem_toArray, List.getElem_cons_zero, List.getElem_cons_succ, List.setIfInBounds_toArray, List.set_cons_zero, List.set_cons_succ]
              refine wpAnyH_ready (rs := [38]) (by kernel_rfl) (by simp) (AllReadyH.cons rfl (fun K hK => ?_) AllReadyH.nil)
              refine step_append_ownW (by rfl) (.tmp 119) (.tmp 121) 22 (by rfl) 44 i0 _ 24 72 Tryz.underlying22 HI.out.1 HI.out.2.1 HI.out.2.2.1 HI.out.2.2.2 rfl (by decide) w9.heap.size v2 (t.length + 1) (flatG (t ++ [noN])) (by rfl) O2 ad (1) 1 (flatG [noN]) (by rfl) (rfl) (CL) (flatG_one _) HLN.out.2.2.2.1 HLN.out.2.2.2.2 hHeld.2.2.size ?_
              intro v4 w4 O4 K4 B4
              have nB : ¬ v2.ownBlock = some B := fun e => by have := (O2.lt B e).1; have := HSZ.out; omega
              have nD : ¬ v2.ownBlock = some D := fun e => by have := (O2.lt D e).1; have := HSZ.out; omega
              have hG4 : w9.grownBy w4 none := grown_trans_new hHeld.2.2 K4 (fun z hz => (O2.lt z hz).1)
              rw [← flatG_append] at O4
              have hB4 := hHeld.1.grown K4 nB
              have hD4 := hHeld.2.1.grown K4 nD
              obtain ⟨a4, c4, hv4, C4, -, -, h04, -⟩ := cv_of_row O4
              subst hv4
              refine hK.out _ _ ⟨hB4, hD4, hG4⟩ (fun hHeld => ?_)
              clear hK K
              try simp only [Act.put, List.getElem_toArray, List.getElem_cons_zero, List.getElem_cons_succ, List.setIfInBounds_toArray, List.set_cons_zero, List.set_cons_succ]
              refine wpAnyH_ready (rs := [42]) (by kernel_rfl) (by simp) (AllReadyH.cons rfl (fun K hK => ?_) AllReadyH.nil)
              go_simp
              refine (HJ.out (t ++ [noN] ++ [noN]) (t.length + 1 + 1) x _ a4 c4 (by rw [List.length_append, List.length_append]; rfl) HPL.out.2.2.1 HM.out.2.2.1 HP8.out.2.2.2.1 C4 h04 hHeld.2.2).mono ?_
              rintro e w5 ⟨rfl, K5⟩
              go_wp2_with fail
              refine hK.out _ _ (⟨hHeld.1.kept K5, hHeld.2.1.kept K5, grown_trans hHeld.2.2 K5⟩) (fun hHeld => ?_)
              clear hK K
              try simp only [Act.put, List.getElem_toArray, List.getElem_cons_zero, List.getElem_cons_succ, List.setIfInBounds_toArray, List.set_cons_zero, List.set_cons_succ]
              clear O4 K4 B4 CL O2 C4 h04 nB nD hG4 hB4 hD4 nA K5
              refine wpAnyH_take (i := 44) (v := .bool true) rfl (by kernel_rfl) (by kernel_rfl) (by kernel_rfl) (fun _ _ _ h => h) (Or.inl ⟨by rfl, fun W hW => ?_⟩) hHeld ?_
              · clear hW
                go_simp
              try simp only [Act.put, List.getElem_toArray, List.getElem_cons_zero, List.getElem_cons_succ, List.setIfInBounds_toArray, List.set_cons_zero, List.set_cons_succ]
              refine wpAnyH_take (i := 45) (v := .bool true) rfl (by kernel_rfl) (by kernel_rfl) (by kernel_rfl) (fun _ _ _ h => h) (Or.inl ⟨by rfl, fun W hW => ?_⟩) hHeld ?_
              · clear hW
                go_simp
              try simp only [Act.put, List.getElem_toArray, List.getElem_cons_zero, List.getElem_cons_succ, List.setIfInBounds_toArray, List.set_cons_zero, List.set_cons_succ]
              refine wpAnyH_take (i := 46) (v := .bool true) rfl (by kernel_rfl) (by kernel_rfl) (by kernel_rfl) (fun _ _ _ h => h) (Or.inl ⟨by rfl, fun W hW => ?_⟩) hHeld ?_
              · clear hW
                go_simp
              try simp only [Act.put, List.getElem_toArray, List.getElem_cons_zero, List.getElem_cons_succ, List.setIfInBounds_toArray, List.set_cons_zero, List.set_cons_succ]
              refine wpAnyH_take (i := 47) (v := .slice a9 ((t.length + 1) + (u.length + 1) + 2) c9) rfl (by kernel_rfl) (by kernel_rfl) (by kernel_rfl) (fun _ _ _ h => h) (Or.inl ⟨by rfl, fun W hW => ?_⟩) hHeld ?_
              · clear hW
                go_simp
              try simp only [Act.put, List.getElem_toArray, List.getElem_cons_zero, List.getElem_cons_succ, List.setIfInBounds_toArray, List.set_cons_zero, List.set_cons_succ]
              refine wpAnyH_take (i := 48) (v := .agg (LA)) rfl (by kernel_rfl) (by kernel_rfl) (by kernel_rfl) (fun _ _ _ h => h) (yieldsIf_load_row (by rfl) _ _ rfl B rfl 24 (LA) _ (fun W hW => hW.1) Tryz.underlying24 rfl HLS) hHeld ?_
              try simp only [Act.put, List.getElem_toArray, List.getElem_cons_zero, List.getElem_cons_succ, List.setIfInBounds_toArray, List.set_cons_zero, List.set_cons_succ]
              refine wpAnyH_take (i := 49) (v := .int .i64 way) rfl (by kernel_rfl) (by kernel_rfl) (by kernel_rfl) (fun _ _ _ h => h) (Or.inl ⟨by rfl, fun W hW => ?_⟩) hHeld ?_
              · clear hW
                go_simp
              try simp only [Act.put, List.getElem_toArray, List.getElem_cons_zero, List.getElem_cons_succ, List.setIfInBounds_toArray, List.set_cons_zero, List.set_cons_succ]
              refine wpAnyH_take (i := 50) (v := .slice a b.length ca) rfl (by kernel_rfl) (by kernel_rfl) (by kernel_rfl) (fun _ _ _ h => h) (Or.inl ⟨by rfl, fun W hW => ?_⟩) hHeld ?_
              · clear hW
                go_simp
              try simp only [Act.put, List.getElem_toArray, List.getElem_cons_zero, List.getElem_cons_succ, List.setIfInBounds_toArray, List.set_cons_zero, List.set_cons_succ]
              refine wpAnyH_take (i := 52) (v := .int .i64 xa) rfl (by kernel_rfl) (by kernel_rfl) (by kernel_rfl) (fun _ _ _ h => h) (Or.inl ⟨by rfl, fun W hW => ?_⟩) hHeld ?_
              · clear hW
                go_simp
              try simp only [Act.put, List.getElem_toArray, List.getElem_cons_zero, List.getElem_cons_succ, List.setIfInBounds_toArray, List.set_cons_zero, List.set_cons_succ]
              refine wpAnyH_ready (rs := [51]) (by kernel_rfl) (by simp) (AllReadyH.cons rfl (fun K hK => ?_) AllReadyH.nil)
              go_simp
              refine (HJ.out (t ++ [noN] ++ (u ++ [noN]) ++ [orN, noN]) ((t.length + 1) + (u.length + 1) + 2) xa _ a9 c9 (by simp only [List.length_append]; rfl) HPL.out.2.2.2 HM.out.2.2.2 HP9.out (HS9.out.1.2.keptNone hHeld.2.2) HS9.out.2 hHeld.2.2).mono ?_
              rintro e w5 ⟨rfl, K5⟩
              go_wp2_with fail
              refine hK.out _ _ (⟨hHeld.1.kept K5, hHeld.2.1.kept K5, grown_trans hHeld.2.2 K5⟩) (fun hHeld => ?_)
              clear hK K
              try simp only [Act.put, List.getElem_toArray, List.getElem_cons_zero, List.getElem_cons_succ, List.setIfInBounds_toArray, List.set_cons_zero, List.set_cons_succ]
              clear K5
              refine wpAnyH_take (i := 53) (v := .bool true) rfl (by kernel_rfl) (by kernel_rfl) (by kernel_rfl) (fun _ _ _ h => h) (Or.inl ⟨by rfl, fun W hW => ?_⟩) hHeld ?_
              · clear hW
                go_simp
              try simp only [Act.put, List.getElem_toArray, List.getElem_cons_zero, List.getElem_cons_succ, List.setIfInBounds_toArray, List.set_cons_zero, List.set_cons_succ]
              refine wpAnyH_take (i := 54) (v := .bool true) rfl (by kernel_rfl) (by kernel_rfl) (by kernel_rfl) (fun _ _ _ h => h) (Or.inl ⟨by rfl, fun W hW => ?_⟩) hHeld ?_
              · clear hW
                go_simp
              try simp only [Act.put, List.getElem_toArray, List.getElem_cons_zero, List.getElem_cons_succ, List.setIfInBounds_toArray, List.set_cons_zero, List.set_cons_succ]
              refine wpAnyH_take (i := 55) (v := .bool true) rfl (by kernel_rfl) (by kernel_rfl) (by kernel_rfl) (fun _ _ _ h => h) (Or.inl ⟨by rfl, fun W hW => ?_⟩) hHeld ?_
              · clear hW
                go_simp
              try simp only [Act.put, List.getElem_toArray, List.getElem_cons_zero, List.getElem_cons_succ, List.setIfInBounds_toArray, List.set_cons_zero, List.set_cons_succ]
              refine wpAnyH_ready (rs := [56]) (by kernel_rfl) (by simp) (AllReadyH.cons rfl (fun K hK => ?_) AllReadyH.nil)
              go_simp
              refine (awake14_any _).mono ?_
              rintro e w6 ⟨rfl, K6⟩
              go_wp2_with fail
              refine hK.out _ _ (⟨hHeld.1.kept K6, hHeld.2.1.kept K6, grown_trans hHeld.2.2 K6⟩) (fun hHeld => ?_)
              clear hK K
              try simp only [Act.put, List.getElem_toArray, List.getElem_cons_zero, List.getElem_cons_succ, List.setIfInBounds_toArray, List.set_cons_zero, List.set_cons_succ]
              refine wpAnyH_take (i := 57) (v := .bool true) rfl (by kernel_rfl) (by kernel_rfl) (by kernel_rfl) (fun _ _ _ h => h) (Or.inl ⟨by rfl, fun W hW => ?_⟩) hHeld ?_
              · clear hW
                go_simp
              try simp only [Act.put, List.getElem_toArray, List.getElem_cons_zero, List.getElem_cons_succ, List.setIfInBounds_toArray, List.set_cons_zero, List.set_cons_succ]
              refine wpAnyH_take (i := 58) (v := .bool true) rfl (by kernel_rfl) (by kernel_rfl) (by kernel_rfl) (fun _ _ _ h => h) (Or.inl ⟨by rfl, fun W hW => ?_⟩) hHeld ?_
              · clear hW
                go_simp
              try simp only [Act.put, List.getElem_toArray, List.getElem_cons_zero, List.getElem_cons_succ, List.setIfInBounds_toArray, List.set_cons_zero, List.set_cons_succ]
              refine wpAnyH_done (by kernel_rfl) ?_ _
              have HFIN : Hid (w.grownBy _ none) := grown_trans HS9.out.1.1.1.1.2.2 hHeld.2.2
              clear hHeld K6
              go_wp2
              go_ret
              exact ⟨rfl, HFIN.out⟩
          · as_aux_lemma =>
              refine step_litW (by rfl) 22 1 _ (by rfl) #[(0, .agg N9)] (by kernel_rfl) (flatG [noN]) 44 HL9 ?_
              intro ad w3 CL hAD hAL K3
              have HAL : Hid (ad.block < w3.heap.size) := hAL
              refine hK.out _ _ (⟨hHeld.1.kept K3, hHeld.2.1.kept K3, grown_trans hHeld.2.2 K3⟩) (fun hHeld => ?_)
              clear hK K K3
              try simp only [Act.put, List.getElem_toArray, List.getElem_cons_zero, List.getElem_cons_succ, List.setIfInBounds_toArray, List.set_cons_zero, List.set_cons_succ]
              refine wpAnyH_ready (rs := [35]) (by kernel_rfl) (by simp) (AllReadyH.cons rfl (fun K hK => ?_) AllReadyH.nil)
              go_simp
              refine (HC7.out _ (grown_trans HS9.out.1.1.1.2 hHeld.2.2)).mono ?_
              rintro e w2 ⟨v2, rfl, O2, K2⟩
              have nA : ¬ v2.ownBlock = some ad.block := fun e => by have := (O2.lt _ e).1; have := HAL.out; omega
              have O2 := owns_mono O2 hHeld.2.2.size
              have CL := CL.keptNone K2
              go_wp2_with fail
              refine hK.out _ _ (⟨hHeld.1.kept K2, hHeld.2.1.kept K2, grown_trans hHeld.2.2 K2⟩) (fun hHeld => ?_)
              clear hK K K2
              try simp only [Act.put, List.getElem_toArray, List.getElem_cons_zero, List.getElem_cons_succ, List.setIfInBounds_toArray, List.set_cons_zero, List.set_cons_succ]
              refine wpAnyH_ready (rs := [38]) (by kernel_rfl) (by simp) (AllReadyH.cons rfl (fun K hK => ?_) AllReadyH.nil)
              refine step_append_ownW (by rfl) (.tmp 119) (.tmp 121) 22 (by rfl) 44 i0 _ 24 72 Tryz.underlying22 HI.out.1 HI.out.2.1 HI.out.2.2.1 HI.out.2.2.2 rfl (by decide) w9.heap.size v2 (t.length + 1) (flatG (t ++ [noN])) (by rfl) O2 ad (1) 1 (flatG [noN]) (by rfl) (rfl) (CL) (flatG_one _) HLN.out.2.2.2.1 HLN.out.2.2.2.2 hHeld.2.2.size ?_
              intro v4 w4 O4 K4 B4
              have nB : ¬ v2.ownBlock = some B := fun e => by have := (O2.lt B e).1; have := HSZ.out; omega
              have nD : ¬ v2.ownBlock = some D := fun e => by have := (O2.lt D e).1; have := HSZ.out; omega
              have hG4 : w9.grownBy w4 none := grown_trans_new hHeld.2.2 K4 (fun z hz => (O2.lt z hz).1)
              rw [← flatG_append] at O4
              have hB4 := hHeld.1.grown K4 nB
              have hD4 := hHeld.2.1.grown K4 nD
              obtain ⟨a4, c4, hv4, C4, -, -, h04, -⟩ := cv_of_row O4
              subst hv4
              refine hK.out _ _ ⟨hB4, hD4, hG4⟩ (fun hHeld => ?_)
              clear hK K
              try simp only [Act.put, List.getElem_toArray, List.getElem_cons_zero, List.getElem_cons_succ, List.setIfInBounds_toArray, List.set_cons_zero, List.set_cons_succ]
              refine wpAnyH_ready (rs := [42]) (by kernel_rfl) (by simp) (AllReadyH.cons rfl (fun K hK => ?_) AllReadyH.nil)
              go_simp
              refine (HJ.out (t ++ [noN] ++ [noN]) (t.length + 1 + 1) x _ a4 c4 (by rw [List.length_append, List.length_append]; rfl) HPL.out.2.2.1 HM.out.2.2.1 HP8.out.2.2.2.1 C4 h04 hHeld.2.2).mono ?_
              rintro e w5 ⟨rfl, K5⟩
              go_wp2_with fail
              refine hK.out _ _ (⟨hHeld.1.kept K5, hHeld.2.1.kept K5, grown_trans hHeld.2.2 K5⟩) (fun hHeld => ?_)
              clear hK K
              try simp only [Act.put, List.getElem_toArray, List.getElem_cons_zero, List.getElem_cons_succ, List.setIfInBounds_toArray, List.set_cons_zero, List.set_cons_succ]
              clear O4 K4 B4 CL O2 C4 h04 nB nD hG4 hB4 hD4 nA K5
              refine wpAnyH_take (i := 44) (v := .bool true) rfl (by kernel_rfl) (by kernel_rfl) (by kernel_rfl) (fun _ _ _ h => h) (Or.inl ⟨by rfl, fun W hW => ?_⟩) hHeld ?_
              · clear hW
                go_simp
              try simp only [Act.put, List.getElem_toArray, List.getElem_cons_zero, List.getElem_cons_succ, List.setIfInBounds_toArray, List.set_cons_zero, List.set_cons_succ]
              refine wpAnyH_take (i := 45) (v := .bool true) rfl (by kernel_rfl) (by kernel_rfl) (by kernel_rfl) (fun _ _ _ h => h) (Or.inl ⟨by rfl, fun W hW => ?_⟩) hHeld ?_
              · clear hW
                go_simp
              try simp only [Act.put, List.getElem_toArray, List.getElem_cons_zero, List.getElem_cons_succ, List.setIfInBounds_toArray, List.set_cons_zero, List.set_cons_succ]
              refine wpAnyH_take (i := 46) (v := .bool true) rfl (by kernel_rfl) (by kernel_rfl) (by kernel_rfl) (fun _ _ _ h => h) (Or.inl ⟨by rfl, fun W hW => ?_⟩) hHeld ?_
              · clear hW
                go_simp
              try simp only [Act.put, List.getElem_toArray, List.getElem_cons_zero, List.getElem_cons_succ, List.setIfInBounds_toArray, List.set_cons_zero, List.set_cons_succ]
              refine wpAnyH_take (i := 47) (v := .slice a9 ((t.length + 1) + (u.length + 1) + 2) c9) rfl (by kernel_rfl) (by kernel_rfl) (by kernel_rfl) (fun _ _ _ h => h) (Or.inl ⟨by rfl, fun W hW => ?_⟩) hHeld ?_
              · clear hW
                go_simp
              try simp only [Act.put, List.getElem_toArray, List.getElem_cons_zero, List.getElem_cons_succ, List.setIfInBounds_toArray, List.set_cons_zero, List.set_cons_succ]
              refine wpAnyH_take (i := 48) (v := .agg (LA)) rfl (by kernel_rfl) (by kernel_rfl) (by kernel_rfl) (fun _ _ _ h => h) (yieldsIf_load_row (by rfl) _ _ rfl B rfl 24 (LA) _ (fun W hW => hW.1) Tryz.underlying24 rfl HLS) hHeld ?_
              try simp only [Act.put, List.getElem_toArray, List.getElem_cons_zero, List.getElem_cons_succ, List.setIfInBounds_toArray, List.set_cons_zero, List.set_cons_succ]
              refine wpAnyH_take (i := 49) (v := .int .i64 way) rfl (by kernel_rfl) (by kernel_rfl) (by kernel_rfl) (fun _ _ _ h => h) (Or.inl ⟨by rfl, fun W hW => ?_⟩) hHeld ?_
              · clear hW
                go_simp
              try simp only [Act.put, List.getElem_toArray, List.getElem_cons_zero, List.getElem_cons_succ, List.setIfInBounds_toArray, List.set_cons_zero, List.set_cons_succ]
              refine wpAnyH_take (i := 50) (v := .slice a b.length ca) rfl (by kernel_rfl) (by kernel_rfl) (by kernel_rfl) (fun _ _ _ h => h) (Or.inl ⟨by rfl, fun W hW => ?_⟩) hHeld ?_
              · clear hW
                go_simp
              try simp only [Act.put, List.getElem_toArray, List.getElem_cons_zero, List.getElem_cons_succ, List.setIfInBounds_toArray, List.set_cons_zero, List.set_cons_succ]
              refine wpAnyH_take (i := 52) (v := .int .i64 xa) rfl (by kernel_rfl) (by kernel_rfl) (by kernel_rfl) (fun _ _ _ h => h) (Or.inl ⟨by rfl, fun W hW => ?_⟩) hHeld ?_
              · clear hW
                go_simp
              try simp only [Act.put, List.getElem_toArray, List.getElem_cons_zero, List.getElem_cons_succ, List.setIfInBounds_toArray, List.set_cons_zero, List.set_cons_succ]
              refine wpAnyH_ready (rs := [51]) (by kernel_rfl) (by simp) (AllReadyH.cons rfl (fun K hK => ?_) AllReadyH.nil)
              go_simp
              refine (HJ.out (t ++ [noN] ++ (u ++ [noN]) ++ [orN, noN]) ((t.length + 1) + (u.length + 1) + 2) xa _ a9 c9 (by simp only [List.length_append]; rfl) HPL.out.2.2.2 HM.out.2.2.2 HP9.out (HS9.out.1.2.keptNone hHeld.2.2) HS9.out.2 hHeld.2.2).mono ?_
              rintro e w5 ⟨rfl, K5⟩
              go_wp2_with fail
              refine hK.out _ _ (⟨hHeld.1.kept K5, hHeld.2.1.kept K5, grown_trans hHeld.2.2 K5⟩) (fun hHeld => ?_)
              clear hK K
              try simp only [Act.put, List.getElem_toArray, List.getElem_cons_zero, List.getElem_cons_succ, List.setIfInBounds_toArray, List.set_cons_zero, List.set_cons_succ]
              clear K5
              refine wpAnyH_take (i := 53) (v := .bool true) rfl (by kernel_rfl) (by kernel_rfl) (by kernel_rfl) (fun _ _ _ h => h) (Or.inl ⟨by rfl, fun W hW => ?_⟩) hHeld ?_
              · clear hW
                go_simp
              try simp only [Act.put, List.getElem_toArray, List.getElem_cons_zero, List.getElem_cons_succ, List.setIfInBounds_toArray, List.set_cons_zero, List.set_cons_succ]
              refine wpAnyH_take (i := 54) (v := .bool true) rfl (by kernel_rfl) (by kernel_rfl) (by kernel_rfl) (fun _ _ _ h => h) (Or.inl ⟨by rfl, fun W hW => ?_⟩) hHeld ?_
              · clear hW
                go_simp
              try simp only [Act.put, List.getElem_toArray, List.getElem_cons_zero, List.getElem_cons_succ, List.setIfInBounds_toArray, List.set_cons_zero, List.set_cons_succ]
              refine wpAnyH_take (i := 55) (v := .bool true) rfl (by kernel_rfl) (by kernel_rfl) (by kernel_rfl) (fun _ _ _ h => h) (Or.inl ⟨by rfl, fun W hW => ?_⟩) hHeld ?_
              · clear hW
                go_simp
              try simp only [Act.put, List.getElem_toArray, List.getElem_cons_zero, List.getElem_cons_succ, List.setIfInBounds_toArray, List.set_cons_zero, List.set_cons_succ]
              refine wpAnyH_ready (rs := [56]) (by kernel_rfl) (by simp) (AllReadyH.cons rfl (fun K hK => ?_) AllReadyH.nil)
              go_simp
              refine (awake14_any _).mono ?_
              rintro e w6 ⟨rfl, K6⟩
              go_wp2_with fail
              refine hK.out _ _ (⟨hHeld.1.kept K6, hHeld.2.1.kept K6, grown_trans hHeld.2.2 K6⟩) (fun hHeld => ?_)
              clear hK K
              try simp only [Act.put, List.getElem_toArray, List.getElem_cons_zero, List.getElem_cons_succ, List.setIfInBounds_toArray, List.set_cons_zero, List.set_cons_succ]
              refine wpAnyH_take (i := 57) (v := .bool true) rfl (by kernel_rfl) (by kernel_rfl) (by kernel_rfl) (fun _ _ _ h => h) (Or.inl ⟨by rfl, fun W hW => ?_⟩) hHeld ?_
              · clear hW
                go_simp
              try simp only [Act.put, List.getElem_toArray, List.getElem_cons_zero, List.getElem_cons_succ, List.setIfInBounds_toArray, List.set_cons_zero, List.set_cons_succ]
              refine wpAnyH_take (i := 58) (v := .bool true) rfl (by kernel_rfl) (by kernel_rfl) (by kernel_rfl) (fun _ _ _ h => h) (Or.inl ⟨by rfl, fun W hW => ?_⟩) hHeld ?_
              · clear hW
                go_simp
              try simp only [Act.put, List.getElem_toArray, List.getElem_cons_zero, List.getElem_cons_succ, List.setIfInBounds_toArray, List.set_cons_zero, List.set_cons_succ]
              refine wpAnyH_done (by kernel_rfl) ?_ _
              have HFIN : Hid (w.grownBy _ none) := grown_trans HS9.out.1.1.1.1.2.2 hHeld.2.2
              clear hHeld K6
              go_wp2
              go_ret
              exact ⟨rfl, HFIN.out⟩
      · as_aux_lemma =>
          refine step_litW (by rfl) 22 1 _ (by rfl) #[(0, .agg N8)] (by kernel_rfl) (flatG [orN]) 44 HL8 ?_
          intro ad w3 CL hAD hAL K3
          have HAL : Hid (ad.block < w3.heap.size) := hAL
          refine hK.out _ _ (⟨hHeld.1.kept K3, hHeld.2.1.kept K3, grown_trans hHeld.2.2 K3⟩) (fun hHeld => ?_)
          clear hK K K3
          try simp only [Act.put, List.getElem_toArray, List.getElem_cons_zero, List.getElem_cons_succ, List.setIfInBounds_toArray, List.set_cons_zero, List.set_cons_succ]
          refine wpAnyH_ready (rs := [13]) (by kernel_rfl) (by simp) (AllReadyH.cons rfl (fun K hK => ?_) AllReadyH.nil)
          go_simp
          refine (HC6.out _ (grown_trans HS9.out.1.1.1.2 hHeld.2.2)).mono ?_
          rintro e w2 ⟨v2, rfl, O2, K2⟩
          have nA : ¬ v2.ownBlock = some ad.block := fun e => by have := (O2.lt _ e).1; have := HAL.out; omega
          have O2 := owns_mono O2 hHeld.2.2.size
          have CL := CL.keptNone K2
          go_wp2_with fail
          refine hK.out _ _ (⟨hHeld.1.kept K2, hHeld.2.1.kept K2, grown_trans hHeld.2.2 K2⟩) (fun hHeld => ?_)
          clear hK K K2
          try simp only [Act.put, List.getElem_toArray, List.getElem_cons_zero, List.getElem_cons_succ, List.setIfInBounds_toArray, List.set_cons_zero, List.set_cons_succ]
          refine wpAnyH_ready (rs := [16]) (by kernel_rfl) (by simp) (AllReadyH.cons rfl (fun K hK => ?_) AllReadyH.nil)
          refine step_append_ownW (by rfl) (.tmp 97) (.tmp 99) 22 (by rfl) 44 i0 _ 24 72 Tryz.underlying22 HI.out.1 HI.out.2.1 HI.out.2.2.1 HI.out.2.2.2 rfl (by decide) w9.heap.size v2 (t.length + u.length) (flatG (t ++ u)) (by rfl) O2 ad (1) 1 (flatG [orN]) (by rfl) (rfl) (CL) (flatG_one _) HLN.out.2.2.1.1 HLN.out.2.2.1.2 hHeld.2.2.size ?_
          intro v4 w4 O4 K4 B4
          have nB : ¬ v2.ownBlock = some B := fun e => by have := (O2.lt B e).1; have := HSZ.out; omega
          have nD : ¬ v2.ownBlock = some D := fun e => by have := (O2.lt D e).1; have := HSZ.out; omega
          have hG4 : w9.grownBy w4 none := grown_trans_new hHeld.2.2 K4 (fun z hz => (O2.lt z hz).1)
          rw [← flatG_append] at O4
          have hB4 := hHeld.1.grown K4 nB
          have hD4 := hHeld.2.1.grown K4 nD
          obtain ⟨a4, c4, hv4, C4, -, -, h04, -⟩ := cv_of_row O4
          subst hv4
          refine hK.out _ _ ⟨hB4, hD4, hG4⟩ (fun hHeld => ?_)
          clear hK K
          try simp only [Act.put, List.getElem_toArray, List.getElem_cons_zero, List.getElem_cons_succ, List.setIfInBounds_toArray, List.set_cons_zero, List.set_cons_succ]
          refine wpAnyH_ready (rs := [20]) (by kernel_rfl) (by simp) (AllReadyH.cons rfl (fun K hK => ?_) AllReadyH.nil)
          go_simp
          refine (HJ.out (t ++ u ++ [orN]) (t.length + u.length + 1) xo _ a4 c4 (by rw [List.length_append, List.length_append]; rfl) HPL.out.1 (HM.out.1 orN (.inr rfl)) HP8.out.2.1 C4 h04 hHeld.2.2).mono ?_
          rintro e w5 ⟨rfl, K5⟩
          go_wp2_with fail
          refine hK.out _ _ (⟨hHeld.1.kept K5, hHeld.2.1.kept K5, grown_trans hHeld.2.2 K5⟩) (fun hHeld => ?_)
          clear hK K
          try simp only [Act.put, List.getElem_toArray, List.getElem_cons_zero, List.getElem_cons_succ, List.setIfInBounds_toArray, List.set_cons_zero, List.set_cons_succ]
          clear O4 K4 B4 CL O2 C4 h04 nB nD hG4 hB4 hD4 nA K5
          refine wpAnyH_take (i := 22) (v := .bool true) rfl (by kernel_rfl) (by kernel_rfl) (by kernel_rfl) (fun _ _ _ h => h) (Or.inl ⟨by rfl, fun W hW => ?_⟩) hHeld ?_
          · clear hW
            go_simp
          try simp only [Act.put, List.getElem_toArray, List.getElem_cons_zero, List.getElem_cons_succ, List.setIfInBounds_toArray, List.set_cons_zero, List.set_cons_succ]
          refine wpAnyH_take (i := 23) (v := .bool true) rfl (by kernel_rfl) (by kernel_rfl) (by kernel_rfl) (fun _ _ _ h => h) (Or.inl ⟨by rfl, fun W hW => ?_⟩) hHeld ?_
          · clear hW
            go_simp
          try simp only [Act.put, List.getElem_toArray, List.getElem_cons_zero, List.getElem_cons_succ, List.setIfInBounds_toArray, List.set_cons_zero, List.set_cons_succ]
          refine wpAnyH_take (i := 24) (v := .bool true) rfl (by kernel_rfl) (by kernel_rfl) (by kernel_rfl) (fun _ _ _ h => h) (Or.inl ⟨by rfl, fun W hW => ?_⟩) hHeld ?_
          · clear hW
            go_simp
          try simp only [Act.put, List.getElem_toArray, List.getElem_cons_zero, List.getElem_cons_succ, List.setIfInBounds_toArray, List.set_cons_zero, List.set_cons_succ]
          refine wpAnyH_take (i := 25) (v := .slice a7 (t.length + 1) c7) rfl (by kernel_rfl) (by kernel_rfl) (by kernel_rfl) (fun _ _ _ h => h) (Or.inl ⟨by rfl, fun W hW => ?_⟩) hHeld ?_
          · clear hW
            go_simp
          try simp only [Act.put, List.getElem_toArray, List.getElem_cons_zero, List.getElem_cons_succ, List.setIfInBounds_toArray, List.set_cons_zero, List.set_cons_succ]
          refine wpAnyH_take (i := 26) (v := .agg (LA)) rfl (by kernel_rfl) (by kernel_rfl) (by kernel_rfl) (fun _ _ _ h => h) (yieldsIf_load_row (by rfl) _ _ rfl B rfl 24 (LA) _ (fun W hW => hW.1) Tryz.underlying24 rfl HLS) hHeld ?_
          try simp only [Act.put, List.getElem_toArray, List.getElem_cons_zero, List.getElem_cons_succ, List.setIfInBounds_toArray, List.set_cons_zero, List.set_cons_succ]
          refine wpAnyH_take (i := 27) (v := .int .i64 way) rfl (by kernel_rfl) (by kernel_rfl) (by kernel_rfl) (fun _ _ _ h => h) (Or.inl ⟨by rfl, fun W hW => ?_⟩) hHeld ?_
          · clear hW
            go_simp
          try simp only [Act.put, List.getElem_toArray, List.getElem_cons_zero, List.getElem_cons_succ, List.setIfInBounds_toArray, List.set_cons_zero, List.set_cons_succ]
          refine wpAnyH_take (i := 28) (v := .slice a b.length ca) rfl (by kernel_rfl) (by kernel_rfl) (by kernel_rfl) (fun _ _ _ h => h) (Or.inl ⟨by rfl, fun W hW => ?_⟩) hHeld ?_
          · clear hW
            go_simp
          try simp only [Act.put, List.getElem_toArray, List.getElem_cons_zero, List.getElem_cons_succ, List.setIfInBounds_toArray, List.set_cons_zero, List.set_cons_succ]
          refine wpAnyH_take (i := 30) (v := .int .i64 xn) rfl (by kernel_rfl) (by kernel_rfl) (by kernel_rfl) (fun _ _ _ h => h) (Or.inl ⟨by rfl, fun W hW => ?_⟩) hHeld ?_
          · clear hW
            go_simp
          try simp only [Act.put, List.getElem_toArray, List.getElem_cons_zero, List.getElem_cons_succ, List.setIfInBounds_toArray, List.set_cons_zero, List.set_cons_succ]
          refine wpAnyH_ready (rs := [29]) (by kernel_rfl) (by simp) (AllReadyH.cons rfl (fun K hK => ?_) AllReadyH.nil)
          go_simp
          refine (HJ.out (t ++ [noN]) (t.length + 1) xn _ a7 c7 (by rw [List.length_append]; rfl) HPL.out.2.1 HM.out.2.1 HP8.out.2.2.1 (HS9.out.1.1.2.1.keptNone hHeld.2.2) HS9.out.1.1.2.2 hHeld.2.2).mono ?_
          rintro e w5 ⟨rfl, K5⟩
          go_wp2_with fail
          refine hK.out _ _ (⟨hHeld.1.kept K5, hHeld.2.1.kept K5, grown_trans hHeld.2.2 K5⟩) (fun hHeld => ?_)
          clear hK K
          try simp only [Act.put, List.getElem_toArray, List.getElem_cons_zero, List.getElem_cons_succ, List.setIfInBounds_toArray, List.set_cons_zero, List.set_cons_succ]
          clear K5
          refine wpAnyH_take (i := 31) (v := .bool true) rfl (by kernel_rfl) (by kernel_rfl) (by kernel_rfl) (fun _ _ _ h => h) (Or.inl ⟨by rfl, fun W hW => ?_⟩) hHeld ?_
          · clear hW
            go_simp
          try simp only [Act.put, List.getElem_toArray, List.getElem_cons_zero, List.getElem_cons_succ, List.setIfInBounds_toArray, List.set_cons_zero, List.set_cons_succ]
          refine wpAnyH_take (i := 32) (v := .bool true) rfl (by kernel_rfl) (by kernel_rfl) (by kernel_rfl) (fun _ _ _ h => h) (Or.inl ⟨by rfl, fun W hW => ?_⟩) hHeld ?_
          · clear hW
            go_simp
          try simp only [Act.put, List.getElem_toArray, List.getElem_cons_zero, List.getElem_cons_succ, List.setIfInBounds_toArray, List.set_cons_zero, List.set_cons_succ]
          refine wpAnyH_take (i := 33) (v := .bool true) rfl (by kernel_rfl) (by kernel_rfl) (by kernel_rfl) (fun _ _ _ h => h) (Or.inl ⟨by rfl, fun W hW => ?_⟩) hHeld ?_
          · clear hW
            go_simp
          try simp only [Act.put, List.getElem_toArray, List.getElem_cons_zero, List.getElem_cons_succ, List.setIfInBounds_toArray, List.set_cons_zero, List.set_cons_succ]
          refine wpAnyH_take (i := 34) (v := .slice a7 (t.length + 1) c7) rfl (by kernel_rfl) (by kernel_rfl) (by kernel_rfl) (fun _ _ _ h => h) (Or.inl ⟨by rfl, fun W hW => ?_⟩) hHeld ?_
          · clear hW
            go_simp
          try simp only [Act.put, List.getElem_toArray, List.getElem_cons_zero, List.getElem_cons_succ, List.setIfInBounds_toArray, List.set_cons_zero, List.set_cons_succ]
          refine wpAnyH_take (i := 36) (v := .agg (N9)) rfl (by kernel_rfl) (by kernel_rfl) (by kernel_rfl) (fun _ _ _ h => h) (yieldsIf_load_row (by rfl) _ _ rfl D rfl 44 (N9) _ (fun W hW => hW.2.1) Tryz.underlying44 rfl HXC.out.1) hHeld ?_
          try simp only [Act.put, List.getElem_toArray, List.getElem_cons_zero, List.getElem_cons_succ, List.setIfInBounds_toArray, List.set_cons_zero, List.set_cons_succ]
          refine wpAnyH_take (i := 39) (v := .agg (LA)) rfl (by kernel_rfl) (by kernel_rfl) (by kernel_rfl) (fun _ _ _ h => h) (yieldsIf_load_row (by rfl) _ _ rfl B rfl 24 (LA) _ (fun W hW => hW.1) Tryz.underlying24 rfl HLS) hHeld ?_
          try simp only [Act.put, List.getElem_toArray, List.getElem_cons_zero, List.getElem_cons_succ, List.setIfInBounds_toArray, List.set_cons_zero, List.set_cons_succ]
          refine wpAnyH_take (i := 40) (v := .int .i64 way) rfl (by kernel_rfl) (by kernel_rfl) (by kernel_rfl) (fun _ _ _ h => h) (Or.inl ⟨by rfl, fun W hW => ?_⟩) hHeld ?_
          · clear hW
            go_simp
          try simp only [Act.put, List.getElem_toArray, List.getElem_cons_zero, List.getElem_cons_succ, List.setIfInBounds_toArray, List.set_cons_zero, List.set_cons_succ]
          refine wpAnyH_take (i := 41) (v := .slice a b.length ca) rfl (by kernel_rfl) (by kernel_rfl) (by kernel_rfl) (fun _ _ _ h => h) (Or.inl ⟨by rfl, fun W hW => ?_⟩) hHeld ?_
          · clear hW
            go_simp
          try simp only [Act.put, List.getElem_toArray, List.getElem_cons_zero, List.getElem_cons_succ, List.setIfInBounds_toArray, List.set_cons_zero, List.set_cons_succ]
          refine wpAnyH_take (i := 43) (v := .int .i64 x) rfl (by kernel_rfl) (by kernel_rfl) (by kernel_rfl) (fun _ _ _ h => h) (Or.inl ⟨by rfl, fun W hW => ?_⟩) hHeld ?_
          · clear hW
            go_simp
          try simp only [Act.put, List.getElem_toArray, List.getElem_cons_zero, List.getElem_cons_succ, List.setIfInBounds_toArray, List.set_cons_zero, List.set_cons_succ]
          refine wpAnyH_ready (rs := [35, 37]) (by kernel_rfl) (by simp) (AllReadyH.cons rfl (fun K hK => ?_) (AllReadyH.cons rfl (fun K hK => ?_) AllReadyH.nil))
          · as_aux_lemma =>
              go_simp
              refine (HC7.out _ (grown_trans HS9.out.1.1.1.2 hHeld.2.2)).mono ?_
              rintro e w2 ⟨v2, rfl, O2, K2⟩
              have O2 := owns_mono O2 hHeld.2.2.size
              go_wp2_with fail
              refine hK.out _ _ (⟨hHeld.1.kept K2, hHeld.2.1.kept K2, grown_trans hHeld.2.2 K2⟩) (fun hHeld => ?_)
              clear hK K K2
              try simp only [Act.put, List.getElem_toArray, List.getElem_cons_zero, List.getElem_cons_succ, List.setIfInBounds_toArray, List.set_cons_zero, List.set_cons_succ]
              refine wpAnyH_ready (rs := [37]) (by kernel_rfl) (by simp) (AllReadyH.cons rfl (fun K hK => ?_) AllReadyH.nil)
              refine step_litW (by rfl) 22 1 _ (by rfl) #[(0, .agg N9)] (by kernel_rfl) (flatG [noN]) 44 HL9 ?_
              intro ad w3 CL hAD hAL K3
              have nA : ¬ v2.ownBlock = some ad.block := fun e => by have := (O2.lt _ e).2; omega
              have O2 := owns_keptNone O2 K3
              refine hK.out _ _ (⟨hHeld.1.kept K3, hHeld.2.1.kept K3, grown_trans hHeld.2.2 K3⟩) (fun hHeld => ?_)
              clear hK K K3
              try simp only [Act.put, List.getElem_toArray, List.getElem_cons_zero, List.getElem_cons_succ, List.setIfInBounds_toArray, List.set_cons_zero, List.set_cons_succ]
              refine wpAnyH_ready (rs := [38]) (by kernel_rfl) (by simp) (AllReadyH.cons rfl (fun K hK => ?_) AllReadyH.nil)
              refine step_append_ownW (by rfl) (.tmp 119) (.tmp 121) 22 (by rfl) 44 i0 _ 24 72 Tryz.underlying22 HI.out.1 HI.out.2.1 HI.out.2.2.1 HI.out.2.2.2 rfl (by decide) w9.heap.size v2 (t.length + 1) (flatG (t ++ [noN])) (by rfl) O2 ad (1) 1 (flatG [noN]) (by rfl) (rfl) (CL) (flatG_one _) HLN.out.2.2.2.1 HLN.out.2.2.2.2 hHeld.2.2.size ?_
              intro v4 w4 O4 K4 B4
              have nB : ¬ v2.ownBlock = some B := fun e => by have := (O2.lt B e).1; have := HSZ.out; omega
              have nD : ¬ v2.ownBlock = some D := fun e => by have := (O2.lt D e).1; have := HSZ.out; omega
              have hG4 : w9.grownBy w4 none := grown_trans_new hHeld.2.2 K4 (fun z hz => (O2.lt z hz).1)
              rw [← flatG_append] at O4
              have hB4 := hHeld.1.grown K4 nB
              have hD4 := hHeld.2.1.grown K4 nD
              obtain ⟨a4, c4, hv4, C4, -, -, h04, -⟩ := cv_of_row O4
              subst hv4
              refine hK.out _ _ ⟨hB4, hD4, hG4⟩ (fun hHeld => ?_)
              clear hK K
              try simp only [Act.put, List.getElem_toArray, List.getElem_cons_zero, List.getElem_cons_succ, List.setIfInBounds_toArray, List.set_cons_zero, List.set_cons_succ]
              refine wpAnyH_ready (rs := [42]) (by kernel_rfl) (by simp) (AllReadyH.cons rfl (fun K hK => ?_) AllReadyH.nil)
              go_simp
              refine (HJ.out (t ++ [noN] ++ [noN]) (t.length + 1 + 1) x _ a4 c4 (by rw [List.length_append, List.length_append]; rfl) HPL.out.2.2.1 HM.out.2.2.1 HP8.out.2.2.2.1 C4 h04 hHeld.2.2).mono ?_
              rintro e w5 ⟨rfl, K5⟩
              go_wp2_with fail
              refine hK.out _ _ (⟨hHeld.1.kept K5, hHeld.2.1.kept K5, grown_trans hHeld.2.2 K5⟩) (fun hHeld => ?_)
              clear hK K
              try simp only [Act.put, List.getElem_toArray, List.getElem_cons_zero, List.getElem_cons_succ, List.setIfInBounds_toArray, List.set_cons_zero, List.set_cons_succ]
              clear O4 K4 B4 CL O2 C4 h04 nB nD hG4 hB4 hD4 nA K5
              refine wpAnyH_take (i := 44) (v := .bool true) rfl (by kernel_rfl) (by kernel_rfl) (by kernel_rfl) (fun _ _ _ h => h) (Or.inl ⟨by rfl, fun W hW => ?_⟩) hHeld ?_
              · clear hW
                go_simp
              try simp only [Act.put, List.getElem_toArray, List.getElem_cons_zero, List.getElem_cons_succ, List.setIfInBounds_toArray, List.set_cons_zero, List.set_cons_succ]
              refine wpAnyH_take (i := 45) (v := .bool true) rfl (by kernel_rfl) (by kernel_rfl) (by kernel_rfl) (fun _ _ _ h => h) (Or.inl ⟨by rfl, fun W hW => ?_⟩) hHeld ?_
              · clear hW
                go_simp
              try simp only [Act.put, List.getElem_toArray, List.getElem_cons_zero, List.getElem_cons_succ, List.setIfInBounds_toArray, List.set_cons_zero, List.set_cons_succ]
              refine wpAnyH_take (i := 46) (v := .bool true) rfl (by kernel_rfl) (by kernel_rfl) (by kernel_rfl) (fun _ _ _ h => h) (Or.inl ⟨by rfl, fun W hW => ?_⟩) hHeld ?_
              · clear hW
                go_simp
              try simp only [Act.put, List.getElem_toArray, List.getElem_cons_zero, List.getElem_cons_succ, List.setIfInBounds_toArray, List.set_cons_zero, List.set_cons_succ]
              refine wpAnyH_take (i := 47) (v := .slice a9 ((t.length + 1) + (u.length + 1) + 2) c9) rfl (by kernel_rfl) (by kernel_rfl) (by kernel_rfl) (fun _ _ _ h => h) (Or.inl ⟨by rfl, fun W hW => ?_⟩) hHeld ?_
              · clear hW
                go_simp
              try simp only [Act.put, List.getElem_toArray, List.getElem_cons_zero, List.getElem_cons_succ, List.setIfInBounds_toArray, List.set_cons_zero, List.set_cons_succ]
              refine wpAnyH_take (i := 48) (v := .agg (LA)) rfl (by kernel_rfl) (by kernel_rfl) (by kernel_rfl) (fun _ _ _ h => h) (yieldsIf_load_row (by rfl) _ _ rfl B rfl 24 (LA) _ (fun W hW => hW.1) Tryz.underlying24 rfl HLS) hHeld ?_
              try simp only [Act.put, List.getElem_toArray, List.getElem_cons_zero, List.getElem_cons_succ, List.setIfInBounds_toArray, List.set_cons_zero, List.set_cons_succ]
              refine wpAnyH_take (i := 49) (v := .int .i64 way) rfl (by kernel_rfl) (by kernel_rfl) (by kernel_rfl) (fun _ _ _ h => h) (Or.inl ⟨by rfl, fun W hW => ?_⟩) hHeld ?_
              · clear hW
                go_simp
              try simp only [Act.put, List.getElem_toArray, List.getElem_cons_zero, List.getElem_cons_succ, List.setIfInBounds_toArray, List.set_cons_zero, List.set_cons_succ]
              refine wpAnyH_take (i := 50) (v := .slice a b.length ca) rfl (by kernel_rfl) (by kernel_rfl) (by kernel_rfl) (fun _ _ _ h => h) (Or.inl ⟨by rfl, fun W hW => ?_⟩) hHeld ?_
              · clear hW
                go_simp
              try simp only [Act.put, List.getElem_toArray, List.getElem_cons_zero, List.getElem_cons_succ, List.setIfInBounds_toArray, List.set_cons_zero, List.set_cons_succ]
              refine wpAnyH_take (i := 52) (v := .int .i64 xa) rfl (by kernel_rfl) (by kernel_rfl) (by kernel_rfl) (fun _ _ _ h => h) (Or.inl ⟨by rfl, fun W hW => ?_⟩) hHeld ?_
              · clear hW
                go_simp
              try simp only [Act.put, List.getElem_toArray, List.getElem_cons_zero, List.getElem_cons_succ, List.setIfInBounds_toArray, List.set_cons_zero, List.set_cons_succ]
              refine wpAnyH_ready (rs := [51]) (by kernel_rfl) (by simp) (AllReadyH.cons rfl (fun K hK => ?_) AllReadyH.nil)
              go_simp
              refine (HJ.out (t ++ [noN] ++ (u ++ [noN]) ++ [orN, noN]) ((t.length + 1) + (u.length + 1) + 2) xa _ a9 c9 (by simp only [List.length_append]; rfl) HPL.out.2.2.2 HM.out.2.2.2 HP9.out (HS9.out.1.2.keptNone hHeld.2.2) HS9.out.2 hHeld.2.2).mono ?_
              rintro e w5 ⟨rfl, K5⟩
              go_wp2_with fail
              refine hK.out _ _ (⟨hHeld.1.kept K5, hHeld.2.1.kept K5, grown_trans hHeld.2.2 K5⟩) (fun hHeld => ?_)
              clear hK K
              try simp only [Act.put, List.getElem_toArray, List.getElem_cons_zero, List.getElem_cons_succ, List.setIfInBounds_toArray, List.set_cons_zero, List.set_cons_succ]
              clear K5
              refine wpAnyH_take (i := 53) (v := .bool true) rfl (by kernel_rfl) (by kernel_rfl) (by kernel_rfl) (fun _ _ _ h => h) (Or.inl ⟨by rfl, fun W hW => ?_⟩) hHeld ?_
              · clear hW
                go_simp
              try simp only [Act.put, List.getElem_toArray, List.getElem_cons_zero, List.getElem_cons_succ, List.setIfInBounds_toArray, List.set_cons_zero, List.set_cons_succ]
              refine wpAnyH_take (i := 54) (v := .bool true) rfl (by kernel_rfl) (by kernel_rfl) (by kernel_rfl) (fun _ _ _ h => h) (Or.inl ⟨by rfl, fun W hW => ?_⟩) hHeld ?_
              · clear hW
                go_simp
              try simp only [Act.put, List.getElem_toArray, List.getElem_cons_zero, List.getElem_cons_succ, List.setIfInBounds_toArray, List.set_cons_zero, List.set_cons_succ]
              refine wpAnyH_take (i := 55) (v := .bool true) rfl (by kernel_rfl) (by kernel_rfl) (by kernel_rfl) (fun _ _ _ h => h) (Or.inl ⟨by rfl, fun W hW => ?_⟩) hHeld ?_
              · clear hW
                go_simp
              try simp only [Act.put, List.getElem_toArray, List.getElem_cons_zero, List.getElem_cons_succ, List.setIfInBounds_toArray, List.set_cons_zero, List.set_cons_succ]
              refine wpAnyH_ready (rs := [56]) (by kernel_rfl) (by simp) (AllReadyH.cons rfl (fun K hK => ?_) AllReadyH.nil)
              go_simp
              refine (awake14_any _).mono ?_
              rintro e w6 ⟨rfl, K6⟩
              go_wp2_with fail
              refine hK.out _ _ (⟨hHeld.1.kept K6, hHeld.2.1.kept K6, grown_trans hHeld.2.2 K6⟩) (fun hHeld => ?_)
              clear hK K
              try simp only [Act.put, List.getElem_toArray, List.getElem_cons_zero, List.getElem_cons_succ, List.setIfInBounds_toArray, List.set_cons_zero, List.set_cons_succ]
              refine wpAnyH_take (i := 57) (v := .bool true) rfl (by kernel_rfl) (by kernel_rfl) (by kernel_rfl) (fun _ _ _ h => h) (Or.inl ⟨by rfl, fun W hW => ?_⟩) hHeld ?_
              · clear hW
                go_simp
              try simp only [Act.put, List.getElem_toArray, List.getElem_cons_zero, List.getElem_cons_succ, List.setIfInBounds_toArray, List.set_cons_zero, List.set_cons_succ]
              refine wpAnyH_take (i := 58) (v := .bool true) rfl (by kernel_rfl) (by kernel_rfl) (by kernel_rfl) (fun _ _ _ h => h) (Or.inl ⟨by rfl, fun W hW => ?_⟩) hHeld ?_
              · clear hW
                go_simp
              try simp only [Act.put, List.getElem_toArray, List.getElem_cons_zero, List.getElem_cons_succ, List.setIfInBounds_toArray, List.set_cons_zero, List.set_cons_succ]
              refine wpAnyH_done (by kernel_rfl) ?_ _
              have HFIN : Hid (w.grownBy _ none) := grown_trans HS9.out.1.1.1.1.2.2 hHeld.2.2
              clear hHeld K6
              go_wp2
              go_ret
              exact ⟨rfl, HFIN.out⟩
          · as_aux_lemma =>
              refine step_litW (by rfl) 22 1 _ (by rfl) #[(0, .agg N9)] (by kernel_rfl) (flatG [noN]) 44 HL9 ?_
              intro ad w3 CL hAD hAL K3
              have HAL : Hid (ad.block < w3.heap.size) := hAL
              refine hK.out _ _ (⟨hHeld.1.kept K3, hHeld.2.1.kept K3, grown_trans hHeld.2.2 K3⟩) (fun hHeld => ?_)
              clear hK K K3
              try simp only [Act.put, List.getElem_toArray, List.getElem_cons_zero, List.getElem_cons_succ, List.setIfInBounds_toArray, List.set_cons_zero, List.set_cons_succ]
              refine wpAnyH_ready (rs := [35]) (by kernel_rfl) (by simp) (AllReadyH.cons rfl (fun K hK => ?_) AllReadyH.nil)
              go_simp
              refine (HC7.out _ (grown_trans HS9.out.1.1.1.2 hHeld.2.2)).mono ?_
              rintro e w2 ⟨v2, rfl, O2, K2⟩
              have nA : ¬ v2.ownBlock = some ad.block := fun e => by have := (O2.lt _ e).1; have := HAL.out; omega
              have O2 := owns_mono O2 hHeld.2.2.size
              have CL := CL.keptNone K2
              go_wp2_with fail
              refine hK.out _ _ (⟨hHeld.1.kept K2, hHeld.2.1.kept K2, grown_trans hHeld.2.2 K2⟩) (fun hHeld => ?_)
              clear hK K K2
              try simp only [Act.put, List.getElem_toArray, List.getElem_cons_zero, List.getElem_cons_succ, List.setIfInBounds_toArray, List.set_cons_zero, List.set_cons_succ]
              refine wpAnyH_ready (rs := [38]) (by kernel_rfl) (by simp) (AllReadyH.cons rfl (fun K hK => ?_) AllReadyH.nil)
              refine step_append_ownW (by rfl) (.tmp 119) (.tmp 121) 22 (by rfl) 44 i0 _ 24 72 Tryz.underlying22 HI.out.1 HI.out.2.1 HI.out.2.2.1 HI.out.2.2.2 rfl (by decide) w9.heap.size v2 (t.length + 1) (flatG (t ++ [noN])) (by rfl) O2 ad (1) 1 (flatG [noN]) (by rfl) (rfl) (CL) (flatG_one _) HLN.out.2.2.2.1 HLN.out.2.2.2.2 hHeld.2.2.size ?_
              intro v4 w4 O4 K4 B4
              have nB : ¬ v2.ownBlock = some B := fun e => by have := (O2.lt B e).1; have := HSZ.out; omega
              have nD : ¬ v2.ownBlock = some D := fun e => by have := (O2.lt D e).1; have := HSZ.out; omega
              have hG4 : w9.grownBy w4 none := grown_trans_new hHeld.2.2 K4 (fun z hz => (O2.lt z hz).1)
              rw [← flatG_append] at O4
              have hB4 := hHeld.1.grown K4 nB
              have hD4 := hHeld.2.1.grown K4 nD
              obtain ⟨a4, c4, hv4, C4, -, -, h04, -⟩ := cv_of_row O4
              subst hv4
              refine hK.out _ _ ⟨hB4, hD4, hG4⟩ (fun hHeld => ?_)
              clear hK K
              try simp only [Act.put, List.getElem_toArray, List.getElem_cons_zero, List.getElem_cons_succ, List.setIfInBounds_toArray, List.set_cons_zero, List.set_cons_succ]
              refine wpAnyH_ready (rs := [42]) (by kernel_rfl) (by simp) (AllReadyH.cons rfl (fun K hK => ?_) AllReadyH.nil)
              go_simp
              refine (HJ.out (t ++ [noN] ++ [noN]) (t.length + 1 + 1) x _ a4 c4 (by rw [List.length_append, List.length_append]; rfl) HPL.out.2.2.1 HM.out.2.2.1 HP8.out.2.2.2.1 C4 h04 hHeld.2.2).mono ?_
              rintro e w5 ⟨rfl, K5⟩
              go_wp2_with fail
              refine hK.out _ _ (⟨hHeld.1.kept K5, hHeld.2.1.kept K5, grown_trans hHeld.2.2 K5⟩) (fun hHeld => ?_)
              clear hK K
              try simp only [Act.put, List.getElem_toArray, List.getElem_cons_zero, List.getElem_cons_succ, List.setIfInBounds_toArray, List.set_cons_zero, List.set_cons_succ]
              clear O4 K4 B4 CL O2 C4 h04 nB nD hG4 hB4 hD4 nA K5
              refine wpAnyH_take (i := 44) (v := .bool true) rfl (by kernel_rfl) (by kernel_rfl) (by kernel_rfl) (fun _ _ _ h => h) (Or.inl ⟨by rfl, fun W hW => ?_⟩) hHeld ?_
              · clear hW
                go_simp
              try simp only [Act.put, List.getElem_toArray, List.getElem_cons_zero, List.getElem_cons_succ, List.setIfInBounds_toArray, List.set_cons_zero, List.set_cons_succ]
              refine wpAnyH_take (i := 45) (v := .bool true) rfl (by kernel_rfl) (by kernel_rfl) (by kernel_rfl) (fun _ _ _ h => h) (Or.inl ⟨by rfl, fun W hW => ?_⟩) hHeld ?_
              · clear hW
                go_simp
              try simp only [Act.put, List.getElem_toArray, List.getElem_cons_zero, List.getElem_cons_succ, List.setIfInBounds_toArray, List.set_cons_zero, List.set_cons_succ]
              refine wpAnyH_take (i := 46) (v := .bool true) rfl (by kernel_rfl) (by kernel_rfl) (by kernel_rfl) (fun _ _ _ h => h) (Or.inl ⟨by rfl, fun W hW => ?_⟩) hHeld ?_
              · clear hW
                go_simp
              try simp only [Act.put, List.getElem_toArray, List.getElem_cons_zero, List.getElem_cons_succ, List.setIfInBounds_toArray, List.set_cons_zero, List.set_cons_succ]
              refine wpAnyH_take (i := 47) (v := .slice a9 ((t.length + 1) + (u.length + 1) + 2) c9) rfl (by kernel_rfl) (by kernel_rfl) (by kernel_rfl) (fun _ _ _ h => h) (Or.inl ⟨by rfl, fun W hW => ?_⟩) hHeld ?_
              · clear hW
                go_simp
              try simp only [Act.put, List.getElem_toArray, List.getElem_cons_zero, List.getElem_cons_succ, List.setIfInBounds_toArray, List.set_cons_zero, List.set_cons_succ]
              refine wpAnyH_take (i := 48) (v := .agg (LA)) rfl (by kernel_rfl) (by kernel_rfl) (by kernel_rfl) (fun _ _ _ h => h) (yieldsIf_load_row (by rfl) _ _ rfl B rfl 24 (LA) _ (fun W hW => hW.1) Tryz.underlying24 rfl HLS) hHeld ?_
              try simp only [Act.put, List.getElem_toArray, List.getElem_cons_zero, List.getElem_cons_succ, List.setIfInBounds_toArray, List.set_cons_zero, List.set_cons_succ]
              refine wpAnyH_take (i := 49) (v := .int .i64 way) rfl (by kernel_rfl) (by kernel_rfl) (by kernel_rfl) (fun _ _ _ h => h) (Or.inl ⟨by rfl, fun W hW => ?_⟩) hHeld ?_
              · clear hW
                go_simp
              try simp only [Act.put, List.getElem_toArray, List.getElem_cons_zero, List.getElem_cons_succ, List.setIfInBounds_toArray, List.set_cons_zero, List.set_cons_succ]
              refine wpAnyH_take (i := 50) (v := .slice a b.length ca) rfl (by kernel_rfl) (by kernel_rfl) (by kernel_rfl) (fun _ _ _ h => h) (Or.inl ⟨by rfl, fun W hW => ?_⟩) hHeld ?_
              · clear hW
                go_simp
              try simp only [Act.put, List.getElem_toArray, List.getElem_cons_zero, List.getElem_cons_succ, List.setIfInBounds_toArray, List.set_cons_zero, List.set_cons_succ]
              refine wpAnyH_take (i := 52) (v := .int .i64 xa) rfl (by kernel_rfl) (by kernel_rfl) (by kernel_rfl) (fun _ _ _ h => h) (Or.inl ⟨by rfl, fun W hW => ?_⟩) hHeld ?_
              · clear hW
                go_simp
              try simp only [Act.put, List.getElem_toArray, List.getElem_cons_zero, List.getElem_cons_succ, List.setIfInBounds_toArray, List.set_cons_zero, List.set_cons_succ]
              refine wpAnyH_ready (rs := [51]) (by kernel_rfl) (by simp) (AllReadyH.cons rfl (fun K hK => ?_) AllReadyH.nil)
              go_simp
              refine (HJ.out (t ++ [noN] ++ (u ++ [noN]) ++ [orN, noN]) ((t.length + 1) + (u.length + 1) + 2) xa _ a9 c9 (by simp only [List.length_append]; rfl) HPL.out.2.2.2 HM.out.2.2.2 HP9.out (HS9.out.1.2.keptNone hHeld.2.2) HS9.out.2 hHeld.2.2).mono ?_
              rintro e w5 ⟨rfl, K5⟩
              go_wp2_with fail
              refine hK.out _ _ (⟨hHeld.1.kept K5, hHeld.2.1.kept K5, grown_trans hHeld.2.2 K5⟩) (fun hHeld => ?_)
              clear hK K
              try simp only [Act.put, List.getElem_toArray, List.getElem_cons_zero, List.getElem_cons_succ, List.setIfInBounds_toArray, List.set_cons_zero, List.set_cons_succ]
              clear K5
              refine wpAnyH_take (i := 53) (v := .bool true) rfl (by kernel_rfl) (by kernel_rfl) (by kernel_rfl) (fun _ _ _ h => h) (Or.inl ⟨by rfl, fun W hW => ?_⟩) hHeld ?_
              · clear hW
                go_simp
              try simp only [Act.put, List.getElem_toArray, List.getElem_cons_zero, List.getElem_cons_succ, List.setIfInBounds_toArray, List.set_cons_zero, List.set_cons_succ]
              refine wpAnyH_take (i := 54) (v := .bool true) rfl (by kernel_rfl) (by kernel_rfl) (by kernel_rfl) (fun _ _ _ h => h) (Or.inl ⟨by rfl, fun W hW => ?_⟩) hHeld ?_
              · clear hW
                go_simp
              try simp only [Act.put, List.getElem_toArray, List.getElem_cons_zero, List.getElem_cons_succ, List.setIfInBounds_toArray, List.set_cons_zero, List.set_cons_succ]
              refine wpAnyH_take (i := 55) (v := .bool true) rfl (by kernel_rfl) (by kernel_rfl) (by kernel_rfl) (fun _ _ _ h => h) (Or.inl ⟨by rfl, fun W hW => ?_⟩) hHeld ?_
              · clear hW
                go_simp
              try simp only [Act.put, List.getElem_toArray, List.getElem_cons_zero, List.getElem_cons_succ, List.setIfInBounds_toArray, List.set_cons_zero, List.set_cons_succ]
              refine wpAnyH_ready (rs := [56]) (by kernel_rfl) (by simp) (AllReadyH.cons rfl (fun K hK => ?_) AllReadyH.nil)
              go_simp
              refine (awake14_any _).mono ?_
              rintro e w6 ⟨rfl, K6⟩
              go_wp2_with fail
              refine hK.out _ _ (⟨hHeld.1.kept K6, hHeld.2.1.kept K6, grown_trans hHeld.2.2 K6⟩) (fun hHeld => ?_)
              clear hK K
              try simp only [Act.put, List.getElem_toArray, List.getElem_cons_zero, List.getElem_cons_succ, List.setIfInBounds_toArray, List.set_cons_zero, List.set_cons_succ]
              refine wpAnyH_take (i := 57) (v := .bool true) rfl (by kernel_rfl) (by kernel_rfl) (by kernel_rfl) (fun _ _ _ h => h) (Or.inl ⟨by rfl, fun W hW => ?_⟩) hHeld ?_
              · clear hW
                go_simp
              try simp only [Act.put, List.getElem_toArray, List.getElem_cons_zero, List.getElem_cons_succ, List.setIfInBounds_toArray, List.set_cons_zero, List.set_cons_succ]
              refine wpAnyH_take (i := 58) (v := .bool true) rfl (by kernel_rfl) (by kernel_rfl) (by kernel_rfl) (fun _ _ _ h => h) (Or.inl ⟨by rfl, fun W hW => ?_⟩) hHeld ?_
              · clear hW
                go_simp
              try simp only [Act.put, List.getElem_toArray, List.getElem_cons_zero, List.getElem_cons_succ, List.setIfInBounds_toArray, List.set_cons_zero, List.set_cons_succ]
              refine wpAnyH_done (by kernel_rfl) ?_ _
              have HFIN : Hid (w.grownBy _ none) := grown_trans HS9.out.1.1.1.1.2.2 hHeld.2.2
              clear hHeld K6
              go_wp2
              go_ret
              exact ⟨rfl, HFIN.out⟩
  · as_aux_lemma =>
      refine step_litW (by rfl) 22 1 _ (by rfl) #[(0, .agg N7)] (by kernel_rfl) (flatG [adN]) 44 HL7 ?_
      intro ad w3 CL hAD hAL K3
      have HAL : Hid (ad.block < w3.heap.size) := hAL
      refine hK.out _ _ (⟨hHeld.1.kept K3, hHeld.2.1.kept K3, grown_trans hHeld.2.2 K3⟩) (fun hHeld => ?_)
      clear hK K K3
      try simp only [Act.put, List.getElem_toArray, List.getElem_cons_zero, List.getElem_cons_succ, List.setIfInBounds_toArray, List.set_cons_zero, List.set_cons_succ]
      refine wpAnyH_ready (rs := [1]) (by kernel_rfl) (by simp) (AllReadyH.cons rfl (fun K hK => ?_) AllReadyH.nil)
      go_simp
      refine (HC6.out _ (grown_trans HS9.out.1.1.1.2 hHeld.2.2)).mono ?_
      rintro e w2 ⟨v2, rfl, O2, K2⟩
      have nA : ¬ v2.ownBlock = some ad.block := fun e => by have := (O2.lt _ e).1; have := HAL.out; omega
      have O2 := owns_mono O2 hHeld.2.2.size
      have CL := CL.keptNone K2
      go_wp2_with fail
      refine hK.out _ _ (⟨hHeld.1.kept K2, hHeld.2.1.kept K2, grown_trans hHeld.2.2 K2⟩) (fun hHeld => ?_)
      clear hK K K2
      try simp only [Act.put, List.getElem_toArray, List.getElem_cons_zero, List.getElem_cons_succ, List.setIfInBounds_toArray, List.set_cons_zero, List.set_cons_succ]
      refine wpAnyH_ready (rs := [4]) (by kernel_rfl) (by simp) (AllReadyH.cons rfl (fun K hK => ?_) AllReadyH.nil)
      refine step_append_ownW (by rfl) (.tmp 85) (.tmp 87) 22 (by rfl) 44 i0 _ 24 72 Tryz.underlying22 HI.out.1 HI.out.2.1 HI.out.2.2.1 HI.out.2.2.2 rfl (by decide) w9.heap.size v2 (t.length + u.length) (flatG (t ++ u)) (by rfl) O2 ad (1) 1 (flatG [adN]) (by rfl) (rfl) (CL) (flatG_one _) HLN.out.2.2.1.1 HLN.out.2.2.1.2 hHeld.2.2.size ?_
      intro v4 w4 O4 K4 B4
      have nB : ¬ v2.ownBlock = some B := fun e => by have := (O2.lt B e).1; have := HSZ.out; omega
      have nD : ¬ v2.ownBlock = some D := fun e => by have := (O2.lt D e).1; have := HSZ.out; omega
      have hG4 : w9.grownBy w4 none := grown_trans_new hHeld.2.2 K4 (fun z hz => (O2.lt z hz).1)
      rw [← flatG_append] at O4
      have hB4 := hHeld.1.grown K4 nB
      have hD4 := hHeld.2.1.grown K4 nD
      obtain ⟨a4, c4, hv4, C4, -, -, h04, -⟩ := cv_of_row O4
      subst hv4
      refine hK.out _ _ ⟨hB4, hD4, hG4⟩ (fun hHeld => ?_)
      clear hK K
      try simp only [Act.put, List.getElem_toArray, List.getElem_cons_zero, List.getElem_cons_succ, List.setIfInBounds_toArray, List.set_cons_zero, List.set_cons_succ]
      refine wpAnyH_ready (rs := [8]) (by kernel_rfl) (by simp) (AllReadyH.cons rfl (fun K hK => ?_) AllReadyH.nil)
      go_simp
      refine (HJ.out (t ++ u ++ [adN]) (t.length + u.length + 1) xa _ a4 c4 (by rw [List.length_append, List.length_append]; rfl) HPL.out.1 (HM.out.1 adN (.inl rfl)) HP8.out.1 C4 h04 hHeld.2.2).mono ?_
      rintro e w5 ⟨rfl, K5⟩
      go_wp2_with fail
      refine hK.out _ _ (⟨hHeld.1.kept K5, hHeld.2.1.kept K5, grown_trans hHeld.2.2 K5⟩) (fun hHeld => ?_)
      clear hK K
      try simp only [Act.put, List.getElem_toArray, List.getElem_cons_zero, List.getElem_cons_succ, List.setIfInBounds_toArray, List.set_cons_zero, List.set_cons_succ]
      clear O4 K4 B4 CL O2 C4 h04 nB nD hG4 hB4 hD4 nA K5
      refine wpAnyH_take (i := 10) (v := .bool true) rfl (by kernel_rfl) (by kernel_rfl) (by kernel_rfl) (fun _ _ _ h => h) (Or.inl ⟨by rfl, fun W hW => ?_⟩) hHeld ?_
      · clear hW
        go_simp
      try simp only [Act.put, List.getElem_toArray, List.getElem_cons_zero, List.getElem_cons_succ, List.setIfInBounds_toArray, List.set_cons_zero, List.set_cons_succ]
      refine wpAnyH_take (i := 11) (v := .bool true) rfl (by kernel_rfl) (by kernel_rfl) (by kernel_rfl) (fun _ _ _ h => h) (Or.inl ⟨by rfl, fun W hW => ?_⟩) hHeld ?_
      · clear hW
        go_simp
      try simp only [Act.put, List.getElem_toArray, List.getElem_cons_zero, List.getElem_cons_succ, List.setIfInBounds_toArray, List.set_cons_zero, List.set_cons_succ]
      refine wpAnyH_take (i := 12) (v := .slice a6 (t.length + u.length) c6) rfl (by kernel_rfl) (by kernel_rfl) (by kernel_rfl) (fun _ _ _ h => h) (Or.inl ⟨by rfl, fun W hW => ?_⟩) hHeld ?_
      · clear hW
        go_simp
      try simp only [Act.put, List.getElem_toArray, List.getElem_cons_zero, List.getElem_cons_succ, List.setIfInBounds_toArray, List.set_cons_zero, List.set_cons_succ]
      refine wpAnyH_take (i := 14) (v := .agg N8) rfl (by kernel_rfl) (by kernel_rfl) (by kernel_rfl) (fun _ _ _ h => h) (yieldsIf_bld (by rfl) 44 _ (by rfl) #[(0, .int .i64 8)] (by kernel_rfl) (.agg N8) HB8) hHeld ?_
      try simp only [Act.put, List.getElem_toArray, List.getElem_cons_zero, List.getElem_cons_succ, List.setIfInBounds_toArray, List.set_cons_zero, List.set_cons_succ]
      refine wpAnyH_take (i := 17) (v := .agg (LA)) rfl (by kernel_rfl) (by kernel_rfl) (by kernel_rfl) (fun _ _ _ h => h) (yieldsIf_load_row (by rfl) _ _ rfl B rfl 24 (LA) _ (fun W hW => hW.1) Tryz.underlying24 rfl HLS) hHeld ?_
      try simp only [Act.put, List.getElem_toArray, List.getElem_cons_zero, List.getElem_cons_succ, List.setIfInBounds_toArray, List.set_cons_zero, List.set_cons_succ]
      refine wpAnyH_take (i := 18) (v := .int .i64 way) rfl (by kernel_rfl) (by kernel_rfl) (by kernel_rfl) (fun _ _ _ h => h) (Or.inl ⟨by rfl, fun W hW => ?_⟩) hHeld ?_
      · clear hW
        go_simp
      try simp only [Act.put, List.getElem_toArray, List.getElem_cons_zero, List.getElem_cons_succ, List.setIfInBounds_toArray, List.set_cons_zero, List.set_cons_succ]
      refine wpAnyH_take (i := 19) (v := .slice a b.length ca) rfl (by kernel_rfl) (by kernel_rfl) (by kernel_rfl) (fun _ _ _ h => h) (Or.inl ⟨by rfl, fun W hW => ?_⟩) hHeld ?_
      · clear hW
        go_simp
      try simp only [Act.put, List.getElem_toArray, List.getElem_cons_zero, List.getElem_cons_succ, List.setIfInBounds_toArray, List.set_cons_zero, List.set_cons_succ]
      refine wpAnyH_take (i := 21) (v := .int .i64 xo) rfl (by kernel_rfl) (by kernel_rfl) (by kernel_rfl) (fun _ _ _ h => h) (Or.inl ⟨by rfl, fun W hW => ?_⟩) hHeld ?_
      · clear hW
        go_simp
      try simp only [Act.put, List.getElem_toArray, List.getElem_cons_zero, List.getElem_cons_succ, List.setIfInBounds_toArray, List.set_cons_zero, List.set_cons_succ]
      refine wpAnyH_ready (rs := [13, 15]) (by kernel_rfl) (by simp) (AllReadyH.cons rfl (fun K hK => ?_) (AllReadyH.cons rfl (fun K hK => ?_) AllReadyH.nil))
      · as_aux_lemma =>
          go_simp
          refine (HC6.out _ (grown_trans HS9.out.1.1.1.2 hHeld.2.2)).mono ?_
          rintro e w2 ⟨v2, rfl, O2, K2⟩
          have O2 := owns_mono O2 hHeld.2.2.size
          go_wp2_with fail
          refine hK.out _ _ (⟨hHeld.1.kept K2, hHeld.2.1.kept K2, grown_trans hHeld.2.2 K2⟩) (fun hHeld => ?_)
          clear hK K K2
          try simp only [Act.put, List.getElem_toArray, List.getElem_cons_zero, List.getElem_cons_succ, List.setIfInBounds_toArray, List.set_cons_zero, List.set_cons_succ]
          refine wpAnyH_ready (rs := [15]) (by kernel_rfl) (by simp) (AllReadyH.cons rfl (fun K hK => ?_) AllReadyH.nil)
          refine step_litW (by rfl) 22 1 _ (by rfl) #[(0, .agg N8)] (by kernel_rfl) (flatG [orN]) 44 HL8 ?_
          intro ad w3 CL hAD hAL K3
          have nA : ¬ v2.ownBlock = some ad.block := fun e => by have := (O2.lt _ e).2; omega
          have O2 := owns_keptNone O2 K3
          refine hK.out _ _ (⟨hHeld.1.kept K3, hHeld.2.1.kept K3, grown_trans hHeld.2.2 K3⟩) (fun hHeld => ?_)
          clear hK K K3
          try simp only [Act.put, List.getElem_toArray, List.getElem_cons_zero, List.getElem_cons_succ, List.setIfInBounds_toArray, List.set_cons_zero, List.set_cons_succ]
          refine wpAnyH_ready (rs := [16]) (by kernel_rfl) (by simp) (AllReadyH.cons rfl (fun K hK => ?_) AllReadyH.nil)
          refine step_append_ownW (by rfl) (.tmp 97) (.tmp 99) 22 (by rfl) 44 i0 _ 24 72 Tryz.underlying22 HI.out.1 HI.out.2.1 HI.out.2.2.1 HI.out.2.2.2 rfl (by decide) w9.heap.size v2 (t.length + u.length) (flatG (t ++ u)) (by rfl) O2 ad (1) 1 (flatG [orN]) (by rfl) (rfl) (CL) (flatG_one _) HLN.out.2.2.1.1 HLN.out.2.2.1.2 hHeld.2.2.size ?_
          intro v4 w4 O4 K4 B4
          have nB : ¬ v2.ownBlock = some B := fun e => by have := (O2.lt B e).1; have := HSZ.out; omega
          have nD : ¬ v2.ownBlock = some D := fun e => by have := (O2.lt D e).1; have := HSZ.out; omega
          have hG4 : w9.grownBy w4 none := grown_trans_new hHeld.2.2 K4 (fun z hz => (O2.lt z hz).1)
          rw [← flatG_append] at O4
          have hB4 := hHeld.1.grown K4 nB
          have hD4 := hHeld.2.1.grown K4 nD
          obtain ⟨a4, c4, hv4, C4, -, -, h04, -⟩ := cv_of_row O4
          subst hv4
          refine hK.out _ _ ⟨hB4, hD4, hG4⟩ (fun hHeld => ?_)
          clear hK K
          try simp only [Act.put, List.getElem_toArray, List.getElem_cons_zero, List.getElem_cons_succ, List.setIfInBounds_toArray, List.set_cons_zero, List.set_cons_succ]
          refine wpAnyH_ready (rs := [20]) (by kernel_rfl) (by simp) (AllReadyH.cons rfl (fun K hK => ?_) AllReadyH.nil)
          go_simp
          refine (HJ.out (t ++ u ++ [orN]) (t.length + u.length + 1) xo _ a4 c4 (by rw [List.length_append, List.length_append]; rfl) HPL.out.1 (HM.out.1 orN (.inr rfl)) HP8.out.2.1 C4 h04 hHeld.2.2).mono ?_
          rintro e w5 ⟨rfl, K5⟩
          go_wp2_with fail
          refine hK.out _ _ (⟨hHeld.1.kept K5, hHeld.2.1.kept K5, grown_trans hHeld.2.2 K5⟩) (fun hHeld => ?_)
          clear hK K
          try simp only [Act.put, List.getElem_toArray, List.getElem_cons_zero, List.getElem_cons_succ, List.setIfInBounds_toArray, List.set_cons_zero, List.set_cons_succ]
          clear O4 K4 B4 CL O2 C4 h04 nB nD hG4 hB4 hD4 nA K5
          refine wpAnyH_take (i := 22) (v := .bool true) rfl (by kernel_rfl) (by kernel_rfl) (by kernel_rfl) (fun _ _ _ h => h) (Or.inl ⟨by rfl, fun W hW => ?_⟩) hHeld ?_
          · clear hW
            go_simp
          try simp only [Act.put, List.getElem_toArray, List.getElem_cons_zero, List.getElem_cons_succ, List.setIfInBounds_toArray, List.set_cons_zero, List.set_cons_succ]
          refine wpAnyH_take (i := 23) (v := .bool true) rfl (by kernel_rfl) (by kernel_rfl) (by kernel_rfl) (fun _ _ _ h => h) (Or.inl ⟨by rfl, fun W hW => ?_⟩) hHeld ?_
          · clear hW
            go_simp
          try simp only [Act.put, List.getElem_toArray, List.getElem_cons_zero, List.getElem_cons_succ, List.setIfInBounds_toArray, List.set_cons_zero, List.set_cons_succ]
          refine wpAnyH_take (i := 24) (v := .bool true) rfl (by kernel_rfl) (by kernel_rfl) (by kernel_rfl) (fun _ _ _ h => h) (Or.inl ⟨by rfl, fun W hW => ?_⟩) hHeld ?_
          · clear hW
            go_simp
          try simp only [Act.put, List.getElem_toArray, List.getElem_cons_zero, List.getElem_cons_succ, List.setIfInBounds_toArray, List.set_cons_zero, List.set_cons_succ]
          refine wpAnyH_take (i := 25) (v := .slice a7 (t.length + 1) c7) rfl (by kernel_rfl) (by kernel_rfl) (by kernel_rfl) (fun _ _ _ h => h) (Or.inl ⟨by rfl, fun W hW => ?_⟩) hHeld ?_
          · clear hW
            go_simp
          try simp only [Act.put, List.getElem_toArray, List.getElem_cons_zero, List.getElem_cons_succ, List.setIfInBounds_toArray, List.set_cons_zero, List.set_cons_succ]
          refine wpAnyH_take (i := 26) (v := .agg (LA)) rfl (by kernel_rfl) (by kernel_rfl) (by kernel_rfl) (fun _ _ _ h => h) (yieldsIf_load_row (by rfl) _ _ rfl B rfl 24 (LA) _ (fun W hW => hW.1) Tryz.underlying24 rfl HLS) hHeld ?_
          try simp only [Act.put, List.getElem_toArray, List.getElem_cons_zero, List.getElem_cons_succ, List.setIfInBounds_toArray, List.set_cons_zero, List.set_cons_succ]
          refine wpAnyH_take (i := 27) (v := .int .i64 way) rfl (by kernel_rfl) (by kernel_rfl) (by kernel_rfl) (fun _ _ _ h => h) (Or.inl ⟨by rfl, fun W hW => ?_⟩) hHeld ?_
          · clear hW
            go_simp
          try simp only [Act.put, List.getElem_toArray, List.getElem_cons_zero, List.getElem_cons_succ, List.setIfInBounds_toArray, List.set_cons_zero, List.set_cons_succ]
          refine wpAnyH_take (i := 28) (v := .slice a b.length ca) rfl (by kernel_rfl) (by kernel_rfl) (by kernel_rfl) (fun _ _ _ h => h) (Or.inl ⟨by rfl, fun W hW => ?_⟩) hHeld ?_
          · clear hW
            go_simp
          try simp only [Act.put, List.getElem_toArray, List.getElem_cons_zero, List.getElem_cons_succ, List.setIfInBounds_toArray, List.set_cons_zero, List.set_cons_succ]
          refine wpAnyH_take (i := 30) (v := .int .i64 xn) rfl (by kernel_rfl) (by kernel_rfl) (by kernel_rfl) (fun _ _ _ h => h) (Or.inl ⟨by rfl, fun W hW => ?_⟩) hHeld ?_
          · clear hW
            go_simp
          try simp only [Act.put, List.getElem_toArray, List.getElem_cons_zero, List.getElem_cons_succ, List.setIfInBounds_toArray, List.set_cons_zero, List.set_cons_succ]
          refine wpAnyH_ready (rs := [29]) (by kernel_rfl) (by simp) (AllReadyH.cons rfl (fun K hK => ?_) AllReadyH.nil)
          go_simp
          refine (HJ.out (t ++ [noN]) (t.length + 1) xn _ a7 c7 (by rw [List.length_append]; rfl) HPL.out.2.1 HM.out.2.1 HP8.out.2.2.1 (HS9.out.1.1.2.1.keptNone hHeld.2.2) HS9.out.1.1.2.2 hHeld.2.2).mono ?_
          rintro e w5 ⟨rfl, K5⟩
          go_wp2_with fail
          refine hK.out _ _ (⟨hHeld.1.kept K5, hHeld.2.1.kept K5, grown_trans hHeld.2.2 K5⟩) (fun hHeld => ?_)
          clear hK K
          try simp only [Act.put, List.getElem_toArray, List.getElem_cons_zero, List.getElem_cons_succ, List.setIfInBounds_toArray, List.set_cons_zero, List.set_cons_succ]
          clear K5
          refine wpAnyH_take (i := 31) (v := .bool true) rfl (by kernel_rfl) (by kernel_rfl) (by kernel_rfl) (fun _ _ _ h => h) (Or.inl ⟨by rfl, fun W hW => ?_⟩) hHeld ?_
          · clear hW
            go_simp
          try simp only [Act.put, List.getElem_toArray, List.getElem_cons_zero, List.getElem_cons_succ, List.setIfInBounds_toArray, List.set_cons_zero, List.set_cons_succ]
          refine wpAnyH_take (i := 32) (v := .bool true) rfl (by kernel_rfl) (by kernel_rfl) (by kernel_rfl) (fun _ _ _ h => h) (Or.inl ⟨by rfl, fun W hW => ?_⟩) hHeld ?_
          · clear hW
            go_simp
          try simp only [Act.put, List.getElem_toArray, List.getElem_cons_zero, List.getElem_cons_succ, List.setIfInBounds_toArray, List.set_cons_zero, List.set_cons_succ]
          refine wpAnyH_take (i := 33) (v := .bool true) rfl (by kernel_rfl) (by kernel_rfl) (by kernel_rfl) (fun _ _ _ h => h) (Or.inl ⟨by rfl, fun W hW => ?_⟩) hHeld ?_
          · clear hW
            go_simp
          try simp only [Act.put, List.getElem_toArray, List.getElem_cons_zero, List.getElem_cons_succ, List.setIfInBounds_toArray, List.set_cons_zero, List.set_cons_succ]
          refine wpAnyH_take (i := 34) (v := .slice a7 (t.length + 1) c7) rfl (by kernel_rfl) (by kernel_rfl) (by kernel_rfl) (fun _ _ _ h => h) (Or.inl ⟨by rfl, fun W hW => ?_⟩) hHeld ?_
          · clear hW
            go_simp
          try simp only [Act.put, List.getElem_toArray, List.getElem_cons_zero, List.getElem_cons_succ, List.setIfInBounds_toArray, List.set_cons_zero, List.set_cons_succ]
          refine wpAnyH_take (i := 36) (v := .agg (N9)) rfl (by kernel_rfl) (by kernel_rfl) (by kernel_rfl) (fun _ _ _ h => h) (yieldsIf_load_row (by rfl) _ _ rfl D rfl 44 (N9) _ (fun W hW => hW.2.1) Tryz.underlying44 rfl HXC.out.1) hHeld ?_
          try simp only [Act.put, List.getElem_toArray, List.getElem_cons_zero, List.getElem_cons_succ, List.setIfInBounds_toArray, List.set_cons_zero, List.set_cons_succ]
          refine wpAnyH_take (i := 39) (v := .agg (LA)) rfl (by kernel_rfl) (by kernel_rfl) (by kernel_rfl) (fun _ _ _ h => h) (yieldsIf_load_row (by rfl) _ _ rfl B rfl 24 (LA) _ (fun W hW => hW.1) Tryz.underlying24 rfl HLS) hHeld ?_
          try simp only [Act.put, List.getElem_toArray, List.getElem_cons_zero, List.getElem_cons_succ, List.setIfInBounds_toArray, List.set_cons_zero, List.set_cons_succ]
          refine wpAnyH_take (i := 40) (v := .int .i64 way) rfl (by kernel_rfl) (by kernel_rfl) (by kernel_rfl) (fun _ _ _ h => h) (Or.inl ⟨by rfl, fun W hW => ?_⟩) hHeld ?_
          · clear hW
            go_simp
          try simp only [Act.put, List.getElem_toArray, List.getElem_cons_zero, List.getElem_cons_succ, List.setIfInBounds_toArray, List.set_cons_zero, List.set_cons_succ]
          refine wpAnyH_take (i := 41) (v := .slice a b.length ca) rfl (by kernel_rfl) (by kernel_rfl) (by kernel_rfl) (fun _ _ _ h => h) (Or.inl ⟨by rfl, fun W hW => ?_⟩) hHeld ?_
          · clear hW
            go_simp
          try simp only [Act.put, List.getElem_toArray, List.getElem_cons_zero, List.getElem_cons_succ, List.setIfInBounds_toArray, List.set_cons_zero, List.set_cons_succ]
          refine wpAnyH_take (i := 43) (v := .int .i64 x) rfl (by kernel_rfl) (by kernel_rfl) (by kernel_rfl) (fun _ _ _ h => h) (Or.inl ⟨by rfl, fun W hW => ?_⟩) hHeld ?_
          · clear hW
            go_simp
          try simp only [Act.put, List.getElem_toArray, List.getElem_cons_zero, List.getElem_cons_succ, List.setIfInBounds_toArray, List.set_cons_zero, List.set_cons_succ]
          refine wpAnyH_ready (rs := [35, 37]) (by kernel_rfl) (by simp) (AllReadyH.cons rfl (fun K hK => ?_) (AllReadyH.cons rfl (fun K hK => ?_) AllReadyH.nil))
          · as_aux_lemma =>
              go_simp
              refine (HC7.out _ (grown_trans HS9.out.1.1.1.2 hHeld.2.2)).mono ?_
              rintro e w2 ⟨v2, rfl, O2, K2⟩
              have O2 := owns_mono O2 hHeld.2.2.size
              go_wp2_with fail
              refine hK.out _ _ (⟨hHeld.1.kept K2, hHeld.2.1.kept K2, grown_trans hHeld.2.2 K2⟩) (fun hHeld => ?_)
              clear hK K K2
              try simp only [Act.put, List.getElem_toArray, List.getElem_cons_zero, List.getElem_cons_succ, List.setIfInBounds_toArray, List.set_cons_zero, List.set_cons_succ]
              refine wpAnyH_ready (rs := [37]) (by kernel_rfl) (by simp) (AllReadyH.cons rfl (fun K hK => ?_) AllReadyH.nil)
              refine step_litW (by rfl) 22 1 _ (by rfl) #[(0, .agg N9)] (by kernel_rfl) (flatG [noN]) 44 HL9 ?_
              intro ad w3 CL hAD hAL K3
              have nA : ¬ v2.ownBlock = some ad.block := fun e => by have := (O2.lt _ e).2; omega
              have O2 := owns_keptNone O2 K3
              refine hK.out _ _ (⟨hHeld.1.kept K3, hHeld.2.1.kept K3, grown_trans hHeld.2.2 K3⟩) (fun hHeld => ?_)
              clear hK K K3
              try simp only [Act.put, List.getElem_toArray, List.getElem_cons_zero, List.getElem_cons_succ, List.setIfInBounds_toArray, List.set_cons_zero, List.set_cons_succ]
              refine wpAnyH_ready (rs := [38]) (by kernel_rfl) (by simp) (AllReadyH.cons rfl (fun K hK => ?_) AllReadyH.nil)
              refine step_append_ownW (by rfl) (.tmp 119) (.tmp 121) 22 (by rfl) 44 i0 _ 24 72 Tryz.underlying22 HI.out.1 HI.out.2.1 HI.out.2.2.1 HI.out.2.2.2 rfl (by decide) w9.heap.size v2 (t.length + 1) (flatG (t ++ [noN])) (by rfl) O2 ad (1) 1 (flatG [noN]) (by rfl) (rfl) (CL) (flatG_one _) HLN.out.2.2.2.1 HLN.out.2.2.2.2 hHeld.2.2.size ?_
              intro v4 w4 O4 K4 B4
              have nB : ¬ v2.ownBlock = some B := fun e => by have := (O2.lt B e).1; have := HSZ.out; omega
              have nD : ¬ v2.ownBlock = some D := fun e => by have := (O2.lt D e).1; have := HSZ.out; omega
              have hG4 : w9.grownBy w4 none := grown_trans_new hHeld.2.2 K4 (fun z hz => (O2.lt z hz).1)
              rw [← flatG_append] at O4
              have hB4 := hHeld.1.grown K4 nB
              have hD4 := hHeld.2.1.grown K4 nD
              obtain ⟨a4, c4, hv4, C4, -, -, h04, -⟩ := cv_of_row O4
              subst hv4
              refine hK.out _ _ ⟨hB4, hD4, hG4⟩ (fun hHeld => ?_)
              clear hK K
              try simp only [Act.put, List.getElem_toArray, List.getElem_cons_zero, List.getElem_cons_succ, List.setIfInBounds_toArray, List.set_cons_zero, List.set_cons_succ]
              refine wpAnyH_ready (rs := [42]) (by kernel_rfl) (by simp) (AllReadyH.cons rfl (fun K hK => ?_) AllReadyH.nil)
              go_simp
              refine (HJ.out (t ++ [noN] ++ [noN]) (t.length + 1 + 1) x _ a4 c4 (by rw [List.length_append, List.length_append]; rfl) HPL.out.2.2.1 HM.out.2.2.1 HP8.out.2.2.2.1 C4 h04 hHeld.2.2).mono ?_
              rintro e w5 ⟨rfl, K5⟩
              go_wp2_with fail
              refine hK.out _ _ (⟨hHeld.1.kept K5, hHeld.2.1.kept K5, grown_trans hHeld.2.2 K5⟩) (fun hHeld => ?_)
              clear hK K
              try simp only [Act.put, List.getElem_toArray, List.getElem_cons_zero, List.getElem_cons_succ, List.setIfInBounds_toArray, List.set_cons_zero, List.set_cons_succ]
              clear O4 K4 B4 CL O2 C4 h04 nB nD hG4 hB4 hD4 nA K5
              refine wpAnyH_take (i := 44) (v := .bool true) rfl (by kernel_rfl) (by kernel_rfl) (by kernel_rfl) (fun _ _ _ h => h) (Or.inl ⟨by rfl, fun W hW => ?_⟩) hHeld ?_
              · clear hW
                go_simp
              try simp only [Act.put, List.getElem_toArray, List.getElem_cons_zero, List.getElem_cons_succ, List.setIfInBounds_toArray, List.set_cons_zero, List.set_cons_succ]
              refine wpAnyH_take (i := 45) (v := .bool true) rfl (by kernel_rfl) (by kernel_rfl) (by kernel_rfl) (fun _ _ _ h => h) (Or.inl ⟨by rfl, fun W hW => ?_⟩) hHeld ?_
              · clear hW
                go_simp
              try simp only [Act.put, List.getElem_toArray, List.getElem_cons_zero, List.getElem_cons_succ, List.setIfInBounds_toArray, List.set_cons_zero, List.set_cons_succ]
              refine wpAnyH_take (i := 46) (v := .bool true) rfl (by kernel_rfl) (by kernel_rfl) (by kernel_rfl) (fun _ _ _ h => h) (Or.inl ⟨by rfl, fun W hW => ?_⟩) hHeld ?_
              · clear hW
                go_simp
              try simp only [Act.put, List.getElem_toArray, List.getElem_cons_zero, List.getElem_cons_succ, List.setIfInBounds_toArray, List.set_cons_zero, List.set_cons_succ]
              refine wpAnyH_take (i := 47) (v := .slice a9 ((t.length + 1) + (u.length + 1) + 2) c9) rfl (by kernel_rfl) (by kernel_rfl) (by kernel_rfl) (fun _ _ _ h => h) (Or.inl ⟨by rfl, fun W hW => ?_⟩) hHeld ?_
              · clear hW
                go_simp
              try simp only [Act.put, List.getElem_toArray, List.getElem_cons_zero, List.getElem_cons_succ, List.setIfInBounds_toArray, List.set_cons_zero, List.set_cons_succ]
              refine wpAnyH_take (i := 48) (v := .agg (LA)) rfl (by kernel_rfl) (by kernel_rfl) (by kernel_rfl) (fun _ _ _ h => h) (yieldsIf_load_row (by rfl) _ _ rfl B rfl 24 (LA) _ (fun W hW => hW.1) Tryz.underlying24 rfl HLS) hHeld ?_
              try simp only [Act.put, List.getElem_toArray, List.getElem_cons_zero, List.getElem_cons_succ, List.setIfInBounds_toArray, List.set_cons_zero, List.set_cons_succ]
              refine wpAnyH_take (i := 49) (v := .int .i64 way) rfl (by kernel_rfl) (by kernel_rfl) (by kernel_rfl) (fun _ _ _ h => h) (Or.inl ⟨by rfl, fun W hW => ?_⟩) hHeld ?_
              · clear hW
                go_simp
              try simp only [Act.put, List.getElem_toArray, List.getElem_cons_zero, List.getElem_cons_succ, List.setIfInBounds_toArray, List.set_cons_zero, List.set_cons_succ]
              refine wpAnyH_take (i := 50) (v := .slice a b.length ca) rfl (by kernel_rfl) (by kernel_rfl) (by kernel_rfl) (fun _ _ _ h => h) (Or.inl ⟨by rfl, fun W hW => ?_⟩) hHeld ?_
              · clear hW
                go_simp
              try simp only [Act.put, List.getElem_toArray, List.getElem_cons_zero, List.getElem_cons_succ, List.setIfInBounds_toArray, List.set_cons_zero, List.set_cons_succ]
              refine wpAnyH_take (i := 52) (v := .int .i64 xa) rfl (by kernel_rfl) (by kernel_rfl) (by kernel_rfl) (fun _ _ _ h => h) (Or.inl ⟨by rfl, fun W hW => ?_⟩) hHeld ?_
              · clear hW
                go_simp
              try simp only [Act.put, List.getElem_toArray, List.getElem_cons_zero, List.getElem_cons_succ, List.setIfInBounds_toArray, List.set_cons_zero, List.set_cons_succ]
              refine wpAnyH_ready (rs := [51]) (by kernel_rfl) (by simp) (AllReadyH.cons rfl (fun K hK => ?_) AllReadyH.nil)
              go_simp
              refine (HJ.out (t ++ [noN] ++ (u ++ [noN]) ++ [orN, noN]) ((t.length + 1) + (u.length + 1) + 2) xa _ a9 c9 (by simp only [List.length_append]; rfl) HPL.out.2.2.2 HM.out.2.2.2 HP9.out (HS9.out.1.2.keptNone hHeld.2.2) HS9.out.2 hHeld.2.2).mono ?_
              rintro e w5 ⟨rfl, K5⟩
              go_wp2_with fail
              refine hK.out _ _ (⟨hHeld.1.kept K5, hHeld.2.1.kept K5, grown_trans hHeld.2.2 K5⟩) (fun hHeld => ?_)
              clear hK K
              try simp only [Act.put, List.getElem_toArray, List.getElem_cons_zero, List.getElem_cons_succ, List.setIfInBounds_toArray, List.set_cons_zero, List.set_cons_succ]
              clear K5
              refine wpAnyH_take (i := 53) (v := .bool true) rfl (by kernel_rfl) (by kernel_rfl) (by kernel_rfl) (fun _ _ _ h => h) (Or.inl ⟨by rfl, fun W hW => ?_⟩) hHeld ?_
              · clear hW
                go_simp
              try simp only [Act.put, List.getElem_toArray, List.getElem_cons_zero, List.getElem_cons_succ, List.setIfInBounds_toArray, List.set_cons_zero, List.set_cons_succ]
              refine wpAnyH_take (i := 54) (v := .bool true) rfl (by kernel_rfl) (by kernel_rfl) (by kernel_rfl) (fun _ _ _ h => h) (Or.inl ⟨by rfl, fun W hW => ?_⟩) hHeld ?_
              · clear hW
                go_simp
              try simp only [Act.put, List.getElem_toArray, List.getElem_cons_zero, List.getElem_cons_succ, List.setIfInBounds_toArray, List.set_cons_zero, List.set_cons_succ]
              refine wpAnyH_take (i := 55) (v := .bool true) rfl (by kernel_rfl) (by kernel_rfl) (by kernel_rfl) (fun _ _ _ h => h) (Or.inl ⟨by rfl, fun W hW => ?_⟩) hHeld ?_
              · clear hW
                go_simp
              try simp only [Act.put, List.getElem_toArray, List.getElem_cons_zero, List.getElem_cons_succ, List.setIfInBounds_toArray, List.set_cons_zero, List.set_cons_succ]
              refine wpAnyH_ready (rs := [56]) (by kernel_rfl) (by simp) (AllReadyH.cons rfl (fun K hK => ?_) AllReadyH.nil)
              go_simp
              refine (awake14_any _).mono ?_
              rintro e w6 ⟨rfl, K6⟩
              go_wp2_with fail
              refine hK.out _ _ (⟨hHeld.1.kept K6, hHeld.2.1.kept K6, grown_trans hHeld.2.2 K6⟩) (fun hHeld => ?_)
              clear hK K
              try simp only [Act.put, List.getElem_toArray, List.getElem_cons_zero, List.getElem_cons_succ, List.setIfInBounds_toArray, List.set_cons_zero, List.set_cons_succ]
              refine wpAnyH_take (i := 57) (v := .bool true) rfl (by kernel_rfl) (by kernel_rfl) (by kernel_rfl) (fun _ _ _ h => h) (Or.inl ⟨by rfl, fun W hW => ?_⟩) hHeld ?_
              · clear hW
                go_simp
              try simp only [Act.put, List.getElem_toArray, List.getElem_cons_zero, List.getElem_cons_succ, List.setIfInBounds_toArray, List.set_cons_zero, List.set_cons_succ]
              refine wpAnyH_take (i := 58) (v := .bool true) rfl (by kernel_rfl) (by kernel_rfl) (by kernel_rfl) (fun _ _ _ h => h) (Or.inl ⟨by rfl, fun W hW => ?_⟩) hHeld ?_
              · clear hW
                go_simp
              try simp only [Act.put, List.getElem_toArray, List.getElem_cons_zero, List.getElem_cons_succ, List.setIfInBounds_toArray, List.set_cons_zero, List.set_cons_succ]
              refine wpAnyH_done (by kernel_rfl) ?_ _
              have HFIN : Hid (w.grownBy _ none) := grown_trans HS9.out.1.1.1.1.2.2 hHeld.2.2
              clear hHeld K6
              go_wp2
              go_ret
              exact ⟨rfl, HFIN.out⟩
          · as_aux_lemma =>
              refine step_litW (by rfl) 22 1 _ (by rfl) #[(0, .agg N9)] (by kernel_rfl) (flatG [noN]) 44 HL9 ?_
              intro ad w3 CL hAD hAL K3
              have HAL : Hid (ad.block < w3.heap.size) := hAL
              refine hK.out _ _ (⟨hHeld.1.kept K3, hHeld.2.1.kept K3, grown_trans hHeld.2.2 K3⟩) (fun hHeld => ?_)
              clear hK K K3
              try simp only [Act.put, List.getElem_toArray, List.getElem_cons_zero, List.getElem_cons_succ, List.setIfInBounds_toArray, List.set_cons_zero, List.set_cons_succ]
              refine wpAnyH_ready (rs := [35]) (by kernel_rfl) (by simp) (AllReadyH.cons rfl (fun K hK => ?_) AllReadyH.nil)
              go_simp
              refine (HC7.out _ (grown_trans HS9.out.1.1.1.2 hHeld.2.2)).mono ?_
              rintro e w2 ⟨v2, rfl, O2, K2⟩
              have nA : ¬ v2.ownBlock = some ad.block := fun e => by have := (O2.lt _ e).1; have := HAL.out; omega
              have O2 := owns_mono O2 hHeld.2.2.size
              have CL := CL.keptNone K2
              go_wp2_with fail
              refine hK.out _ _ (⟨hHeld.1.kept K2, hHeld.2.1.kept K2, grown_trans hHeld.2.2 K2⟩) (fun hHeld => ?_)
              clear hK K K2
              try simp only [Act.put, List.getElem_toArray, List.getElem_cons_zero, List.getElem_cons_succ, List.setIfInBounds_toArray, List.set_cons_zero, List.set_cons_succ]
              refine wpAnyH_ready (rs := [38]) (by kernel_rfl) (by simp) (AllReadyH.cons rfl (fun K hK => ?_) AllReadyH.nil)
              refine step_append_ownW (by rfl) (.tmp 119) (.tmp 121) 22 (by rfl) 44 i0 _ 24 72 Tryz.underlying22 HI.out.1 HI.out.2.1 HI.out.2.2.1 HI.out.2.2.2 rfl (by decide) w9.heap.size v2 (t.length + 1) (flatG (t ++ [noN])) (by rfl) O2 ad (1) 1 (flatG [noN]) (by rfl) (rfl) (CL) (flatG_one _) HLN.out.2.2.2.1 HLN.out.2.2.2.2 hHeld.2.2.size ?_
              intro v4 w4 O4 K4 B4
              have nB : ¬ v2.ownBlock = some B := fun e => by have := (O2.lt B e).1; have := HSZ.out; omega
              have nD : ¬ v2.ownBlock = some D := fun e => by have := (O2.lt D e).1; have := HSZ.out; omega
              have hG4 : w9.grownBy w4 none := grown_trans_new hHeld.2.2 K4 (fun z hz => (O2.lt z hz).1)
              rw [← flatG_append] at O4
              have hB4 := hHeld.1.grown K4 nB
              have hD4 := hHeld.2.1.grown K4 nD
              obtain ⟨a4, c4, hv4, C4, -, -, h04, -⟩ := cv_of_row O4
              subst hv4
              refine hK.out _ _ ⟨hB4, hD4, hG4⟩ (fun hHeld => ?_)
              clear hK K
              try simp only [Act.put, List.getElem_toArray, List.getElem_cons_zero, List.getElem_cons_succ, List.setIfInBounds_toArray, List.set_cons_zero, List.set_cons_succ]
              refine wpAnyH_ready (rs := [42]) (by kernel_rfl) (by simp) (AllReadyH.cons rfl (fun K hK => ?_) AllReadyH.nil)
              go_simp
              refine (HJ.out (t ++ [noN] ++ [noN]) (t.length + 1 + 1) x _ a4 c4 (by rw [List.length_append, List.length_append]; rfl) HPL.out.2.2.1 HM.out.2.2.1 HP8.out.2.2.2.1 C4 h04 hHeld.2.2).mono ?_
              rintro e w5 ⟨rfl, K5⟩
              go_wp2_with fail
              refine hK.out _ _ (⟨hHeld.1.kept K5, hHeld.2.1.kept K5, grown_trans hHeld.2.2 K5⟩) (fun hHeld => ?_)
              clear hK K
              try simp only [Act.put, List.getElem_toArray, List.getElem_cons_zero, List.getElem_cons_succ, List.setIfInBounds_toArray, List.set_cons_zero, List.set_cons_succ]
              clear O4 K4 B4 CL O2 C4 h04 nB nD hG4 hB4 hD4 nA K5
              refine wpAnyH_take (i := 44) (v := .bool true) rfl (by kernel_rfl) (by kernel_rfl) (by kernel_rfl) (fun _ _ _ h => h) (Or.inl ⟨by rfl, fun W hW => ?_⟩) hHeld ?_
              · clear hW
                go_simp
              try simp only [Act.put, List.getElem_toArray, List.getElem_cons_zero, List.getElem_cons_succ, List.setIfInBounds_toArray, List.set_cons_zero, List.set_cons_succ]
              refine wpAnyH_take (i := 45) (v := .bool true) rfl (by kernel_rfl) (by kernel_rfl) (by kernel_rfl) (fun _ _ _ h => h) (Or.inl ⟨by rfl, fun W hW => ?_⟩) hHeld ?_
              · clear hW
                go_simp
              try simp only [Act.put, List.getElem_toArray, List.getElem_cons_zero, List.getElem_cons_succ, List.setIfInBounds_toArray, List.set_cons_zero, List.set_cons_succ]
              refine wpAnyH_take (i := 46) (v := .bool true) rfl (by kernel_rfl) (by kernel_rfl) (by kernel_rfl) (fun _ _ _ h => h) (Or.inl ⟨by rfl, fun W hW => ?_⟩) hHeld ?_
              · clear hW
                go_simp
              try simp only [Act.put, List.getElem_toArray, List.getElem_cons_zero, List.getElem_cons_succ, List.setIfInBounds_toArray, List.set_cons_zero, List.set_cons_succ]
              refine wpAnyH_take (i := 47) (v := .slice a9 ((t.length + 1) + (u.length + 1) + 2) c9) rfl (by kernel_rfl) (by kernel_rfl) (by kernel_rfl) (fun _ _ _ h => h) (Or.inl ⟨by rfl, fun W hW => ?_⟩) hHeld ?_
              · clear hW
                go_simp
              try simp only [Act.put, List.getElem_toArray, List.getElem_cons_zero, List.getElem_cons_succ, List.setIfInBounds_toArray, List.set_cons_zero, List.set_cons_succ]
              refine wpAnyH_take (i := 48) (v := .agg (LA)) rfl (by kernel_rfl) (by kernel_rfl) (by kernel_rfl) (fun _ _ _ h => h) (yieldsIf_load_row (by rfl) _ _ rfl B rfl 24 (LA) _ (fun W hW => hW.1) Tryz.underlying24 rfl HLS) hHeld ?_
              try simp only [Act.put, List.getElem_toArray, List.getElem_cons_zero, List.getElem_cons_succ, List.setIfInBounds_toArray, List.set_cons_zero, List.set_cons_succ]
              refine wpAnyH_take (i := 49) (v := .int .i64 way) rfl (by kernel_rfl) (by kernel_rfl) (by kernel_rfl) (fun _ _ _ h => h) (Or.inl ⟨by rfl, fun W hW => ?_⟩) hHeld ?_
              · clear hW
                go_simp
              try simp only [Act.put, List.getElem_toArray, List.getElem_cons_zero, List.getElem_cons_succ, List.setIfInBounds_toArray, List.set_cons_zero, List.set_cons_succ]
              refine wpAnyH_take (i := 50) (v := .slice a b.length ca) rfl (by kernel_rfl) (by kernel_rfl) (by kernel_rfl) (fun _ _ _ h => h) (Or.inl ⟨by rfl, fun W hW => ?_⟩) hHeld ?_
              · clear hW
                go_simp
              try simp only [Act.put, List.getElem_toArray, List.getElem_cons_zero, List.getElem_cons_succ, List.setIfInBounds_toArray, List.set_cons_zero, List.set_cons_succ]
              refine wpAnyH_take (i := 52) (v := .int .i64 xa) rfl (by kernel_rfl) (by kernel_rfl) (by kernel_rfl) (fun _ _ _ h => h) (Or.inl ⟨by rfl, fun W hW => ?_⟩) hHeld ?_
              · clear hW
                go_simp
              try simp only [Act.put, List.getElem_toArray, List.getElem_cons_zero, List.getElem_cons_succ, List.setIfInBounds_toArray, List.set_cons_zero, List.set_cons_succ]
              refine wpAnyH_ready (rs := [51]) (by kernel_rfl) (by simp) (AllReadyH.cons rfl (fun K hK => ?_) AllReadyH.nil)
              go_simp
              refine (HJ.out (t ++ [noN] ++ (u ++ [noN]) ++ [orN, noN]) ((t.length + 1) + (u.length + 1) + 2) xa _ a9 c9 (by simp only [List.length_append]; rfl) HPL.out.2.2.2 HM.out.2.2.2 HP9.out (HS9.out.1.2.keptNone hHeld.2.2) HS9.out.2 hHeld.2.2).mono ?_
              rintro e w5 ⟨rfl, K5⟩
              go_wp2_with fail
              refine hK.out _ _ (⟨hHeld.1.kept K5, hHeld.2.1.kept K5, grown_trans hHeld.2.2 K5⟩) (fun hHeld => ?_)
              clear hK K
              try simp only [Act.put, List.getElem_toArray, List.getElem_cons_zero, List.getElem_cons_succ, List.setIfInBounds_toArray, List.set_cons_zero, List.set_cons_succ]
              clear K5
              refine wpAnyH_take (i := 53) (v := .bool true) rfl (by kernel_rfl) (by kernel_rfl) (by kernel_rfl) (fun _ _ _ h => h) (Or.inl ⟨by rfl, fun W hW => ?_⟩) hHeld ?_
              · clear hW
                go_simp
              try simp only [Act.put, List.getElem_toArray, List.getElem_cons_zero, List.getElem_cons_succ, List.setIfInBounds_toArray, List.set_cons_zero, List.set_cons_succ]
              refine wpAnyH_take (i := 54) (v := .bool true) rfl (by kernel_rfl) (by kernel_rfl) (by kernel_rfl) (fun _ _ _ h => h) (Or.inl ⟨by rfl, fun W hW => ?_⟩) hHeld ?_
              · clear hW
                go_simp
              try simp only [Act.put, List.getElem_toArray, List.getElem_cons_zero, List.getElem_cons_succ, List.setIfInBounds_toArray, List.set_cons_zero, List.set_cons_succ]
              refine wpAnyH_take (i := 55) (v := .bool true) rfl (by kernel_rfl) (by kernel_rfl) (by kernel_rfl) (fun _ _ _ h => h) (Or.inl ⟨by rfl, fun W hW => ?_⟩) hHeld ?_
              · clear hW
                go_simp
              try simp only [Act.put, List.getElem_toArray, List.getElem_cons_zero, List.getElem_cons_succ, List.setIfInBounds_toArray, List.set_cons_zero, List.set_cons_succ]
              refine wpAnyH_ready (rs := [56]) (by kernel_rfl) (by simp) (AllReadyH.cons rfl (fun K hK => ?_) AllReadyH.nil)
              go_simp
              refine (awake14_any _).mono ?_
              rintro e w6 ⟨rfl, K6⟩
              go_wp2_with fail
              refine hK.out _ _ (⟨hHeld.1.kept K6, hHeld.2.1.kept K6, grown_trans hHeld.2.2 K6⟩) (fun hHeld => ?_)
              clear hK K
              try simp only [Act.put, List.getElem_toArray, List.getElem_cons_zero, List.getElem_cons_succ, List.setIfInBounds_toArray, List.set_cons_zero, List.set_cons_succ]
              refine wpAnyH_take (i := 57) (v := .bool true) rfl (by kernel_rfl) (by kernel_rfl) (by kernel_rfl) (fun _ _ _ h => h) (Or.inl ⟨by rfl, fun W hW => ?_⟩) hHeld ?_
              · clear hW
                go_simp
              try simp only [Act.put, List.getElem_toArray, List.getElem_cons_zero, List.getElem_cons_succ, List.setIfInBounds_toArray, List.set_cons_zero, List.set_cons_succ]
              refine wpAnyH_take (i := 58) (v := .bool true) rfl (by kernel_rfl) (by kernel_rfl) (by kernel_rfl) (fun _ _ _ h => h) (Or.inl ⟨by rfl, fun W hW => ?_⟩) hHeld ?_
              · clear hW
                go_simp
              try simp only [Act.put, List.getElem_toArray, List.getElem_cons_zero, List.getElem_cons_succ, List.setIfInBounds_toArray, List.set_cons_zero, List.set_cons_succ]
              refine wpAnyH_done (by kernel_rfl) ?_ _
              have HFIN : Hid (w.grownBy _ none) := grown_trans HS9.out.1.1.1.1.2.2 hHeld.2.2
              clear hHeld K6
              go_wp2
              go_ret
              exact ⟨rfl, HFIN.out⟩
      · as_aux_lemma =>
          refine step_litW (by rfl) 22 1 _ (by rfl) #[(0, .agg N8)] (by kernel_rfl) (flatG [orN]) 44 HL8 ?_
          intro ad w3 CL hAD hAL K3
          have HAL : Hid (ad.block < w3.heap.size) := hAL
          refine hK.out _ _ (⟨hHeld.1.kept K3, hHeld.2.1.kept K3, grown_trans hHeld.2.2 K3⟩) (fun hHeld => ?_)
          clear hK K K3
          try simp only [Act.put, List.getElem_toArray, List.getElem_cons_zero, List.getElem_cons_succ, List.setIfInBounds_toArray, List.set_cons_zero, List.set_cons_succ]
          refine wpAnyH_ready (rs := [13]) (by kernel_rfl) (by simp) (AllReadyH.cons rfl (fun K hK => ?_) AllReadyH.nil)
          go_simp
          refine (HC6.out _ (grown_trans HS9.out.1.1.1.2 hHeld.2.2)).mono ?_
          rintro e w2 ⟨v2, rfl, O2, K2⟩
          have nA : ¬ v2.ownBlock = some ad.block := fun e => by have := (O2.lt _ e).1; have := HAL.out; omega
          have O2 := owns_mono O2 hHeld.2.2.size
          have CL := CL.keptNone K2
          go_wp2_with fail
          refine hK.out _ _ (⟨hHeld.1.kept K2, hHeld.2.1.kept K2, grown_trans hHeld.2.2 K2⟩) (fun hHeld => ?_)
          clear hK K K2
          try simp only [Act.put, List.getElem_toArray, List.getElem_cons_zero, List.getElem_cons_succ, List.setIfInBounds_toArray, List.set_cons_zero, List.set_cons_succ]
          refine wpAnyH_ready (rs := [16]) (by kernel_rfl) (by simp) (AllReadyH.cons rfl (fun K hK => ?_) AllReadyH.nil)
          refine step_append_ownW (by rfl) (.tmp 97) (.tmp 99) 22 (by rfl) 44 i0 _ 24 72 Tryz.underlying22 HI.out.1 HI.out.2.1 HI.out.2.2.1 HI.out.2.2.2 rfl (by decide) w9.heap.size v2 (t.length + u.length) (flatG (t ++ u)) (by rfl) O2 ad (1) 1 (flatG [orN]) (by rfl) (rfl) (CL) (flatG_one _) HLN.out.2.2.1.1 HLN.out.2.2.1.2 hHeld.2.2.size ?_
          intro v4 w4 O4 K4 B4
          have nB : ¬ v2.ownBlock = some B := fun e => by have := (O2.lt B e).1; have := HSZ.out; omega
          have nD : ¬ v2.ownBlock = some D := fun e => by have := (O2.lt D e).1; have := HSZ.out; omega
          have hG4 : w9.grownBy w4 none := grown_trans_new hHeld.2.2 K4 (fun z hz => (O2.lt z hz).1)
          rw [← flatG_append] at O4
          have hB4 := hHeld.1.grown K4 nB
          have hD4 := hHeld.2.1.grown K4 nD
          obtain ⟨a4, c4, hv4, C4, -, -, h04, -⟩ := cv_of_row O4
          subst hv4
          refine hK.out _ _ ⟨hB4, hD4, hG4⟩ (fun hHeld => ?_)
          clear hK K
          try simp only [Act.put, List.getElem_toArray, List.getElem_cons_zero, List.getElem_cons_succ, List.setIfInBounds_toArray, List.set_cons_zero, List.set_cons_succ]
          refine wpAnyH_ready (rs := [20]) (by kernel_rfl) (by simp) (AllReadyH.cons rfl (fun K hK => ?_) AllReadyH.nil)
          go_simp
          refine (HJ.out (t ++ u ++ [orN]) (t.length + u.length + 1) xo _ a4 c4 (by rw [List.length_append, List.length_append]; rfl) HPL.out.1 (HM.out.1 orN (.inr rfl)) HP8.out.2.1 C4 h04 hHeld.2.2).mono ?_
          rintro e w5 ⟨rfl, K5⟩
          go_wp2_with fail
          refine hK.out _ _ (⟨hHeld.1.kept K5, hHeld.2.1.kept K5, grown_trans hHeld.2.2 K5⟩) (fun hHeld => ?_)
          clear hK K
          try simp only [Act.put, List.getElem_toArray, List.getElem_cons_zero, List.getElem_cons_succ, List.setIfInBounds_toArray, List.set_cons_zero, List.set_cons_succ]
          clear O4 K4 B4 CL O2 C4 h04 nB nD hG4 hB4 hD4 nA K5
          refine wpAnyH_take (i := 22) (v := .bool true) rfl (by kernel_rfl) (by kernel_rfl) (by kernel_rfl) (fun _ _ _ h => h) (Or.inl ⟨by rfl, fun W hW => ?_⟩) hHeld ?_
          · clear hW
            go_simp
          try simp only [Act.put, List.getElem_toArray, List.getElem_cons_zero, List.getElem_cons_succ, List.setIfInBounds_toArray, List.set_cons_zero, List.set_cons_succ]
          refine wpAnyH_take (i := 23) (v := .bool true) rfl (by kernel_rfl) (by kernel_rfl) (by kernel_rfl) (fun _ _ _ h => h) (Or.inl ⟨by rfl, fun W hW => ?_⟩) hHeld ?_
          · clear hW
            go_simp
          try simp only [Act.put, List.getElem_toArray, List.getElem_cons_zero, List.getElem_cons_succ, List.setIfInBounds_toArray, List.set_cons_zero, List.set_cons_succ]
          refine wpAnyH_take (i := 24) (v := .bool true) rfl (by kernel_rfl) (by kernel_rfl) (by kernel_rfl) (fun _ _ _ h => h) (Or.inl ⟨by rfl, fun W hW => ?_⟩) hHeld ?_
          · clear hW
            go_simp
          try simp only [Act.put, List.getElem_toArray, List.getElem_cons_zero, List.getElem_cons_succ, List.setIfInBounds_toArray, List.set_cons_zero, List.set_cons_succ]
          refine wpAnyH_take (i := 25) (v := .slice a7 (t.length + 1) c7) rfl (by kernel_rfl) (by kernel_rfl) (by kernel_rfl) (fun _ _ _ h => h) (Or.inl ⟨by rfl, fun W hW => ?_⟩) hHeld ?_
          · clear hW
            go_simp
          try simp only [Act.put, List.getElem_toArray, List.getElem_cons_zero, List.getElem_cons_succ, List.setIfInBounds_toArray, List.set_cons_zero, List.set_cons_succ]
          refine wpAnyH_take (i := 26) (v := .agg (LA)) rfl (by kernel_rfl) (by kernel_rfl) (by kernel_rfl) (fun _ _ _ h => h) (yieldsIf_load_row (by rfl) _ _ rfl B rfl 24 (LA) _ (fun W hW => hW.1) Tryz.underlying24 rfl HLS) hHeld ?_
          try simp only [Act.put, List.getElem_toArray, List.getElem_cons_zero, List.getElem_cons_succ, List.setIfInBounds_toArray, List.set_cons_zero, List.set_cons_succ]
          refine wpAnyH_take (i := 27) (v := .int .i64 way) rfl (by kernel_rfl) (by kernel_rfl) (by kernel_rfl) (fun _ _ _ h => h) (Or.inl ⟨by rfl, fun W hW => ?_⟩) hHeld ?_
          · clear hW
            go_simp
          try simp only [Act.put, List.getElem_toArray, List.getElem_cons_zero, List.getElem_cons_succ, List.setIfInBounds_toArray, List.set_cons_zero, List.set_cons_succ]
          refine wpAnyH_take (i := 28) (v := .slice a b.length ca) rfl (by kernel_rfl) (by kernel_rfl) (by kernel_rfl) (fun _ _ _ h => h) (Or.inl ⟨by rfl, fun W hW => ?_⟩) hHeld ?_
          · clear hW
            go_simp
          try simp only [Act.put, List.getElem_toArray, List.getElem_cons_zero, List.getElem_cons_succ, List.setIfInBounds_toArray, List.set_cons_zero, List.set_cons_succ]
          refine wpAnyH_take (i := 30) (v := .int .i64 xn) rfl (by kernel_rfl) (by kernel_rfl) (by kernel_rfl) (fun _ _ _ h => h) (Or.inl ⟨by rfl, fun W hW => ?_⟩) hHeld ?_
          · clear hW
            go_simp
          try simp only [Act.put, List.getElem_toArray, List.getElem_cons_zero, List.getElem_cons_succ, List.setIfInBounds_toArray, List.set_cons_zero, List.set_cons_succ]
          refine wpAnyH_ready (rs := [29]) (by kernel_rfl) (by simp) (AllReadyH.cons rfl (fun K hK => ?_) AllReadyH.nil)
          go_simp
          refine (HJ.out (t ++ [noN]) (t.length + 1) xn _ a7 c7 (by rw [List.length_append]; rfl) HPL.out.2.1 HM.out.2.1 HP8.out.2.2.1 (HS9.out.1.1.2.1.keptNone hHeld.2.2) HS9.out.1.1.2.2 hHeld.2.2).mono ?_
          rintro e w5 ⟨rfl, K5⟩
          go_wp2_with fail
          refine hK.out _ _ (⟨hHeld.1.kept K5, hHeld.2.1.kept K5, grown_trans hHeld.2.2 K5⟩) (fun hHeld => ?_)
          clear hK K
          try simp only [Act.put, List.getElem_toArray, List.getElem_cons_zero, List.getElem_cons_succ, List.setIfInBounds_toArray, List.set_cons_zero, List.set_cons_succ]
          clear K5
          refine wpAnyH_take (i := 31) (v := .bool true) rfl (by kernel_rfl) (by kernel_rfl) (by kernel_rfl) (fun _ _ _ h => h) (Or.inl ⟨by rfl, fun W hW => ?_⟩) hHeld ?_
          · clear hW
            go_simp
          try simp only [Act.put, List.getElem_toArray, List.getElem_cons_zero, List.getElem_cons_succ, List.setIfInBounds_toArray, List.set_cons_zero, List.set_cons_succ]
          refine wpAnyH_take (i := 32) (v := .bool true) rfl (by kernel_rfl) (by kernel_rfl) (by kernel_rfl) (fun _ _ _ h => h) (Or.inl ⟨by rfl, fun W hW => ?_⟩) hHeld ?_
          · clear hW
            go_simp
          try simp only [Act.put, List.getElem_toArray, List.getElem_cons_zero, List.getElem_cons_succ, List.setIfInBounds_toArray, List.set_cons_zero, List.set_cons_succ]
          refine wpAnyH_take (i := 33) (v := .bool true) rfl (by kernel_rfl) (by kernel_rfl) (by kernel_rfl) (fun _ _ _ h => h) (Or.inl ⟨by rfl, fun W hW => ?_⟩) hHeld ?_
          · clear hW
            go_simp
          try simp only [Act.put, List.getElem_toArray, List.getElem_cons_zero, List.getElem_cons_succ, List.setIfInBounds_toArray, List.set_cons_zero, List.set_cons_succ]
          refine wpAnyH_take (i := 34) (v := .slice a7 (t.length + 1) c7) rfl (by kernel_rfl) (by kernel_rfl) (by kernel_rfl) (fun _ _ _ h => h) (Or.inl ⟨by rfl, fun W hW => ?_⟩) hHeld ?_
          · clear hW
            go_simp
          try simp only [Act.put, List.getElem_toArray, List.getElem_cons_zero, List.getElem_cons_succ, List.setIfInBounds_toArray, List.set_cons_zero, List.set_cons_succ]
          refine wpAnyH_take (i := 36) (v := .agg (N9)) rfl (by kernel_rfl) (by kernel_rfl) (by kernel_rfl) (fun _ _ _ h => h) (yieldsIf_load_row (by rfl) _ _ rfl D rfl 44 (N9) _ (fun W hW => hW.2.1) Tryz.underlying44 rfl HXC.out.1) hHeld ?_
          try simp only [Act.put, List.getElem_toArray, List.getElem_cons_zero, List.getElem_cons_succ, List.setIfInBounds_toArray, List.set_cons_zero, List.set_cons_succ]
          refine wpAnyH_take (i := 39) (v := .agg (LA)) rfl (by kernel_rfl) (by kernel_rfl) (by kernel_rfl) (fun _ _ _ h => h) (yieldsIf_load_row (by rfl) _ _ rfl B rfl 24 (LA) _ (fun W hW => hW.1) Tryz.underlying24 rfl HLS) hHeld ?_
          try simp only [Act.put, List.getElem_toArray, List.getElem_cons_zero, List.getElem_cons_succ, List.setIfInBounds_toArray, List.set_cons_zero, List.set_cons_succ]
          refine wpAnyH_take (i := 40) (v := .int .i64 way) rfl (by kernel_rfl) (by kernel_rfl) (by kernel_rfl) (fun _ _ _ h => h) (Or.inl ⟨by rfl, fun W hW => ?_⟩) hHeld ?_
          · clear hW
            go_simp
          try simp only [Act.put, List.getElem_toArray, List.getElem_cons_zero, List.getElem_cons_succ, List.setIfInBounds_toArray, List.set_cons_zero, List.set_cons_succ]
          refine wpAnyH_take (i := 41) (v := .slice a b.length ca) rfl (by kernel_rfl) (by kernel_rfl) (by kernel_rfl) (fun _ _ _ h => h) (Or.inl ⟨by rfl, fun W hW => ?_⟩) hHeld ?_
          · clear hW
            go_simp
          try simp only [Act.put, List.getElem_toArray, List.getElem_cons_zero, List.getElem_cons_succ, List.setIfInBounds_toArray, List.set_cons_zero, List.set_cons_succ]
          refine wpAnyH_take (i := 43) (v := .int .i64 x) rfl (by kernel_rfl) (by kernel_rfl) (by kernel_rfl) (fun _ _ _ h => h) (Or.inl ⟨by rfl, fun W hW => ?_⟩) hHeld ?_
          · clear hW
            go_simp
          try simp only [Act.put, List.getElem_toArray, List.getElem_cons_zero, List.getElem_cons_succ, List.setIfInBounds_toArray, List.set_cons_zero, List.set_cons_succ]
          refine wpAnyH_ready (rs := [35, 37]) (by kernel_rfl) (by simp) (AllReadyH.cons rfl (fun K hK => ?_) (AllReadyH.cons rfl (fun K hK => ?_) AllReadyH.nil))
          · as_aux_lemma =>
              go_simp
              refine (HC7.out _ (grown_trans HS9.out.1.1.1.2 hHeld.2.2)).mono ?_
              rintro e w2 ⟨v2, rfl, O2, K2⟩
              have O2 := owns_mono O2 hHeld.2.2.size
              go_wp2_with fail
              refine hK.out _ _ (⟨hHeld.1.kept K2, hHeld.2.1.kept K2, grown_trans hHeld.2.2 K2⟩) (fun hHeld => ?_)
              clear hK K K2
              try simp only [Act.put, List.getElem_toArray, List.getElem_cons_zero, List.getElem_cons_succ, List.setIfInBounds_toArray, List.set_cons_zero, List.set_cons_succ]
              refine wpAnyH_ready (rs := [37]) (by kernel_rfl) (by simp) (AllReadyH.cons rfl (fun K hK => ?_) AllReadyH.nil)
              refine step_litW (by rfl) 22 1 _ (by rfl) #[(0, .agg N9)] (by kernel_rfl) (flatG [noN]) 44 HL9 ?_
              intro ad w3 CL hAD hAL K3
              have nA : ¬ v2.ownBlock = some ad.block := fun e => by have := (O2.lt _ e).2; omega
              have O2 := owns_keptNone O2 K3
              refine hK.out _ _ (⟨hHeld.1.kept K3, hHeld.2.1.kept K3, grown_trans hHeld.2.2 K3⟩) (fun hHeld => ?_)
              clear hK K K3
              try simp only [Act.put, List.getElem_toArray, List.getElem_cons_zero, List.getElem_cons_succ, List.setIfInBounds_toArray, List.set_cons_zero, List.set_cons_succ]
              refine wpAnyH_ready (rs := [38]) (by kernel_rfl) (by simp) (AllReadyH.cons rfl (fun K hK => ?_) AllReadyH.nil)
              refine step_append_ownW (by rfl) (.tmp 119) (.tmp 121) 22 (by rfl) 44 i0 _ 24 72 Tryz.underlying22 HI.out.1 HI.out.2.1 HI.out.2.2.1 HI.out.2.2.2 rfl (by decide) w9.heap.size v2 (t.length + 1) (flatG (t ++ [noN])) (by rfl) O2 ad (1) 1 (flatG [noN]) (by rfl) (rfl) (CL) (flatG_one _) HLN.out.2.2.2.1 HLN.out.2.2.2.2 hHeld.2.2.size ?_
              intro v4 w4 O4 K4 B4
              have nB : ¬ v2.ownBlock = some B := fun e => by have := (O2.lt B e).1; have := HSZ.out; omega
              have nD : ¬ v2.ownBlock = some D := fun e => by have := (O2.lt D e).1; have := HSZ.out; omega
              have hG4 : w9.grownBy w4 none := grown_trans_new hHeld.2.2 K4 (fun z hz => (O2.lt z hz).1)
              rw [← flatG_append] at O4
              have hB4 := hHeld.1.grown K4 nB
              have hD4 := hHeld.2.1.grown K4 nD
              obtain ⟨a4, c4, hv4, C4, -, -, h04, -⟩ := cv_of_row O4
              subst hv4
              refine hK.out _ _ ⟨hB4, hD4, hG4⟩ (fun hHeld => ?_)
              clear hK K
              try simp only [Act.put, List.getElem_toArray, List.getElem_cons_zero, List.getElem_cons_succ, List.setIfInBounds_toArray, List.set_cons_zero, List.set_cons_succ]
              refine wpAnyH_ready (rs := [42]) (by kernel_rfl) (by simp) (AllReadyH.cons rfl (fun K hK => ?_) AllReadyH.nil)
              go_simp
              refine (HJ.out (t ++ [noN] ++ [noN]) (t.length + 1 + 1) x _ a4 c4 (by rw [List.length_append, List.length_append]; rfl) HPL.out.2.2.1 HM.out.2.2.1 HP8.out.2.2.2.1 C4 h04 hHeld.2.2).mono ?_
              rintro e w5 ⟨rfl, K5⟩
              go_wp2_with fail
              refine hK.out _ _ (⟨hHeld.1.kept K5, hHeld.2.1.kept K5, grown_trans hHeld.2.2 K5⟩) (fun hHeld => ?_)
              clear hK K
              try simp only [Act.put, List.getElem_toArray, List.getElem_cons_zero, List.getElem_cons_succ, List.setIfInBounds_toArray, List.set_cons_zero, List.set_cons_succ]
              clear O4 K4 B4 CL O2 C4 h04 nB nD hG4 hB4 hD4 nA K5
              refine wpAnyH_take (i := 44) (v := .bool true) rfl (by kernel_rfl) (by kernel_rfl) (by kernel_rfl) (fun _ _ _ h => h) (Or.inl ⟨by rfl, fun W hW => ?_⟩) hHeld ?_
              · clear hW
                go_simp
              try simp only [Act.put, List.getElem_toArray, List.getElem_cons_zero, List.getElem_cons_succ, List.setIfInBounds_toArray, List.set_cons_zero, List.set_cons_succ]
              refine wpAnyH_take (i := 45) (v := .bool true) rfl (by kernel_rfl) (by kernel_rfl) (by kernel_rfl) (fun _ _ _ h => h) (Or.inl ⟨by rfl, fun W hW => ?_⟩) hHeld ?_
              · clear hW
                go_simp
              try simp only [Act.put, List.getElem_toArray, List.getElem_cons_zero, List.getElem_cons_succ, List.setIfInBounds_toArray, List.set_cons_zero, List.set_cons_succ]
              refine wpAnyH_take (i := 46) (v := .bool true) rfl (by kernel_rfl) (by kernel_rfl) (by kernel_rfl) (fun _ _ _ h => h) (Or.inl ⟨by rfl, fun W hW => ?_⟩) hHeld ?_
              · clear hW
                go_simp
              try simp only [Act.put, List.getElem_toArray, List.getElem_cons_zero, List.getElem_cons_succ, List.setIfInBounds_toArray, List.set_cons_zero, List.set_cons_succ]
              refine wpAnyH_take (i := 47) (v := .slice a9 ((t.length + 1) + (u.length + 1) + 2) c9) rfl (by kernel_rfl) (by kernel_rfl) (by kernel_rfl) (fun _ _ _ h => h) (Or.inl ⟨by rfl, fun W hW => ?_⟩) hHeld ?_
              · clear hW
                go_simp
              try simp only [Act.put, List.getElem_toArray, List.getElem_cons_zero, List.getElem_cons_succ, List.setIfInBounds_toArray, List.set_cons_zero, List.set_cons_succ]
              refine wpAnyH_take (i := 48) (v := .agg (LA)) rfl (by kernel_rfl) (by kernel_rfl) (by kernel_rfl) (fun _ _ _ h => h) (yieldsIf_load_row (by rfl) _ _ rfl B rfl 24 (LA) _ (fun W hW => hW.1) Tryz.underlying24 rfl HLS) hHeld ?_
              try simp only [Act.put, List.getElem_toArray, List.getElem_cons_zero, List.getElem_cons_succ, List.setIfInBounds_toArray, List.set_cons_zero, List.set_cons_succ]
              refine wpAnyH_take (i := 49) (v := .int .i64 way) rfl (by kernel_rfl) (by kernel_rfl) (by kernel_rfl) (fun _ _ _ h => h) (Or.inl ⟨by rfl, fun W hW => ?_⟩) hHeld ?_
              · clear hW
                go_simp
              try simp only [Act.put, List.getElem_toArray, List.getElem_cons_zero, List.getElem_cons_succ, List.setIfInBounds_toArray, List.set_cons_zero, List.set_cons_succ]
              refine wpAnyH_take (i := 50) (v := .slice a b.length ca) rfl (by kernel_rfl) (by kernel_rfl) (by kernel_rfl) (fun _ _ _ h => h) (Or.inl ⟨by rfl, fun W hW => ?_⟩) hHeld ?_
              · clear hW
                go_simp
              try simp only [Act.put, List.getElem_toArray, List.getElem_cons_zero, List.getElem_cons_succ, List.setIfInBounds_toArray, List.set_cons_zero, List.set_cons_succ]
              refine wpAnyH_take (i := 52) (v := .int .i64 xa) rfl (by kernel_rfl) (by kernel_rfl) (by kernel_rfl) (fun _ _ _ h => h) (Or.inl ⟨by rfl, fun W hW => ?_⟩) hHeld ?_
              · clear hW
                go_simp
              try simp only [Act.put, List.getElem_toArray, List.getElem_cons_zero, List.getElem_cons_succ, List.setIfInBounds_toArray, List.set_cons_zero, List.set_cons_succ]
              refine wpAnyH_ready (rs := [51]) (by kernel_rfl) (by simp) (AllReadyH.cons rfl (fun K hK => ?_) AllReadyH.nil)
              go_simp
              refine (HJ.out (t ++ [noN] ++ (u ++ [noN]) ++ [orN, noN]) ((t.length + 1) + (u.length + 1) + 2) xa _ a9 c9 (by simp only [List.length_append]; rfl) HPL.out.2.2.2 HM.out.2.2.2 HP9.out (HS9.out.1.2.keptNone hHeld.2.2) HS9.out.2 hHeld.2.2).mono ?_
              rintro e w5 ⟨rfl, K5⟩
              go_wp2_with fail
              refine hK.out _ _ (⟨hHeld.1.kept K5, hHeld.2.1.kept K5, grown_trans hHeld.2.2 K5⟩) (fun hHeld => ?_)
              clear hK K
              try simp only [Act.put, List.getElem_toArray, List.getElem_cons_zero, List.getElem_cons_succ, List.setIfInBounds_toArray, List.set_cons_zero, List.set_cons_succ]
              clear K5
              refine wpAnyH_take (i := 53) (v := .bool true) rfl (by kernel_rfl) (by kernel_rfl) (by kernel_rfl) (fun _ _ _ h => h) (Or.inl ⟨by rfl, fun W hW => ?_⟩) hHeld ?_
              · clear hW
                go_simp
              try simp only [Act.put, List.getElem_toArray, List.getElem_cons_zero, List.getElem_cons_succ, List.setIfInBounds_toArray, List.set_cons_zero, List.set_cons_succ]
              refine wpAnyH_take (i := 54) (v := .bool true) rfl (by kernel_rfl) (by kernel_rfl) (by kernel_rfl) (fun _ _ _ h => h) (Or.inl ⟨by rfl, fun W hW => ?_⟩) hHeld ?_
              · clear hW
                go_simp
              try simp only [Act.put, List.getElem_toArray, List.getElem_cons_zero, List.getElem_cons_succ, List.setIfInBounds_toArray, List.set_cons_zero, List.set_cons_succ]
              refine wpAnyH_take (i := 55) (v := .bool true) rfl (by kernel_rfl) (by kernel_rfl) (by kernel_rfl) (fun _ _ _ h => h) (Or.inl ⟨by rfl, fun W hW => ?_⟩) hHeld ?_
              · clear hW
                go_simp
              try simp only [Act.put, List.getElem_toArray, List.getElem_cons_zero, List.getElem_cons_succ, List.setIfInBounds_toArray, List.set_cons_zero, List.set_cons_succ]
              refine wpAnyH_ready (rs := [56]) (by kernel_rfl) (by simp) (AllReadyH.cons rfl (fun K hK => ?_) AllReadyH.nil)
              go_simp
              refine (awake14_any _).mono ?_
              rintro e w6 ⟨rfl, K6⟩
              go_wp2_with fail
              refine hK.out _ _ (⟨hHeld.1.kept K6, hHeld.2.1.kept K6, grown_trans hHeld.2.2 K6⟩) (fun hHeld => ?_)
              clear hK K
              try simp only [Act.put, List.getElem_toArray, List.getElem_cons_zero, List.getElem_cons_succ, List.setIfInBounds_toArray, List.set_cons_zero, List.set_cons_succ]
              refine wpAnyH_take (i := 57) (v := .bool true) rfl (by kernel_rfl) (by kernel_rfl) (by kernel_rfl) (fun _ _ _ h => h) (Or.inl ⟨by rfl, fun W hW => ?_⟩) hHeld ?_
              · clear hW
                go_simp
              try simp only [Act.put, List.getElem_toArray, List.getElem_cons_zero, List.getElem_cons_succ, List.setIfInBounds_toArray, List.set_cons_zero, List.set_cons_succ]
              refine wpAnyH_take (i := 58) (v := .bool true) rfl (by kernel_rfl) (by kernel_rfl) (by kernel_rfl) (fun _ _ _ h => h) (Or.inl ⟨by rfl, fun W hW => ?_⟩) hHeld ?_
              · clear hW
                go_simp
              try simp only [Act.put, List.getElem_toArray, List.getElem_cons_zero, List.getElem_cons_succ, List.setIfInBounds_toArray, List.set_cons_zero, List.set_cons_succ]
              refine wpAnyH_done (by kernel_rfl) ?_ _
              have HFIN : Hid (w.grownBy _ none) := grown_trans HS9.out.1.1.1.1.2.2 hHeld.2.2
              clear hHeld K6
              go_wp2
              go_ret
              exact ⟨rfl, HFIN.out⟩
          · as_aux_lemma =>
              refine step_litW (by rfl) 22 1 _ (by rfl) #[(0, .agg N9)] (by kernel_rfl) (flatG [noN]) 44 HL9 ?_
              intro ad w3 CL hAD hAL K3
              have HAL : Hid (ad.block < w3.heap.size) := hAL
              refine hK.out _ _ (⟨hHeld.1.kept K3, hHeld.2.1.kept K3, grown_trans hHeld.2.2 K3⟩) (fun hHeld => ?_)
              clear hK K K3
              try simp only [Act.put, List.getElem_toArray, List.getElem_cons_zero, List.getElem_cons_succ, List.setIfInBounds_toArray, List.set_cons_zero, List.set_cons_succ]
              refine wpAnyH_ready (rs := [35]) (by kernel_rfl) (by simp) (AllReadyH.cons rfl (fun K hK => ?_) AllReadyH.nil)
              go_simp
              refine (HC7.out _ (grown_trans HS9.out.1.1.1.2 hHeld.2.2)).mono ?_
              rintro e w2 ⟨v2, rfl, O2, K2⟩
              have nA : ¬ v2.ownBlock = some ad.block := fun e => by have := (O2.lt _ e).1; have := HAL.out; omega
              have O2 := owns_mono O2 hHeld.2.2.size
              have CL := CL.keptNone K2
              go_wp2_with fail
              refine hK.out _ _ (⟨hHeld.1.kept K2, hHeld.2.1.kept K2, grown_trans hHeld.2.2 K2⟩) (fun hHeld => ?_)
              clear hK K K2
              try simp only [Act.put, List.getElem_toArray, List.getElem_cons_zero, List.getElem_cons_succ, List.setIfInBounds_toArray, List.set_cons_zero, List.set_cons_succ]
              refine wpAnyH_ready (rs := [38]) (by kernel_rfl) (by simp) (AllReadyH.cons rfl (fun K hK => ?_) AllReadyH.nil)
              refine step_append_ownW (by rfl) (.tmp 119) (.tmp 121) 22 (by rfl) 44 i0 _ 24 72 Tryz.underlying22 HI.out.1 HI.out.2.1 HI.out.2.2.1 HI.out.2.2.2 rfl (by decide) w9.heap.size v2 (t.length + 1) (flatG (t ++ [noN])) (by rfl) O2 ad (1) 1 (flatG [noN]) (by rfl) (rfl) (CL) (flatG_one _) HLN.out.2.2.2.1 HLN.out.2.2.2.2 hHeld.2.2.size ?_
              intro v4 w4 O4 K4 B4
              have nB : ¬ v2.ownBlock = some B := fun e => by have := (O2.lt B e).1; have := HSZ.out; omega
              have nD : ¬ v2.ownBlock = some D := fun e => by have := (O2.lt D e).1; have := HSZ.out; omega
              have hG4 : w9.grownBy w4 none := grown_trans_new hHeld.2.2 K4 (fun z hz => (O2.lt z hz).1)
              rw [← flatG_append] at O4
              have hB4 := hHeld.1.grown K4 nB
              have hD4 := hHeld.2.1.grown K4 nD
              obtain ⟨a4, c4, hv4, C4, -, -, h04, -⟩ := cv_of_row O4
              subst hv4
              refine hK.out _ _ ⟨hB4, hD4, hG4⟩ (fun hHeld => ?_)
              clear hK K
              try simp only [Act.put, List.getElem_toArray, List.getElem_cons_zero, List.getElem_cons_succ, List.setIfInBounds_toArray, List.set_cons_zero, List.set_cons_succ]
              refine wpAnyH_ready (rs := [42]) (by kernel_rfl) (by simp) (AllReadyH.cons rfl (fun K hK => ?_) AllReadyH.nil)
              go_simp
              refine (HJ.out (t ++ [noN] ++ [noN]) (t.length + 1 + 1) x _ a4 c4 (by rw [List.length_append, List.length_append]; rfl) HPL.out.2.2.1 HM.out.2.2.1 HP8.out.2.2.2.1 C4 h04 hHeld.2.2).mono ?_
              rintro e w5 ⟨rfl, K5⟩
              go_wp2_with fail
              refine hK.out _ _ (⟨hHeld.1.kept K5, hHeld.2.1.kept K5, grown_trans hHeld.2.2 K5⟩) (fun hHeld => ?_)
              clear hK K
              try simp only [Act.put, List.getElem_toArray, List.getElem_cons_zero, List.getElem_cons_succ, List.setIfInBounds_toArray, List.set_cons_zero, List.set_cons_succ]
              clear O4 K4 B4 CL O2 C4 h04 nB nD hG4 hB4 hD4 nA K5
              refine wpAnyH_take (i := 44) (v := .bool true) rfl (by kernel_rfl) (by kernel_rfl) (by kernel_rfl) (fun _ _ _ h => h) (Or.inl ⟨by rfl, fun W hW => ?_⟩) hHeld ?_
              · clear hW
                go_simp
              try simp only [Act.put, List.getElem_toArray, List.getElem_cons_zero, List.getElem_cons_succ, List.setIfInBounds_toArray, List.set_cons_zero, List.set_cons_succ]
              refine wpAnyH_take (i := 45) (v := .bool true) rfl (by kernel_rfl) (by kernel_rfl) (by kernel_rfl) (fun _ _ _ h => h) (Or.inl ⟨by rfl, fun W hW => ?_⟩) hHeld ?_
              · clear hW
                go_simp
              try simp only [Act.put, List.getElem_toArray, List.getElem_cons_zero, List.getElem_cons_succ, List.setIfInBounds_toArray, List.set_cons_zero, List.set_cons_succ]
              refine wpAnyH_take (i := 46) (v := .bool true) rfl (by kernel_rfl) (by kernel_rfl) (by kernel_rfl) (fun _ _ _ h => h) (Or.inl ⟨by rfl, fun W hW => ?_⟩) hHeld ?_
              · clear hW
                go_simp
              try simp only [Act.put, List.getElem_toArray, List.getElem_cons_zero, List.getElem_cons_succ, List.setIfInBounds_toArray, List.set_cons_zero, List.set_cons_succ]
              refine wpAnyH_take (i := 47) (v := .slice a9 ((t.length + 1) + (u.length + 1) + 2) c9) rfl (by kernel_rfl) (by kernel_rfl) (by kernel_rfl) (fun _ _ _ h => h) (Or.inl ⟨by rfl, fun W hW => ?_⟩) hHeld ?_
              · clear hW
                go_simp
              try simp only [Act.put, List.getElem_toArray, List.getElem_cons_zero, List.getElem_cons_succ, List.setIfInBounds_toArray, List.set_cons_zero, List.set_cons_succ]
              refine wpAnyH_take (i := 48) (v := .agg (LA)) rfl (by kernel_rfl) (by kernel_rfl) (by kernel_rfl) (fun _ _ _ h => h) (yieldsIf_load_row (by rfl) _ _ rfl B rfl 24 (LA) _ (fun W hW => hW.1) Tryz.underlying24 rfl HLS) hHeld ?_
              try simp only [Act.put, List.getElem_toArray, List.getElem_cons_zero, List.getElem_cons_succ, List.setIfInBounds_toArray, List.set_cons_zero, List.set_cons_succ]
              refine wpAnyH_take (i := 49) (v := .int .i64 way) rfl (by kernel_rfl) (by kernel_rfl) (by kernel_rfl) (fun _ _ _ h => h) (Or.inl ⟨by rfl, fun W hW => ?_⟩) hHeld ?_
              · clear hW
                go_simp
              try simp only [Act.put, List.getElem_toArray, List.getElem_cons_zero, List.getElem_cons_succ, List.setIfInBounds_toArray, List.set_cons_zero, List.set_cons_succ]
              refine wpAnyH_take (i := 50) (v := .slice a b.length ca) rfl (by kernel_rfl) (by kernel_rfl) (by kernel_rfl) (fun _ _ _ h => h) (Or.inl ⟨by rfl, fun W hW => ?_⟩) hHeld ?_
              · clear hW
                go_simp
              try simp only [Act.put, List.getElem_toArray, List.getElem_cons_zero, List.getElem_cons_succ, List.setIfInBounds_toArray, List.set_cons_zero, List.set_cons_succ]
              refine wpAnyH_take (i := 52) (v := .int .i64 xa) rfl (by kernel_rfl) (by kernel_rfl) (by kernel_rfl) (fun _ _ _ h => h) (Or.inl ⟨by rfl, fun W hW => ?_⟩) hHeld ?_
              · clear hW
                go_simp
              try simp only [Act.put, List.getElem_toArray, List.getElem_cons_zero, List.getElem_cons_succ, List.setIfInBounds_toArray, List.set_cons_zero, List.set_cons_succ]
              refine wpAnyH_ready (rs := [51]) (by kernel_rfl) (by simp) (AllReadyH.cons rfl (fun K hK => ?_) AllReadyH.nil)
              go_simp
              refine (HJ.out (t ++ [noN] ++ (u ++ [noN]) ++ [orN, noN]) ((t.length + 1) + (u.length + 1) + 2) xa _ a9 c9 (by simp only [List.length_append]; rfl) HPL.out.2.2.2 HM.out.2.2.2 HP9.out (HS9.out.1.2.keptNone hHeld.2.2) HS9.out.2 hHeld.2.2).mono ?_
              rintro e w5 ⟨rfl, K5⟩
              go_wp2_with fail
              refine hK.out _ _ (⟨hHeld.1.kept K5, hHeld.2.1.kept K5, grown_trans hHeld.2.2 K5⟩) (fun hHeld => ?_)
              clear hK K
              try simp only [Act.put, List.getElem_toArray, List.getElem_cons_zero, List.getElem_cons_succ, List.setIfInBounds_toArray, List.set_cons_zero, List.set_cons_succ]
              clear K5
              refine wpAnyH_take (i := 53) (v := .bool true) rfl (by kernel_rfl) (by kernel_rfl) (by kernel_rfl) (fun _ _ _ h => h) (Or.inl ⟨by rfl, fun W hW => ?_⟩) hHeld ?_
              · clear hW
                go_simp
              try simp only [Act.put, List.getElem_toArray, List.getElem_cons_zero, List.getElem_cons_succ, List.setIfInBounds_toArray, List.set_cons_zero, List.set_cons_succ]
              refine wpAnyH_take (i := 54) (v := .bool true) rfl (by kernel_rfl) (by kernel_rfl) (by kernel_rfl) (fun _ _ _ h => h) (Or.inl ⟨by rfl, fun W hW => ?_⟩) hHeld ?_
              · clear hW
                go_simp
              try simp only [Act.put, List.getElem_toArray, List.getElem_cons_zero, List.getElem_cons_succ, List.setIfInBounds_toArray, List.set_cons_zero, List.set_cons_succ]
              refine wpAnyH_take (i := 55) (v := .bool true) rfl (by kernel_rfl) (by kernel_rfl) (by kernel_rfl) (fun _ _ _ h => h) (Or.inl ⟨by rfl, fun W hW => ?_⟩) hHeld ?_
              · clear hW
                go_simp
              try simp only [Act.put, List.getElem_toArray, List.getElem_cons_zero, List.getElem_cons_succ, List.setIfInBounds_toArray, List.set_cons_zero, List.set_cons_succ]
              refine wpAnyH_ready (rs := [56]) (by kernel_rfl) (by simp) (AllReadyH.cons rfl (fun K hK => ?_) AllReadyH.nil)
              go_simp
              refine (awake14_any _).mono ?_
              rintro e w6 ⟨rfl, K6⟩
              go_wp2_with fail
              refine hK.out _ _ (⟨hHeld.1.kept K6, hHeld.2.1.kept K6, grown_trans hHeld.2.2 K6⟩) (fun hHeld => ?_)
              clear hK K
              try simp only [Act.put, List.getElem_toArray, List.getElem_cons_zero, List.getElem_cons_succ, List.setIfInBounds_toArray, List.set_cons_zero, List.set_cons_succ]
              refine wpAnyH_take (i := 57) (v := .bool true) rfl (by kernel_rfl) (by kernel_rfl) (by kernel_rfl) (fun _ _ _ h => h) (Or.inl ⟨by rfl, fun W hW => ?_⟩) hHeld ?_
              · clear hW
                go_simp
              try simp only [Act.put, List.getElem_toArray, List.getElem_cons_zero, List.getElem_cons_succ, List.setIfInBounds_toArray, List.set_cons_zero, List.set_cons_succ]
              refine wpAnyH_take (i := 58) (v := .bool true) rfl (by kernel_rfl) (by kernel_rfl) (by kernel_rfl) (fun _ _ _ h => h) (Or.inl ⟨by rfl, fun W hW => ?_⟩) hHeld ?_
              · clear hW
                go_simp
              try simp only [Act.put, List.getElem_toArray, List.getElem_cons_zero, List.getElem_cons_succ, List.setIfInBounds_toArray, List.set_cons_zero, List.set_cons_succ]
              refine wpAnyH_done (by kernel_rfl) ?_ _
              have HFIN : Hid (w.grownBy _ none) := grown_trans HS9.out.1.1.1.1.2.2 hHeld.2.2
              clear hHeld K6
              go_wp2
              go_ret
              exact ⟨rfl, HFIN.out⟩

set_option maxRecDepth 100000 in
theorem lifted (os : Os) (started : os.Started) (H : Type) (enc : TypeId × Value → H) :
    ReturnsInHanded {} Tryz.checked os 5 .any (Rows.meanTruthsSpec.pre6 enc Tryz.prog Tryz.f5 Rows.meanTruthsRow.domain false) (Rows.meanTruthsSpec.post enc Tryz.prog Tryz.f5 false true false false) := by
  refine returnsInHanded_of_change_sized (C := Tryz.checked) own started (by kernel_rfl) Tryz.func5
    (ChangeSpec.witness6 (enc := enc) (C := Tryz.checked) false ⟨#[], #[.slice none 0 0, .slice none 0 0, .agg #[.bool false, .bool false, .int .i64 0], .int .i64 0, .slice none 0 0], []⟩ 8 (by kernel_rfl) (by kernel_rfl) (by kernel_rfl) (by kernel_rfl)) ?_
  intro W base args ds gs before hval0 hW hcnd hsz0 _
  have hsz : (DataW.weightsEach Tryz.prog (Tryz.f5.params.toList ++ Rows.meanTruthsSpec.plain.varTypes Tryz.prog) (ds ++ gs)).all (· ≤ reachBytes) = true := hsz0
  have hval : ∀ (j : Nat) t v, Tryz.f5.params[j]? = some t → args[j]? = some v → Value.okWide Tryz.prog W .any base t v := hval0
  have hW' := hW
  obtain ⟨p, q, hA0, hV, rfl, hfz, hnd⟩ := hW
  have hA : DataW.TrodAll enc Tryz.prog W 0 (fun _ => true) true Tryz.f5.params.toList args.toList ds p := hA0
  rw [Tryz.params5] at hA hval hsz
  obtain ⟨v0, vs0, d0, ds0, p0, q0, hargs, rfl, rfl, h0, r0⟩ := trodAll_cons hA
  obtain ⟨v1, vs1, d1, ds1, p1, q1, rfl, rfl, rfl, h1, r1⟩ := trodAll_cons r0
  obtain ⟨v2, vs2, d2, ds2, p2, q2, rfl, rfl, rfl, h2, r2⟩ := trodAll_cons r1
  obtain ⟨v3, vs3, d3, ds3, p3, q3, rfl, rfl, rfl, h3, r3⟩ := trodAll_cons r2
  obtain ⟨v4, vs4, d4, ds4, p4, q4, rfl, rfl, rfl, h4, r4⟩ := trodAll_cons r3
  obtain ⟨rfl, rfl, rfl⟩ := trodAll_nil r4
  obtain rfl : args = #[v0, v1, v2, v3, v4] := by cases args; simp_all
  obtain ⟨rfl, rfl⟩ := trodVars_none hV
  obtain ⟨a0, len0, cap0, rfl⟩ := okWide_slice Tryz.underlying22 (hval 0 22 v0 rfl rfl)
  have k0 := h0
  have lt0 : ∀ x ∈ p0, x.block < W.heap.size := by obtain ⟨m, hm⟩ := k0; exact DataW.trod_lt m _ _ _ hm
  obtain ⟨xs0, rfl, hcells0, hnil0, hcp0, hok0, hdat0⟩ := open_nodes h0
  obtain ⟨a1, len1, cap1, rfl⟩ := okWide_slice Tryz.underlying22 (hval 1 22 v1 rfl rfl)
  have k1 := h1
  have lt1 : ∀ x ∈ p1, x.block < W.heap.size := by obtain ⟨m, hm⟩ := k1; exact DataW.trod_lt m _ _ _ hm
  obtain ⟨xs1, rfl, hcells1, hnil1, hcp1, hok1, hdat1⟩ := open_nodes h1
  have k2 := h2
  have lt2 : ∀ x ∈ p2, x.block < W.heap.size := by obtain ⟨m, hm⟩ := k2; exact DataW.trod_lt m _ _ _ hm
  obtain ⟨x2, rfl⟩ := open_link h2
  obtain ⟨x3, rfl, rfl, rfl, w3⟩ := open_int Tryz.underlying3 (hval 3 3 v3 rfl rfl) h3
  obtain ⟨a4, len4, cap4, rfl⟩ := okWide_slice Tryz.underlying25 (hval 4 25 v4 rfl rfl)
  have k4 := h4
  have lt4 : ∀ x ∈ p4, x.block < W.heap.size := by obtain ⟨m, hm⟩ := k4; exact DataW.trod_lt m _ _ _ hm
  obtain ⟨xs4, rfl, hcells4, hnil4, hdat4⟩ := open_bytes Tryz.underlying25 Tryz.underlying5 (by kernel_rfl) h4
  have hlen0 : xs0.length * 72 ≤ 140737488351232 := by
    rcases hdat0 with ⟨_, rfl⟩ | ⟨elems, spare, rfl, hle⟩
    · simp
    · have := sized_slice hsz (j := 0) (t := 22) (e := 44) rfl rfl Tryz.underlying22
      rw [bytes44] at this
      unfold reachBytes at this
      omega
  have hlen1 : xs1.length * 72 ≤ 140737488351232 := by
    rcases hdat1 with ⟨_, rfl⟩ | ⟨elems, spare, rfl, hle⟩
    · simp
    · have := sized_slice hsz (j := 1) (t := 22) (e := 44) rfl rfl Tryz.underlying22
      rw [bytes44] at this
      unfold reachBytes at this
      omega
  have hlen4 : xs4.length * 1 ≤ 140737488351232 := by
    rcases hdat4 with ⟨_, rfl⟩ | ⟨elems, spare, rfl, hle⟩
    · simp
    · have := sized_slice hsz (j := 4) (t := 25) (e := 5) rfl rfl Tryz.underlying25
      rw [bytes5] at this
      unfold reachBytes at this
      omega
  clear hA0 hval0
  refine (walk a0 cap0 xs0 a1 cap1 xs1 x2 x3 a4 cap4 xs4 W hcells0 hnil0 hcp0.1 hcp0.2 (by omega) hok0 hcells1 hnil1 hcp1.1 hcp1.2 (by omega) hok1 hcells4 hnil4 (by omega)).mono fun e W' ⟨he, hg⟩ => ?_
  subst he
  have bel : Below W.heap.size W W' := (Below.refl _ _).grown hg (Nat.le_refl _) (by simp)
  exact ⟨_, rfl, _, _, _, [], _, [], hW', trodAll_mk1 (shut_bool Tryz.underlying4 _), (trodAll_cons_mk (Below.trod laidOut (by kernel_rfl) (of_decide_eq_true (by kernel_rfl)) k0 bel lt0) (trodAll_cons_mk (Below.trod laidOut (by kernel_rfl) (of_decide_eq_true (by kernel_rfl)) k1 bel lt1) (trodAll_cons_mk (Below.trod laidOut (by kernel_rfl) (of_decide_eq_true (by kernel_rfl)) k2 bel lt2) (trodAll_cons_mk (shut_int Tryz.underlying3 w3) (trodAll_cons_mk (Below.trod laidOut (by kernel_rfl) (of_decide_eq_true (by kernel_rfl)) k4 bel lt4) trodAll_mk0))))), rfl, bel.frame _, fun h => by cases h⟩

theorem over : Rows.MeanTruthsSaid :=
  OpenClaim.holds_of_wide 5 Tryz.f5 rfl rfl rfl rfl rfl rfl rfl ⟨rfl, rfl, rfl, rfl, rfl⟩ rfl rfl rfl rfl rfl (by kernel_rfl) Tryz.func5 (by kernel_rfl)
    (of_decide_eq_true (by kernel_rfl)) (by unfold Func.isWrapper; first | (rw [if_pos (by decide +kernel)]; kernel_rfl) | (rw [if_neg (by decide +kernel)]; exact ⟨rfl, rfl⟩))
    (fun os started H enc _ => lifted os started H enc)

end meanTruths

theorem meanTruths_holds : Rows.MeanTruthsSaid := meanTruths.over
#print axioms meanTruths_holds

end Go.Proofs.YtkipmkkikcnejaaGreat
