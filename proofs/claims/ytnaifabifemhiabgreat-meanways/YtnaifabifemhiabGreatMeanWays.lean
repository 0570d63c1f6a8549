/-
  For every list of nodes, link and bytes riddlelaw14.MeanWays returns true and leaves what was there as it was: no condition of ours.
-/
import Derived.Test.YtnaifabifemhiabGreatLotP46
import Derived.Test.YtnaifabifemhiabGreatLotP45
import Derived.Deep.DeepCutAuto
import Derived.Laws.OwnMore
namespace Go.Proofs.YtnaifabifemhiabGreat
open Go.ChangeShapes Go.WideShapes Go.ChangeAt Go.RowKit
set_option maxRecDepth 100000
namespace meanWays

def sideN (x : Ng) (s : Int) : Ng := ⟨x.kind, x.op, x.n, x.m, x.size, x.of, s, x.addr, x.bits⟩
theorem wpList_load_gr {P : Program} {ops : Array Oper} {rest : List Oper} {o : Oper} {a : Act} {w : World} {Q : Exit → Act → World → Prop} (hw : Region.wanted o (yielded ops a.tmps) = true) (ty : TypeId) (x : Operand) (ho : o.op = .load ty x) (g : Nat) (hx : a.eval x = .pointer (some ⟨g, 0, none⟩)) (t : TypeId) (cs : Array Value) (d : TypeDesc) (A : VAt w g t cs)
    (hu : P.underlying ty = some d) (hd : (match d with | .struct _ | .array _ _ => true | _ => false) = true) (hi : (P.info? ty).map (·.size) = some cs.size) (h : wpList P ops Q rest (a.put o.dst (.agg cs)) w) : wpList P ops Q (o :: rest) a w :=
  BigFrame.wpList_want hw fun _ hK => wp_load_row ty x ho g hx t cs (0, 0) d A hu hd hi (hK _ _ h)
theorem flatG_side (s : Int) : ∀ (t : List Ng) (i : Nat) (hi : i < t.length), (flatG t).set (i * 24 + 6) (.int .i64 s) = flatG (t.set i (sideN t[i] s))
  | [], i, hi => by simp at hi
  | x :: t, 0, hi => by
    rw [flatG_cons, List.set_append_left _ _ (by rw [Ng.cells_len]; omega)]
    simp only [List.set_cons_zero, List.getElem_cons_zero]
    rw [flatG_cons]
    rfl
  | x :: t, i + 1, hi => by
    have hl : x.cells.length = 24 := rfl
    rw [flatG_cons, List.set_append_right _ _ (by rw [hl]; omega), hl, show (i + 1) * 24 + 6 - 24 = i * 24 + 6 by omega, flatG_side s t i (by simpa using hi)]
    simp only [List.set_cons_succ, List.getElem_cons_succ]
    rw [flatG_cons]
def mixW (t : List Ng) (k : Nat) : List Ng := (t.take k).map swp14 ++ t.drop k
theorem mix_lenW (t : List Ng) (k : Nat) : (mixW t k).length = t.length := by
  unfold mixW
  rw [List.length_append, List.length_map, List.length_take, List.length_drop]
  omega
theorem mix_atW (t : List Ng) (k : Nat) (h : k < t.length) : (mixW t k)[k]'(by rw [mix_lenW]; exact h) = t[k] := by
  have : (mixW t k)[k]? = some t[k] := by
    unfold mixW
    rw [List.getElem?_append_right (by rw [List.length_map, List.length_take]; omega), List.length_map, List.length_take, Nat.min_eq_left (by omega), Nat.sub_self, List.getElem?_drop, Nat.add_zero, List.getElem?_eq_getElem h]
  rw [List.getElem?_eq_getElem (by rw [mix_lenW]; exact h)] at this
  exact Option.some.inj this
theorem mix_nextW (t : List Ng) (k : Nat) (h : k < t.length) : mixW t (k + 1) = (mixW t k).set k (swp14 t[k]) := by
  have hl : ((t.take k).map swp14).length = k := by rw [List.length_map, List.length_take]; omega
  unfold mixW
  rw [List.set_append_right _ _ (by omega), hl, Nat.sub_self, List.drop_eq_getElem_cons h, List.set_cons_zero, List.take_succ_eq_append_getElem h, List.map_append]
  simp
theorem mix_sameW (t : List Ng) (k : Nat) (h : k < t.length) (hk : t[k].kind ≠ 10) : mixW t (k + 1) = mixW t k := by
  rw [mix_nextW t k h]
  have : swp14 t[k] = t[k] := by unfold swp14; rw [if_neg hk]
  rw [this]
  exact set_same _ _ _ (by rw [List.getElem?_eq_getElem (by rw [mix_lenW]; exact h), mix_atW t k h])
def anyW (t : List Ng) (k : Nat) : Bool := (t.take k).any (fun x => decide (x.kind = 10))
theorem any_nextW (t : List Ng) (k : Nat) (h : k < t.length) : anyW t (k + 1) = (anyW t k || decide (t[k].kind = 10)) := by
  unfold anyW
  rw [List.take_succ_eq_append_getElem h, List.any_append]
  simp
theorem any_noneW {t : List Ng} (h : anyW t t.length = false) : ∀ x ∈ t, x.kind ≠ 10 := by
  intro x hx e
  unfold anyW at h
  rw [List.take_length, List.any_eq_false] at h
  have := h x hx
  simp [e] at this

set_option maxRecDepth 100000 in
set_option maxHeartbeats 16000000 in
theorem walk (ao : Option Addr) (cap : Nat) (t : List Ng) (l : Lk) (a : Option Addr) (ca : Nat) (b : List UInt8) (w : World) (hA : CV w ao (flatG t)) (ha0 : ao = none → cap = 0) (_hac : t.length ≤ cap) (_hax : cap ≤ maxLen) (hal : t.length * 72 ≤ 140737488351232) (hao : ∀ x ∈ t, x.ok ∧ Rg x) (hb : Cells w a b) (hb0 : a = none → ca = 0) (hbn : b.length ≤ 140737488351232) :
    Calls Tryz.prog 6 #[.slice ao t.length cap, .agg (lkA l), .slice a b.length ca] w fun e w' => e = .returned (.bool true) ∧ w.grownBy w' none := by
  have hn : ∀ x ∈ t, x.n ≤ 4294967295 := fun x hx => (hao x hx).1.1
  have hrg : ∀ x ∈ t, Rg x := fun x hx => (hao x hx).2
  have HBL := box_lk l
  have K1 := World.grownBy_alloc w (.cells (lkA l) 23) none
  have HLS := lk_sz l
  have HJT : Hid (∀ (way : Int) (W : World), w.grownBy W none → Calls Tryz.prog 15 #[.slice ao t.length cap, .agg (lkA l), .int .i64 way, .slice a b.length ca] W fun e w' => e = .returned (.int .i64 (lawJ t l way b)) ∧ W.grownBy w' none) := fun way W K => ljudge_any ao cap t l way a ca b W (hA.keptNone K) ha0 (by omega) hn (hb.keptNone K) hb0 (by omega)
  have HJU : Hid (∀ (way : Int) (W : World) (au : Option Addr) (cu : Nat), CV W au (flatG (t.map swp14)) → (au = none → cu = 0) → w.grownBy W none → Calls Tryz.prog 15 #[.slice au t.length cu, .agg (lkA l), .int .i64 way, .slice a b.length ca] W fun e w' => e = .returned (.int .i64 (lawJ (t.map swp14) l way b)) ∧ W.grownBy w' none) := fun way W au cu h1 h2 K => by
    have := ljudge_any au cu (t.map swp14) l way a ca b W h1 h2 (by rw [List.length_map]; omega) (fun x hx => by obtain ⟨y, hy, rfl⟩ := List.mem_map.1 hx; rw [swp_n]; exact hn y hy) (hb.keptNone K) hb0 (by omega)
    rw [List.length_map] at this
    exact this
  have HCN : Hid (∀ W, w.grownBy W none → Calls Tryz.prog 13 #[.slice ao t.length cap] W fun e w' => ∃ v, e = .returned v ∧ NgOwns w' W.heap.size v t ∧ W.grownBy w' none) := fun W K => gcopy_any ao cap t W (hA.keptNone K) ha0 (by omega)
  have p0 := ways_pure (l := l) (b := b) hrg 0 (.inl rfl)
  have p1 := ways_pure (l := l) (b := b) hrg 1 (.inr rfl)
  have HPN : Hid (anyW t t.length = false → lawJ t l 0 b = lawJ t l 1 b) := fun h => by
    rw [← p0, swp_none (any_noneW h)]
    rfl
  obtain ⟨x0, hx0⟩ : ∃ x, lawJ t l 0 b = x := ⟨_, rfl⟩
  obtain ⟨y0, hy0⟩ : ∃ x, lawJ t l 1 b = x := ⟨_, rfl⟩
  rw [show (1 : Int) - 0 = 1 from rfl, hx0] at p0
  rw [show (1 : Int) - 1 = 0 from rfl, hy0] at p1
  rw [hx0, hy0] at HPN
  have HXY : Hid (lawJ t l 0 b = x0 ∧ lawJ t l 1 b = y0 ∧ lawJ (t.map swp14) l 1 b = x0 ∧ lawJ (t.map swp14) l 0 b = y0) := ⟨hx0, hy0, p0, p1⟩
  have HTL : Hid (t.length * 72 ≤ 140737488351232) := hal
  clear hA ha0 hal hao hb hb0 hbn hn hrg p0 p1 hx0 hy0 _hac _hax
  obtain ⟨LA, hLA⟩ : ∃ LA, lkA l = LA := ⟨_, rfl⟩
  have V1 : VAt (w.alloc (.cells LA 23)) w.heap.size 23 LA := VAt.alloc _ _ _
  rw [hLA] at HBL K1 HJT HJU HLS ⊢
  clear hLA
  have HAW : Hid (∀ W, w.grownBy W none → Calls Tryz.prog 9 #[] W fun e w' => e = .returned (.bool true) ∧ w.grownBy w' none) := fun W K => (awake14_any W).mono (fun e w' h => ⟨h.1, grown_trans K h.2⟩)
  go_enter Tryz.func6, Tryz.ntmps6
  go_upto_region 1 with fail
  generalize w.alloc (.cells LA 23) = w1 at *
  have HBB : Hid (w.heap.size < w1.heap.size) := by show _ < _; exact V1.lt
  generalize w.heap.size = B at *
  clear HBL
  have HS0 : Hid (VAt w1.drew B 23 LA ∧ w.grownBy w1.drew none) := ⟨V1.kept (grown_drewN w1 1 none), grown_trans K1 (grown_drewN w1 1 none)⟩
  clear V1 K1
  refine wp_region_held_drew (S := fun W => VAt W B 23 LA ∧ w.grownBy W none) (by kernel_rfl) (HS0.out) (fun hHeld => ?_)
  refine wpAnyH_take (i := 0) (v := .slice ao t.length cap) rfl (by kernel_rfl) (by kernel_rfl) (by kernel_rfl) (fun _ _ _ h => h) (Or.inl ⟨by rfl, fun W hW => ?_⟩) hHeld ?_
  · clear hW
    go_simp
  try simp only [Act.put, List.getElem_toArray, List.getElem_cons_zero, List.setIfInBounds_toArray, List.set_cons_zero, List.set_cons_succ]
  refine wpAnyH_take (i := 1) (v := .agg (LA)) rfl (by kernel_rfl) (by kernel_rfl) (by kernel_rfl) (fun _ _ _ h => h) (yieldsIf_load_row (by rfl) _ _ rfl B rfl 23 (LA) _ (fun W hW => hW.1) Tryz.underlying23 rfl HLS) hHeld ?_
  try simp only [Act.put, List.getElem_toArray, List.getElem_cons_zero, List.getElem_cons_succ, List.setIfInBounds_toArray, List.set_cons_zero, List.set_cons_succ]
  refine wpAnyH_take (i := 2) (v := .slice a b.length ca) rfl (by kernel_rfl) (by kernel_rfl) (by kernel_rfl) (fun _ _ _ h => h) (Or.inl ⟨by rfl, fun W hW => ?_⟩) hHeld ?_
  · clear hW
    go_simp
  try simp only [Act.put, List.getElem_toArray, List.getElem_cons_zero, List.getElem_cons_succ, List.setIfInBounds_toArray, List.set_cons_zero, List.set_cons_succ]
  refine wpAnyH_take (i := 4) (v := .slice ao t.length cap) rfl (by kernel_rfl) (by kernel_rfl) (by kernel_rfl) (fun _ _ _ h => h) (Or.inl ⟨by rfl, fun W hW => ?_⟩) hHeld ?_
  · clear hW
    go_simp
  try simp only [Act.put, List.getElem_toArray, List.getElem_cons_zero, List.getElem_cons_succ, List.setIfInBounds_toArray, List.set_cons_zero, List.set_cons_succ]
  refine wpAnyH_take (i := 5) (v := .agg (LA)) rfl (by kernel_rfl) (by kernel_rfl) (by kernel_rfl) (fun _ _ _ h => h) (yieldsIf_load_row (by rfl) _ _ rfl B rfl 23 (LA) _ (fun W hW => hW.1) Tryz.underlying23 rfl HLS) hHeld ?_
  try simp only [Act.put, List.getElem_toArray, List.getElem_cons_zero, List.getElem_cons_succ, List.setIfInBounds_toArray, List.set_cons_zero, List.set_cons_succ]
  refine wpAnyH_take (i := 6) (v := .slice a b.length ca) rfl (by kernel_rfl) (by kernel_rfl) (by kernel_rfl) (fun _ _ _ h => h) (Or.inl ⟨by rfl, fun W hW => ?_⟩) hHeld ?_
  · clear hW
    go_simp
  try simp only [Act.put, List.getElem_toArray, List.getElem_cons_zero, List.getElem_cons_succ, List.setIfInBounds_toArray, List.set_cons_zero, List.set_cons_succ]
  refine wpAnyH_ready (rs := [3]) (by kernel_rfl) (by simp) (AllReadyH.cons rfl (fun K hK => ?_) AllReadyH.nil)
  go_simp
  refine (HJT.out 0 _ hHeld.2).mono ?_
  rintro e w2 ⟨rfl, K2⟩
  rw [HXY.out.1]
  go_wp2_with fail
  refine hK.out _ _ (⟨hHeld.1.kept K2, grown_trans hHeld.2 K2⟩) (fun hHeld => ?_)
  clear hK K
  try simp only [Act.put, List.getElem_toArray, List.getElem_cons_zero, List.getElem_cons_succ, List.setIfInBounds_toArray, List.set_cons_zero, List.set_cons_succ]
  refine wpAnyH_ready (rs := [7]) (by kernel_rfl) (by simp) (AllReadyH.cons rfl (fun K hK => ?_) AllReadyH.nil)
  go_simp
  refine (HJT.out 1 _ hHeld.2).mono ?_
  rintro e w3 ⟨rfl, K3⟩
  rw [HXY.out.2.1]
  go_wp2_with fail
  refine hK.out _ _ (⟨hHeld.1.kept K3, grown_trans hHeld.2 K3⟩) (fun hHeld => ?_)
  clear hK K
  try simp only [Act.put, List.getElem_toArray, List.getElem_cons_zero, List.getElem_cons_succ, List.setIfInBounds_toArray, List.set_cons_zero, List.set_cons_succ]
  refine wpAnyH_take (i := 8) (v := .int .i64 x0) rfl (by kernel_rfl) (by kernel_rfl) (by kernel_rfl) (fun _ _ _ h => h) (Or.inl ⟨by rfl, fun W hW => ?_⟩) hHeld ?_
  · clear hW
    go_simp
  try simp only [Act.put, List.getElem_toArray, List.getElem_cons_zero, List.getElem_cons_succ, List.setIfInBounds_toArray, List.set_cons_zero, List.set_cons_succ]
  refine wpAnyH_take (i := 9) (v := .int .i64 y0) rfl (by kernel_rfl) (by kernel_rfl) (by kernel_rfl) (fun _ _ _ h => h) (Or.inl ⟨by rfl, fun W hW => ?_⟩) hHeld ?_
  · clear hW
    go_simp
  try simp only [Act.put, List.getElem_toArray, List.getElem_cons_zero, List.getElem_cons_succ, List.setIfInBounds_toArray, List.set_cons_zero, List.set_cons_succ]
  refine wpAnyH_done (by kernel_rfl) ?_ _

  have HV3 : Hid (VAt w3 B 23 LA) := hHeld.1
  have HG3 : Hid (w.grownBy w3 none) := hHeld.2
  clear hHeld K2 K3 HJT
  go_wp2_with fail
  refine (HCN.out _ HG3.out).mono ?_
  rintro e w4 ⟨v4, rfl, O4, K4⟩
  have HV4 : Hid (VAt w4 B 23 LA) := HV3.out.kept K4
  have HG4 : Hid (w.grownBy w4 none) := grown_trans HG3.out K4
  have HSZ : Hid (w.heap.size ≤ w3.heap.size ∧ B < w3.heap.size) := ⟨HG3.out.size, HV3.out.lt⟩
  obtain ⟨a4, c4, hv4, -, hc4, hm4, -⟩ := cv_of_row O4
  subst hv4
  clear K4 HCN HV3
  go_wp2
  go_loopw [10, 11] (fun ws i wr => ∃ k : Nat, k ≤ t.length ∧ i = .int .i64 k ∧ ws = .bool (anyW t k) ∧ NgOwns wr w3.heap.size (.slice a4 t.length c4) (mixW t k) ∧ w.grownBy wr none ∧ VAt wr B 23 LA) (fun _ i _ => t.length - (intOf i).toNat)
  case atStart => exact ⟨0, Nat.zero_le _, rfl, rfl, by simpa [mixW] using O4, HG4.out, HV4.out⟩
  case round =>
    clear O4 HV4 HG4
    obtain ⟨k, hk, rfl, rfl, O, G, VL⟩ := hrel
    by_cases hlt : k < t.length
    · obtain ⟨g, cap4, he, -⟩ := owns_head (O : World.ownsRow _ _ _ _ _ (mixW t k).length _) (by rw [mix_lenW]; omega)
      have he2 : a4 = some ⟨g, 0, none⟩ ∧ c4 = cap4 := by
        simp only [Value.slice.injEq] at he
        exact ⟨he.1, he.2.2⟩
      obtain ⟨rfl, rfl⟩ := he2
      clear he
      have HO : Hid (NgOwns wr w3.heap.size (.slice (some ⟨g, 0, none⟩) t.length c4) (mixW t k)) := O
      have hg := O.cells (g := g) rfl
      have hsame := mix_sameW t k hlt
      have hnext := mix_nextW t k hlt
      have hany := any_nextW t k hlt
      have q0 := flatG_get (mixW t k) k 0 (by rw [mix_lenW]; exact hlt) (by omega)
      have q6 := flatG_get (mixW t k) k 6 (by rw [mix_lenW]; exact hlt) (by omega)
      have qs := fun s => flatG_side s (mixW t k) k (by rw [mix_lenW]; exact hlt)
      rw [mix_atW t k hlt] at q0 q6
      simp only [mix_atW t k hlt] at qs
      obtain ⟨xk, hxk⟩ : ∃ xk, t[k]'hlt = xk := ⟨_, rfl⟩
      rw [hxk] at hsame hnext hany q0 q6
      simp only [hxk] at qs
      clear hxk
      have c0 : wr.cell? ⟨g, k * 24, none⟩ = some (.int .i64 xk.kind) := by
        have h := hg (k * 24 + 0) (.int .i64 xk.kind) (by rw [q0]; rfl)
        rw [Addr.add_lit, Nat.zero_add] at h
        exact h
      have c6 : wr.cell? ⟨g, k * 24 + 6, none⟩ = some (.int .i64 xk.side) := by
        have h := hg (k * 24 + 6) (.int .i64 xk.side) (by rw [q6]; rfl)
        rw [Addr.add_lit, Nat.zero_add] at h
        exact h
      have HG : Hid (w.grownBy wr none ∧ VAt wr B 23 LA) := ⟨G, VL⟩
      have HLT : Hid (k < t.length) := hlt
      have hl : (k : Int) < (t.length : Int) := by omega
      have hTL : t.length ≤ 1954687338265 := by have := HTL.out; omega
      have w3k : IntKind.i64.wrap ((k : Int) + 1) = (k : Int) + 1 := by rw [IntKind.wrap_i64]; omega
      clear hg O G VL q0 q6
      by_cases hkd : xk.kind = 10
      · have e10 : (xk.kind == 10) = true := by rw [hkd]; rfl
        have HAN : Hid (anyW t (k + 1) = true) := by show _ = _; rw [hany, hkd]; simp
        have HST : Hid (NgOwns (wr.setCell ⟨g, k * 24 + 6, none⟩ (.int .i64 (swpS xk.side))) w3.heap.size (.slice (some ⟨g, 0, none⟩) t.length c4) (mixW t (k + 1)) ∧ w.grownBy (wr.setCell ⟨g, k * 24 + 6, none⟩ (.int .i64 (swpS xk.side))) none ∧ VAt (wr.setCell ⟨g, k * 24 + 6, none⟩ (.int .i64 (swpS xk.side))) B 23 LA) := by
          have hlt2 := HO.out.lt g rfl
          refine ⟨?_, grown_setCell HG.out.1 _ _ (.inr (by have := HSZ.out; show w.heap.size ≤ g; omega)), VAt.setOther HG.out.2 _ (fun e => by have := HSZ.out; omega)⟩
          have h0 : wr.ownsRow w3.heap.size 37 24 (.slice (some ⟨g, 0, none⟩) t.length c4) t.length (flatG (mixW t k)) := by
            have h := HO.out
            unfold NgOwns at h
            rw [mix_lenW] at h
            exact h
          have h1 := (h0.stored (k * 24 + 6) (.int .i64 (swpS xk.side))).1
          have e : sideN xk (swpS xk.side) = swp14 xk := by unfold swp14; rw [if_pos hkd]; rfl
          rw [qs, e, ← hnext] at h1
          show World.ownsRow _ _ _ _ _ _ _
          rw [mix_lenW]
          exact h1
        have f6 : wr.frozen? ⟨g, k * 24 + 6, none⟩ = false := by
          have h := HO.out
          unfold NgOwns at h
          rw [mix_lenW] at h
          exact h.frozenAt _
        have hws : IntKind.i64.wrap (3 - xk.side) = swpS xk.side := rfl
        have hws2 : wrap64 (3 - xk.side) = swpS xk.side := by unfold wrap64 swpS; rw [IntKind.wrap_i64]
        clear hkd hsame hnext hany qs
        go_wp2
        go_roundw
        case rel => exact ⟨k + 1, HLT.out, by go_num, by rw [HAN.out], HST.out.1, HST.out.2.1, HST.out.2.2⟩
        case measure => have := HLT.out; simp [intOf]; omega
      · have e10 : (xk.kind == 10) = false := by rw [beq_eq_false_iff_ne]; exact hkd
        have HAN : Hid (anyW t (k + 1) = anyW t k) := by show _ = _; rw [hany, decide_eq_false hkd]; simp
        have HMX : Hid (mixW t (k + 1) = mixW t k) := hsame hkd
        clear hkd hsame hnext hany qs
        go_wp2
        go_roundw
        case rel => exact ⟨k + 1, HLT.out, by go_num, by rw [HAN.out], by rw [HMX.out]; exact HO.out, HG.out.1, HG.out.2⟩
        case measure => have := HLT.out; simp [intOf]; omega
    · obtain rfl : k = t.length := by omega
      have e1 : mixW t t.length = t.map swp14 := by simp [mixW]
      rw [e1] at O
      obtain ⟨a5, c5, hv5, C5, -, -, h05, -⟩ := cv_of_row O
      have hv6 : a4 = a5 ∧ c4 = c5 := by
        simp only [Value.slice.injEq] at hv5
        exact ⟨hv5.1, hv5.2.2⟩
      obtain ⟨rfl, rfl⟩ := hv6
      have HG : Hid (w.grownBy wr none) := G
      have HCU := HJU.out 1 wr a4 c4 C5 h05 G
      rw [HXY.out.2.2.1] at HCU
      have HCV : Hid (∀ W, wr.grownBy W none → Calls Tryz.prog 15 #[.slice a4 t.length c4, .agg LA, .int .i64 0, .slice a b.length ca] W fun e w' => e = .returned (.int .i64 y0) ∧ W.grownBy w' none) := fun W K => by
        have := HJU.out 0 W a4 c4 (C5.keptNone K) h05 (grown_trans HG.out K)
        rw [HXY.out.2.2.2] at this
        exact this
      clear hv5 O C5 G e1 hk hlt
      have HEN : Hid (anyW t t.length = false → x0 = y0) := HPN.out
      cases han : anyW t t.length with
      | false =>
        have hxy := HEN.out han
        subst hxy
        go_wp2_with (refine wpList_load_row rfl 23 (.tmp 4) rfl B rfl 23 LA (0, 0) _ VL Tryz.underlying23 rfl HLS ?_)
        refine HCU.mono ?_
        rintro e w6 ⟨rfl, K6⟩
        have V6 := VL.kept K6
        go_wp2_with (refine wpList_load_gr (by rfl) 23 (.tmp 4) rfl B rfl 23 LA _ V6 Tryz.underlying23 rfl HLS ?_)
        refine (HCV.out _ K6).mono ?_
        rintro e w7 ⟨rfl, K7⟩
        go_wp2_with fail
        refine (HAW.out _ (grown_trans HG.out (grown_trans K6 K7))).mono ?_
        rintro e w8 ⟨rfl, K8⟩
        go_wp2
        go_ret
        exact ⟨rfl, K8⟩
      | true =>
        go_wp2_with (refine wpList_load_row rfl 23 (.tmp 4) rfl B rfl 23 LA (0, 0) _ VL Tryz.underlying23 rfl HLS ?_)
        refine HCU.mono ?_
        rintro e w6 ⟨rfl, K6⟩
        have V6 := VL.kept K6
        go_wp2_with (refine wpList_load_gr (by rfl) 23 (.tmp 4) rfl B rfl 23 LA _ V6 Tryz.underlying23 rfl HLS ?_)
        refine (HCV.out _ K6).mono ?_
        rintro e w7 ⟨rfl, K7⟩
        go_wp2_with fail
        refine (HAW.out _ (grown_trans HG.out (grown_trans K6 K7))).mono ?_
        rintro e w8 ⟨rfl, K8⟩
        go_wp2
        go_ret
        exact ⟨rfl, K8⟩

set_option maxRecDepth 100000 in
theorem lifted (os : Os) (started : os.Started) (H : Type) (enc : TypeId × Value → H) :
    ReturnsInHanded {} Tryz.checked os 6 .any (Rows.meanWaysSpec.pre6 enc Tryz.prog Tryz.f6 Rows.meanWaysRow.domain false) (Rows.meanWaysSpec.post enc Tryz.prog Tryz.f6 false true false false) := by
  refine returnsInHanded_of_change_sized (C := Tryz.checked) own started (by kernel_rfl) Tryz.func6
    (ChangeSpec.witness6 (enc := enc) (C := Tryz.checked) false ⟨#[], #[.slice none 0 0, .agg #[.bool false, .bool false, .int .i64 0], .slice none 0 0], []⟩ 8 (by kernel_rfl) (by kernel_rfl) (by kernel_rfl) (by kernel_rfl)) ?_
  intro W base args ds gs before hval0 hW hcnd hsz0 _
  have hsz : (DataW.weightsEach Tryz.prog (Tryz.f6.params.toList ++ Rows.meanWaysSpec.plain.varTypes Tryz.prog) (ds ++ gs)).all (· ≤ reachBytes) = true := hsz0
  have hval : ∀ (j : Nat) t v, Tryz.f6.params[j]? = some t → args[j]? = some v → Value.okWide Tryz.prog W .any base t v := hval0
  have hW' := hW
  obtain ⟨p, q, hA0, hV, rfl, hfz, hnd⟩ := hW
  have hA : DataW.TrodAll enc Tryz.prog W 0 (fun _ => true) true Tryz.f6.params.toList args.toList ds p := hA0
  rw [Tryz.params6] at hA hval hsz
  obtain ⟨v0, vs0, d0, ds0, p0, q0, hargs, rfl, rfl, h0, r0⟩ := trodAll_cons hA
  obtain ⟨v1, vs1, d1, ds1, p1, q1, rfl, rfl, rfl, h1, r1⟩ := trodAll_cons r0
  obtain ⟨v2, vs2, d2, ds2, p2, q2, rfl, rfl, rfl, h2, r2⟩ := trodAll_cons r1
  obtain ⟨rfl, rfl, rfl⟩ := trodAll_nil r2
  obtain rfl : args = #[v0, v1, v2] := by cases args; simp_all
  obtain ⟨rfl, rfl⟩ := trodVars_none hV
  obtain ⟨a0, len0, cap0, rfl⟩ := okWide_slice Tryz.underlying38 (hval 0 38 v0 rfl rfl)
  have k0 := h0
  have lt0 : ∀ x ∈ p0, x.block < W.heap.size := by obtain ⟨m, hm⟩ := k0; exact DataW.trod_lt m _ _ _ hm
  obtain ⟨xs0, rfl, hcells0, hnil0, hcp0, hok0, hdat0⟩ := open_nodesR h0
  have k1 := h1
  have lt1 : ∀ x ∈ p1, x.block < W.heap.size := by obtain ⟨m, hm⟩ := k1; exact DataW.trod_lt m _ _ _ hm
  obtain ⟨x1, rfl⟩ := open_link h1
  obtain ⟨a2, len2, cap2, rfl⟩ := okWide_slice Tryz.underlying24 (hval 2 24 v2 rfl rfl)
  have k2 := h2
  have lt2 : ∀ x ∈ p2, x.block < W.heap.size := by obtain ⟨m, hm⟩ := k2; exact DataW.trod_lt m _ _ _ hm
  obtain ⟨xs2, rfl, hcells2, hnil2, hdat2⟩ := open_bytes Tryz.underlying24 Tryz.underlying5 (by kernel_rfl) h2
  have hlen0 : xs0.length * 72 ≤ 140737488351232 := by
    rcases hdat0 with ⟨_, rfl⟩ | ⟨elems, spare, rfl, hle⟩
    · simp
    · have := sized_slice hsz (j := 0) (t := 38) (e := 37) rfl rfl Tryz.underlying38
      rw [bytes37] at this
      unfold reachBytes at this
      omega
  have hlen2 : xs2.length * 1 ≤ 140737488351232 := by
    rcases hdat2 with ⟨_, rfl⟩ | ⟨elems, spare, rfl, hle⟩
    · simp
    · have := sized_slice hsz (j := 2) (t := 24) (e := 5) rfl rfl Tryz.underlying24
      rw [bytes5] at this
      unfold reachBytes at this
      omega
  clear hA0 hval0
  refine (walk a0 cap0 xs0 x1 a2 cap2 xs2 W hcells0 hnil0 hcp0.1 hcp0.2 (by omega) hok0 hcells2 hnil2 (by omega)).mono fun e W' ⟨he, hg⟩ => ?_
  subst he
  have bel : Below W.heap.size W W' := (Below.refl _ _).grown hg (Nat.le_refl _) (by simp)
  exact ⟨_, rfl, _, _, _, [], _, [], hW', trodAll_mk1 (shut_bool Tryz.underlying4 _), (trodAll_cons_mk (Below.trod laidOut (by kernel_rfl) (of_decide_eq_true (by kernel_rfl)) k0 bel lt0) (trodAll_cons_mk (Below.trod laidOut (by kernel_rfl) (of_decide_eq_true (by kernel_rfl)) k1 bel lt1) (trodAll_cons_mk (Below.trod laidOut (by kernel_rfl) (of_decide_eq_true (by kernel_rfl)) k2 bel lt2) trodAll_mk0))), rfl, bel.frame _, fun h => by cases h⟩

theorem over : Rows.MeanWaysSaid :=
  OpenClaim.holds_of_wide 6 Tryz.f6 rfl rfl rfl rfl rfl rfl rfl ⟨rfl, rfl, rfl, rfl, rfl⟩ rfl rfl rfl rfl rfl (by kernel_rfl) Tryz.func6 (by kernel_rfl)
    (of_decide_eq_true (by kernel_rfl)) (by unfold Func.isWrapper; first | (rw [if_pos (by decide +kernel)]; kernel_rfl) | (rw [if_neg (by decide +kernel)]; exact ⟨rfl, rfl⟩))
    (fun os started H enc _ => lifted os started H enc)

end meanWays

theorem meanWays_holds : Rows.MeanWaysSaid := meanWays.over
#print axioms meanWays_holds

end Go.Proofs.YtnaifabifemhiabGreat
