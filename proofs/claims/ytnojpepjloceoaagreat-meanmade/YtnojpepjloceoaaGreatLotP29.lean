/-
  Package mean as landed: minus, arithmetic, comparisons. Steps: a list written down, elements appended, a whole row read, in a statement whose order is open or not.
-/
import Derived.Test.YtnojpepjloceoaaGreatMnL
import Derived.Test.YtnojpepjloceoaaGreatLotP4
import Derived.Maps.AppendAt
import Derived.Deep.RegionLaw
import Derived.BigQuiet
namespace Go.Proofs.YtnojpepjloceoaaGreat
open Go.RowKit
set_option maxRecDepth 100000

set_option maxHeartbeats 1000000 in
theorem arith_zero (op : Int) (a : Nat) (hz : divG op = true) (w : World) :
    Calls Tryz.prog 121 #[.int .i64 op, .int .u32 (a : Int), .int .u32 0] w fun e w' => e = .returned (.tuple #[.int .u32 0, .bool false]) ∧ w = w' := by
  have C0 := divides_any op w
  rw [hz] at C0
  clear hz
  go_enter Tryz.func121, Tryz.ntmps121
  go_wp2_with fail
  refine C0.mono ?_
  rintro e w' ⟨rfl, rfl⟩
  go_wp2
  go_ret2
  exact ⟨rfl, rfl⟩

/-- A part boxed, and a result's cell. -/
theorem one_part (w : World) (q : Pm) : ∃ w1, (w.alloc (.cells (pmC q) 71)).alloc (.cells (pmC pm0) 71) = w1 ∧ QB w1 w.heap.size q ∧ QB w1 (w.heap.size + 1) pm0 ∧ w.grownBy w1 none := two_parts w q pm0

set_option maxHeartbeats 1000000 in
theorem mminus_any (q : Pm) (hq : q.val ≤ 4294967295) (w : World) : Calls Tryz.prog 110 #[pmA q] w fun e w' => e = .returned (pmA (minusM q)) ∧ w.grownBy w' none := by
  obtain ⟨w1, hw1, Q1, R1, G1⟩ := one_part w q
  have HB1 := box_part q
  have c0 := Q1.how
  have c1 := Q1.val
  have VQ := Q1.vat
  have VT := R1.vat
  have HPS := mpart_size
  have HSZ : Hid (w.heap.size ≤ w.heap.size + 1) := Nat.le_add_right _ _
  have CM : ∀ W : World, Calls Tryz.prog 122 #[.int .u32 (q.val : Int)] W fun e w' => e = .returned (.int .u32 (minusG q.val : Int)) ∧ W = w' := fun W => minus_any q.val hq W
  by_cases h : q.how = 1
  · have e1 : (q.how != 1) = false := by rw [h]; rfl
    have HE : Hid (minusM q = ⟨1, minusG q.val⟩) := by show _ = _; unfold minusM; rw [if_neg (by simpa using h)]
    rw [HE.out]
    have e2 : (w.alloc (.cells (pmC q) 71)).alloc (.cells #[.int .i64 0, .int .u32 0] 71) = w1 := hw1
    clear hw1 h HE Q1 R1 hq
    obtain ⟨Y, hY⟩ : ∃ Y, pmC q = Y := ⟨_, rfl⟩
    simp only [pmA] at HB1 ⊢
    rw [hY] at HB1 VQ e2 ⊢
    clear hY
    go_enter Tryz.func110, Tryz.ntmps110
    go_upto_region 1 with fail
    try rw [e2]
    clear e2 HB1
    generalize w.heap.size + 1 = T at *
    go_wp2_with fail
    refine (CM _).mono ?_
    rintro e w2 ⟨rfl, rfl⟩
    go_wp2_with fail
    refine (mknown_any _ _).mono ?_
    rintro e w3 ⟨rfl, K3⟩
    have VT3 := VT.kept K3
    go_wp2_with (refine wpList_store_row rfl 71 (.tmp 2) (.tmp 10) rfl T (pmC ⟨1, minusG q.val⟩) rfl rfl 71 _ VT3 (HPS _) rfl (part_all _) ?_)
    refine bodyPost_ret (results_cell_row rfl _ _ T 71 (pmC ⟨1, minusG q.val⟩) (0, 0) _ rfl (VT3.setRow _) Tryz.underlying71 rfl (HPS _)) rfl ?_
    exact ⟨rfl, put_part (grown_trans G1 K3) HSZ.out⟩
  · have e1 : (q.how != 1) = true := by rw [bne_iff_ne]; exact h
    have HE : Hid (minusM q = q) := by show _ = _; unfold minusM; rw [if_pos h]
    rw [HE.out]
    have e2 : (w.alloc (.cells (pmC q) 71)).alloc (.cells #[.int .i64 0, .int .u32 0] 71) = w1 := hw1
    have HPA := part_all q
    have HPQ := mpart_size q
    have HG := fun K => put_part (w := w) (W := w1) (B := w.heap.size + 1) (q := q) K HSZ.out
    have HTS : (pmC pm0).size = (pmC q).size := rfl
    clear hw1 h HE Q1 R1 hq CM
    obtain ⟨Y, hY⟩ : ∃ Y, pmC q = Y := ⟨_, rfl⟩
    simp only [pmA] at HB1 ⊢
    rw [hY] at HB1 VQ e2 HPA HPQ HG HTS ⊢
    clear hY
    go_enter Tryz.func110, Tryz.ntmps110
    go_upto_region 1 with fail
    try rw [e2]
    clear e2 HB1
    generalize w.heap.size + 1 = T at *
    go_wp2_with (first | (refine wpList_load_row rfl 71 (.tmp 1) rfl w.heap.size rfl 71 Y (0, 0) _ VQ Tryz.underlying71 rfl HPQ ?_) | (refine wpList_store_row rfl 71 (.tmp 2) (.tmp 6) rfl T Y rfl rfl 71 _ VT HPQ HTS HPA ?_))
    refine bodyPost_ret (results_cell_row rfl _ _ T 71 Y (0, 0) _ rfl (VT.setRow _) Tryz.underlying71 rfl HPQ) rfl ?_
    exact ⟨rfl, HG G1⟩

/-- Two parts boxed, and a result's cell. -/
theorem pair_parts (w : World) (q r : Pm) : ∃ w1, ((w.alloc (.cells (pmC q) 71)).alloc (.cells (pmC r) 71)).alloc (.cells (pmC pm0) 71) = w1 ∧ QB w1 w.heap.size q ∧ QB w1 (w.heap.size + 1) r ∧ QB w1 (w.heap.size + 2) pm0 ∧ w.grownBy w1 none := by
  refine ⟨_, rfl, ?_⟩
  obtain ⟨w0, h0, Q0, R0, G0⟩ := two_parts w q r
  have e0 : w0.heap.size = w.heap.size + 2 := by rw [← h0]; simp
  rw [h0]
  have K := World.grownBy_alloc w0 (.cells (pmC pm0) 71) none
  have C := QB.alloc w0 pm0
  rw [e0] at C
  exact ⟨Q0.kept K, R0.kept K, C, grown_trans G0 K⟩

set_option maxHeartbeats 2000000 in
theorem marith_any (op : Int) (q r : Pm) (ho : 1 ≤ op ∧ op ≤ 10) (hq : q.val ≤ 4294967295) (hr : r.val ≤ 4294967295) (w : World) : Calls Tryz.prog 112 #[.int .i64 op, pmA q, pmA r] w fun e w' => e = .returned (pmA (arithM op q r)) ∧ w.grownBy w' none := by
  obtain ⟨w1, hw1, Q1, R1, T1, G1⟩ := pair_parts w q r
  have HB1 := box_part q
  have HB2 := box_part r
  have HPS := mpart_size
  have HSZ : Hid (w.heap.size ≤ w.heap.size + 2) := Nat.le_add_right _ _
  have CJ : ∀ W : World, Calls Tryz.prog 133 #[pmA q, pmA r] W fun e w' => e = .returned (.int .i64 (jointM q r)) ∧ W.grownBy w' none := fun W => joint_any q r W
  have e2 : ((w.alloc (.cells (pmC q) 71)).alloc (.cells (pmC r) 71)).alloc (.cells #[.int .i64 0, .int .u32 0] 71) = w1 := hw1
  have HQ : Hid (∀ W, w1.grownBy W none → QB W w.heap.size q ∧ QB W (w.heap.size + 1) r ∧ QB W (w.heap.size + 2) pm0) := fun W K => ⟨Q1.kept K, R1.kept K, T1.kept K⟩
  have VQ := Q1.vat
  have VR := R1.vat
  have HPQ := mpart_size q
  have HPR := mpart_size r
  clear hw1 Q1 R1 T1
  have go : ∀ (E : Pm), arithM op q r = E → Calls Tryz.prog 112 #[.int .i64 op, pmA q, pmA r] w fun e w' => e = .returned (pmA E) ∧ w.grownBy w' none := by
    intro E hE
    obtain ⟨Y, hY⟩ : ∃ Y, pmC q = Y := ⟨_, rfl⟩
    obtain ⟨Z, hZ⟩ : ∃ Z, pmC r = Z := ⟨_, rfl⟩
    have HE : Hid (E = if jointM q r ≠ 1 then ⟨jointM q r, 0⟩ else if divG op = true ∧ r.val = 0 then ⟨2, 0⟩ else ⟨1, arithG op q.val r.val⟩) := hE.symm
    simp only [pmA] at HB1 HB2 CJ ⊢
    rw [hY] at HB1 VQ e2 HPQ CJ ⊢
    rw [hZ] at HB2 VR e2 HPR CJ ⊢
    clear hY hZ hE
    go_enter Tryz.func112, Tryz.ntmps112
    go_upto_region 1 with fail
    try rw [e2]
    clear e2 HB1 HB2
    rw [show w.heap.size + 1 + 1 = w.heap.size + 2 from rfl]
    generalize w.heap.size + 2 = T at *
    generalize w.heap.size + 1 = B2 at *
    obtain ⟨B1, hB1⟩ : ∃ B1, w.heap.size = B1 := ⟨_, rfl⟩
    rw [hB1] at VQ HQ ⊢
    clear hB1
    go_wp2_with (first | (refine wpList_load_row rfl 71 (.tmp 4) rfl B1 rfl 71 Y (0, 0) _ VQ Tryz.underlying71 rfl HPQ ?_) | (refine wpList_load_row rfl 71 (.tmp 5) rfl B2 rfl 71 Z (0, 0) _ VR Tryz.underlying71 rfl HPR ?_))
    refine (CJ _).mono ?_
    rintro e w2 ⟨rfl, K2⟩
    have HK2 : Hid (w1.grownBy w2 none) := K2
    by_cases hj : jointM q r = 1
    case neg =>
      have e1 : (jointM q r != 1) = true := by rw [bne_iff_ne]; exact hj
      have HF : Hid (E = ⟨jointM q r, 0⟩) := by show E = _; rw [HE.out, if_pos hj]
      have VT : VAt w2 T 71 (pmC pm0) := (HQ.out w2 K2).2.2
      clear hj HE VQ VR K2 CJ
      go_wp2_with (refine wpList_store_row rfl 71 (.tmp 6) (.tmp 16) rfl T (pmC ⟨jointM q r, 0⟩) rfl rfl 71 _ VT (HPS _) rfl (part_all _) ?_)
      refine bodyPost_ret (results_cell_row rfl _ _ T 71 (pmC ⟨jointM q r, 0⟩) (0, 0) _ rfl (VT.setRow _) Tryz.underlying71 rfl (HPS _)) rfl ?_
      exact ⟨by rw [HF.out], put_part (grown_trans G1 HK2.out) HSZ.out⟩
    case pos =>
      have c1 := (HQ.out w2 K2).1.val
      have c2 := (HQ.out w2 K2).2.1.val
      rw [hj]
      by_cases hd : divG op = true ∧ r.val = 0
      · have HF : Hid (E = ⟨2, 0⟩) := by show E = _; rw [HE.out, if_neg (by simpa using hj), if_pos hd]
        have VT : VAt w2 T 71 (pmC pm0) := (HQ.out w2 K2).2.2
        rw [hd.2] at c2
        have CA := fun W => arith_zero op q.val hd.1 W
        clear hj HE VQ VR K2 CJ hd
        go_wp2_with fail
        refine (CA _).mono ?_
        rintro e w3 ⟨rfl, rfl⟩
        go_wp2_with (refine wpList_store_row rfl 71 (.tmp 6) (.tmp 28) rfl T (pmC ⟨2, 0⟩) rfl rfl 71 _ VT (HPS _) rfl (part_all _) ?_)
        refine bodyPost_ret (results_cell_row rfl _ _ T 71 (pmC ⟨2, 0⟩) (0, 0) _ rfl (VT.setRow _) Tryz.underlying71 rfl (HPS _)) rfl ?_
        exact ⟨by rw [HF.out], put_part (grown_trans G1 HK2.out) HSZ.out⟩
      · have HF : Hid (E = ⟨1, arithG op q.val r.val⟩) := by show E = _; rw [HE.out, if_neg (by simpa using hj), if_neg hd]
        have CA := fun W => arith_any op q.val r.val hq hr ho (fun h h0 => hd ⟨h, h0⟩) W
        clear hj HE VQ VR K2 CJ hd hq hr ho
        go_wp2_with fail
        refine (CA _).mono ?_
        rintro e w3 ⟨rfl, rfl⟩
        go_wp2_with fail
        refine (mknown_any _ _).mono ?_
        rintro e w4 ⟨rfl, K4⟩
        have VT : VAt w4 T 71 (pmC pm0) := (HQ.out _ (grown_trans HK2.out K4)).2.2
        go_wp2_with (refine wpList_store_row rfl 71 (.tmp 6) (.tmp 30) rfl T (pmC ⟨1, arithG op q.val r.val⟩) rfl rfl 71 _ VT (HPS _) rfl (part_all _) ?_)
        refine bodyPost_ret (results_cell_row rfl _ _ T 71 (pmC ⟨1, arithG op q.val r.val⟩) (0, 0) _ rfl (VT.setRow _) Tryz.underlying71 rfl (HPS _)) rfl ?_
        exact ⟨by rw [HF.out], put_part (grown_trans (grown_trans G1 HK2.out) K4) HSZ.out⟩
  exact go _ rfl

set_option maxHeartbeats 2000000 in
theorem mrel_any (op : Int) (q r : Pm) (w : World) : Calls Tryz.prog 113 #[.int .i64 op, pmA q, pmA r] w fun e w' => e = .returned (.int .i64 (relM op q r)) ∧ w.grownBy w' none := by
  obtain ⟨w1, hw1, Q1, R1, G1⟩ := two_parts w q r
  have HB1 := box_part q
  have HB2 := box_part r
  have CJ : ∀ W : World, Calls Tryz.prog 133 #[pmA q, pmA r] W fun e w' => e = .returned (.int .i64 (jointM q r)) ∧ W.grownBy w' none := fun W => joint_any q r W
  have HQ : Hid (∀ W, w1.grownBy W none → QB W w.heap.size q ∧ QB W (w.heap.size + 1) r) := fun W K => ⟨Q1.kept K, R1.kept K⟩
  have VQ := Q1.vat
  have VR := R1.vat
  have HPQ := mpart_size q
  have HPR := mpart_size r
  clear Q1 R1
  obtain ⟨E, hE⟩ : ∃ E, relM op q r = E := ⟨_, rfl⟩
  have HE : Hid (E = if jointM q r ≠ 1 then jointM q r else jdg (cmpM op q.val r.val)) := hE.symm
  rw [hE]
  obtain ⟨Y, hY⟩ : ∃ Y, pmC q = Y := ⟨_, rfl⟩
  obtain ⟨Z, hZ⟩ : ∃ Z, pmC r = Z := ⟨_, rfl⟩
  simp only [pmA] at HB1 HB2 CJ ⊢
  rw [hY] at HB1 VQ hw1 HPQ CJ ⊢
  rw [hZ] at HB2 VR hw1 HPR CJ ⊢
  clear hY hZ hE
  go_enter Tryz.func113, Tryz.ntmps113
  go_upto_region 1 with fail
  try rw [hw1]
  clear hw1 HB1 HB2
  generalize w.heap.size + 1 = B2 at *
  obtain ⟨B1, hB1⟩ : ∃ B1, w.heap.size = B1 := ⟨_, rfl⟩
  rw [hB1] at VQ HQ ⊢
  clear hB1
  go_wp2_with (first | (refine wpList_load_row rfl 71 (.tmp 4) rfl B1 rfl 71 Y (0, 0) _ VQ Tryz.underlying71 rfl HPQ ?_) | (refine wpList_load_row rfl 71 (.tmp 5) rfl B2 rfl 71 Z (0, 0) _ VR Tryz.underlying71 rfl HPR ?_))
  refine (CJ _).mono ?_
  rintro e w2 ⟨rfl, K2⟩
  have HG : Hid (w.grownBy w2 none) := grown_trans G1 K2
  by_cases hj : jointM q r = 1
  case neg =>
    have e1 : (jointM q r != 1) = true := by rw [bne_iff_ne]; exact hj
    have HF : Hid (E = jointM q r) := by show E = _; rw [HE.out, if_pos hj]
    clear hj HE VQ VR K2 CJ
    go_wp2
    go_ret
    exact ⟨ret_int HF.out.symm, HG.out⟩
  case pos =>
    have c1 := (HQ.out w2 K2).1.val
    have c2 := (HQ.out w2 K2).2.val
    have HF : Hid (E = jdg (cmpM op q.val r.val)) := by show E = _; rw [HE.out, if_neg (by simpa using hj)]
    rw [hj]
    clear hj HE VQ VR K2 CJ
    go_wp2_with fail
    refine (compare_any _ _ _ _).mono ?_
    rintro e w3 ⟨rfl, rfl⟩
    go_wp2_with fail
    refine (judged_any _ _).mono ?_
    rintro e w4 ⟨rfl, rfl⟩
    go_wp2
    go_ret
    exact ⟨ret_int HF.out.symm, HG.out⟩
end Go.Proofs.YtnojpepjloceoaaGreat

namespace Go.Proofs.YtnojpepjloceoaaGreat
open Go.RowKit
set_option maxRecDepth 100000

/-- A list of one element written down in a statement whose order is open. -/
theorem step_lit {P : Program} {ops : Array Oper} {o : Oper} {a : Act} {w : World} {K : Act → World → Prop} {Q : Exit → Act → World → Prop} {E : Prop}
    (hgd : o.guard = none) (t : TypeId) (n : Nat) (ps : Array (Nat × Operand)) (ho : o.op = .buildSlice t n ps) (qs : Array (Nat × Value)) (hq : ps.map (fun (i, x) => (i, a.eval x)) = qs) (cs : List Value) (e : TypeId)
    (hr : ∀ W : World, (Instr.buildSlice t n qs).run P W = .ok (.slice (some ⟨W.heap.size, 0, none⟩) n n) (W.alloc (.cells cs.toArray e)))
    (hK : ∀ ad w', CV w' (some ad) cs → w.grownBy w' none → K (a.put o.dst (.slice (some ad) n n)) w') :
    if Region.wanted o (yielded ops a.tmps) = true then Oper.wp P o a w K Q else E := by
  have hw : Region.wanted o (yielded ops a.tmps) = true := by simp [Region.wanted, hgd]
  rw [if_pos hw]
  unfold Oper.wp execOp
  have hr' := hr w
  rw [← hq] at hr'
  simp only [ho, Sem.run_bind, Sem.run_pure, Result.andThen_ok, hr']
  exact hK _ _ (cv_lit w e cs) (World.grownBy_alloc _ _ _)

/-- Elements appended in a statement whose order is open, and where they lie. -/
theorem step_append_own {P : Program} {ops : Array Oper} {o : Oper} {a : Act} {w : World} {K : Act → World → Prop} {Q : Exit → Act → World → Prop} {E : Prop}
    (hgd : o.guard = none) (s x : Operand) (t : TypeId) (ho : o.op = .call { callee := .builtin .append, args := #[s, x], argTypes := #[t, t] })
    (e : TypeId) (i : TypeInfo) (z : Value) (size bytes : Nat) (ht : P.underlying t = some (.slice e)) (hi : P.info? e = some i) (hz : i.zero = some z) (hsize : i.size = size) (hby : i.bytes = bytes) (hzs : z.cells.size = size) (hsz : 0 < size)
    (base : Nat) (v : Value) (n : Nat) (vs : List Value) (hs : a.eval s = v) (hown : w.ownsRow base e size v n vs)
    (ad : Addr) (m c : Nat) (us : List Value) (hx : a.eval x = .slice (some ad) m c) (hl : us.length = m * size) (hus : CV w (some ad) us) (h1 : ∀ u ∈ us, u.oneCell' = true)
    (h63 : n + m ≤ maxLen) (hbytes : (n + m) * bytes ≤ 140737488355328) (hbase : base ≤ w.heap.size)
    (hK : ∀ v' w', w'.ownsRow base e size v' (n + m) (vs ++ us) → w.grownBy w' v.ownBlock → (v'.ownBlock = v.ownBlock ∨ v'.ownBlock = some w.heap.size) → K (a.put o.dst v') w') :
    if Region.wanted o (yielded ops a.tmps) = true then Oper.wp P o a w K Q else E := by
  have hw : Region.wanted o (yielded ops a.tmps) = true := by simp [Region.wanted, hgd]
  rw [if_pos hw]
  obtain ⟨v', w', hr, h2, h3, _, h5⟩ := run_append_own_at (P := P) w base t o.type e i z size bytes ht hi hz hsize hby hzs hsz v n vs hown ad m c us hl (by
    intro j u hj
    obtain ⟨hlt, e⟩ := List.getElem?_eq_some_iff.1 hj
    rw [hus.2 ad rfl j hlt, e]) h1 h63 hbytes hbase
  unfold Oper.wp execOp
  simp only [ho, resolve, invoke, builtin, Sem.run_bind, Sem.run_pure, Result.andThen_ok, List.map_toArray, List.map_cons, List.map_nil, hs, hx, hr]
  exact hK v' w' h2 h3 h5

/-- A whole row read in a statement whose order is open. -/
theorem step_load_row {P : Program} {ops : Array Oper} {o : Oper} {a : Act} {w : World} {K : Act → World → Prop} {Q : Exit → Act → World → Prop} {E : Prop}
    (hgd : o.guard = none) (ty : TypeId) (x : Operand) (ho : o.op = .load ty x) (g : Nat) (hx : a.eval x = .pointer (some ⟨g, 0, none⟩)) (t : TypeId) (cs : Array Value) (d : TypeDesc) (A : VAt w g t cs)
    (hu : P.underlying ty = some d) (hd : (match d with | .struct _ | .array _ _ => true | _ => false) = true) (hi : (P.info? ty).map (·.size) = some cs.size) (hK : K (a.put o.dst (.agg cs)) w) :
    if Region.wanted o (yielded ops a.tmps) = true then Oper.wp P o a w K Q else E := by
  have hw : Region.wanted o (yielded ops a.tmps) = true := by simp [Region.wanted, hgd]
  rw [if_pos hw]
  unfold Oper.wp execOp
  simp only [ho, hx, Instr.loadAt, Instr.sureAddr, Sem.run_bind, Sem.run_pure, Result.andThen_ok, run_loadVar_row w g t ty cs (0, 0) d A hu hd hi]
  exact hK

theorem own_sl {w : World} {base e size n : Nat} {v : Value} {vs : List Value} (h : w.ownsRow base e size v n vs) : ∃ a l k, v = .slice a l k := by
  rcases h.2 with ⟨rfl, -⟩ | ⟨g, cap, cur, rfl, -⟩
  · exact ⟨_, _, _, rfl⟩
  · exact ⟨_, _, _, rfl⟩

theorem wpList_lit {P : Program} {ops : Array Oper} {rest : List Oper} {op : Oper} {a : Act} {w : World} {Q : Exit → Act → World → Prop} (hw : Region.wanted op (yielded ops a.tmps) = true)
    (t : TypeId) (n : Nat) (ps : Array (Nat × Operand)) (ho : op.op = .buildSlice t n ps) (qs : Array (Nat × Value)) (hq : ps.map (fun (i, x) => (i, a.eval x)) = qs) (cs : List Value) (e : TypeId)
    (hr : ∀ W : World, (Instr.buildSlice t n qs).run P W = .ok (.slice (some ⟨W.heap.size, 0, none⟩) n n) (W.alloc (.cells cs.toArray e)))
    (h : ∀ V w', CV w' (some ⟨V, 0, none⟩) cs → w.grownBy w' none → wpList P ops Q rest (a.put op.dst (.slice (some ⟨V, 0, none⟩) n n)) w') : wpList P ops Q (op :: rest) a w :=
  BigFrame.wpList_want hw fun _ hK => by
    unfold Oper.wp execOp
    have hr' := hr w
    rw [← hq] at hr'
    simp only [ho, Sem.run_bind, Sem.run_pure, Result.andThen_ok, hr']
    exact hK _ _ (h _ _ (cv_lit w e cs) (World.grownBy_alloc _ _ _))

/-- A struct put together. -/
theorem wpList_bld {P : Program} {ops : Array Oper} {rest : List Oper} {op : Oper} {a : Act} {w : World} {Q : Exit → Act → World → Prop} (hgd : op.guard = none)
    (t : TypeId) (ps : Array (Nat × Operand)) (ho : op.op = .build t ps) (qs : Array (Nat × Value)) (hq : ps.map (fun (i, x) => (i, a.eval x)) = qs) (v : Value)
    (hr : ∀ W : World, (Instr.build t qs).run P W = .ok v W)
    (h : wpList P ops Q rest (a.put op.dst v) w) : wpList P ops Q (op :: rest) a w :=
  wpList_plain hgd fun _ hK => by
    unfold Oper.wp execOp
    have hr' := hr w
    rw [← hq] at hr'
    simp only [ho, Sem.run_bind, Sem.run_pure, Result.andThen_ok, hr']
    exact hK _ _ h

/-- The beginning of an owned row is one. -/
theorem owns_take {w : World} {base e size g n cap m : Nat} {vs : List Value} (h : w.ownsRow base e size (.slice (some ⟨g, 0, none⟩) n cap) n vs) (hm : m ≤ n) : w.ownsRow base e size (.slice (some ⟨g, 0, none⟩) m cap) m (vs.take (m * size)) := by
  have h0 := h.1
  rcases h.2 with ⟨h, _⟩ | ⟨g', cap', cur, hv, hb, hg, hc, hmx, hs, ht⟩
  · cases h
  · simp only [Value.slice.injEq, Option.some.injEq, Addr.mk.injEq] at hv
    obtain ⟨⟨rfl, _⟩, _, rfl⟩ := hv
    have hle : m * size ≤ n * size := Nat.mul_le_mul_right _ hm
    refine ⟨by rw [List.length_take, h0]; omega, .inr ⟨g, cap, cur, rfl, hb, hg, by omega, hmx, hs, ?_⟩⟩
    rw [← ht, List.take_take, Nat.min_eq_left hle]

theorem own_kind {w : World} {base e size n x : Nat} {v : Value} {vs : List Value} (h : w.ownsRow base e size v n vs) (hx : v.ownBlock = some x) : ∃ cur, w.heap[x]? = some (.cells cur e (0, 0)) := by
  rcases h.2 with ⟨rfl, -⟩ | ⟨g, cap, cur, rfl, -, hg, -⟩
  · cases hx
  · cases hx
    exact ⟨cur, hg⟩
theorem own_other {w : World} {base e size n x base' e' size' n' : Nat} {v v' : Value} {vs vs' : List Value} (h : w.ownsRow base e size v n vs) (h' : w.ownsRow base' e' size' v' n' vs') (he : e ≠ e') (hx : v.ownBlock = some x) : ¬ v'.ownBlock = some x := fun hy => by
  obtain ⟨c1, k1⟩ := own_kind h hx
  obtain ⟨c2, k2⟩ := own_kind h' hy
  rw [k1] at k2
  injection k2 with k2
  injection k2 with _ k3
  exact he k3
theorem own_vat {w : World} {base e size n g t : Nat} {v : Value} {vs : List Value} {cs : Array Value} (h : w.ownsRow base e size v n vs) (A : VAt w g t cs) (he : e ≠ t) : ¬ v.ownBlock = some g := fun hx => by
  obtain ⟨c1, k1⟩ := own_kind h hx
  unfold VAt at A
  rw [k1] at A
  injection A with A
  injection A with _ A
  exact he A

theorem own_kept {w w' : World} {base e size n g : Nat} {v : Value} {vs : List Value} (h : w.ownsRow base e size v n vs) (K : w.grownBy w' (some g)) (hne : ¬ v.ownBlock = some g) : w'.ownsRow base e size v n vs := h.kept K (.inr hne)


/-- 'append(dst, src...)': what was there still stands where it stood. -/
theorem wpList_append_keep {P : Program} {w : World} {ops : Array Oper} {rest : List Oper} {o : Oper} {a : Act} {Q : Exit → Act → World → Prop} (hgd : o.guard = none) (s x : Operand) (t : TypeId)
    (ho : o.op = .call { callee := .builtin .append, args := #[s, x], argTypes := #[t, t] })
    (e : TypeId) (i : TypeInfo) (z : Value) (size bytes : Nat) (ht : P.underlying t = some (.slice e)) (hi : P.info? e = some i) (hz : i.zero = some z) (hsize : i.size = size) (hby : i.bytes = bytes) (hzs : z.cells.size = size) (hsz : 0 < size)
    (base : Nat) (v : Value) (n : Nat) (vs : List Value) (hs : a.eval s = v) (hown : w.ownsRow base e size v n vs)
    (ad : Addr) (m c : Nat) (us : List Value) (hx : a.eval x = .slice (some ad) m c) (hl : us.length = m * size) (hus : CV w (some ad) us) (h1 : ∀ u ∈ us, u.oneCell' = true)
    (h63 : n + m ≤ maxLen) (hbytes : (n + m) * bytes ≤ 140737488355328) (hbase : base ≤ w.heap.size)
    (h : ∀ v' w', w'.ownsRow base e size v' (n + m) (vs ++ us) → w'.ownsRow base e size v n vs → w.grownBy w' v.ownBlock → wpList P ops Q rest (a.put o.dst v') w') : wpList P ops Q (o :: rest) a w := by
  have hcells : ∀ j u, us[j]? = some u → w.cell? (ad.add j) = some u := by
    intro j u hj
    obtain ⟨hlt, e⟩ := List.getElem?_eq_some_iff.1 hj
    rw [hus.2 ad rfl j hlt, e]
  have hl0 := hown.1
  rcases hown.2 with ⟨rfl, rfl⟩ | ⟨g, cap, cur, rfl, hb, hg, hc, hmm, hss, htt⟩
  · refine wpList_append_own w hgd s x t ho base e i z size bytes ht hi hz hsize hby hzs hsz _ 0 vs hs hown ad m c us hx hl hcells h1 h63 hbytes hbase fun v' w' k1 k2 _ => h v' w' k1 ?_ k2
    have : vs = [] := List.eq_nil_of_length_eq_zero (by simpa using hl0)
    subst this
    exact World.ownsRow_nil _ _ _ _
  · by_cases hr : n + m ≤ cap
    · refine wpList_append_fits w hgd s x t ho base e i size ht hi hsize g n cap vs hs hown ad m c us hx hl hcells h1 hr fun w' k1 k2 => h _ w' k1 ?_ k2
      have := owns_take k1 (m := n) (by omega)
      rw [List.take_left' hl0] at this
      exact this
    · refine wpList_append_grows w hgd s x t ho e i z size bytes ht hi hz hsize hby hzs hsz (some ⟨g, 0, none⟩) n cap vs hs (by simp) hl0 ?_ ad m c us hx hl hcells h1 (by omega) h63 hbytes fun v' w' k1 k2 => h v' w' (owns_mono k1 hbase) (owns_keptNone hown k2) (grown_mono k2)
      intro b hb' j u hj
      obtain rfl := Option.some.inj hb'
      exact hown.cells (g := g) rfl j u hj

end Go.Proofs.YtnojpepjloceoaaGreat
