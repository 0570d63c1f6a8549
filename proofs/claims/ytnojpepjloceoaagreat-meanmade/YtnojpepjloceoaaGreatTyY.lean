/-
  Package types as landed: the fault of a node that has found its parts.
-/
import Derived.Test.YtnojpepjloceoaaGreatLotP34
import Derived.Laws.StructEq
namespace Go.Proofs.YtnojpepjloceoaaGreat
open Go.RowKit
set_option maxRecDepth 100000

theorem eqF_cons {P : Program} {d : Nat} {xs ys : Array Value} {w : World} {f : Field} {fs : List Field} {a b : Value} {r : Bool} (hn : f.name ≠ "_") (h1 : (part f.type xs f.offset).run P w = .ok a w) (h2 : (part f.type ys f.offset).run P w = .ok b w) (h3 : (Op.equalIn d f.type a b).run P w = .ok r w) :
    (Op.eqFields d xs ys (f :: fs)).run P w = if r = true then (Op.eqFields d xs ys fs).run P w else .ok false w := by
  simp only [Op.eqFields]
  rw [if_pos hn]
  simp only [Sem.run_bind, h1, h2, h3, Result.andThen_ok]
  cases r <;> rfl
theorem node_fs : (Tryz.prog.fieldsOf 37).toList = [{ name := "Kind", type := 3, offset := 0, embedded := false, tag := "", pkgPath := "", byteOffset := 0 }, { name := "Op", type := 3, offset := 1, embedded := false, tag := "", pkgPath := "", byteOffset := 8 }, { name := "N", type := 24, offset := 2, embedded := false, tag := "", pkgPath := "", byteOffset := 16 }, { name := "M", type := 24, offset := 3, embedded := false, tag := "", pkgPath := "", byteOffset := 20 }, { name := "Size", type := 3, offset := 4, embedded := false, tag := "", pkgPath := "", byteOffset := 24 }, { name := "Of", type := 3, offset := 5, embedded := false, tag := "", pkgPath := "", byteOffset := 32 }, { name := "Side", type := 3, offset := 6, embedded := false, tag := "", pkgPath := "", byteOffset := 40 }, { name := "Addr", type := 25, offset := 7, embedded := false, tag := "", pkgPath := "", byteOffset := 48 }, { name := "Bits", type := 3, offset := 23, embedded := false, tag := "", pkgPath := "", byteOffset := 64 }] := by kernel_rfl
theorem eq_int64 (d : Nat) (a b : Int) (w : World) : (Op.equalIn (d + 1) 3 (.int .i64 a) (.int .i64 b)).run Tryz.prog w = .ok (decide (a = b)) w := by
  rw [run_equalIn_int w d _ _ .i64 _ _ Tryz.underlying3]
  by_cases h : a = b <;> simp [h]
theorem eq_nat32 (d : Nat) (a b : Nat) (w : World) : (Op.equalIn (d + 1) 24 (.int .u32 (a : Int)) (.int .u32 (b : Int))).run Tryz.prog w = .ok (decide (a = b)) w := by
  rw [run_equalIn_int w d _ _ .u32 _ _ Tryz.underlying24]
  by_cases h : a = b
  · simp [h]
  · have : ¬ (a : Int) = (b : Int) := by omega
    rw [decide_eq_false h, show ((a : Int) == (b : Int)) = false by simpa using this]
theorem eq_arr2 {P : Program} {t e : TypeId} {n : Nat} {i : TypeInfo} (d : Nat) (hu : P.underlying t = some (.array n e)) (hi : P.info? e = some i) (he : P.underlying e = some (.int .u8)) (hk : P.plainKey e = true) (hc : P.cellsOf e = 1) (xs ys : List UInt8) (hx : xs.length = n) (hy : ys.length = n) (w : World) :
    (Op.equalIn (d + 2) t (.agg (xs.map bv).toArray) (.agg (ys.map bv).toArray)).run P w = .ok (decide (xs = ys)) w := by
  rw [run_equalIn_array w (d + 1) _ _ hu hi, hc, List.range_eq_range', items_bytes d e he hk xs ys w (by omega) n 0 (by omega)]
  rfl
set_option maxHeartbeats 1000000 in
theorem ng_cmp (x y : Ng) (w : World) : (Op.equalIn 10000 37 (.agg x.cells.toArray) (.agg y.cells.toArray)).run Tryz.prog w = .ok (sameG x y) w := by
  obtain ⟨i0, hi, -⟩ := info_parts info5
  rw [show (10000 : Nat) = 9999 + 1 from rfl, run_equalIn_struct w 9999 _ _ _ (by kernel_rfl) (by kernel_rfl), node_fs]
  rw [eqF_cons (a := .int .i64 x.kind) (b := .int .i64 y.kind) (by decide) (by kernel_rfl) (by kernel_rfl) (eq_int64 9998 _ _ w)]
  rw [eqF_cons (a := .int .i64 x.op) (b := .int .i64 y.op) (by decide) (by kernel_rfl) (by kernel_rfl) (eq_int64 9998 _ _ w)]
  rw [eqF_cons (a := .int .u32 (x.n : Int)) (b := .int .u32 (y.n : Int)) (by decide) (by kernel_rfl) (by kernel_rfl) (eq_nat32 9998 _ _ w)]
  rw [eqF_cons (a := .int .u32 (x.m : Int)) (b := .int .u32 (y.m : Int)) (by decide) (by kernel_rfl) (by kernel_rfl) (eq_nat32 9998 _ _ w)]
  rw [eqF_cons (a := .int .i64 x.size) (b := .int .i64 y.size) (by decide) (by kernel_rfl) (by kernel_rfl) (eq_int64 9998 _ _ w)]
  rw [eqF_cons (a := .int .i64 x.of) (b := .int .i64 y.of) (by decide) (by kernel_rfl) (by kernel_rfl) (eq_int64 9998 _ _ w)]
  rw [eqF_cons (a := .int .i64 x.side) (b := .int .i64 y.side) (by decide) (by kernel_rfl) (by kernel_rfl) (eq_int64 9998 _ _ w)]
  rw [eqF_cons (a := .agg ((adgs x).map bv).toArray) (b := .agg ((adgs y).map bv).toArray) (by decide) (by kernel_rfl) (by kernel_rfl) (eq_arr2 9997 Tryz.underlying25 hi Tryz.underlying5 (by kernel_rfl) (by kernel_rfl) (adgs x) (adgs y) rfl rfl w)]
  rw [eqF_cons (a := .int .i64 x.bits) (b := .int .i64 y.bits) (by decide) (by kernel_rfl) (by kernel_rfl) (eq_int64 9998 _ _ w)]
  have hn : (Op.eqFields 9999 x.cells.toArray y.cells.toArray []).run Tryz.prog w = .ok true w := rfl
  rw [hn]
  unfold sameG
  generalize decide (x.kind = y.kind) = b0
  generalize decide (x.op = y.op) = b1
  generalize decide (x.n = y.n) = b2
  generalize decide (x.m = y.m) = b3
  generalize decide (x.size = y.size) = b4
  generalize decide (x.of = y.of) = b5
  generalize decide (x.side = y.side) = b6
  generalize decide (adgs x = adgs y) = b7
  generalize decide (x.bits = y.bits) = b8
  cases b0 <;> cases b1 <;> cases b2 <;> cases b3 <;> cases b4 <;> cases b5 <;> cases b6 <;> cases b7 <;> cases b8 <;> rfl

set_option maxHeartbeats 400000 in
theorem lacking_any (b : Bool) (w : World) : Calls Tryz.prog 128 #[.int .i64 (if b = true then 0 else 1)] w fun e w' => e = .returned (.int .i64 (if b = true then 121 else 122)) ∧ w = w' := by
  cases b with
  | true =>
    go_enter Tryz.func128, Tryz.ntmps128
    go_wp2
    go_ret
    exact ⟨rfl, rfl⟩
  | false =>
    go_enter Tryz.func128, Tryz.ntmps128
    go_wp2
    go_ret
    exact ⟨rfl, rfl⟩

/-- Two boxes: a rule and a node. -/
theorem box_rule (cs : List Value) (h : cs.length = 7) (W : World) (hr : ∀ a b c d e f g : Value, (Instr.box 120 (.agg #[a, b, c, d, e, f, g])).run Tryz.prog W = .ok (.pointer (some ⟨W.heap.size, 0, none⟩)) (W.alloc (.cells #[a, b, c, d, e, f, g] 120))) : (Instr.box 120 (.agg cs.toArray)).run Tryz.prog W = .ok (.pointer (some ⟨W.heap.size, 0, none⟩)) (W.alloc (.cells cs.toArray 120)) := by
  match cs, h with
  | [a, b, c, d, e, f, g], _ => exact hr a b c d e f g
theorem box_ruleC (R : RT) (k : Nat) (W : World) : (Instr.box 120 (.agg (ruleC R k).toArray)).run Tryz.prog W = .ok (.pointer (some ⟨W.heap.size, 0, none⟩)) (W.alloc (.cells (ruleC R k).toArray 120)) := by kernel_rfl
theorem two_boxes12 (w : World) (cs xs : Array Value) : VAt ((w.alloc (.cells cs 120)).alloc (.cells xs 37)) w.heap.size 120 cs ∧ VAt ((w.alloc (.cells cs 120)).alloc (.cells xs 37)) (w.heap.size + 1) 37 xs ∧ w.grownBy ((w.alloc (.cells cs 120)).alloc (.cells xs 37)) none := by
  have K := World.grownBy_alloc (w.alloc (.cells cs 120)) (.cells xs 37) none
  have h := VAt.alloc (w.alloc (.cells cs 120)) 37 xs
  rw [show (w.alloc (.cells cs 120)).heap.size = w.heap.size + 1 by simp] at h
  exact ⟨(VAt.alloc w _ cs).kept K, h, grown_trans (World.grownBy_alloc w _ none) K⟩

set_option maxHeartbeats 1000000 in
theorem divZero_any (x : Ng) (ps : List Pt) (ao : Option Addr) (cap : Nat) (w : World) (C : CV w ao (flat3 ptC ps)) (ha : arG x.kind = some ps.length) : Calls Tryz.prog 129 #[.agg x.cells.toArray, .slice ao ps.length cap] w fun e w' => e = .returned (.bool (zeroE x ps)) ∧ w.grownBy w' none := by
  obtain ⟨E, hE⟩ : ∃ E, zeroE x ps = E := ⟨_, rfl⟩
  rw [hE]
  have HE : Hid (zeroE x ps = E) := hE
  clear hE
  have HBX := box_ng x
  have h1 := NB.alloc w x
  have G1 := World.grownBy_alloc w (.cells x.cells.toArray 37) none
  have c0 := h1.kind
  have c1 := h1.op
  have HC : Hid (CV (w.alloc (.cells x.cells.toArray 37)) ao (flat3 ptC ps)) := C.keptNone G1
  obtain ⟨X, hX⟩ : ∃ X, x.cells.toArray = X := ⟨_, rfl⟩
  rw [hX] at HBX c0 c1 G1 HC ⊢
  have CD := divides_any x.op
  clear h1 C
  by_cases q : x.kind = 4
  · have e1 : (x.kind != 4) = false := by simpa using q
    have hl : ps.length = 2 := by rw [q] at ha; exact (Option.some.inj ha).symm
    have HQ : Hid (x.kind = 4) := q
    clear q ha
    match ps, hl with
    | [p0, p1], _ =>
    rw [show [p0, p1].length = 2 from rfl]
    cases hd : divG x.op with
    | false =>
      have HD : Hid (divG x.op = false) := hd
      rw [hd] at CD
      clear hd
      go_enter Tryz.func129, Tryz.ntmps129
      go_upto_region 1 with fail
      generalize w.alloc (.cells X 37) = w1 at *
      generalize w.heap.size = B at c0 c1 ⊢
      clear HBX hX
      go_wp2_with fail
      refine (CD _).mono ?_
      rintro e w' ⟨rfl, rfl⟩
      go_wp2
      go_ret
      exact ⟨ret_bool (by rw [← HE.out]; unfold zeroE; rw [HD.out, Bool.and_false]; rfl), G1⟩
    | true =>
      have HD : Hid (divG x.op = true) := hd
      rw [hd] at CD
      clear hd
      obtain ⟨b, of, rfl, hc⟩ := HC.out.pts ptC_len (k := 1) (by simp)
      have HR : Hid (World.rangeAt _ b (of + 1 * 3) (ptC p1)) := hc 1 (by simp)
      have HSZ : Hid ((Tryz.prog.info? 96).map (·.size) = some (ptC p1).length ∧ (Tryz.prog.info? 96).map (·.size) = some (ptC p1).toArray.size ∧ 3 = (ptC p1).toArray.size ∧ (ptC p1).toArray.all (·.oneCell') = true) := ⟨by kernel_rfl, by kernel_rfl, rfl, by rw [List.all_toArray, List.all_eq_true]; exact ptC_one p1⟩
      have HP : Hid ((ptC p1).toArray[1]? = some (.bool p1.fixed) ∧ (ptC p1).toArray[2]? = some (.int .u32 (p1.val : Int))) := ⟨rfl, rfl⟩
      rw [Nat.one_mul] at HR
      clear hc HC
      go_enter Tryz.func129, Tryz.ntmps129
      go_upto_region 1 with fail
      generalize w.alloc (.cells X 37) = w1 at *
      generalize w.heap.size = B at c0 c1 ⊢
      clear HBX hX
      go_wp2_with fail
      refine (CD _).mono ?_
      rintro e w' ⟨rfl, rfl⟩
      have K2 := World.grownBy_alloc w1 (.cells (ptC p1).toArray 96) none
      have V2 := VAt.alloc w1 96 (ptC p1).toArray
      generalize ptC p1 = pc at *
      clear CD
      go_upto_region 4 with (first | refine wpList_load_mid rfl 96 (.tmp 16) rfl b (of + 3) (by simp [Act.eval]) pc _ HR.out Tryz.underlying96 rfl HSZ.out.1 ?_ | refine wpList_store_row rfl 96 (.tmp 5) (.tmp 17) rfl w1.heap.size pc.toArray rfl rfl 96 _ (heap_alloc_new w1 _) HSZ.out.2.1 HSZ.out.2.2.1 HSZ.out.2.2.2 ?_)
      rw [World.setRow_alloc_new]
      have G2 := grown_trans G1 K2
      generalize w1.alloc (.cells pc.toArray 96) = w2 at *
      generalize w1.heap.size = D at *
      have d1 : w2.cell? ⟨D, 1, none⟩ = some (.bool p1.fixed) := by rw [V2.cell 1]; exact HP.out.1
      have d2 : w2.cell? ⟨D, 2, none⟩ = some (.int .u32 (p1.val : Int)) := by rw [V2.cell 2]; exact HP.out.2
      clear HR HP HSZ V2 G1 K2 c0 c1
      cases hf : p1.fixed with
      | false =>
        rw [hf] at d1
        have HF : Hid (p1.fixed = false) := hf
        clear hf
        go_wp2
        go_ret
        exact ⟨ret_bool (by rw [← HE.out]; unfold zeroE; simp [HF.out]), G2⟩
      | true =>
        rw [hf] at d1
        have HF : Hid (p1.fixed = true) := hf
        clear hf
        by_cases hv : p1.val = 0
        · have e5 : ((p1.val : Int) == 0) = true := by rw [hv]; rfl
          have HV : Hid (p1.val = 0) := hv
          clear hv
          generalize (p1.val : Int) = vi at *
          go_wp2
          go_ret
          exact ⟨ret_bool (by rw [← HE.out]; unfold zeroE; simp [HF.out, HV.out, HQ.out, HD.out]), G2⟩
        · have e5 : ((p1.val : Int) == 0) = false := by simpa using hv
          have HV : Hid (¬ p1.val = 0) := hv
          clear hv
          generalize (p1.val : Int) = vi at *
          go_wp2
          go_ret
          exact ⟨ret_bool (by rw [← HE.out]; unfold zeroE; simp [HF.out, HV.out]), G2⟩
  · have e1 : (x.kind != 4) = true := by simpa using q
    have HQ : Hid (¬ x.kind = 4) := q
    clear q ha CD
    generalize ps.length = pl at *
    go_enter Tryz.func129, Tryz.ntmps129
    go_upto_region 1 with fail
    generalize w.alloc (.cells X 37) = w1 at *
    generalize w.heap.size = B at c0 c1 ⊢
    clear HBX hX
    go_wp2
    go_ret
    exact ⟨ret_bool (by rw [← HE.out]; unfold zeroE; rw [decide_eq_false HQ.out]; rfl), G1⟩

end Go.Proofs.YtnojpepjloceoaaGreat
