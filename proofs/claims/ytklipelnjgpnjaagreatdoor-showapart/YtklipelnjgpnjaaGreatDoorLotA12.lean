import Derived.Test.YtklipelnjgpnjaaGreatDoorAb
import Derived.Test.YtklipelnjgpnjaaGreatDoorLotA11
import Derived.Test.YtklipelnjgpnjaaGreatDoorLotA9
import Derived.Laws.StructEq
namespace Go.Proofs.YtklipelnjgpnjaaGreatDoor
open Go.RowKit
set_option maxRecDepth 100000
theorem ng_len (x : Ng) : (Tryz.prog.info? 43).map (·.size) = some x.cells.length := size43
def heavyR (o : Option Nat) : Value := match o with
 | some k => .tuple #[.int .i64 (k : Int), .bool true]
 | none => .tuple #[.int .i64 0, .bool false]
set_option maxHeartbeats 2000000 in
theorem heavy_any (ao : Option Addr) (cap : Nat) (t : List Ng) (R : RT) (w : World) (T : TabT R w) (C : CV w ao (flatG t)) (hm : t.length * 72 ≤ 140737488355328) : Calls Tryz.prog 30 #[.slice (some ⟨R.g, 0, none⟩) 17 17, .slice ao t.length cap] w fun e w' => e = .returned (heavyR (heavyG 0 0 t)) ∧ w.grownBy w' none := by
 have HC : Hid (CV w ao (flatG t)) := C
 have HT : Hid (TabT R w) := T
 clear C T
 obtain ⟨E, hE⟩ : ∃ E, heavyR (heavyG 0 0 t) = E := ⟨_, rfl⟩
 rw [hE]
 have HE : Hid (heavyR (heavyG 0 0 t) = E) := hE
 clear hE
 go_enter Tryz.func30, Tryz.ntmps30
 go_wp2
 go_loopw [6, 11] (fun s i wr => ∃ k q : Nat, k ≤ t.length ∧ q ≤ 3000 ∧ s = .int .i64 (q : Int) ∧ i = .int .i64 k ∧ Hid (heavyG 0 0 t = heavyG q k (t.drop k)) ∧ w.grownBy wr none) (fun _ i _ => t.length - (intOf i).toNat)
 case atStart => exact ⟨0, 0, Nat.zero_le _, Nat.zero_le _, rfl, rfl, rfl, World.grownBy.refl _ _⟩
 case round =>
  obtain ⟨k, q, hk, hq, rfl, rfl, HH, G⟩ := hrel
  by_cases hlt : k < t.length
  ·obtain ⟨b, o, rfl, hc⟩ := (HC.out.keptNone G).ngs hlt
   have HR : Hid (wr.rangeAt b (o + k * 24) t[k].cells) := hc k hlt
   have HW : Hid (∀ W : World, TabT R W → Calls Tryz.prog 80 #[.slice (some ⟨R.g, 0, none⟩) 17 17, .agg t[k].cells.toArray] W fun e w' => e = .returned (.int .i64 (weighG t[k] : Int)) ∧ W.grownBy w' none) := fun W TW => weightOf_any t[k] R W TW
   have HZ : Hid ((Tryz.prog.info? 43).map (·.size) = some t[k].cells.length ∧ (Tryz.prog.info? 43).map (·.size) = some t[k].cells.toArray.size ∧ 24 = t[k].cells.toArray.size ∧ t[k].cells.toArray.all (·.oneCell') = true) := ⟨ng_len _, ng_size _, rfl, ng_all _⟩
   have hb2 := weighG_le t[k]
   have HN : Hid (heavyG 0 0 t = if 3000 < q + weighG t[k] then some k else heavyG (q + weighG t[k]) (k + 1) (t.drop (k + 1))) := by
    have := HH.out
    rw [List.drop_eq_getElem_cons hlt] at this
    exact this
   have hwr : IntKind.i64.wrap ((q : Int) + (weighG t[k] : Int)) = (q : Int) + (weighG t[k] : Int) := by rw [IntKind.wrap_i64]; omega
   generalize weighG t[k] = s1 at *
   generalize t[k].cells = cs at *
   have hl : (k : Int) < (t.length : Int) := by omega
   have z0 : (0 : Int) ≤ (k : Int) := by omega
   have w3 : IntKind.i64.wrap ((k : Int) + 1) = (k : Int) + 1 := by rw [IntKind.wrap_i64]; omega
   clear hc HH
   go_upto_region 5 with (first | refine wpList_load_mid rfl 43 (.tmp 14) rfl b (o + k * 24) (by simp [Act.eval]) cs _ HR.out Tryz.underlying43 rfl HZ.out.1 ?_ | refine wpList_store_row rfl 43 (.tmp 8) (.tmp 15) rfl wr.heap.size cs.toArray rfl rfl 43 _ (heap_alloc_new wr _) HZ.out.2.1 HZ.out.2.2.1 HZ.out.2.2.2 ?_)
   rw [World.setRow_alloc_new]
   have V := VAt.alloc wr 43 cs.toArray
   have G2 := grown_trans G (World.grownBy_alloc wr (.cells cs.toArray 43) none)
   generalize wr.alloc (.cells cs.toArray 43) = w2 at *
   generalize wr.heap.size = B at *
   clear HR G
   go_wp2_with (refine wpList_load_row rfl 43 (.tmp 8) rfl B rfl 43 cs.toArray (0, 0) _ V Tryz.underlying43 rfl HZ.out.2.1 ?_)
   refine (HW.out _ (HT.out.kept G2)).mono ?_
   rintro e w4 ⟨rfl, K4⟩
   have G4 := grown_trans G2 K4
   clear K4 G2 V HW
   by_cases hov : 3000 < q + s1
   ·have HF : Hid (heavyG 0 0 t = some k) := by show _ = _; rw [HN.out, if_pos hov]
    have e1 : decide ((3000 : Int) < (q : Int) + (s1 : Int)) = true := decide_eq_true (by omega)
    clear hov HN
    go_wp2
    go_ret2
    exact ⟨by rw [← HE.out, HF.out]; rfl, G4⟩
   ·have HF : Hid (heavyG 0 0 t = heavyG (q + s1) (k + 1) (t.drop (k + 1))) := by show _ = _; rw [HN.out, if_neg hov]
    have e1 : decide ((3000 : Int) < (q : Int) + (s1 : Int)) = false := decide_eq_false (by omega)
    have hq2 : q + s1 ≤ 3000 := by omega
    clear hov HN
    go_wp2
    go_roundw
    case rel => exact ⟨k + 1, q + s1, by omega, hq2, by simp, by go_num, HF, G4⟩
    case measure => simp [intOf]; omega
  ·have HF : Hid (heavyG 0 0 t = none) := by
    have := HH.out
    rw [List.drop_eq_nil_of_le (by omega)] at this
    exact this
   go_wp2
   go_ret2
   exact ⟨by rw [← HE.out, HF.out]; rfl, G⟩
def leftG (n : Nat) : List Ng → Option Nat
 | [] => some n
 | x :: r => match arG x.kind with
  | none => none
  | some a => if n < a then none else leftG (n - a + 1) r
theorem starts_left : ∀ (l : List Ng) (ss : List Nat) (k : Nat), (startsG ss k l).map List.length = leftG ss.length l
 | [], ss, k => rfl
 | x :: r, ss, k => by
  simp only [startsG, leftG]
  cases arG x.kind with
  | none => rfl
  | some a =>
   simp only
   by_cases h : ss.length < a
   ·rw [if_pos h, if_pos h]; rfl
   ·rw [if_neg h, if_neg h]
    by_cases h0 : a = 0
    ·rw [if_pos h0, starts_left r, List.length_append, h0]; rfl
    ·rw [if_neg h0, starts_left r, List.length_take, Nat.min_eq_left (by omega)]
theorem eqF_cons {P : Program} {d : Nat} {xs ys : Array Value} {w : World} {f : Field} {fs : List Field} {a b : Value} {r : Bool} (hn : f.name ≠ "_") (h1 : (part f.type xs f.offset).run P w = .ok a w) (h2 : (part f.type ys f.offset).run P w = .ok b w) (h3 : (Op.equalIn d f.type a b).run P w = .ok r w) :
  (Op.eqFields d xs ys (f :: fs)).run P w = if r = true then (Op.eqFields d xs ys fs).run P w else .ok false w := by
 simp only [Op.eqFields]
 rw [if_pos hn]
 simp only [Sem.run_bind, h1, h2, h3, Result.andThen_ok]
 cases r <;> rfl
theorem node_fs : (Tryz.prog.fieldsOf 43).toList = [{ name := "Kind", type := 3, offset := 0, embedded := false, tag := "", pkgPath := "", byteOffset := 0 }, { name := "Op", type := 3, offset := 1, embedded := false, tag := "", pkgPath := "", byteOffset := 8 }, { name := "N", type := 40, offset := 2, embedded := false, tag := "", pkgPath := "", byteOffset := 16 }, { name := "M", type := 40, offset := 3, embedded := false, tag := "", pkgPath := "", byteOffset := 20 }, { name := "Size", type := 3, offset := 4, embedded := false, tag := "", pkgPath := "", byteOffset := 24 }, { name := "Of", type := 3, offset := 5, embedded := false, tag := "", pkgPath := "", byteOffset := 32 }, { name := "Side", type := 3, offset := 6, embedded := false, tag := "", pkgPath := "", byteOffset := 40 }, { name := "Addr", type := 41, offset := 7, embedded := false, tag := "", pkgPath := "", byteOffset := 48 }, { name := "Bits", type := 3, offset := 23, embedded := false, tag := "", pkgPath := "", byteOffset := 64 }] := by kernel_rfl
theorem eq_int64 (d : Nat) (a b : Int) (w : World) : (Op.equalIn (d + 1) 3 (.int .i64 a) (.int .i64 b)).run Tryz.prog w = .ok (decide (a = b)) w := by
 rw [run_equalIn_int w d _ _ .i64 _ _ Tryz.underlying3]
 by_cases h : a = b <;> simp [h]
theorem eq_nat32 (d : Nat) (a b : Nat) (w : World) : (Op.equalIn (d + 1) 40 (.int .u32 (a : Int)) (.int .u32 (b : Int))).run Tryz.prog w = .ok (decide (a = b)) w := by
 rw [run_equalIn_int w d _ _ .u32 _ _ Tryz.underlying40]
 by_cases h : a = b
 ·simp [h]
 ·have : ¬ (a : Int) = (b : Int) := by omega
  rw [decide_eq_false h, show ((a : Int) == (b : Int)) = false by simpa using this]
theorem eq_arr2 {P : Program} {t e : TypeId} {n : Nat} {i : TypeInfo} (d : Nat) (hu : P.underlying t = some (.array n e)) (hi : P.info? e = some i) (he : P.underlying e = some (.int .u8)) (hk : P.plainKey e = true) (hc : P.cellsOf e = 1) (xs ys : List UInt8) (hx : xs.length = n) (hy : ys.length = n) (w : World) :
  (Op.equalIn (d + 2) t (.agg (xs.map bv).toArray) (.agg (ys.map bv).toArray)).run P w = .ok (decide (xs = ys)) w := by
 rw [run_equalIn_array w (d + 1) _ _ hu hi, hc, List.range_eq_range', items_bytes d e he hk xs ys w (by omega) n 0 (by omega)]
 rfl
set_option maxHeartbeats 1000000 in
theorem ng_cmp (x y : Ng) (w : World) : (Op.equalIn 10000 43 (.agg x.cells.toArray) (.agg y.cells.toArray)).run Tryz.prog w = .ok (sameG x y) w := by
 obtain ⟨i0, hi, -⟩ := info_parts info5
 rw [show (10000 : Nat) = 9999 + 1 from rfl, run_equalIn_struct w 9999 _ _ _ (by kernel_rfl) (by kernel_rfl), node_fs]
 rw [eqF_cons (a := .int .i64 x.kind) (b := .int .i64 y.kind) (by decide) (by kernel_rfl) (by kernel_rfl) (eq_int64 9998 _ _ w)]
 rw [eqF_cons (a := .int .i64 x.op) (b := .int .i64 y.op) (by decide) (by kernel_rfl) (by kernel_rfl) (eq_int64 9998 _ _ w)]
 rw [eqF_cons (a := .int .u32 (x.n : Int)) (b := .int .u32 (y.n : Int)) (by decide) (by kernel_rfl) (by kernel_rfl) (eq_nat32 9998 _ _ w)]
 rw [eqF_cons (a := .int .u32 (x.m : Int)) (b := .int .u32 (y.m : Int)) (by decide) (by kernel_rfl) (by kernel_rfl) (eq_nat32 9998 _ _ w)]
 rw [eqF_cons (a := .int .i64 x.size) (b := .int .i64 y.size) (by decide) (by kernel_rfl) (by kernel_rfl) (eq_int64 9998 _ _ w)]
 rw [eqF_cons (a := .int .i64 x.of) (b := .int .i64 y.of) (by decide) (by kernel_rfl) (by kernel_rfl) (eq_int64 9998 _ _ w)]
 rw [eqF_cons (a := .int .i64 x.side) (b := .int .i64 y.side) (by decide) (by kernel_rfl) (by kernel_rfl) (eq_int64 9998 _ _ w)]
 rw [eqF_cons (a := .agg ((adgs x).map bv).toArray) (b := .agg ((adgs y).map bv).toArray) (by decide) (by kernel_rfl) (by kernel_rfl) (eq_arr2 9997 Tryz.underlying41 hi Tryz.underlying5 (by kernel_rfl) (by kernel_rfl) (adgs x) (adgs y) rfl rfl w)]
 rw [eqF_cons (a := .int .i64 x.bits) (b := .int .i64 y.bits) (by decide) (by kernel_rfl) (by kernel_rfl) (eq_int64 9998 _ _ w)]
 have hn : (Op.eqFields 9999 x.cells.toArray y.cells.toArray []).run Tryz.prog w = .ok true w := rfl
 rw [hn]
 unfold sameG
 generalize decide (x.kind = y.kind) = b0
 generalize decide (x.op = y.op) = b1
 generalize decide (x.n = y.n) = b2
 generalize decide (x.m = y.m) = b3
 generalize decide (x.size = y.size) = b4
 generalize decide (x.of = y.of) = b5
 generalize decide (x.side = y.side) = b6
 generalize decide (adgs x = adgs y) = b7
 generalize decide (x.bits = y.bits) = b8
 cases b0 <;> cases b1 <;> cases b2 <;> cases b3 <;> cases b4 <;> cases b5 <;> cases b6 <;> cases b7 <;> cases b8 <;> rfl
set_option maxHeartbeats 400000 in
theorem lacking_any (b : Bool) (w : World) : Calls Tryz.prog 116 #[.int .i64 (if b = true then 0 else 1)] w fun e w' => e = .returned (.int .i64 (if b = true then 121 else 122)) ∧ w = w' := by
 cases b with
 | true =>
  go_enter Tryz.func116, Tryz.ntmps116
  go_wp2
  go_ret
  exact ⟨rfl, rfl⟩
 | false =>
  go_enter Tryz.func116, Tryz.ntmps116
  go_wp2
  go_ret
  exact ⟨rfl, rfl⟩
theorem box_ruleC (R : RT) (k : Nat) (W : World) : (Instr.box 77 (.agg (ruleC R k).toArray)).run Tryz.prog W = .ok (.pointer (some ⟨W.heap.size, 0, none⟩)) (W.alloc (.cells (ruleC R k).toArray 77)) := by kernel_rfl
theorem two_boxes12 (w : World) (cs xs : Array Value) : VAt ((w.alloc (.cells cs 77)).alloc (.cells xs 43)) w.heap.size 77 cs ∧ VAt ((w.alloc (.cells cs 77)).alloc (.cells xs 43)) (w.heap.size + 1) 43 xs ∧ w.grownBy ((w.alloc (.cells cs 77)).alloc (.cells xs 43)) none := by
 have K := World.grownBy_alloc (w.alloc (.cells cs 77)) (.cells xs 43) none
 have h := VAt.alloc (w.alloc (.cells cs 77)) 43 xs
 rw [show (w.alloc (.cells cs 77)).heap.size = w.heap.size + 1 by simp] at h
 exact ⟨(VAt.alloc w _ cs).kept K, h, grown_trans (World.grownBy_alloc w _ none) K⟩
set_option maxHeartbeats 1000000 in
theorem divZero_any (x : Ng) (ps : List Pt) (ao : Option Addr) (cap : Nat) (w : World) (C : CV w ao (flat3 ptC ps)) (ha : arG x.kind = some ps.length) : Calls Tryz.prog 117 #[.agg x.cells.toArray, .slice ao ps.length cap] w fun e w' => e = .returned (.bool (zeroE x ps)) ∧ w.grownBy w' none := by
 obtain ⟨E, hE⟩ : ∃ E, zeroE x ps = E := ⟨_, rfl⟩
 rw [hE]
 have HE : Hid (zeroE x ps = E) := hE
 clear hE
 have HBX := box_ng x
 have h1 := NB.alloc w x
 have G1 := World.grownBy_alloc w (.cells x.cells.toArray 43) none
 have c0 := h1.kind
 have c1 := h1.op
 have HC : Hid (CV (w.alloc (.cells x.cells.toArray 43)) ao (flat3 ptC ps)) := C.keptNone G1
 obtain ⟨X, hX⟩ : ∃ X, x.cells.toArray = X := ⟨_, rfl⟩
 rw [hX] at HBX c0 c1 G1 HC ⊢
 have CD := divides_any x.op
 clear h1 C
 by_cases q : x.kind = 4
 ·have e1 : (x.kind != 4) = false := by simpa using q
  have hl : ps.length = 2 := by rw [q] at ha; exact (Option.some.inj ha).symm
  have HQ : Hid (x.kind = 4) := q
  clear q ha
  match ps, hl with
  | [p0, p1], _ =>
  rw [show [p0, p1].length = 2 from rfl]
  cases hd : divG x.op with
  | false =>
   have HD : Hid (divG x.op = false) := hd
   rw [hd] at CD
   clear hd
   go_enter Tryz.func117, Tryz.ntmps117
   go_upto_region 1 with fail
   generalize w.alloc (.cells X 43) = w1 at *
   generalize w.heap.size = B at c0 c1 ⊢
   clear HBX hX
   go_wp2_with fail
   refine (CD _).mono ?_
   rintro e w' ⟨rfl, rfl⟩
   go_wp2
   go_ret
   exact ⟨ret_bool (by rw [← HE.out]; unfold zeroE; rw [HD.out, Bool.and_false]; rfl), G1⟩
  | true =>
   have HD : Hid (divG x.op = true) := hd
   rw [hd] at CD
   clear hd
   obtain ⟨b, of, rfl, hc⟩ := HC.out.pts ptC_len (k := 1) (by simp)
   have HR : Hid (World.rangeAt _ b (of + 1 * 3) (ptC p1)) := hc 1 (by simp)
   have HSZ : Hid ((Tryz.prog.info? 58).map (·.size) = some (ptC p1).length ∧ (Tryz.prog.info? 58).map (·.size) = some (ptC p1).toArray.size ∧ 3 = (ptC p1).toArray.size ∧ (ptC p1).toArray.all (·.oneCell') = true) := ⟨by kernel_rfl, by kernel_rfl, rfl, by rw [List.all_toArray, List.all_eq_true]; exact ptC_one p1⟩
   have HP : Hid ((ptC p1).toArray[1]? = some (.bool p1.fixed) ∧ (ptC p1).toArray[2]? = some (.int .u32 (p1.val : Int))) := ⟨rfl, rfl⟩
   rw [Nat.one_mul] at HR
   clear hc HC
   go_enter Tryz.func117, Tryz.ntmps117
   go_upto_region 1 with fail
   generalize w.alloc (.cells X 43) = w1 at *
   generalize w.heap.size = B at c0 c1 ⊢
   clear HBX hX
   go_wp2_with fail
   refine (CD _).mono ?_
   rintro e w' ⟨rfl, rfl⟩
   have K2 := World.grownBy_alloc w1 (.cells (ptC p1).toArray 58) none
   have V2 := VAt.alloc w1 58 (ptC p1).toArray
   generalize ptC p1 = pc at *
   clear CD
   go_upto_region 4 with (first | refine wpList_load_mid rfl 58 (.tmp 16) rfl b (of + 3) (by simp [Act.eval]) pc _ HR.out Tryz.underlying58 rfl HSZ.out.1 ?_ | refine wpList_store_row rfl 58 (.tmp 5) (.tmp 17) rfl w1.heap.size pc.toArray rfl rfl 58 _ (heap_alloc_new w1 _) HSZ.out.2.1 HSZ.out.2.2.1 HSZ.out.2.2.2 ?_)
   rw [World.setRow_alloc_new]
   have G2 := grown_trans G1 K2
   generalize w1.alloc (.cells pc.toArray 58) = w2 at *
   generalize w1.heap.size = D at *
   have d1 : w2.cell? ⟨D, 1, none⟩ = some (.bool p1.fixed) := by rw [V2.cell 1]; exact HP.out.1
   have d2 : w2.cell? ⟨D, 2, none⟩ = some (.int .u32 (p1.val : Int)) := by rw [V2.cell 2]; exact HP.out.2
   clear HR HP HSZ V2 G1 K2 c0 c1
   cases hf : p1.fixed with
   | false =>
    rw [hf] at d1
    have HF : Hid (p1.fixed = false) := hf
    clear hf
    go_wp2
    go_ret
    exact ⟨ret_bool (by rw [← HE.out]; unfold zeroE; simp [HF.out]), G2⟩
   | true =>
    rw [hf] at d1
    have HF : Hid (p1.fixed = true) := hf
    clear hf
    by_cases hv : p1.val = 0
    ·have e5 : ((p1.val : Int) == 0) = true := by rw [hv]; rfl
     have HV : Hid (p1.val = 0) := hv
     clear hv
     generalize (p1.val : Int) = vi at *
     go_wp2
     go_ret
     exact ⟨ret_bool (by rw [← HE.out]; unfold zeroE; simp [HF.out, HV.out, HQ.out, HD.out]), G2⟩
    ·have e5 : ((p1.val : Int) == 0) = false := by simpa using hv
     have HV : Hid (¬ p1.val = 0) := hv
     clear hv
     generalize (p1.val : Int) = vi at *
     go_wp2
     go_ret
     exact ⟨ret_bool (by rw [← HE.out]; unfold zeroE; simp [HF.out, HV.out]), G2⟩
 ·have e1 : (x.kind != 4) = true := by simpa using q
  have HQ : Hid (¬ x.kind = 4) := q
  clear q ha CD
  generalize ps.length = pl at *
  go_enter Tryz.func117, Tryz.ntmps117
  go_upto_region 1 with fail
  generalize w.alloc (.cells X 43) = w1 at *
  generalize w.heap.size = B at c0 c1 ⊢
  clear HBX hX
  go_wp2
  go_ret
  exact ⟨ret_bool (by rw [← HE.out]; unfold zeroE; rw [decide_eq_false HQ.out]; rfl), G1⟩
theorem wants_nat (k : Nat) : wantsG (k : Int) = decide (k = 7 ∨ k = 8 ∨ k = 9) := by
 unfold wantsG
 apply decide_eq_decide.2
 omega
theorem takes_cv {R : RT} {w : World} (T : TabT R w) {k n : Nat} (h : arG (k : Int) = some n) : ∃ tao tcap, takesR R k = .slice tao n tcap ∧ CV w tao (List.replicate n (.int .i64 (if wantsG (k : Int) = true then 0 else 1))) := by
 have one : ∀ (b : Nat) (v : Value), w.cell? ⟨b, 0, none⟩ = some v → CV w (some ⟨b, 0, none⟩) (List.replicate 1 v) := fun b v hv => ⟨fun e => (by cases e), fun ad had i hi => by
  cases had
  rw [List.length_replicate] at hi
  obtain rfl : i = 0 := by omega
  rw [Addr.add_lit]
  exact hv⟩
 have two : ∀ (b : Nat) (v : Value), w.cell? ⟨b, 0, none⟩ = some v ∧ w.cell? ⟨b, 1, none⟩ = some v → CV w (some ⟨b, 0, none⟩) (List.replicate 2 v) := fun b v hv => ⟨fun e => (by cases e), fun ad had i hi => by
  cases had
  rw [List.length_replicate] at hi
  rw [Addr.add_lit, Nat.zero_add]
  have : i = 0 ∨ i = 1 := by omega
  rcases this with rfl | rfl
  ·exact hv.1
  ·exact hv.2⟩
 rw [wants_nat]
 rcases arG_cases h with ⟨rfl, h⟩ | ⟨rfl, h⟩ | ⟨rfl, h⟩
 ·have : k = 3 ∨ k = 5 ∨ k = 9 := by omega
  rcases this with rfl | rfl | rfl
  ·exact ⟨_, _, rfl, one _ _ T.n1⟩
  ·exact ⟨_, _, rfl, one _ _ T.n1⟩
  ·exact ⟨_, _, rfl, one _ _ T.t1⟩
 ·have : k = 4 ∨ k = 6 ∨ k = 7 ∨ k = 8 := by omega
  rcases this with rfl | rfl | rfl | rfl
  ·exact ⟨_, _, rfl, two _ _ T.n2⟩
  ·exact ⟨_, _, rfl, two _ _ T.n2⟩
  ·exact ⟨_, _, rfl, two _ _ T.t2⟩
  ·exact ⟨_, _, rfl, two _ _ T.t2⟩
 ·refine ⟨none, 0, ?_, fun _ => rfl, fun ad had => by cases had⟩
  unfold takesR
  rw [if_neg (by omega), if_neg (by omega), if_neg (by omega), if_neg (by omega)]
theorem kindE_hit {k : Int} {ps : List Pt} {p : Pt} (h : p ∈ ps) (hp : (p.truth == wantsG k) = false) : kindE k ps = if wantsG k = true then 121 else 122 := by
 unfold kindE
 rw [if_neg]
 intro ha
 have := List.all_eq_true.1 ha p h
 rw [hp] at this
 cases this
theorem kindE_none {k : Int} {ps : List Pt} (h : ∀ p ∈ ps, (p.truth == wantsG k) = true) : kindE k ps = 0 := by
 unfold kindE
 rw [if_pos (List.all_eq_true.2 h)]
set_option maxHeartbeats 4000000 in
theorem tfault_any (x : Ng) (ps : List Pt) (k : Nat) (hk : x.kind = k) (ha : arG x.kind = some ps.length) (R : RT) (ao : Option Addr) (cap : Nat) (w : World) (T : TabT R w) (C : CV w ao (flat3 ptC ps)) :
  Calls Tryz.prog 78 #[.agg (ruleC R k).toArray, .agg x.cells.toArray, .slice ao ps.length cap] w fun e w' => e = .returned (.int .i64 (faultG x ps)) ∧ w.grownBy w' none := by
 have hin := arG_in ha
 have h1 : 1 ≤ k := by omega
 have h2 : k ≤ 16 := by omega
 obtain ⟨E, hE⟩ : ∃ E, faultG x ps = E := ⟨_, rfl⟩
 rw [hE]
 have HE : Hid (faultG x ps = E) := hE
 obtain ⟨h3, h4, h5⟩ := two_boxes12 w (ruleC R k).toArray x.cells.toArray
 have HBR := box_ruleC R k
 have HBX := box_ng x
 have CU := use_any x k h1 h2 hk
 have CM := may_any x k h1 h2 hk
 have CB := bnd_any x k h1 h2 hk
 have heU := useN_enters k h1 h2
 have heM := mayN_enters k h1 h2
 have heB := bndN_enters k h1 h2
 have HEQ := ng_cmp x (useG x)
 obtain ⟨tao, tcap, htk, HTC0⟩ := takes_cv (T.kept h5) (hk ▸ ha)
 have HTC : Hid (CV _ tao _) := HTC0
 have HDZ : Hid (∀ W, CV W ao (flat3 ptC ps) → Calls Tryz.prog 117 #[.agg x.cells.toArray, .slice ao ps.length cap] W fun e w' => e = .returned (.bool (zeroE x ps)) ∧ W.grownBy w' none) := fun W CW => divZero_any x ps ao cap W CW ha
 have HCP : Hid (CV ((w.alloc (.cells (ruleC R k).toArray 77)).alloc (.cells x.cells.toArray 43)) ao (flat3 ptC ps)) := C.keptNone h5
 have HR0 : Hid ((ruleC R k).toArray[0]? = some (.slice tao ps.length tcap) ∧ (ruleC R k).toArray[3]? = some (.func (.func (useN k)) #[] #[]) ∧ (ruleC R k).toArray[4]? = some (.func (.func (mayN k)) #[] #[]) ∧ (ruleC R k).toArray[5]? = some (.func (.func (bndN k)) #[] #[])) := ⟨by rw [← htk]; rfl, rfl, rfl, rfl⟩
 have HZ : Hid ((Tryz.prog.info? 43).map (·.size) = some x.cells.toArray.size) := ng_size x
 rw [← hk] at HTC
 clear hE T C HTC0 htk
 generalize useN k = un at *
 generalize mayN k = mn at *
 generalize bndN k = bn at *
 obtain ⟨rs, hrs⟩ : ∃ rs, (ruleC R k).toArray = rs := ⟨_, rfl⟩
 obtain ⟨X, hX⟩ : ∃ X, x.cells.toArray = X := ⟨_, rfl⟩
 obtain ⟨Y, hY⟩ : ∃ Y, (useG x).cells.toArray = Y := ⟨_, rfl⟩
 rw [hrs] at h3 h4 h5 HBR HTC HCP HR0 ⊢
 rw [hX] at h3 h4 h5 HBX CU CM CB HEQ HTC HDZ HCP HZ ⊢
 rw [hY] at CU HEQ
 have hple := arG_le ha
 clear hrs hX hY hk hin h1 h2 ha
 have HCU : Hid _ := CU
 have HCM : Hid _ := CM
 have HCB : Hid _ := CB
 clear CU CM CB
 obtain ⟨sb, hsb⟩ : ∃ sb, sameG x (useG x) = sb := ⟨_, rfl⟩
 rw [hsb] at HEQ
 have HSB : Hid (sameG x (useG x) = sb) := hsb
 clear hsb
 obtain ⟨pl, hpl⟩ : ∃ pl, ps.length = pl := ⟨_, rfl⟩
 have HPL : Hid (ps.length = pl) := hpl
 have hplm : Hid (pl ≤ maxLen) := by show pl ≤ maxLen; unfold maxLen; omega
 rw [hpl] at HTC HDZ HR0 ⊢
 clear hpl hple
 go_enter Tryz.func78, Tryz.ntmps78
 go_upto_region 1 with fail
 generalize (w.alloc (.cells rs 77)).alloc (.cells X 43) = w2 at *
 generalize w.heap.size + 1 = B at *
 generalize w.heap.size = A at h3 ⊢
 have HS0 : Hid (VAt w2.drew A 77 rs ∧ VAt w2.drew B 43 X ∧ w2.grownBy w2.drew none) := ⟨h3.kept (grown_drewN w2 1 none), h4.kept (grown_drewN w2 1 none), grown_drewN w2 1 none⟩
 have HG2 : Hid (w.grownBy w2 none) := h5
 clear HBR HBX h3 h4 h5
 cases sb with
 | false =>
  refine wp_region_held_drew (S := fun W => VAt W A 77 rs ∧ VAt W B 43 X ∧ w2.grownBy W none) (by kernel_rfl) HS0.out (fun hHeld => ?_)
  refine wpT (i := 0) (v := .agg X) rfl (yieldsIf_load_row (by rfl) _ _ rfl B rfl 43 X _ (fun W hW => hW.2.1) Tryz.underlying43 rfl HZ.out) hHeld ?_
  try simp only [Act.put, a0, a1, a3, a4, a5]
  refine wpT (i := 1) (v := .pointer (some ⟨A, 3, none⟩)) rfl (Or.inl ⟨by rfl, fun W hW => ?_⟩) hHeld ?_
  ·clear hW
   go_simp
  try simp only [Act.put, a0, a1, a2, a3, a4, a5]
  refine wpT (i := 2) (v := .func (.func un) #[] #[]) rfl (Or.inl ⟨by rfl, fun W hW => ?_⟩) hHeld ?_
  ·have c3 : W.cell? ⟨A, 3, none⟩ = some (.func (.func un) #[] #[]) := by rw [hW.1.cell 3]; exact HR0.out.2.1
   clear hW
   go_simp
  try simp only [Act.put, a0, a1, a2, a3, a4, a5]
  refine wpT (i := 3) (v := .agg X) rfl (yieldsIf_load_row (by rfl) _ _ rfl B rfl 43 X _ (fun W hW => hW.2.1) Tryz.underlying43 rfl HZ.out) hHeld ?_
  try simp only [Act.put, a0, a1, a2, a3, a4, a5]
  refine wpR (rs := [4]) (AllReadyH.cons rfl (fun K hK => ?_) AllReadyH.nil)
  go_simp
  refine (HCU.out _).mono ?_
  rintro e wc ⟨rfl, K3⟩
  go_wp2_with fail
  refine hK.out _ _ ⟨hHeld.1.kept K3, hHeld.2.1.kept K3, grown_trans hHeld.2.2 K3⟩ (fun hHeld => ?_)
  clear hK K K3
  try simp only [Act.put, a0, a1, a2, a3, a4, a5]
  refine wpT (i := 5) (v := .bool true) rfl (Or.inl ⟨by rfl, fun W hW => ?_⟩) hHeld ?_
  ·clear hW
   go_simp
  try simp only [Act.put, a0, a1, a2, a3, a4, a5]
  refine wpT (i := 6) (v := .bool true) rfl (Or.inl ⟨by rfl, fun W hW => ?_⟩) hHeld ?_
  ·clear hW
   go_simp
  try simp only [Act.put, a0, a1, a2, a3, a4, a5]
  refine wpT (i := 7) (v := undef) rfl (Or.inr ⟨by rfl, rfl⟩) hHeld ?_
  try simp only [Act.put, a0, a1, a2, a3, a4, a5]
  refine wpT (i := 8) (v := undef) rfl (Or.inr ⟨by rfl, rfl⟩) hHeld ?_
  try simp only [Act.put, a0, a1, a2, a3, a4, a5]
  refine wpT (i := 9) (v := undef) rfl (Or.inr ⟨by rfl, rfl⟩) hHeld ?_
  try simp only [Act.put, a0, a1, a2, a3, a4, a5]
  refine wpT (i := 10) (v := undef) rfl (Or.inr ⟨by rfl, rfl⟩) hHeld ?_
  try simp only [Act.put, a0, a1, a2, a3, a4, a5]
  refine wpT (i := 11) (v := undef) rfl (Or.inr ⟨by rfl, rfl⟩) hHeld ?_
  try simp only [Act.put, a0, a1, a2, a3, a4, a5]
  refine wpT (i := 12) (v := .bool true) rfl (Or.inl ⟨by rfl, fun W hW => ?_⟩) hHeld ?_
  ·clear hW
   go_simp
  try simp only [Act.put, a0, a1, a2, a3, a4, a5]
  refine wpAnyH_done (by kernel_rfl) ?_ _
  have HF : Hid (E = 120) := by show E = 120; rw [← HE.out, faultG, formG, HSB.out]; rfl
  have G3 := grown_trans HG2.out hHeld.2.2
  clear hHeld
  go_wp2
  go_ret
  exact ⟨ret_int HF.out.symm, G3⟩
 | true =>
  refine wp_region_held_drew (S := fun W => VAt W A 77 rs ∧ VAt W B 43 X ∧ w2.grownBy W none) (by kernel_rfl) HS0.out (fun hHeld => ?_)
  refine wpT (i := 0) (v := .agg X) rfl (yieldsIf_load_row (by rfl) _ _ rfl B rfl 43 X _ (fun W hW => hW.2.1) Tryz.underlying43 rfl HZ.out) hHeld ?_
  try simp only [Act.put, a0, a1, a3, a4, a5]
  refine wpT (i := 1) (v := .pointer (some ⟨A, 3, none⟩)) rfl (Or.inl ⟨by rfl, fun W hW => ?_⟩) hHeld ?_
  ·clear hW
   go_simp
  try simp only [Act.put, a0, a1, a2, a3, a4, a5]
  refine wpT (i := 2) (v := .func (.func un) #[] #[]) rfl (Or.inl ⟨by rfl, fun W hW => ?_⟩) hHeld ?_
  ·have c3 : W.cell? ⟨A, 3, none⟩ = some (.func (.func un) #[] #[]) := by rw [hW.1.cell 3]; exact HR0.out.2.1
   clear hW
   go_simp
  try simp only [Act.put, a0, a1, a2, a3, a4, a5]
  refine wpT (i := 3) (v := .agg X) rfl (yieldsIf_load_row (by rfl) _ _ rfl B rfl 43 X _ (fun W hW => hW.2.1) Tryz.underlying43 rfl HZ.out) hHeld ?_
  try simp only [Act.put, a0, a1, a2, a3, a4, a5]
  refine wpR (rs := [4]) (AllReadyH.cons rfl (fun K hK => ?_) AllReadyH.nil)
  go_simp
  refine (HCU.out _).mono ?_
  rintro e wc ⟨rfl, K3⟩
  go_wp2_with fail
  refine hK.out _ _ ⟨hHeld.1.kept K3, hHeld.2.1.kept K3, grown_trans hHeld.2.2 K3⟩ (fun hHeld => ?_)
  clear hK K K3
  try simp only [Act.put, a0, a1, a2, a3, a4, a5]
  refine wpT (i := 5) (v := .bool false) rfl (Or.inl ⟨by rfl, fun W hW => ?_⟩) hHeld ?_
  ·clear hW
   go_simp
  try simp only [Act.put, a0, a1, a2, a3, a4, a5]
  refine wpT (i := 6) (v := .bool false) rfl (Or.inl ⟨by rfl, fun W hW => ?_⟩) hHeld ?_
  ·clear hW
   go_simp
  try simp only [Act.put, a0, a1, a2, a3, a4, a5]
  refine wpT (i := 7) (v := .pointer (some ⟨A, 4, none⟩)) rfl (Or.inl ⟨by rfl, fun W hW => ?_⟩) hHeld ?_
  ·clear hW
   go_simp
  try simp only [Act.put, a0, a1, a2, a3, a4, a5]
  refine wpT (i := 8) (v := .func (.func mn) #[] #[]) rfl (Or.inl ⟨by rfl, fun W hW => ?_⟩) hHeld ?_
  ·have c4 : W.cell? ⟨A, 4, none⟩ = some (.func (.func mn) #[] #[]) := by rw [hW.1.cell 4]; exact HR0.out.2.2.1
   clear hW
   go_simp
  try simp only [Act.put, a0, a1, a2, a3, a4, a5]
  refine wpT (i := 9) (v := .agg X) rfl (yieldsIf_load_row (by rfl) _ _ rfl B rfl 43 X _ (fun W hW => hW.2.1) Tryz.underlying43 rfl HZ.out) hHeld ?_
  try simp only [Act.put, a0, a1, a2, a3, a4, a5]
  refine wpR (rs := [10]) (AllReadyH.cons rfl (fun K hK => ?_) AllReadyH.nil)
  go_simp
  refine (HCM.out _).mono ?_
  rintro e wd ⟨rfl, K4⟩
  go_wp2_with fail
  refine hK.out _ _ ⟨hHeld.1.kept K4, hHeld.2.1.kept K4, grown_trans hHeld.2.2 K4⟩ (fun hHeld => ?_)
  clear hK K K4
  try simp only [Act.put, a0, a1, a2, a3, a4, a5]
  refine wpT (i := 11) (v := .bool (!mayG x)) rfl (Or.inl ⟨by rfl, fun W hW => ?_⟩) hHeld ?_
  ·clear hW
   go_simp
  try simp only [Act.put, a0, a1, a2, a3, a4, a5]
  refine wpT (i := 12) (v := .bool (!mayG x)) rfl (Or.inl ⟨by rfl, fun W hW => ?_⟩) hHeld ?_
  ·clear hW
   go_simp
  try simp only [Act.put, a0, a1, a2, a3, a4, a5]
  refine wpAnyH_done (by kernel_rfl) ?_ _
  have G3 := grown_trans HG2.out hHeld.2.2
  have H3 := hHeld
  have HTC3 : Hid (CV wd tao (List.replicate pl (.int .i64 (if wantsG x.kind = true then 0 else 1)))) := HTC.out.keptNone hHeld.2.2
  have HCP3 : Hid (CV wd ao (flat3 ptC ps)) := HCP.out.keptNone hHeld.2.2
  clear hHeld HTC HCP HS0 HG2
  cases hm : mayG x with
  | false =>
   have HF : Hid (E = 120) := by show E = 120; rw [← HE.out, faultG, formG, HSB.out, hm]; rfl
   clear hm H3
   go_wp2
   go_ret
   exact ⟨ret_int HF.out.symm, G3⟩
  | true =>
   have HF : Hid (E = if kindE x.kind ps ≠ 0 then kindE x.kind ps else if zeroE x ps = true then 123 else rangeE x) := by show E = _; rw [← HE.out, faultG, formG, HSB.out, hm]; rfl
   have c0 : wd.cell? ⟨A, 0, none⟩ = some (.slice tao pl tcap) := by rw [H3.1.cell 0]; exact HR0.out.1
   clear hm
   have HL : Hid (∀ W, Calls Tryz.prog 116 #[.int .i64 (if wantsG x.kind = true then 0 else 1)] W fun e w' => e = .returned (.int .i64 (if wantsG x.kind = true then 121 else 122)) ∧ W = w') := fun W => lacking_any (wantsG x.kind) W
   have HM : Hid (∀ p : Pt, ((if p.truth = true then (0 : Int) else 1) != (if wantsG x.kind = true then (0 : Int) else 1)) = !(p.truth == wantsG x.kind)) := fun p => by cases p.truth <;> cases wantsG x.kind <;> rfl
   obtain ⟨m, hm⟩ : ∃ m : Int, (if wantsG x.kind = true then (0 : Int) else 1) = m := ⟨_, rfl⟩
   rw [hm] at HL HM HTC3
   clear hm HEQ heU heM HCU HCM HE HSB
   have HH3 : Hid (VAt wd A 77 rs ∧ VAt wd B 43 X) := ⟨H3.1, H3.2.1⟩
   have HG3 : Hid (w.grownBy wd none) := G3
   clear H3 G3
   go_wp2
   go_loopw [25] (fun i wr => ∃ j : Nat, j ≤ pl ∧ i = .int .i64 j ∧ Hid (∀ p ∈ ps.take j, (p.truth == wantsG x.kind) = true) ∧ wr = wd) (fun i _ => pl - (intOf i).toNat)
   case atStart => exact ⟨0, Nat.zero_le _, rfl, (fun p hp => by cases hp), rfl⟩
   case round =>
    obtain ⟨j, hj, rfl, HA, rfl⟩ := hrel
    by_cases hlt : j < pl
    ·obtain ⟨tb, tof, rfl, htc⟩ := HTC3.out.addr (k := j) (by rw [List.length_replicate]; exact hlt)
     have t0 := htc j (by rw [List.length_replicate]; exact hlt)
     rw [List.getElem_replicate] at t0
     have hjp : j < ps.length := by rw [HPL.out]; exact hlt
     obtain ⟨b, of, rfl, hpc⟩ := HCP3.out.pts ptC_len hjp
     have p0 := hpc j hjp 0 (.int .i64 (if ps[j].truth = true then 0 else 1)) rfl
     rw [Nat.add_zero] at p0
     have hmm := HM.out ps[j]
     have hl : (j : Int) < (pl : Int) := by omega
     have z0 : (0 : Int) ≤ (j : Int) := by omega
     have w3 : IntKind.i64.wrap ((j : Int) + 1) = (j : Int) + 1 := by rw [IntKind.wrap_i64]; have := hplm.out; unfold maxLen at this; omega
     have HTK : Hid (ps.take (j + 1) = ps.take j ++ [ps[j]]) := List.take_succ_eq_append_getElem hjp
     have HME : Hid (ps[j] ∈ ps) := List.getElem_mem hjp
     clear htc hpc
     cases ht : (ps[j].truth == wantsG x.kind) with
     | false =>
      rw [ht] at hmm
      have HF2 : Hid (E = if wantsG x.kind = true then 121 else 122) := by
       have e0 := kindE_hit HME.out ht
       show E = _
       have := HF.out
       rw [e0] at this
       rw [if_pos (by split <;> decide)] at this
       exact this
      clear ht HF HA
      generalize (if ps[j].truth = true then (0 : Int) else 1) = qv at *
      rw [Bool.not_false] at hmm
      go_wp2_with fail
      refine (HL.out _).mono ?_
      rintro e w' ⟨rfl, rfl⟩
      generalize (if wantsG x.kind = true then (121 : Int) else 122) = ee at *
      go_wp2
      go_ret
      exact ⟨ret_int HF2.out.symm, HG3.out⟩
     | true =>
      rw [ht] at hmm
      have HA2 : Hid (∀ p ∈ ps.take (j + 1), (p.truth == wantsG x.kind) = true) := fun p hp => by
       rw [HTK.out] at hp
       rcases List.mem_append.1 hp with hp | hp
       ·exact HA.out p hp
       ·rw [List.mem_singleton.1 hp]; exact ht
      clear ht HA
      generalize (if ps[j].truth = true then (0 : Int) else 1) = qv at *
      rw [Bool.not_true] at hmm
      go_wp2
      go_roundw
      case rel => exact ⟨j + 1, by omega, by go_num, HA2, trivial⟩
      case measure => simp [intOf]; omega
    ·have HF2 : Hid (E = if zeroE x ps = true then 123 else rangeE x) := by
      have e0 : kindE x.kind ps = 0 := kindE_none (fun p hp => HA.out p (by rw [List.take_of_length_le (by rw [HPL.out]; omega)]; exact hp))
      have := HF.out
      rw [e0] at this
      exact this
     have LB := HH3.out.2
     have c5 : wr.cell? ⟨A, 5, none⟩ = some (.func (.func bn) #[] #[]) := by rw [HH3.out.1.cell 5]; exact HR0.out.2.2.2
     have hjj : ¬ (j : Int) < (pl : Int) := by omega
     clear HA HF HTC3 HM HL
     go_wp2_with (refine wpList_load_row rfl 43 (.tmp 4) rfl B rfl 43 X (0, 0) _ LB Tryz.underlying43 rfl HZ.out ?_)
     refine (HDZ.out _ HCP3.out).mono ?_
     rintro e w5 ⟨rfl, K5⟩
     have G5 := grown_trans HG3.out K5
     have LB5 := LB.kept K5
     have c55 := K5.cell c5 (by simp)
     clear LB c5 HDZ HCP3
     cases hz : zeroE x ps with
     | true =>
      have HF3 : Hid (E = 123) := by have := HF2.out; rw [hz] at this; exact this
      clear hz
      go_wp2
      go_ret
      exact ⟨ret_int HF3.out.symm, G5⟩
     | false =>
      have HF3 : Hid (E = rangeE x) := by have := HF2.out; rw [hz] at this; exact this
      have CX := HCB.out w5
      clear hz
      generalize rangeE x = re at *
      go_wp2_with (first | refine wpList_load_row rfl 43 (.tmp 4) rfl B rfl 43 X (0, 0) _ LB5 Tryz.underlying43 rfl HZ.out ?_ | (go_at_fn bn; refine CX.mono ?_; rintro e w6 ⟨rfl, K6⟩))
      go_ret
      exact ⟨ret_int HF3.out.symm, grown_trans G5 K6⟩

end Go.Proofs.YtklipelnjgpnjaaGreatDoor
