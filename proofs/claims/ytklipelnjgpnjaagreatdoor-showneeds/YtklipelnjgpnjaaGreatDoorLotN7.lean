import Derived.Test.YtklipelnjgpnjaaGreatDoorNAb
import Derived.Test.YtklipelnjgpnjaaGreatDoorLotN6
import Derived.Laws.StructEq
set_option maxHeartbeats 64000000
set_option maxRecDepth 100000
namespace Go.Proofs.YtklipelnjgpnjaaGreatDoor
open Go.RowKit
theorem a1r {P : Program} {d : Nat} {xs ys : Array Value} {w : World} {f : Field} {fs : List Field} {a b : Value} {r : Bool} (hn : f.name ≠ "_") (h1 : (part f.type xs f.offset).run P w = .ok a w) (h2 : (part f.type ys f.offset).run P w = .ok b w) (h3 : (Op.equalIn d f.type a b).run P w = .ok r w) :
  (Op.eqFields d xs ys (f :: fs)).run P w = if r = true then (Op.eqFields d xs ys fs).run P w else .ok false w := by
 simp only [Op.eqFields]
 rw [if_pos hn]
 simp only [Sem.run_bind, h1, h2, h3, Result.andThen_ok]
 cases r <;> rfl
theorem aF2 : (Tryz.prog.fieldsOf 43).toList = [{ name := "Kind", type := 3, offset := 0, embedded := false, tag := "", pkgPath := "", byteOffset := 0 }, { name := "Op", type := 3, offset := 1, embedded := false, tag := "", pkgPath := "", byteOffset := 8 }, { name := "N", type := 40, offset := 2, embedded := false, tag := "", pkgPath := "", byteOffset := 16 }, { name := "M", type := 40, offset := 3, embedded := false, tag := "", pkgPath := "", byteOffset := 20 }, { name := "Size", type := 3, offset := 4, embedded := false, tag := "", pkgPath := "", byteOffset := 24 }, { name := "Of", type := 3, offset := 5, embedded := false, tag := "", pkgPath := "", byteOffset := 32 }, { name := "Side", type := 3, offset := 6, embedded := false, tag := "", pkgPath := "", byteOffset := 40 }, { name := "Addr", type := 41, offset := 7, embedded := false, tag := "", pkgPath := "", byteOffset := 48 }, { name := "Bits", type := 3, offset := 23, embedded := false, tag := "", pkgPath := "", byteOffset := 64 }] := by kernel_rfl
theorem a2P (d : Nat) (a b : Int) (w : World) : (Op.equalIn (d + 1) 3 (.int .i64 a) (.int .i64 b)).run Tryz.prog w = .ok (decide (a = b)) w := by
 rw [run_equalIn_int w d _ _ .i64 _ _ Tryz.underlying3]
 by_cases h : a = b <;> simp [h]
theorem a7Y (d : Nat) (a b : Nat) (w : World) : (Op.equalIn (d + 1) 40 (.int .u32 (a : Int)) (.int .u32 (b : Int))).run Tryz.prog w = .ok (decide (a = b)) w := by
 rw [run_equalIn_int w d _ _ .u32 _ _ Tryz.underlying40]
 by_cases h : a = b
 ·simp [h]
 ·have : ¬ (a : Int) = (b : Int) := by omega
  rw [decide_eq_false h, show ((a : Int) == (b : Int)) = false by simpa using this]
theorem ap4 {P : Program} {t e : TypeId} {n : Nat} {i : TypeInfo} (d : Nat) (hu : P.underlying t = some (.array n e)) (hi : P.info? e = some i) (he : P.underlying e = some (.int .u8)) (hk : P.plainKey e = true) (hc : P.cellsOf e = 1) (xs ys : List UInt8) (hx : xs.length = n) (hy : ys.length = n) (w : World) :
  (Op.equalIn (d + 2) t (.agg (xs.map bv).toArray) (.agg (ys.map bv).toArray)).run P w = .ok (decide (xs = ys)) w := by
 rw [run_equalIn_array w (d + 1) _ _ hu hi, hc, List.range_eq_range', a5R d e he hk xs ys w (by omega) n 0 (by omega)]
 rfl
theorem a95 (x y : Ng) (w : World) : (Op.equalIn 10000 43 (.agg x.cells.toArray) (.agg y.cells.toArray)).run Tryz.prog w = .ok (a0a x y) w := by
 obtain ⟨i0, hi, -⟩ := info_parts a1f
 rw [show (10000 : Nat) = 9999 + 1 from rfl, run_equalIn_struct w 9999 _ _ _ (by kernel_rfl) (by kernel_rfl), aF2]
 rw [a1r (a := .int .i64 x.kind) (b := .int .i64 y.kind) (by decide) (by kernel_rfl) (by kernel_rfl) (a2P 9998 _ _ w)]
 rw [a1r (a := .int .i64 x.op) (b := .int .i64 y.op) (by decide) (by kernel_rfl) (by kernel_rfl) (a2P 9998 _ _ w)]
 rw [a1r (a := .int .u32 (x.n : Int)) (b := .int .u32 (y.n : Int)) (by decide) (by kernel_rfl) (by kernel_rfl) (a7Y 9998 _ _ w)]
 rw [a1r (a := .int .u32 (x.m : Int)) (b := .int .u32 (y.m : Int)) (by decide) (by kernel_rfl) (by kernel_rfl) (a7Y 9998 _ _ w)]
 rw [a1r (a := .int .i64 x.size) (b := .int .i64 y.size) (by decide) (by kernel_rfl) (by kernel_rfl) (a2P 9998 _ _ w)]
 rw [a1r (a := .int .i64 x.of) (b := .int .i64 y.of) (by decide) (by kernel_rfl) (by kernel_rfl) (a2P 9998 _ _ w)]
 rw [a1r (a := .int .i64 x.side) (b := .int .i64 y.side) (by decide) (by kernel_rfl) (by kernel_rfl) (a2P 9998 _ _ w)]
 rw [a1r (a := .agg ((k8 x).map bv).toArray) (b := .agg ((k8 y).map bv).toArray) (by decide) (by kernel_rfl) (by kernel_rfl) (ap4 9997 Tryz.underlying41 hi Tryz.underlying5 (by kernel_rfl) (by kernel_rfl) (k8 x) (k8 y) rfl rfl w)]
 rw [a1r (a := .int .i64 x.bits) (b := .int .i64 y.bits) (by decide) (by kernel_rfl) (by kernel_rfl) (a2P 9998 _ _ w)]
 have hn : (Op.eqFields 9999 x.cells.toArray y.cells.toArray []).run Tryz.prog w = .ok true w := rfl
 rw [hn]
 unfold a0a
 generalize decide (x.kind = y.kind) = b0
 generalize decide (x.op = y.op) = b1
 generalize decide (x.n = y.n) = b2
 generalize decide (x.m = y.m) = b3
 generalize decide (x.size = y.size) = b4
 generalize decide (x.of = y.of) = b5
 generalize decide (x.side = y.side) = b6
 generalize decide (k8 x = k8 y) = b7
 generalize decide (x.bits = y.bits) = b8
 cases b0 <;> cases b1 <;> cases b2 <;> cases b3 <;> cases b4 <;> cases b5 <;> cases b6 <;> cases b7 <;> cases b8 <;> rfl
theorem ax9 (b : Bool) (w : World) : Calls Tryz.prog 116 #[.int .i64 (if b = true then 0 else 1)] w fun e w' => e = .returned (.int .i64 (if b = true then 121 else 122)) ∧ w = w' := by
 cases b with
 | true =>
  go_enter Tryz.func116, Tryz.ntmps116
  go_wp2
  go_ret
  exact ⟨rfl, rfl⟩
 | false =>
  go_enter Tryz.func116, Tryz.ntmps116
  go_wp2
  go_ret
  exact ⟨rfl, rfl⟩
theorem a7C (R : RT) (k : Nat) (W : World) : (Instr.box 77 (.agg (x0 R k).toArray)).run Tryz.prog W = .ok (.pointer (some ⟨W.heap.size, 0, none⟩)) (W.alloc (.cells (x0 R k).toArray 77)) := by kernel_rfl
theorem ac6 (w : World) (cs xs : Array Value) : VAt ((w.alloc (.cells cs 77)).alloc (.cells xs 43)) w.heap.size 77 cs ∧ VAt ((w.alloc (.cells cs 77)).alloc (.cells xs 43)) (w.heap.size + 1) 43 xs ∧ w.grownBy ((w.alloc (.cells cs 77)).alloc (.cells xs 43)) none := by
 have K := World.grownBy_alloc (w.alloc (.cells cs 77)) (.cells xs 43) none
 have h := VAt.alloc (w.alloc (.cells cs 77)) 43 xs
 rw [show (w.alloc (.cells cs 77)).heap.size = w.heap.size + 1 by simp] at h
 exact ⟨(VAt.alloc w _ cs).kept K, h, d3 (World.grownBy_alloc w _ none) K⟩
theorem ao9 (x : Ng) (ps : List Pt) (ao : Option Addr) (cap : Nat) (w : World) (C : CV w ao (r9 ptC ps)) (ha : arG x.kind = some ps.length) : Calls Tryz.prog 117 #[.agg x.cells.toArray, .slice ao ps.length cap] w fun e w' => e = .returned (.bool (Z1 x ps)) ∧ w.grownBy w' none := by
 obtain ⟨E, hE⟩ : ∃ E, Z1 x ps = E := ⟨_, rfl⟩
 rw [hE]
 have HE : Hid (Z1 x ps = E) := hE
 clear hE
 have HBX := s8 x
 have h1 := NB.alloc w x
 have G1 := World.grownBy_alloc w (.cells x.cells.toArray 43) none
 have c0 := h1.kind
 have c1 := h1.op
 have HC : Hid (CV (w.alloc (.cells x.cells.toArray 43)) ao (r9 ptC ps)) := C.keptNone G1
 obtain ⟨X, hX⟩ : ∃ X, x.cells.toArray = X := ⟨_, rfl⟩
 rw [hX] at HBX c0 c1 G1 HC ⊢
 have CD := a7V x.op
 clear h1 C
 by_cases q : x.kind = 4
 ·have e1 : (x.kind != 4) = false := by simpa using q
  have hl : ps.length = 2 := by rw [q] at ha; exact (Option.some.inj ha).symm
  have HQ : Hid (x.kind = 4) := q
  clear q ha
  match ps, hl with
  | [p0, p1], _ =>
  rw [show [p0, p1].length = 2 from rfl]
  cases hd : U8 x.op with
  | false =>
   have HD : Hid (U8 x.op = false) := hd
   rw [hd] at CD
   clear hd
   go_enter Tryz.func117, Tryz.ntmps117
   go_upto_region 1 with fail
   generalize w.alloc (.cells X 43) = w1 at *
   generalize w.heap.size = B at c0 c1 ⊢
   clear HBX hX
   go_wp2_with fail
   refine (CD _).mono ?_
   rintro e w' ⟨rfl, rfl⟩
   go_wp2
   go_ret
   exact ⟨W7 (by rw [← HE.out]; unfold Z1; rw [HD.out, Bool.and_false]; rfl), G1⟩
  | true =>
   have HD : Hid (U8 x.op = true) := hd
   rw [hd] at CD
   clear hd
   obtain ⟨b, of, rfl, hc⟩ := HC.out.pts a1Q (k := 1) (by simp)
   have HR : Hid (World.rangeAt _ b (of + 1 * 3) (ptC p1)) := hc 1 (by simp)
   have HSZ : Hid ((Tryz.prog.info? 58).map (·.size) = some (ptC p1).length ∧ (Tryz.prog.info? 58).map (·.size) = some (ptC p1).toArray.size ∧ 3 = (ptC p1).toArray.size ∧ (ptC p1).toArray.all (·.oneCell') = true) := ⟨by kernel_rfl, by kernel_rfl, rfl, by rw [List.all_toArray, List.all_eq_true]; exact a4E p1⟩
   have HP : Hid ((ptC p1).toArray[1]? = some (.bool p1.fixed) ∧ (ptC p1).toArray[2]? = some (.int .u32 (p1.val : Int))) := ⟨rfl, rfl⟩
   rw [Nat.one_mul] at HR
   clear hc HC
   go_enter Tryz.func117, Tryz.ntmps117
   go_upto_region 1 with fail
   generalize w.alloc (.cells X 43) = w1 at *
   generalize w.heap.size = B at c0 c1 ⊢
   clear HBX hX
   go_wp2_with fail
   refine (CD _).mono ?_
   rintro e w' ⟨rfl, rfl⟩
   have K2 := World.grownBy_alloc w1 (.cells (ptC p1).toArray 58) none
   have V2 := VAt.alloc w1 58 (ptC p1).toArray
   generalize ptC p1 = pc at *
   clear CD
   go_upto_region 4 with (first | refine wpList_load_mid rfl 58 (.tmp 16) rfl b (of + 3) (by simp [Act.eval]) pc _ HR.out Tryz.underlying58 rfl HSZ.out.1 ?_ | refine wpList_store_row rfl 58 (.tmp 5) (.tmp 17) rfl w1.heap.size pc.toArray rfl rfl 58 _ (heap_alloc_new w1 _) HSZ.out.2.1 HSZ.out.2.2.1 HSZ.out.2.2.2 ?_)
   rw [World.setRow_alloc_new]
   have G2 := d3 G1 K2
   generalize w1.alloc (.cells pc.toArray 58) = w2 at *
   generalize w1.heap.size = D at *
   have d1 : w2.cell? ⟨D, 1, none⟩ = some (.bool p1.fixed) := by rw [V2.cell 1]; exact HP.out.1
   have d2 : w2.cell? ⟨D, 2, none⟩ = some (.int .u32 (p1.val : Int)) := by rw [V2.cell 2]; exact HP.out.2
   clear HR HP HSZ V2 G1 K2 c0 c1
   cases hf : p1.fixed with
   | false =>
    rw [hf] at d1
    have HF : Hid (p1.fixed = false) := hf
    clear hf
    go_wp2
    go_ret
    exact ⟨W7 (by rw [← HE.out]; unfold Z1; simp [HF.out]), G2⟩
   | true =>
    rw [hf] at d1
    have HF : Hid (p1.fixed = true) := hf
    clear hf
    by_cases hv : p1.val = 0
    ·have e5 : ((p1.val : Int) == 0) = true := by rw [hv]; rfl
     have HV : Hid (p1.val = 0) := hv
     clear hv
     generalize (p1.val : Int) = vi at *
     go_wp2
     go_ret
     exact ⟨W7 (by rw [← HE.out]; unfold Z1; simp [HF.out, HV.out, HQ.out, HD.out]), G2⟩
    ·have e5 : ((p1.val : Int) == 0) = false := by simpa using hv
     have HV : Hid (¬ p1.val = 0) := hv
     clear hv
     generalize (p1.val : Int) = vi at *
     go_wp2
     go_ret
     exact ⟨W7 (by rw [← HE.out]; unfold Z1; simp [HF.out, HV.out]), G2⟩
 ·have e1 : (x.kind != 4) = true := by simpa using q
  have HQ : Hid (¬ x.kind = 4) := q
  clear q ha CD
  generalize ps.length = pl at *
  go_enter Tryz.func117, Tryz.ntmps117
  go_upto_region 1 with fail
  generalize w.alloc (.cells X 43) = w1 at *
  generalize w.heap.size = B at c0 c1 ⊢
  clear HBX hX
  go_wp2
  go_ret
  exact ⟨W7 (by rw [← HE.out]; unfold Z1; rw [decide_eq_false HQ.out]; rfl), G1⟩
theorem b0h (k : Nat) : L6 (k : Int) = decide (k = 7 ∨ k = 8 ∨ k = 9) := by
 unfold L6
 apply decide_eq_decide.2
 omega
theorem ab8 {R : RT} {w : World} (T : M8 R w) {k n : Nat} (h : arG (k : Int) = some n) : ∃ tao tcap, a3P R k = .slice tao n tcap ∧ CV w tao (List.replicate n (.int .i64 (if L6 (k : Int) = true then 0 else 1))) := by
 have one : ∀ (b : Nat) (v : Value), w.cell? ⟨b, 0, none⟩ = some v → CV w (some ⟨b, 0, none⟩) (List.replicate 1 v) := fun b v hv => ⟨fun e => (by cases e), fun ad had i hi => by
  cases had
  rw [List.length_replicate] at hi
  obtain rfl : i = 0 := by omega
  rw [Addr.add_lit]
  exact hv⟩
 have two : ∀ (b : Nat) (v : Value), w.cell? ⟨b, 0, none⟩ = some v ∧ w.cell? ⟨b, 1, none⟩ = some v → CV w (some ⟨b, 0, none⟩) (List.replicate 2 v) := fun b v hv => ⟨fun e => (by cases e), fun ad had i hi => by
  cases had
  rw [List.length_replicate] at hi
  rw [Addr.add_lit, Nat.zero_add]
  have : i = 0 ∨ i = 1 := by omega
  rcases this with rfl | rfl
  ·exact hv.1
  ·exact hv.2⟩
 rw [b0h]
 rcases a0H h with ⟨rfl, h⟩ | ⟨rfl, h⟩ | ⟨rfl, h⟩
 ·have : k = 3 ∨ k = 5 ∨ k = 9 := by omega
  rcases this with rfl | rfl | rfl
  ·exact ⟨_, _, rfl, one _ _ T.n1⟩
  ·exact ⟨_, _, rfl, one _ _ T.n1⟩
  ·exact ⟨_, _, rfl, one _ _ T.t1⟩
 ·have : k = 4 ∨ k = 6 ∨ k = 7 ∨ k = 8 := by omega
  rcases this with rfl | rfl | rfl | rfl
  ·exact ⟨_, _, rfl, two _ _ T.n2⟩
  ·exact ⟨_, _, rfl, two _ _ T.n2⟩
  ·exact ⟨_, _, rfl, two _ _ T.t2⟩
  ·exact ⟨_, _, rfl, two _ _ T.t2⟩
 ·refine ⟨none, 0, ?_, fun _ => rfl, fun ad had => by cases had⟩
  unfold a3P
  rw [if_neg (by omega), if_neg (by omega), if_neg (by omega), if_neg (by omega)]
theorem ax6 {k : Int} {ps : List Pt} {p : Pt} (h : p ∈ ps) (hp : (p.truth == L6 k) = false) : Z9 k ps = if L6 k = true then 121 else 122 := by
 unfold Z9
 rw [if_neg]
 intro ha
 have := List.all_eq_true.1 ha p h
 rw [hp] at this
 cases this
theorem ax7 {k : Int} {ps : List Pt} (h : ∀ p ∈ ps, (p.truth == L6 k) = true) : Z9 k ps = 0 := by
 unfold Z9
 rw [if_pos (List.all_eq_true.2 h)]
theorem aX3 (x : Ng) (ps : List Pt) (k : Nat) (hk : x.kind = k) (ha : arG x.kind = some ps.length) (R : RT) (ao : Option Addr) (cap : Nat) (w : World) (T : M8 R w) (C : CV w ao (r9 ptC ps)) :
  Calls Tryz.prog 78 #[.agg (x0 R k).toArray, .agg x.cells.toArray, .slice ao ps.length cap] w fun e w' => e = .returned (.int .i64 (A9 x ps)) ∧ w.grownBy w' none := by
 have hin := a3q ha
 have h1 : 1 ≤ k := by omega
 have h2 : k ≤ 16 := by omega
 obtain ⟨E, hE⟩ : ∃ E, A9 x ps = E := ⟨_, rfl⟩
 rw [hE]
 have HE : Hid (A9 x ps = E) := hE
 obtain ⟨h3, h4, h5⟩ := ac6 w (x0 R k).toArray x.cells.toArray
 have HBR := a7C R k
 have HBX := s8 x
 have CU := aZ6 x k h1 h2 hk
 have CM := aC3 x k h1 h2 hk
 have CB := aj7 x k h1 h2 hk
 have heU := aZ5 k h1 h2
 have heM := aB9 k h1 h2
 have heB := aj6 k h1 h2
 have HEQ := a95 x (D0 x)
 obtain ⟨tao, tcap, htk, HTC0⟩ := ab8 (T.kept h5) (hk ▸ ha)
 have HTC : Hid (CV _ tao _) := HTC0
 have HDZ : Hid (∀ W, CV W ao (r9 ptC ps) → Calls Tryz.prog 117 #[.agg x.cells.toArray, .slice ao ps.length cap] W fun e w' => e = .returned (.bool (Z1 x ps)) ∧ W.grownBy w' none) := fun W CW => ao9 x ps ao cap W CW ha
 have HCP : Hid (CV ((w.alloc (.cells (x0 R k).toArray 77)).alloc (.cells x.cells.toArray 43)) ao (r9 ptC ps)) := C.keptNone h5
 have HR0 : Hid ((x0 R k).toArray[0]? = some (.slice tao ps.length tcap) ∧ (x0 R k).toArray[3]? = some (.func (.func (a3i k)) #[] #[]) ∧ (x0 R k).toArray[4]? = some (.func (.func (a2U k)) #[] #[]) ∧ (x0 R k).toArray[5]? = some (.func (.func (a2N k)) #[] #[])) := ⟨by rw [← htk]; rfl, rfl, rfl, rfl⟩
 have HZ : Hid ((Tryz.prog.info? 43).map (·.size) = some x.cells.toArray.size) := E8 x
 rw [← hk] at HTC
 clear hE T C HTC0 htk
 generalize a3i k = un at *
 generalize a2U k = mn at *
 generalize a2N k = bn at *
 obtain ⟨rs, hrs⟩ : ∃ rs, (x0 R k).toArray = rs := ⟨_, rfl⟩
 obtain ⟨X, hX⟩ : ∃ X, x.cells.toArray = X := ⟨_, rfl⟩
 obtain ⟨Y, hY⟩ : ∃ Y, (D0 x).cells.toArray = Y := ⟨_, rfl⟩
 rw [hrs] at h3 h4 h5 HBR HTC HCP HR0 ⊢
 rw [hX] at h3 h4 h5 HBX CU CM CB HEQ HTC HDZ HCP HZ ⊢
 rw [hY] at CU HEQ
 have hple := a1G ha
 clear hrs hX hY hk hin h1 h2 ha
 have HCU : Hid _ := CU
 have HCM : Hid _ := CM
 have HCB : Hid _ := CB
 clear CU CM CB
 obtain ⟨sb, hsb⟩ : ∃ sb, a0a x (D0 x) = sb := ⟨_, rfl⟩
 rw [hsb] at HEQ
 have HSB : Hid (a0a x (D0 x) = sb) := hsb
 clear hsb
 obtain ⟨pl, hpl⟩ : ∃ pl, ps.length = pl := ⟨_, rfl⟩
 have HPL : Hid (ps.length = pl) := hpl
 have hplm : Hid (pl ≤ maxLen) := by show pl ≤ maxLen; unfold maxLen; omega
 rw [hpl] at HTC HDZ HR0 ⊢
 clear hpl hple
 go_enter Tryz.func78, Tryz.ntmps78
 go_upto_region 1 with fail
 generalize (w.alloc (.cells rs 77)).alloc (.cells X 43) = w2 at *
 generalize w.heap.size + 1 = B at *
 generalize w.heap.size = A at h3 ⊢
 have HS0 : Hid (VAt w2.drew A 77 rs ∧ VAt w2.drew B 43 X ∧ w2.grownBy w2.drew none) := ⟨h3.kept (f9 w2 1 none), h4.kept (f9 w2 1 none), f9 w2 1 none⟩
 have HG2 : Hid (w.grownBy w2 none) := h5
 clear HBR HBX h3 h4 h5
 cases sb with
 | false =>
  refine wp_region_held_drew (S := fun W => VAt W A 77 rs ∧ VAt W B 43 X ∧ w2.grownBy W none) (by kernel_rfl) HS0.out (fun hHeld => ?_)
  refine wpT (i := 0) (v := .agg X) rfl (J3 (by rfl) _ _ rfl B rfl 43 X _ (fun W hW => hW.2.1) Tryz.underlying43 rfl HZ.out) hHeld ?_
  try simp only [Act.put, a0, a1, a3, a4, a5]
  refine wpT (i := 1) (v := .pointer (some ⟨A, 3, none⟩)) rfl (Or.inl ⟨by rfl, fun W hW => ?_⟩) hHeld ?_
  ·clear hW
   go_simp
  try simp only [Act.put, a0, a1, a2, a3, a4, a5]
  refine wpT (i := 2) (v := .func (.func un) #[] #[]) rfl (Or.inl ⟨by rfl, fun W hW => ?_⟩) hHeld ?_
  ·have c3 : W.cell? ⟨A, 3, none⟩ = some (.func (.func un) #[] #[]) := by rw [hW.1.cell 3]; exact HR0.out.2.1
   clear hW
   go_simp
  try simp only [Act.put, a0, a1, a2, a3, a4, a5]
  refine wpT (i := 3) (v := .agg X) rfl (J3 (by rfl) _ _ rfl B rfl 43 X _ (fun W hW => hW.2.1) Tryz.underlying43 rfl HZ.out) hHeld ?_
  try simp only [Act.put, a0, a1, a2, a3, a4, a5]
  refine wpR (rs := [4]) (AllReadyH.cons rfl (fun K hK => ?_) AllReadyH.nil)
  go_simp
  refine (HCU.out _).mono ?_
  rintro e wc ⟨rfl, K3⟩
  go_wp2_with fail
  refine hK.out _ _ ⟨hHeld.1.kept K3, hHeld.2.1.kept K3, d3 hHeld.2.2 K3⟩ (fun hHeld => ?_)
  clear hK K K3
  try simp only [Act.put, a0, a1, a2, a3, a4, a5]
  refine wpT (i := 5) (v := .bool true) rfl (Or.inl ⟨by rfl, fun W hW => ?_⟩) hHeld ?_
  ·clear hW
   go_simp
  try simp only [Act.put, a0, a1, a2, a3, a4, a5]
  refine wpT (i := 6) (v := .bool true) rfl (Or.inl ⟨by rfl, fun W hW => ?_⟩) hHeld ?_
  ·clear hW
   go_simp
  try simp only [Act.put, a0, a1, a2, a3, a4, a5]
  refine wpT (i := 7) (v := undef) rfl (Or.inr ⟨by rfl, rfl⟩) hHeld ?_
  try simp only [Act.put, a0, a1, a2, a3, a4, a5]
  refine wpT (i := 8) (v := undef) rfl (Or.inr ⟨by rfl, rfl⟩) hHeld ?_
  try simp only [Act.put, a0, a1, a2, a3, a4, a5]
  refine wpT (i := 9) (v := undef) rfl (Or.inr ⟨by rfl, rfl⟩) hHeld ?_
  try simp only [Act.put, a0, a1, a2, a3, a4, a5]
  refine wpT (i := 10) (v := undef) rfl (Or.inr ⟨by rfl, rfl⟩) hHeld ?_
  try simp only [Act.put, a0, a1, a2, a3, a4, a5]
  refine wpT (i := 11) (v := undef) rfl (Or.inr ⟨by rfl, rfl⟩) hHeld ?_
  try simp only [Act.put, a0, a1, a2, a3, a4, a5]
  refine wpT (i := 12) (v := .bool true) rfl (Or.inl ⟨by rfl, fun W hW => ?_⟩) hHeld ?_
  ·clear hW
   go_simp
  try simp only [Act.put, a0, a1, a2, a3, a4, a5]
  refine wpAnyH_done (by kernel_rfl) ?_ _
  have HF : Hid (E = 120) := by show E = 120; rw [← HE.out, A9, U9, HSB.out]; rfl
  have G3 := d3 HG2.out hHeld.2.2
  clear hHeld
  go_wp2
  go_ret
  exact ⟨L5 HF.out.symm, G3⟩
 | true =>
  refine wp_region_held_drew (S := fun W => VAt W A 77 rs ∧ VAt W B 43 X ∧ w2.grownBy W none) (by kernel_rfl) HS0.out (fun hHeld => ?_)
  refine wpT (i := 0) (v := .agg X) rfl (J3 (by rfl) _ _ rfl B rfl 43 X _ (fun W hW => hW.2.1) Tryz.underlying43 rfl HZ.out) hHeld ?_
  try simp only [Act.put, a0, a1, a3, a4, a5]
  refine wpT (i := 1) (v := .pointer (some ⟨A, 3, none⟩)) rfl (Or.inl ⟨by rfl, fun W hW => ?_⟩) hHeld ?_
  ·clear hW
   go_simp
  try simp only [Act.put, a0, a1, a2, a3, a4, a5]
  refine wpT (i := 2) (v := .func (.func un) #[] #[]) rfl (Or.inl ⟨by rfl, fun W hW => ?_⟩) hHeld ?_
  ·have c3 : W.cell? ⟨A, 3, none⟩ = some (.func (.func un) #[] #[]) := by rw [hW.1.cell 3]; exact HR0.out.2.1
   clear hW
   go_simp
  try simp only [Act.put, a0, a1, a2, a3, a4, a5]
  refine wpT (i := 3) (v := .agg X) rfl (J3 (by rfl) _ _ rfl B rfl 43 X _ (fun W hW => hW.2.1) Tryz.underlying43 rfl HZ.out) hHeld ?_
  try simp only [Act.put, a0, a1, a2, a3, a4, a5]
  refine wpR (rs := [4]) (AllReadyH.cons rfl (fun K hK => ?_) AllReadyH.nil)
  go_simp
  refine (HCU.out _).mono ?_
  rintro e wc ⟨rfl, K3⟩
  go_wp2_with fail
  refine hK.out _ _ ⟨hHeld.1.kept K3, hHeld.2.1.kept K3, d3 hHeld.2.2 K3⟩ (fun hHeld => ?_)
  clear hK K K3
  try simp only [Act.put, a0, a1, a2, a3, a4, a5]
  refine wpT (i := 5) (v := .bool false) rfl (Or.inl ⟨by rfl, fun W hW => ?_⟩) hHeld ?_
  ·clear hW
   go_simp
  try simp only [Act.put, a0, a1, a2, a3, a4, a5]
  refine wpT (i := 6) (v := .bool false) rfl (Or.inl ⟨by rfl, fun W hW => ?_⟩) hHeld ?_
  ·clear hW
   go_simp
  try simp only [Act.put, a0, a1, a2, a3, a4, a5]
  refine wpT (i := 7) (v := .pointer (some ⟨A, 4, none⟩)) rfl (Or.inl ⟨by rfl, fun W hW => ?_⟩) hHeld ?_
  ·clear hW
   go_simp
  try simp only [Act.put, a0, a1, a2, a3, a4, a5]
  refine wpT (i := 8) (v := .func (.func mn) #[] #[]) rfl (Or.inl ⟨by rfl, fun W hW => ?_⟩) hHeld ?_
  ·have c4 : W.cell? ⟨A, 4, none⟩ = some (.func (.func mn) #[] #[]) := by rw [hW.1.cell 4]; exact HR0.out.2.2.1
   clear hW
   go_simp
  try simp only [Act.put, a0, a1, a2, a3, a4, a5]
  refine wpT (i := 9) (v := .agg X) rfl (J3 (by rfl) _ _ rfl B rfl 43 X _ (fun W hW => hW.2.1) Tryz.underlying43 rfl HZ.out) hHeld ?_
  try simp only [Act.put, a0, a1, a2, a3, a4, a5]
  refine wpR (rs := [10]) (AllReadyH.cons rfl (fun K hK => ?_) AllReadyH.nil)
  go_simp
  refine (HCM.out _).mono ?_
  rintro e wd ⟨rfl, K4⟩
  go_wp2_with fail
  refine hK.out _ _ ⟨hHeld.1.kept K4, hHeld.2.1.kept K4, d3 hHeld.2.2 K4⟩ (fun hHeld => ?_)
  clear hK K K4
  try simp only [Act.put, a0, a1, a2, a3, a4, a5]
  refine wpT (i := 11) (v := .bool (!q7 x)) rfl (Or.inl ⟨by rfl, fun W hW => ?_⟩) hHeld ?_
  ·clear hW
   go_simp
  try simp only [Act.put, a0, a1, a2, a3, a4, a5]
  refine wpT (i := 12) (v := .bool (!q7 x)) rfl (Or.inl ⟨by rfl, fun W hW => ?_⟩) hHeld ?_
  ·clear hW
   go_simp
  try simp only [Act.put, a0, a1, a2, a3, a4, a5]
  refine wpAnyH_done (by kernel_rfl) ?_ _
  have G3 := d3 HG2.out hHeld.2.2
  have H3 := hHeld
  have HTC3 : Hid (CV wd tao (List.replicate pl (.int .i64 (if L6 x.kind = true then 0 else 1)))) := HTC.out.keptNone hHeld.2.2
  have HCP3 : Hid (CV wd ao (r9 ptC ps)) := HCP.out.keptNone hHeld.2.2
  clear hHeld HTC HCP HS0 HG2
  cases hm : q7 x with
  | false =>
   have HF : Hid (E = 120) := by show E = 120; rw [← HE.out, A9, U9, HSB.out, hm]; rfl
   clear hm H3
   go_wp2
   go_ret
   exact ⟨L5 HF.out.symm, G3⟩
  | true =>
   have HF : Hid (E = if Z9 x.kind ps ≠ 0 then Z9 x.kind ps else if Z1 x ps = true then 123 else m4 x) := by show E = _; rw [← HE.out, A9, U9, HSB.out, hm]; rfl
   have c0 : wd.cell? ⟨A, 0, none⟩ = some (.slice tao pl tcap) := by rw [H3.1.cell 0]; exact HR0.out.1
   clear hm
   have HL : Hid (∀ W, Calls Tryz.prog 116 #[.int .i64 (if L6 x.kind = true then 0 else 1)] W fun e w' => e = .returned (.int .i64 (if L6 x.kind = true then 121 else 122)) ∧ W = w') := fun W => ax9 (L6 x.kind) W
   have HM : Hid (∀ p : Pt, ((if p.truth = true then (0 : Int) else 1) != (if L6 x.kind = true then (0 : Int) else 1)) = !(p.truth == L6 x.kind)) := fun p => by cases p.truth <;> cases L6 x.kind <;> rfl
   obtain ⟨m, hm⟩ : ∃ m : Int, (if L6 x.kind = true then (0 : Int) else 1) = m := ⟨_, rfl⟩
   rw [hm] at HL HM HTC3
   clear hm HEQ heU heM HCU HCM HE HSB
   have HH3 : Hid (VAt wd A 77 rs ∧ VAt wd B 43 X) := ⟨H3.1, H3.2.1⟩
   have HG3 : Hid (w.grownBy wd none) := G3
   clear H3 G3
   go_wp2
   go_loopw [25] (fun i wr => ∃ j : Nat, j ≤ pl ∧ i = .int .i64 j ∧ Hid (∀ p ∈ ps.take j, (p.truth == L6 x.kind) = true) ∧ wr = wd) (fun i _ => pl - (intOf i).toNat)
   case atStart => exact ⟨0, Nat.zero_le _, rfl, (fun p hp => by cases hp), rfl⟩
   case round =>
    obtain ⟨j, hj, rfl, HA, rfl⟩ := hrel
    by_cases hlt : j < pl
    ·obtain ⟨tb, tof, rfl, htc⟩ := HTC3.out.addr (k := j) (by rw [List.length_replicate]; exact hlt)
     have t0 := htc j (by rw [List.length_replicate]; exact hlt)
     rw [List.getElem_replicate] at t0
     have hjp : j < ps.length := by rw [HPL.out]; exact hlt
     obtain ⟨b, of, rfl, hpc⟩ := HCP3.out.pts a1Q hjp
     have p0 := hpc j hjp 0 (.int .i64 (if ps[j].truth = true then 0 else 1)) rfl
     rw [Nat.add_zero] at p0
     have hmm := HM.out ps[j]
     have hl : (j : Int) < (pl : Int) := by omega
     have z0 : (0 : Int) ≤ (j : Int) := by omega
     have w3 : IntKind.i64.wrap ((j : Int) + 1) = (j : Int) + 1 := by rw [IntKind.wrap_i64]; have := hplm.out; unfold maxLen at this; omega
     have HTK : Hid (ps.take (j + 1) = ps.take j ++ [ps[j]]) := List.take_succ_eq_append_getElem hjp
     have HME : Hid (ps[j] ∈ ps) := List.getElem_mem hjp
     clear htc hpc
     cases ht : (ps[j].truth == L6 x.kind) with
     | false =>
      rw [ht] at hmm
      have HF2 : Hid (E = if L6 x.kind = true then 121 else 122) := by
       have e0 := ax6 HME.out ht
       show E = _
       have := HF.out
       rw [e0] at this
       rw [if_pos (by split <;> decide)] at this
       exact this
      clear ht HF HA
      generalize (if ps[j].truth = true then (0 : Int) else 1) = qv at *
      rw [Bool.not_false] at hmm
      go_wp2_with fail
      refine (HL.out _).mono ?_
      rintro e w' ⟨rfl, rfl⟩
      generalize (if L6 x.kind = true then (121 : Int) else 122) = ee at *
      go_wp2
      go_ret
      exact ⟨L5 HF2.out.symm, HG3.out⟩
     | true =>
      rw [ht] at hmm
      have HA2 : Hid (∀ p ∈ ps.take (j + 1), (p.truth == L6 x.kind) = true) := fun p hp => by
       rw [HTK.out] at hp
       rcases List.mem_append.1 hp with hp | hp
       ·exact HA.out p hp
       ·rw [List.mem_singleton.1 hp]; exact ht
      clear ht HA
      generalize (if ps[j].truth = true then (0 : Int) else 1) = qv at *
      rw [Bool.not_true] at hmm
      go_wp2
      go_roundw
      case rel => exact ⟨j + 1, by omega, by go_num, HA2, trivial⟩
      case measure => simp [intOf]; omega
    ·have HF2 : Hid (E = if Z1 x ps = true then 123 else m4 x) := by
      have e0 : Z9 x.kind ps = 0 := ax7 (fun p hp => HA.out p (by rw [List.take_of_length_le (by rw [HPL.out]; omega)]; exact hp))
      have := HF.out
      rw [e0] at this
      exact this
     have LB := HH3.out.2
     have c5 : wr.cell? ⟨A, 5, none⟩ = some (.func (.func bn) #[] #[]) := by rw [HH3.out.1.cell 5]; exact HR0.out.2.2.2
     have hjj : ¬ (j : Int) < (pl : Int) := by omega
     clear HA HF HTC3 HM HL
     go_wp2_with (refine wpList_load_row rfl 43 (.tmp 4) rfl B rfl 43 X (0, 0) _ LB Tryz.underlying43 rfl HZ.out ?_)
     refine (HDZ.out _ HCP3.out).mono ?_
     rintro e w5 ⟨rfl, K5⟩
     have G5 := d3 HG3.out K5
     have LB5 := LB.kept K5
     have c55 := K5.cell c5 (by simp)
     clear LB c5 HDZ HCP3
     cases hz : Z1 x ps with
     | true =>
      have HF3 : Hid (E = 123) := by have := HF2.out; rw [hz] at this; exact this
      clear hz
      go_wp2
      go_ret
      exact ⟨L5 HF3.out.symm, G5⟩
     | false =>
      have HF3 : Hid (E = m4 x) := by have := HF2.out; rw [hz] at this; exact this
      have CX := HCB.out w5
      clear hz
      generalize m4 x = re at *
      go_wp2_with (first | refine wpList_load_row rfl 43 (.tmp 4) rfl B rfl 43 X (0, 0) _ LB5 Tryz.underlying43 rfl HZ.out ?_ | (go_at_fn bn; refine CX.mono ?_; rintro e w6 ⟨rfl, K6⟩))
      go_ret
      exact ⟨L5 HF3.out.symm, d3 G5 K6⟩
theorem aq2 {x : Ng} {ps : List Pt} (h : A9 x ps = 0) : U9 x = true ∧ Z9 x.kind ps = 0 ∧ Z1 x ps = false ∧ m4 x = 0 := by
 unfold A9 at h
 split at h
 ·cases h
 ·rename_i h1
  split at h
  ·rename_i h2; exact absurd h h2
  ·rename_i h2
   split at h
   ·cases h
   ·rename_i h3
    exact ⟨by simpa using h1, by omega, by simpa using h3, h⟩
theorem ag2 {op : Int} {a b : Nat} (ha : a ≤ 4294967295) (hb : b ≤ 4294967295) : D4 op a b ≤ 4294967295 := by
 unfold D4
 have h1 := a9R a b true ha
 have h2 := a9R a b false ha
 have h3 : a / b ≤ a := Nat.div_le_self _ _
 have h4 : a % b ≤ a := Nat.mod_le _ _
 have h5 : a &&& b ≤ a := Nat.and_le_left
 have h6 : a ||| b < 2 ^ 32 := Nat.or_lt_two_pow (by omega) (by omega)
 have h7 : a ^^^ b < 2 ^ 32 := Nat.xor_lt_two_pow (by omega) (by omega)
 repeat' split
 all_goals omega
theorem a8i {ps : List Pt} (h : ∀ p ∈ ps, p.val ≤ 4294967295) (i : Nat) : (ps.getD i pt0).val ≤ 4294967295 := by
 rw [List.getD_eq_getElem?_getD]
 cases e : ps[i]? with
 | none => simp [pt0]
 | some p => exact h p (List.mem_of_getElem? e)
theorem ax2 {x : Ng} {ps : List Pt} (hx : x.n ≤ 4294967295) (h : ∀ p ∈ ps, p.val ≤ 4294967295) : (I6 x ps).val ≤ 4294967295 := by
 have h0 := a8i h 0
 have h1 := a8i h 1
 unfold I6
 split
 ·cases e : a1C x ps with
  | none => simp
  | some v =>
   simp only
   unfold a1C at e
   split at e
   ·cases e; exact hx
   ·split at e
    ·cases e; exact ag2 h0 h1
    ·split at e
     ·cases e; unfold a2h; omega
     ·cases e
 ·simp
theorem aY5 (k : Nat) : (if M7 (k : Int) = true then (0 : Int) else 1) = if k ≤ 5 then 1 else 0 := by
 unfold M7
 by_cases h : k ≤ 5
 ·rw [if_pos h, if_neg (by rw [decide_eq_true_eq]; omega)]
 ·rw [if_neg h, if_pos (by rw [decide_eq_true_eq]; omega)]
def a1A : List Value := [.int .i64 0, .bool false, .int .u32 0]
theorem aX4 (w : World) (cs xs ds : Array Value) : VAt (((w.alloc (.cells cs 77)).alloc (.cells xs 43)).alloc (.cells ds 58)) w.heap.size 77 cs ∧ VAt (((w.alloc (.cells cs 77)).alloc (.cells xs 43)).alloc (.cells ds 58)) (w.heap.size + 1) 43 xs ∧ VAt (((w.alloc (.cells cs 77)).alloc (.cells xs 43)).alloc (.cells ds 58)) (w.heap.size + 1 + 1) 58 ds ∧ w.grownBy (((w.alloc (.cells cs 77)).alloc (.cells xs 43)).alloc (.cells ds 58)) none := by
 obtain ⟨h1, h2, h3⟩ := ac6 w cs xs
 have K := World.grownBy_alloc ((w.alloc (.cells cs 77)).alloc (.cells xs 43)) (.cells ds 58) none
 have h := VAt.alloc ((w.alloc (.cells cs 77)).alloc (.cells xs 43)) 58 ds
 rw [show ((w.alloc (.cells cs 77)).alloc (.cells xs 43)).heap.size = w.heap.size + 1 + 1 by simp] at h
 exact ⟨h1.kept K, h2.kept K, h, d3 h3 K⟩
theorem aM1 (p : Pt) : (Tryz.prog.info? 58).map (·.size) = some (ptC p).length ∧ (Tryz.prog.info? 58).map (·.size) = some (ptC p).toArray.size ∧ 3 = (ptC p).toArray.size ∧ (ptC p).toArray.all (·.oneCell') = true := ⟨by kernel_rfl, by kernel_rfl, rfl, by rw [List.all_toArray, List.all_eq_true]; exact a4E p⟩
theorem aF3 {ps : List Pt} {p : Pt} (h : p ∈ ps) (hf : p.fixed = false) : ¬ ps.all (·.fixed) = true := fun ha => by
 have := List.all_eq_true.1 ha p h
 rw [hf] at this
 cases this
theorem ax3 (x : Ng) (ps : List Pt) (k : Nat) (hk : x.kind = k) (ha : arG x.kind = some ps.length) (hf : A9 x ps = 0) (hv : ∀ p ∈ ps, p.val ≤ 4294967295) (R : RT) (ao : Option Addr) (cap : Nat) (w : World) (C : CV w ao (r9 ptC ps)) :
  Calls Tryz.prog 79 #[.agg (x0 R k).toArray, .agg x.cells.toArray, .slice ao ps.length cap] w fun e w' => e = .returned (.agg (ptC (I6 x ps)).toArray) ∧ w.grownBy w' none := by
 have hin := a3q ha
 have h1 : 1 ≤ k := by omega
 have h2 : k ≤ 16 := by omega
 have hple := a1G ha
 obtain ⟨hf1, -, hf3, -⟩ := aq2 hf
 obtain ⟨h3, h4, h5, h6⟩ := aX4 w (x0 R k).toArray x.cells.toArray a1A.toArray
 have HBR := a7C R k
 have HBX := s8 x
 have heV := b04 k h1 h2
 have HCV : Hid (ps.all (·.fixed) = true → ∀ W, CV W ao (r9 ptC ps) → Calls Tryz.prog (a2G k) #[.agg x.cells.toArray, .slice ao ps.length cap] W fun e w' => e = .returned (a03 x ps) ∧ W.grownBy w' none) := fun hx W CW => b05 x ps k h1 h2 hk ha hf1 hf3 hx hv ao cap W CW
 have HCP : Hid (CV (((w.alloc (.cells (x0 R k).toArray 77)).alloc (.cells x.cells.toArray 43)).alloc (.cells a1A.toArray 58)) ao (r9 ptC ps)) := C.keptNone h6
 have HR0 : Hid ((x0 R k).toArray[1]? = some (.int .i64 (if M7 x.kind = true then 0 else 1)) ∧ (x0 R k).toArray[6]? = some (.func (.func (a2G k)) #[] #[])) := ⟨by rw [hk, aY5]; rfl, rfl⟩
 have HZ : Hid ((Tryz.prog.info? 43).map (·.size) = some x.cells.toArray.size) := E8 x
 obtain ⟨E, hE⟩ : ∃ E, I6 x ps = E := ⟨_, rfl⟩
 rw [hE]
 have HE : Hid (I6 x ps = E) := hE
 have HD : Hid (w.heap.size ≤ w.heap.size + 1 + 1) := by show w.heap.size ≤ _; omega
 obtain ⟨it, hit⟩ : ∃ it : Int, (if M7 x.kind = true then 0 else 1) = it := ⟨_, rfl⟩
 have HIT : Hid ((if M7 x.kind = true then (0 : Int) else 1) = it) := hit
 rw [hit] at HR0
 clear C hE hit hf hf1 hf3 hv
 generalize a2G k = vn at *
 obtain ⟨rs, hrs⟩ : ∃ rs, (x0 R k).toArray = rs := ⟨_, rfl⟩
 obtain ⟨X, hX⟩ : ∃ X, x.cells.toArray = X := ⟨_, rfl⟩
 rw [hrs] at h3 h4 h5 h6 HBR HCP HR0 ⊢
 rw [hX] at h3 h4 h5 h6 HBX HCV HCP HZ ⊢
 obtain ⟨pl, hpl⟩ : ∃ pl, ps.length = pl := ⟨_, rfl⟩
 have HPL : Hid (ps.length = pl) := hpl
 have hplm : Hid (pl ≤ 2) := by show pl ≤ 2; omega
 rw [hpl] at HCV ⊢
 clear hrs hX hk hin h1 h2 ha hpl hple
 go_enter Tryz.func79, Tryz.ntmps79
 go_upto_region 1 with fail
 rw [show (#[.int .i64 0, .bool false, .int .u32 0] : Array Value) = a1A.toArray from rfl]
 generalize ((w.alloc (.cells rs 77)).alloc (.cells X 43)).alloc (.cells a1A.toArray 58) = w2 at *
 obtain ⟨D, hD⟩ : ∃ D, w.heap.size + 1 + 1 = D := ⟨_, rfl⟩
 rw [hD] at h5 HD ⊢
 generalize w.heap.size + 1 = B at h4 ⊢
 generalize hwA : w.heap.size = A at h3 ⊢
 have HB0 : Hid (VAt w2 A 77 rs ∧ VAt w2 B 43 X ∧ VAt w2 D 58 a1A.toArray) := ⟨h3, h4, h5⟩
 have HG2 : Hid (w.grownBy w2 none) := h6
 clear h3 h4 h5 h6 HBR HBX hD hwA
 go_wp2
 go_loopw [13] (fun i wr => ∃ j : Nat, j ≤ pl ∧ i = .int .i64 j ∧ Hid (∀ p ∈ ps.take j, p.fixed = true) ∧ w2.grownBy wr none) (fun i _ => pl - (intOf i).toNat)
 case atStart => exact ⟨0, Nat.zero_le _, rfl, (fun p hp => by cases hp), World.grownBy.refl _ _⟩
 case round =>
  obtain ⟨j, hj, rfl, HA, G⟩ := hrel
  by_cases hlt : j < pl
  ·have hjp : j < ps.length := by rw [HPL.out]; exact hlt
   obtain ⟨b, of, rfl, hpc⟩ := (HCP.out.keptNone G).pts a1Q hjp
   have HR : Hid (wr.rangeAt b (of + j * 3) (ptC ps[j])) := hpc j hjp
   have HSZ : Hid _ := aM1 ps[j]
   have HP1 : Hid ((ptC ps[j]).toArray[1]? = some (.bool ps[j].fixed)) := rfl
   have HTK : Hid (ps.take (j + 1) = ps.take j ++ [ps[j]]) := List.take_succ_eq_append_getElem hjp
   have HME : Hid (ps[j] ∈ ps) := List.getElem_mem hjp
   have hl : (j : Int) < (pl : Int) := by omega
   have z0 : (0 : Int) ≤ (j : Int) := by omega
   have w3 : IntKind.i64.wrap ((j : Int) + 1) = (j : Int) + 1 := by rw [IntKind.wrap_i64]; have := hplm.out; omega
   have K2 := World.grownBy_alloc wr (.cells (ptC ps[j]).toArray 58) none
   have V2 := VAt.alloc wr 58 (ptC ps[j]).toArray
   clear hpc
   generalize ptC ps[j] = pc at *
   go_upto_region 4 with (first | refine wpList_load_mid rfl 58 (.tmp 15) rfl b (of + j * 3) (by simp [Act.eval]) pc _ HR.out Tryz.underlying58 rfl HSZ.out.1 ?_ | refine wpList_store_row rfl 58 (.tmp 8) (.tmp 16) rfl wr.heap.size pc.toArray rfl rfl 58 _ (heap_alloc_new wr _) HSZ.out.2.1 HSZ.out.2.2.1 HSZ.out.2.2.2 ?_)
   rw [World.setRow_alloc_new]
   have G2 := d3 G K2
   generalize wr.alloc (.cells pc.toArray 58) = w4 at *
   generalize wr.heap.size = F at *
   have d1 : w4.cell? ⟨F, 1, none⟩ = some (.bool ps[j].fixed) := by rw [V2.cell 1]; exact HP1.out
   clear HR HP1 HSZ V2 K2 G
   cases hfx : ps[j].fixed with
   | false =>
    rw [hfx] at d1
    have HF : Hid (E = ⟨M7 x.kind, false, 0⟩) := by
     show E = _
     rw [← HE.out, I6, if_neg (aF3 HME.out hfx)]
    have c1 : w4.cell? ⟨A, 1, none⟩ = some (.int .i64 it) := by rw [(HB0.out.1.kept G2).cell 1]; exact HR0.out.1
    have VD := HB0.out.2.2.kept G2
    have HVD : Hid (VAt w4 D 58 a1A.toArray) := VD
    have HGF : Hid (w.grownBy (w4.setRow D #[.int .i64 it, .bool false, .int .u32 0]) none) := x5 (d3 HG2.out G2) D _ (.inr HD.out)
    have HZZ : Hid ((Tryz.prog.info? 58).map (·.size) = some (#[.int .i64 it, .bool false, .int .u32 0] : Array Value).size ∧ a1A.toArray.size = (#[.int .i64 it, .bool false, .int .u32 0] : Array Value).size ∧ (#[.int .i64 it, .bool false, .int .u32 0] : Array Value).all (·.oneCell') = true) := ⟨by kernel_rfl, rfl, by simp [Value.oneCell']⟩
    clear hfx HA
    go_wp2_with (refine wpList_store_row rfl 58 (.tmp 6) (.tmp 22) rfl D #[.int .i64 it, .bool false, .int .u32 0] rfl rfl 58 _ VD HZZ.out.1 HZZ.out.2.1 HZZ.out.2.2 ?_)
    refine bodyPost_ret (results_cell_row rfl _ _ D 58 _ (0, 0) _ rfl (HVD.out.setRow _) Tryz.underlying58 rfl HZZ.out.1) rfl ?_
    refine ⟨?_, HGF.out⟩
    rw [HF.out, ptC, ← HIT.out]
    rfl
   | true =>
    rw [hfx] at d1
    have HA2 : Hid (∀ p ∈ ps.take (j + 1), p.fixed = true) := fun p hp => by
     rw [HTK.out] at hp
     rcases List.mem_append.1 hp with hp | hp
     ·exact HA.out p hp
     ·rw [List.mem_singleton.1 hp]; exact hfx
    clear hfx HA
    go_wp2
    go_roundw
    case rel => exact ⟨j + 1, by omega, by go_num, HA2, G2⟩
    case measure => simp [intOf]; omega
  ·have HAF : Hid (ps.all (·.fixed) = true) := List.all_eq_true.2 (fun p hp => HA.out p (by rw [List.take_of_length_le (by rw [HPL.out]; omega)]; exact hp))
   have LB := HB0.out.2.1.kept G
   have c6 : wr.cell? ⟨A, 6, none⟩ = some (.func (.func vn) #[] #[]) := by rw [(HB0.out.1.kept G).cell 6]; exact HR0.out.2
   have CX := HCV.out HAF.out wr (HCP.out.keptNone G)
   have hjj : ¬ (j : Int) < (pl : Int) := by omega
   have HEV : Hid (∃ (v : Nat) (b : Bool), a03 x ps = .tuple #[.int .u32 (v : Int), .bool b] ∧ E = ⟨M7 x.kind, b, v⟩) := by
    have h := HE.out
    rw [I6, if_pos HAF.out] at h
    unfold a03
    cases hvv : a1C x ps with
    | none => rw [hvv] at h; exact ⟨0, false, rfl, h.symm⟩
    | some v => rw [hvv] at h; exact ⟨v, true, rfl, h.symm⟩
   obtain ⟨v, fb, hv1, hv2⟩ := HEV.out
   have HV2 : Hid (E = ⟨M7 x.kind, fb, v⟩) := hv2
   rw [hv1] at CX
   clear HA HEV hv1 hv2 HCV
   go_wp2_with (first | refine wpList_load_row rfl 43 (.tmp 4) rfl B rfl 43 X (0, 0) _ LB Tryz.underlying43 rfl HZ.out ?_ | (go_at_fn vn; refine CX.mono ?_; rintro e w6 ⟨rfl, K6⟩; have G6 := d3 G K6; have VD := HB0.out.2.2.kept G6; have c1 : w6.cell? ⟨A, 1, none⟩ = some (.int .i64 it) := (by rw [(HB0.out.1.kept G6).cell 1]; exact HR0.out.1); have HGF : Hid (w.grownBy (w6.setRow D #[.int .i64 it, .bool fb, .int .u32 (v : Int)]) none) := x5 (d3 HG2.out G6) D _ (.inr HD.out); have HZZ : Hid ((Tryz.prog.info? 58).map (·.size) = some (#[.int .i64 it, .bool fb, .int .u32 (v : Int)] : Array Value).size ∧ a1A.toArray.size = (#[.int .i64 it, .bool fb, .int .u32 (v : Int)] : Array Value).size ∧ (#[.int .i64 it, .bool fb, .int .u32 (v : Int)] : Array Value).all (·.oneCell') = true) := ⟨(by kernel_rfl), rfl, (by simp [Value.oneCell'])⟩; clear K6 G LB c6 CX) | refine wpList_store_row rfl 58 (.tmp 6) (.tmp 36) rfl D #[.int .i64 it, .bool fb, .int .u32 (v : Int)] rfl rfl 58 _ VD HZZ.out.1 HZZ.out.2.1 HZZ.out.2.2 ?_)
   refine bodyPost_ret (results_cell_row rfl _ _ D 58 _ (0, 0) _ rfl (VD.setRow _) Tryz.underlying58 rfl HZZ.out.1) rfl ?_
   refine ⟨?_, HGF.out⟩
   rw [HV2.out, ptC, ← HIT.out]

end Go.Proofs.YtklipelnjgpnjaaGreatDoor
