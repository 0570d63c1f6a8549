import Derived.Test.YtlfmddjppejmaaaGreatDoorqAb
import Derived.Test.YtlfmddjppejmaaaGreatDoorqPsL
set_option maxHeartbeats 64000000
set_option maxRecDepth 100000
namespace Go.Proofs.YtlfmddjppejmaaaGreatDoor
open Go.RowKit
def I8 (of : Nat) : Nd := { ndK 11 with of := of }
theorem a0w (of : Nat) : (I8 of).cells = [.int .i64 11, .int .i64 0, .int .u32 0, .int .u32 0, .int .i64 0, .int .i64 (of : Int), .int .i64 0, .int .u8 0, .int .u8 0, .int .u8 0, .int .u8 0, .int .u8 0, .int .u8 0, .int .u8 0, .int .u8 0, .int .u8 0, .int .u8 0, .int .u8 0, .int .u8 0, .int .u8 0, .int .u8 0, .int .u8 0, .int .u8 0, .int .i64 0] := by kernel_rfl
def U9 (of n : Nat) : Nd := { ndK 13 with of := of, n := n }
theorem a3G (of n : Nat) (W : World) : (Instr.build 54 #[(0, .int .i64 13), (5, .int .i64 (of : Int)), (2, .int .u32 (n : Int))]).run Tryz.prog W = .ok (.agg (U9 of n).cells.toArray) W := by kernel_rfl
def N9 : List (List UInt8) := [g9, j5, j1, j4]

section
variable {c : PC} {w : World} {i nest bud : Nat} {vt vp : Value} {ts : List Tk} {ns : List (Nd × Nat)}
theorem O8 (h : PS c w i vt vp ts nest bud ns) (x : List UInt8) (hx : F9 x) (ad : Addr) (ha : CV w (some ad) [str x]) :
  Calls Tryz.prog 65 #[.pointer (some ⟨c.g, 0, none⟩), .slice (some ad) 1 1] w fun e w' => e = .returned (.bool (isB ts x)) ∧ w.grownBy w' none := by
 have := a0b h (some ad) 1 [x] ha (by simp)
 rw [show decide ((hdT ts).text ∈ [x]) = isB ts x by rw [T6 h.good.hd hx]; simp] at this
 exact this
theorem a5l {ts : List Tk} (h : TkG (hdT ts)) : decide ((hdT ts).text ∈ N9) = true ↔ (isB ts g9 = true ∨ isB ts j5 = true ∨ isB ts j1 = true ∨ isB ts j4 = true) := by
 rw [T6 h (a19 (x := g9) (by decide)), T6 h (a19 (x := j5) (by decide)), T6 h (a19 (x := j1) (by decide)), T6 h (a19 (x := j4) (by decide))]
 simp [N9]
theorem a7T (h : PS c w i vt vp ts nest bud ns) (of : Nat) (hof : l9 (hdT ts).text = of) (hof0 : of ≠ 0) (hof1 : of ≤ 13) (hk : (hdT ts).kind ≠ 0) (rec : Nat → List Tk → Out) (HO : U4 c rec) (h13 : of ≠ 13) (hb : isB ts.tail [91] = true) (ans : Out) (hans : N7 rec nest of (hdT ts).pos ts.tail = ans) (hne : ans ≠ .error exP) :
  Calls Tryz.prog 119 #[.pointer (some ⟨c.g, 0, none⟩)] w (l6 c w vt vp nest bud ns ans) := by
 have HP : Hid (PS c w i vt vp ts nest bud ns) := h
 have CN := x9 h
 unfold tkC at CN
 have HF2 := fun k p x n W => (o8 k p x n W).2.2.1
 have HNO : Hid (∀ W, Calls Tryz.prog 124 #[str (hdT ts).text] W fun e w' => e = .returned (.int .i64 (of : Int)) ∧ W = w') := fun W => by
  have := T0 (hdT ts).text W
  rw [hof] at this
  exact this
 have HK : Hid ((hdT ts).kind ≠ 0) := hk
 have HOF : Hid (of ≠ 0 ∧ of ≤ 13) := ⟨hof0, hof1⟩
 have hz0 : ((of : Int) == 0) = false := by rw [beq_eq_false_iff_ne]; omega
 have HANS : Hid (s9 nest ts.tail (d8 (rec (nest + 1) ts.tail.tail) fun p1 => d8 (O6 p1.2) fun q => .ok (p1.1 ++ [({ ndK 3 with of := of, size := q.1 }, (hdT ts).pos)], q.2)) = ans) := by
  show _ = ans
  rw [← hans, N7, if_pos ⟨hb, h13⟩]
 have HNE : Hid (ans ≠ .error exP) := hne
 have HOO : Hid (U4 c rec) := HO
 have HBK : Hid ((hdT ts.tail).kind ≠ 0) := a0i hb
 have h13' : ((of : Int) != 13) = true := by rw [bne_iff_ne]; omega
 clear hans hne HO h13
 clear h hof hk
 go_enter Tryz.func119, Tryz.ntmps119
 go_wp2_with fail
 refine CN.mono ?_
 rintro e w1 ⟨rfl, G1⟩
 clear CN
 go_wp2_with fail
 refine (HNO.out w1).mono ?_
 rintro e w2 ⟨rfl, rfl⟩
 clear HNO
 have P1 := HP.out.keep G1
 go_wp2_with fail
 refine (I5 P1 HK.out).mono ?_
 rintro e w3 ⟨rfl, i3, vt3, vp3, H3, G3, F3⟩
 unfold tkC
 obtain ⟨t, ht⟩ : ∃ t, hdT ts = t := ⟨_, rfl⟩
 have HT : Hid (hdT ts = t) := ht
 rw [ht]
 clear ht
 obtain ⟨tk, tp, tx, tn⟩ := t
 simp only
 have KA := World.grownBy_alloc w3 (.cells #[.int .i64 (tk : Int), .int .i64 (tp : Int), str tx, .int .u32 (tn : Int)] 42) none
 have VM := VAt.alloc w3 42 #[.int .i64 (tk : Int), .int .i64 (tp : Int), str tx, .int .u32 (tn : Int)]
 have Q4 : PR c w vt vp (w3.alloc (.cells #[.int .i64 (tk : Int), .int .i64 (tp : Int), str tx, .int .u32 (tn : Int)] 42)) i3 vt3 vp3 ts.tail nest (bud + 1) ns w3.heap.size 42 #[.int .i64 (tk : Int), .int .i64 (tp : Int), str tx, .int .u32 (tn : Int)] :=
  ⟨H3.keep KA, ((GB.non G1).trans G3 (fun _ _ h => h)).trans (GB.non (S := d3 c.g vt vp) KA) (fun _ _ h => h), fun x hx => F3 x (Nat.lt_of_lt_of_le hx G1.size), H3.not_foot (Nat.le_refl _), VM, Nat.le_trans G1.size G3.size⟩
 clear P1 H3 G3 F3 KA VM G1
 go_upto_region 5 with fail
 generalize w3.alloc (.cells #[.int .i64 (tk : Int), .int .i64 (tp : Int), .string ⟨tx.toArray⟩, .int .u32 (tn : Int)] 42) = w4 at *
 generalize w3.heap.size = M at *
 have GA1 := World.grownBy_alloc w4 (.cells #[str [91]] 9) none
 have CS1 := O8 (Q4.keep GA1).ps [91] (s7 (by decide) (by kernel_rfl)) ⟨w4.heap.size, 0, none⟩ (m8 w4 _ _)
 rw [hb] at CS1
 go_wp2_with fail
 refine CS1.mono ?_
 rintro e w5 ⟨rfl, GB1⟩
 have Q5 := (Q4.keep GA1).keep GB1
 clear CS1 GA1 GB1 Q4
 rw [HT.out] at HANS
 have CL := a7F rec HOO.out Q5.ps HBK.out ⟨tk, tp, tx, tn⟩ of ans HANS.out HNE.out
 unfold tkC at CL
 simp only at CL
 have VA := Q5.res
 have HQ : Hid (PR c w vt vp w5 i3 vt3 vp3 ts.tail nest (bud + 1) ns M 42 #[.int .i64 (tk : Int), .int .i64 (tp : Int), str tx, .int .u32 (tn : Int)]) := Q5
 clear Q5 HANS HNE HOO
 go_wp2_with (refine wpList_load_row rfl 42 (.tmp 3) rfl M rfl 42 _ (0, 0) _ VA Tryz.underlying42 rfl D2 ?_)
 refine CL.mono ?_
 clear CL
 cases ans with
 | error er =>
  rintro e w6 ⟨rfl, G⟩
  go_wp2
  exact ⟨rfl, rfl, HQ.out.err G⟩
 | ok v =>
  obtain ⟨ms, r6⟩ := v
  rintro e w6 ⟨rfl, R6⟩
  go_wp2
  go_end0
  exact ⟨rfl, Ret.less (Ret.of HQ.out.gb HQ.out.sh R6) (Nat.le_succ bud)⟩
theorem a4z (h : PS c w i vt vp ts nest bud ns) (of : Nat) (hof : l9 (hdT ts).text = of) (hof0 : of ≠ 0) (hof1 : of ≤ 13) (hk : (hdT ts).kind ≠ 0) (h13 : of = 13) :
  Calls Tryz.prog 119 #[.pointer (some ⟨c.g, 0, none⟩)] w (l6 c w vt vp nest bud ns (.ok ([(I8 of, (hdT ts).pos)], ts.tail))) := by
 have HP : Hid (PS c w i vt vp ts nest bud ns) := h
 have CN := x9 h
 unfold tkC at CN
 have HF2 := fun k p x n W => (o8 k p x n W).2.2.1
 have HNO : Hid (∀ W, Calls Tryz.prog 124 #[str (hdT ts).text] W fun e w' => e = .returned (.int .i64 (of : Int)) ∧ W = w') := fun W => by
  have := T0 (hdT ts).text W
  rw [hof] at this
  exact this
 have HK : Hid ((hdT ts).kind ≠ 0) := hk
 have HOF : Hid (of ≠ 0 ∧ of ≤ 13) := ⟨hof0, hof1⟩
 have hz0 : ((of : Int) == 0) = false := by rw [beq_eq_false_iff_ne]; omega
 have h13' : ((of : Int) != 13) = false := by rw [h13]; rfl
 have n2 : ((of : Int) == 2) = false := by rw [beq_eq_false_iff_ne]; omega
 have n3 : ((of : Int) == 3) = false := by rw [beq_eq_false_iff_ne]; omega
 have n4 : ((of : Int) == 4) = false := by rw [beq_eq_false_iff_ne]; omega
 have n5 : ((of : Int) == 5) = false := by rw [beq_eq_false_iff_ne]; omega
 have n1 : ((of : Int) == 1) = false := by rw [beq_eq_false_iff_ne]; omega
 clear h13
 clear h hof hk
 go_enter Tryz.func119, Tryz.ntmps119
 go_wp2_with fail
 refine CN.mono ?_
 rintro e w1 ⟨rfl, G1⟩
 clear CN
 go_wp2_with fail
 refine (HNO.out w1).mono ?_
 rintro e w2 ⟨rfl, rfl⟩
 clear HNO
 have P1 := HP.out.keep G1
 go_wp2_with fail
 refine (I5 P1 HK.out).mono ?_
 rintro e w3 ⟨rfl, i3, vt3, vp3, H3, G3, F3⟩
 unfold tkC
 obtain ⟨t, ht⟩ : ∃ t, hdT ts = t := ⟨_, rfl⟩
 have HT : Hid (hdT ts = t) := ht
 rw [ht]
 clear ht
 obtain ⟨tk, tp, tx, tn⟩ := t
 simp only
 have KA := World.grownBy_alloc w3 (.cells #[.int .i64 (tk : Int), .int .i64 (tp : Int), str tx, .int .u32 (tn : Int)] 42) none
 have VM := VAt.alloc w3 42 #[.int .i64 (tk : Int), .int .i64 (tp : Int), str tx, .int .u32 (tn : Int)]
 have Q4 : PR c w vt vp (w3.alloc (.cells #[.int .i64 (tk : Int), .int .i64 (tp : Int), str tx, .int .u32 (tn : Int)] 42)) i3 vt3 vp3 ts.tail nest (bud + 1) ns w3.heap.size 42 #[.int .i64 (tk : Int), .int .i64 (tp : Int), str tx, .int .u32 (tn : Int)] :=
  ⟨H3.keep KA, ((GB.non G1).trans G3 (fun _ _ h => h)).trans (GB.non (S := d3 c.g vt vp) KA) (fun _ _ h => h), fun x hx => F3 x (Nat.lt_of_lt_of_le hx G1.size), H3.not_foot (Nat.le_refl _), VM, Nat.le_trans G1.size G3.size⟩
 clear P1 H3 G3 F3 KA VM G1
 go_upto_region 5 with fail
 generalize w3.alloc (.cells #[.int .i64 (tk : Int), .int .i64 (tp : Int), .string ⟨tx.toArray⟩, .int .u32 (tn : Int)] 42) = w4 at *
 generalize w3.heap.size = M at *
 have CP := F0 Q4.ps ⟨tk, tp, tx, tn⟩ (I8 of)
 rw [a0w] at CP
 unfold tkC at CP
 simp only at CP
 have VA := Q4.res
 have HQ : Hid (PR c w vt vp w4 i3 vt3 vp3 ts.tail nest (bud + 1) ns M 42 #[.int .i64 (tk : Int), .int .i64 (tp : Int), str tx, .int .u32 (tn : Int)]) := Q4
 clear Q4
 go_wp2_with (refine wpList_load_row rfl 42 (.tmp 3) rfl M rfl 42 _ (0, 0) _ VA Tryz.underlying42 rfl D2 ?_)
 refine CP.mono ?_
 rintro e wz ⟨rfl, R⟩
 go_wp2
 go_end0
 refine ⟨rfl, ?_⟩
 rw [HT.out]
 exact Ret.of HQ.out.gb HQ.out.sh R
theorem a7W (h : PS c w i vt vp ts nest bud ns) (of : Nat) (hof : l9 (hdT ts).text = of) (hof0 : of ≠ 0) (hof1 : of ≤ 13) (hk : (hdT ts).kind ≠ 0) (h13 : of ≠ 13) (hb : isB ts.tail [91] = false) (ho : 5 < of) :
  Calls Tryz.prog 119 #[.pointer (some ⟨c.g, 0, none⟩)] w (l6 c w vt vp nest bud ns (.ok ([(I8 of, (hdT ts).pos)], ts.tail))) := by
 have HP : Hid (PS c w i vt vp ts nest bud ns) := h
 have CN := x9 h
 unfold tkC at CN
 have HF2 := fun k p x n W => (o8 k p x n W).2.2.1
 have HNO : Hid (∀ W, Calls Tryz.prog 124 #[str (hdT ts).text] W fun e w' => e = .returned (.int .i64 (of : Int)) ∧ W = w') := fun W => by
  have := T0 (hdT ts).text W
  rw [hof] at this
  exact this
 have HK : Hid ((hdT ts).kind ≠ 0) := hk
 have HOF : Hid (of ≠ 0 ∧ of ≤ 13) := ⟨hof0, hof1⟩
 have hz0 : ((of : Int) == 0) = false := by rw [beq_eq_false_iff_ne]; omega
 have h13' : ((of : Int) != 13) = true := by rw [bne_iff_ne]; omega
 have n2 : ((of : Int) == 2) = false := by rw [beq_eq_false_iff_ne]; omega
 have n3 : ((of : Int) == 3) = false := by rw [beq_eq_false_iff_ne]; omega
 have n4 : ((of : Int) == 4) = false := by rw [beq_eq_false_iff_ne]; omega
 have n5 : ((of : Int) == 5) = false := by rw [beq_eq_false_iff_ne]; omega
 have n1 : ((of : Int) == 1) = false := by rw [beq_eq_false_iff_ne]; omega
 clear h13 ho
 clear h hof hk
 go_enter Tryz.func119, Tryz.ntmps119
 go_wp2_with fail
 refine CN.mono ?_
 rintro e w1 ⟨rfl, G1⟩
 clear CN
 go_wp2_with fail
 refine (HNO.out w1).mono ?_
 rintro e w2 ⟨rfl, rfl⟩
 clear HNO
 have P1 := HP.out.keep G1
 go_wp2_with fail
 refine (I5 P1 HK.out).mono ?_
 rintro e w3 ⟨rfl, i3, vt3, vp3, H3, G3, F3⟩
 unfold tkC
 obtain ⟨t, ht⟩ : ∃ t, hdT ts = t := ⟨_, rfl⟩
 have HT : Hid (hdT ts = t) := ht
 rw [ht]
 clear ht
 obtain ⟨tk, tp, tx, tn⟩ := t
 simp only
 have KA := World.grownBy_alloc w3 (.cells #[.int .i64 (tk : Int), .int .i64 (tp : Int), str tx, .int .u32 (tn : Int)] 42) none
 have VM := VAt.alloc w3 42 #[.int .i64 (tk : Int), .int .i64 (tp : Int), str tx, .int .u32 (tn : Int)]
 have Q4 : PR c w vt vp (w3.alloc (.cells #[.int .i64 (tk : Int), .int .i64 (tp : Int), str tx, .int .u32 (tn : Int)] 42)) i3 vt3 vp3 ts.tail nest (bud + 1) ns w3.heap.size 42 #[.int .i64 (tk : Int), .int .i64 (tp : Int), str tx, .int .u32 (tn : Int)] :=
  ⟨H3.keep KA, ((GB.non G1).trans G3 (fun _ _ h => h)).trans (GB.non (S := d3 c.g vt vp) KA) (fun _ _ h => h), fun x hx => F3 x (Nat.lt_of_lt_of_le hx G1.size), H3.not_foot (Nat.le_refl _), VM, Nat.le_trans G1.size G3.size⟩
 clear P1 H3 G3 F3 KA VM G1
 go_upto_region 5 with fail
 generalize w3.alloc (.cells #[.int .i64 (tk : Int), .int .i64 (tp : Int), .string ⟨tx.toArray⟩, .int .u32 (tn : Int)] 42) = w4 at *
 generalize w3.heap.size = M at *
 have GA1 := World.grownBy_alloc w4 (.cells #[str [91]] 9) none
 have CS1 := O8 (Q4.keep GA1).ps [91] (s7 (by decide) (by kernel_rfl)) ⟨w4.heap.size, 0, none⟩ (m8 w4 _ _)
 rw [hb] at CS1
 go_wp2_with fail
 refine CS1.mono ?_
 rintro e w5 ⟨rfl, GB1⟩
 have Q5 := (Q4.keep GA1).keep GB1
 clear CS1 GA1 GB1 Q4
 have CP := F0 Q5.ps ⟨tk, tp, tx, tn⟩ (I8 of)
 rw [a0w] at CP
 unfold tkC at CP
 simp only at CP
 have VA := Q5.res
 have HQ : Hid (PR c w vt vp w5 i3 vt3 vp3 ts.tail nest (bud + 1) ns M 42 #[.int .i64 (tk : Int), .int .i64 (tp : Int), str tx, .int .u32 (tn : Int)]) := Q5
 clear Q5
 go_wp2_with (refine wpList_load_row rfl 42 (.tmp 3) rfl M rfl 42 _ (0, 0) _ VA Tryz.underlying42 rfl D2 ?_)
 refine CP.mono ?_
 rintro e wz ⟨rfl, R⟩
 go_wp2
 go_end0
 refine ⟨rfl, ?_⟩
 rw [HT.out]
 exact Ret.of HQ.out.gb HQ.out.sh R
theorem a7Z (h : PS c w i vt vp ts nest bud ns) (of : Nat) (hof : l9 (hdT ts).text = of) (hof0 : of ≠ 0) (hof1 : of ≤ 13) (hk : (hdT ts).kind ≠ 0) (h1 : of = 1) (hb : isB ts.tail [91] = false) :
  Calls Tryz.prog 119 #[.pointer (some ⟨c.g, 0, none⟩)] w (l6 c w vt vp nest bud ns (.error (M4 ts.tail))) := by
 have HP : Hid (PS c w i vt vp ts nest bud ns) := h
 have CN := x9 h
 unfold tkC at CN
 have HF2 := fun k p x n W => (o8 k p x n W).2.2.1
 have HNO : Hid (∀ W, Calls Tryz.prog 124 #[str (hdT ts).text] W fun e w' => e = .returned (.int .i64 (of : Int)) ∧ W = w') := fun W => by
  have := T0 (hdT ts).text W
  rw [hof] at this
  exact this
 have HK : Hid ((hdT ts).kind ≠ 0) := hk
 have HOF : Hid (of ≠ 0 ∧ of ≤ 13) := ⟨hof0, hof1⟩
 have hz0 : ((of : Int) == 0) = false := by rw [beq_eq_false_iff_ne]; omega
 have h13' : ((of : Int) != 13) = true := by rw [bne_iff_ne]; omega
 have n2 : ((of : Int) == 2) = false := by rw [beq_eq_false_iff_ne]; omega
 have n3 : ((of : Int) == 3) = false := by rw [beq_eq_false_iff_ne]; omega
 have n4 : ((of : Int) == 4) = false := by rw [beq_eq_false_iff_ne]; omega
 have n5 : ((of : Int) == 5) = false := by rw [beq_eq_false_iff_ne]; omega
 have n1 : ((of : Int) == 1) = true := by rw [h1]; rfl
 clear h1
 clear h hof hk
 go_enter Tryz.func119, Tryz.ntmps119
 go_wp2_with fail
 refine CN.mono ?_
 rintro e w1 ⟨rfl, G1⟩
 clear CN
 go_wp2_with fail
 refine (HNO.out w1).mono ?_
 rintro e w2 ⟨rfl, rfl⟩
 clear HNO
 have P1 := HP.out.keep G1
 go_wp2_with fail
 refine (I5 P1 HK.out).mono ?_
 rintro e w3 ⟨rfl, i3, vt3, vp3, H3, G3, F3⟩
 unfold tkC
 obtain ⟨t, ht⟩ : ∃ t, hdT ts = t := ⟨_, rfl⟩
 have HT : Hid (hdT ts = t) := ht
 rw [ht]
 clear ht
 obtain ⟨tk, tp, tx, tn⟩ := t
 simp only
 have KA := World.grownBy_alloc w3 (.cells #[.int .i64 (tk : Int), .int .i64 (tp : Int), str tx, .int .u32 (tn : Int)] 42) none
 have VM := VAt.alloc w3 42 #[.int .i64 (tk : Int), .int .i64 (tp : Int), str tx, .int .u32 (tn : Int)]
 have Q4 : PR c w vt vp (w3.alloc (.cells #[.int .i64 (tk : Int), .int .i64 (tp : Int), str tx, .int .u32 (tn : Int)] 42)) i3 vt3 vp3 ts.tail nest (bud + 1) ns w3.heap.size 42 #[.int .i64 (tk : Int), .int .i64 (tp : Int), str tx, .int .u32 (tn : Int)] :=
  ⟨H3.keep KA, ((GB.non G1).trans G3 (fun _ _ h => h)).trans (GB.non (S := d3 c.g vt vp) KA) (fun _ _ h => h), fun x hx => F3 x (Nat.lt_of_lt_of_le hx G1.size), H3.not_foot (Nat.le_refl _), VM, Nat.le_trans G1.size G3.size⟩
 clear P1 H3 G3 F3 KA VM G1
 go_upto_region 5 with fail
 generalize w3.alloc (.cells #[.int .i64 (tk : Int), .int .i64 (tp : Int), .string ⟨tx.toArray⟩, .int .u32 (tn : Int)] 42) = w4 at *
 generalize w3.heap.size = M at *
 have GA1 := World.grownBy_alloc w4 (.cells #[str [91]] 9) none
 have CS1 := O8 (Q4.keep GA1).ps [91] (s7 (by decide) (by kernel_rfl)) ⟨w4.heap.size, 0, none⟩ (m8 w4 _ _)
 rw [hb] at CS1
 go_wp2_with fail
 refine CS1.mono ?_
 rintro e w5 ⟨rfl, GB1⟩
 have Q5 := (Q4.keep GA1).keep GB1
 clear CS1 GA1 GB1 Q4
 have CG := a0Y Q5.ps
 go_wp2_with fail
 refine CG.mono ?_
 rintro e wz ⟨rfl, G⟩
 go_wp2
 exact ⟨rfl, rfl, Q5.err (GB.non G)⟩
theorem a7R (h : PS c w i vt vp ts nest bud ns) (of : Nat) (hof : l9 (hdT ts).text = of) (hof0 : of ≠ 0) (hof1 : of ≤ 13) (hk : (hdT ts).kind ≠ 0) (hv : of = 2) (hb : isB ts.tail [91] = false) (hp : isB ts.tail q7 = false) :
  Calls Tryz.prog 119 #[.pointer (some ⟨c.g, 0, none⟩)] w (l6 c w vt vp nest bud ns (.ok ([(I8 of, (hdT ts).pos)], ts.tail))) := by
 have HP : Hid (PS c w i vt vp ts nest bud ns) := h
 have CN := x9 h
 unfold tkC at CN
 have HF2 := fun k p x n W => (o8 k p x n W).2.2.1
 have HNO : Hid (∀ W, Calls Tryz.prog 124 #[str (hdT ts).text] W fun e w' => e = .returned (.int .i64 (of : Int)) ∧ W = w') := fun W => by
  have := T0 (hdT ts).text W
  rw [hof] at this
  exact this
 have HK : Hid ((hdT ts).kind ≠ 0) := hk
 have HOF : Hid (of ≠ 0 ∧ of ≤ 13) := ⟨hof0, hof1⟩
 have hz0 : ((of : Int) == 0) = false := by rw [beq_eq_false_iff_ne]; omega
 have h13' : ((of : Int) != 13) = true := by rw [bne_iff_ne]; omega
 have y2 : ((of : Int) == 2) = true := by rw [hv]; rfl
 have n4 : ((of : Int) == 4) = false := by rw [beq_eq_false_iff_ne]; omega
 have n5 : ((of : Int) == 5) = false := by rw [beq_eq_false_iff_ne]; omega
 have n1 : ((of : Int) == 1) = false := by rw [beq_eq_false_iff_ne]; omega
 clear hv
 clear h hof hk
 go_enter Tryz.func119, Tryz.ntmps119
 go_wp2_with fail
 refine CN.mono ?_
 rintro e w1 ⟨rfl, G1⟩
 clear CN
 go_wp2_with fail
 refine (HNO.out w1).mono ?_
 rintro e w2 ⟨rfl, rfl⟩
 clear HNO
 have P1 := HP.out.keep G1
 go_wp2_with fail
 refine (I5 P1 HK.out).mono ?_
 rintro e w3 ⟨rfl, i3, vt3, vp3, H3, G3, F3⟩
 unfold tkC
 obtain ⟨t, ht⟩ : ∃ t, hdT ts = t := ⟨_, rfl⟩
 have HT : Hid (hdT ts = t) := ht
 rw [ht]
 clear ht
 obtain ⟨tk, tp, tx, tn⟩ := t
 simp only
 have KA := World.grownBy_alloc w3 (.cells #[.int .i64 (tk : Int), .int .i64 (tp : Int), str tx, .int .u32 (tn : Int)] 42) none
 have VM := VAt.alloc w3 42 #[.int .i64 (tk : Int), .int .i64 (tp : Int), str tx, .int .u32 (tn : Int)]
 have Q4 : PR c w vt vp (w3.alloc (.cells #[.int .i64 (tk : Int), .int .i64 (tp : Int), str tx, .int .u32 (tn : Int)] 42)) i3 vt3 vp3 ts.tail nest (bud + 1) ns w3.heap.size 42 #[.int .i64 (tk : Int), .int .i64 (tp : Int), str tx, .int .u32 (tn : Int)] :=
  ⟨H3.keep KA, ((GB.non G1).trans G3 (fun _ _ h => h)).trans (GB.non (S := d3 c.g vt vp) KA) (fun _ _ h => h), fun x hx => F3 x (Nat.lt_of_lt_of_le hx G1.size), H3.not_foot (Nat.le_refl _), VM, Nat.le_trans G1.size G3.size⟩
 clear P1 H3 G3 F3 KA VM G1
 go_upto_region 5 with fail
 generalize w3.alloc (.cells #[.int .i64 (tk : Int), .int .i64 (tp : Int), .string ⟨tx.toArray⟩, .int .u32 (tn : Int)] 42) = w4 at *
 generalize w3.heap.size = M at *
 have GA1 := World.grownBy_alloc w4 (.cells #[str [91]] 9) none
 have CS1 := O8 (Q4.keep GA1).ps [91] (s7 (by decide) (by kernel_rfl)) ⟨w4.heap.size, 0, none⟩ (m8 w4 _ _)
 rw [hb] at CS1
 go_wp2_with fail
 refine CS1.mono ?_
 rintro e w5 ⟨rfl, GB1⟩
 have Q5 := (Q4.keep GA1).keep GB1
 clear CS1 GA1 GB1 Q4
 have GA2 := World.grownBy_alloc w5 (.cells #[str q7] 9) none
 have CS2 := O8 (Q5.keep GA2).ps q7 (T5 (by decide)) ⟨w5.heap.size, 0, none⟩ (m8 w5 _ _)
 rw [hp] at CS2
 go_wp2_with fail
 refine CS2.mono ?_
 rintro e w6 ⟨rfl, GB2⟩
 have Q6 := (Q5.keep GA2).keep GB2
 clear CS2 GA2 GB2 Q5
 have CP := F0 Q6.ps ⟨tk, tp, tx, tn⟩ (I8 of)
 rw [a0w] at CP
 unfold tkC at CP
 simp only at CP
 have VA := Q6.res
 have HQ : Hid (PR c w vt vp w6 i3 vt3 vp3 ts.tail nest (bud + 1) ns M 42 #[.int .i64 (tk : Int), .int .i64 (tp : Int), str tx, .int .u32 (tn : Int)]) := Q6
 clear Q6
 go_wp2_with (refine wpList_load_row rfl 42 (.tmp 3) rfl M rfl 42 _ (0, 0) _ VA Tryz.underlying42 rfl D2 ?_)
 refine CP.mono ?_
 rintro e wz ⟨rfl, R⟩
 go_wp2
 go_end0
 refine ⟨rfl, ?_⟩
 rw [HT.out]
 exact Ret.of HQ.out.gb HQ.out.sh R
theorem a7U (h : PS c w i vt vp ts nest bud ns) (of : Nat) (hof : l9 (hdT ts).text = of) (hof0 : of ≠ 0) (hof1 : of ≤ 13) (hk : (hdT ts).kind ≠ 0) (hv : of = 2) (hb : isB ts.tail [91] = false) (hp : isB ts.tail q7 = true) (ans : Out) (hans : (d8 (j8 ts.tail.tail) fun p => .ok ([(U9 of p.1, (hdT ts).pos)], p.2)) = ans) :
  Calls Tryz.prog 119 #[.pointer (some ⟨c.g, 0, none⟩)] w (l6 c w vt vp nest bud ns ans) := by
 have HP : Hid (PS c w i vt vp ts nest bud ns) := h
 have CN := x9 h
 unfold tkC at CN
 have HF2 := fun k p x n W => (o8 k p x n W).2.2.1
 have HNO : Hid (∀ W, Calls Tryz.prog 124 #[str (hdT ts).text] W fun e w' => e = .returned (.int .i64 (of : Int)) ∧ W = w') := fun W => by
  have := T0 (hdT ts).text W
  rw [hof] at this
  exact this
 have HK : Hid ((hdT ts).kind ≠ 0) := hk
 have HOF : Hid (of ≠ 0 ∧ of ≤ 13) := ⟨hof0, hof1⟩
 have hz0 : ((of : Int) == 0) = false := by rw [beq_eq_false_iff_ne]; omega
 have h13' : ((of : Int) != 13) = true := by rw [bne_iff_ne]; omega
 have y2 : ((of : Int) == 2) = true := by rw [hv]; rfl
 have HANS : Hid ((d8 (j8 ts.tail.tail) fun p => .ok ([(U9 of p.1, (hdT ts).pos)], p.2)) = ans) := hans
 clear hans
 have HMP : Hid (d8 (l5 q7 ts.tail) j8 = j8 ts.tail.tail) := by show _ = _; rw [l5, if_pos hp, q9]
 clear hv
 clear h hof hk
 go_enter Tryz.func119, Tryz.ntmps119
 go_wp2_with fail
 refine CN.mono ?_
 rintro e w1 ⟨rfl, G1⟩
 clear CN
 go_wp2_with fail
 refine (HNO.out w1).mono ?_
 rintro e w2 ⟨rfl, rfl⟩
 clear HNO
 have P1 := HP.out.keep G1
 go_wp2_with fail
 refine (I5 P1 HK.out).mono ?_
 rintro e w3 ⟨rfl, i3, vt3, vp3, H3, G3, F3⟩
 unfold tkC
 obtain ⟨t, ht⟩ : ∃ t, hdT ts = t := ⟨_, rfl⟩
 have HT : Hid (hdT ts = t) := ht
 rw [ht]
 clear ht
 obtain ⟨tk, tp, tx, tn⟩ := t
 simp only
 have KA := World.grownBy_alloc w3 (.cells #[.int .i64 (tk : Int), .int .i64 (tp : Int), str tx, .int .u32 (tn : Int)] 42) none
 have VM := VAt.alloc w3 42 #[.int .i64 (tk : Int), .int .i64 (tp : Int), str tx, .int .u32 (tn : Int)]
 have Q4 : PR c w vt vp (w3.alloc (.cells #[.int .i64 (tk : Int), .int .i64 (tp : Int), str tx, .int .u32 (tn : Int)] 42)) i3 vt3 vp3 ts.tail nest (bud + 1) ns w3.heap.size 42 #[.int .i64 (tk : Int), .int .i64 (tp : Int), str tx, .int .u32 (tn : Int)] :=
  ⟨H3.keep KA, ((GB.non G1).trans G3 (fun _ _ h => h)).trans (GB.non (S := d3 c.g vt vp) KA) (fun _ _ h => h), fun x hx => F3 x (Nat.lt_of_lt_of_le hx G1.size), H3.not_foot (Nat.le_refl _), VM, Nat.le_trans G1.size G3.size⟩
 clear P1 H3 G3 F3 KA VM G1
 go_upto_region 5 with fail
 generalize w3.alloc (.cells #[.int .i64 (tk : Int), .int .i64 (tp : Int), .string ⟨tx.toArray⟩, .int .u32 (tn : Int)] 42) = w4 at *
 generalize w3.heap.size = M at *
 have GA1 := World.grownBy_alloc w4 (.cells #[str [91]] 9) none
 have CS1 := O8 (Q4.keep GA1).ps [91] (s7 (by decide) (by kernel_rfl)) ⟨w4.heap.size, 0, none⟩ (m8 w4 _ _)
 rw [hb] at CS1
 go_wp2_with fail
 refine CS1.mono ?_
 rintro e w5 ⟨rfl, GB1⟩
 have Q5 := (Q4.keep GA1).keep GB1
 clear CS1 GA1 GB1 Q4
 have GA2 := World.grownBy_alloc w5 (.cells #[str q7] 9) none
 have CS2 := O8 (Q5.keep GA2).ps q7 (T5 (by decide)) ⟨w5.heap.size, 0, none⟩ (m8 w5 _ _)
 rw [hp] at CS2
 go_wp2_with fail
 refine CS2.mono ?_
 rintro e w6 ⟨rfl, GB2⟩
 have Q6 := (Q5.keep GA2).keep GB2
 clear CS2 GA2 GB2 Q5
 have HC : Hid (Calls Tryz.prog 117 #[.pointer (some ⟨c.g, 0, none⟩)] w6.drew (M6 c w6.drew vt3 vp3 nest (bud + 1) ns (fun n : Nat => .int .u32 (n : Int)) (j8 ts.tail.tail))) := by
  have := a2U ((Q6.keep (f8 w6 1 none)).ps.less (Nat.le_succ bud))
  rw [HMP.out] at this
  exact this
 have HQ6 : Hid (PR c w vt vp w6.drew i3 vt3 vp3 ts.tail nest (bud + 1) ns M 42 #[.int .i64 (tk : Int), .int .i64 (tp : Int), str tx, .int .u32 (tn : Int)]) := Q6.keep (f8 w6 1 none)
 clear Q6
 generalize j8 ts.tail.tail = nr at *
 go_upto_region 8 with fail
 refine wp_region_held_drew (S := fun W => VAt W M 42 #[.int .i64 (tk : Int), .int .i64 (tp : Int), str tx, .int .u32 (tn : Int)]) (by kernel_rfl) HQ6.out.res (fun hHeld => ?_)
 refine wpT (i := 0) (v := .pointer (some ⟨c.g, 0, none⟩)) rfl (Or.inl ⟨by rfl, fun W hW => ?_⟩) hHeld ?_
 ·clear hW
  go_simp
 try simp only [Act.put, a0, a1, a3, a4, a5]
 refine wpT (i := 1) (v := .agg #[.int .i64 (tk : Int), .int .i64 (tp : Int), str tx, .int .u32 (tn : Int)]) rfl (E8 (by rfl) _ _ rfl M rfl 42 #[.int .i64 (tk : Int), .int .i64 (tp : Int), str tx, .int .u32 (tn : Int)] _ (fun W hW => hW) Tryz.underlying42 rfl D2) hHeld ?_
 try simp only [Act.put, a0, a1, a2, a3, a4, a5]
 refine wpT (i := 2) (v := .int .i64 (of : Int)) rfl (Or.inl ⟨by rfl, fun W hW => ?_⟩) hHeld ?_
 ·clear hW
  go_simp
 try simp only [Act.put, a0, a1, a2, a3, a4, a5]
 refine wpT (i := 3) (v := .pointer (some ⟨c.g, 0, none⟩)) rfl (Or.inl ⟨by rfl, fun W hW => ?_⟩) hHeld ?_
 ·clear hW
  go_simp
 try simp only [Act.put, a0, a1, a2, a3, a4, a5]
 refine wpR (rs := [4]) (AllReadyH.cons rfl (fun K hK => ?_) AllReadyH.nil)
 go_simp
 refine HC.out.mono ?_
 clear HC
 cases nr with
 | error er =>
  have HA3 : Hid (ans = .error er) := HANS.out.symm
  rintro e w7 ⟨rfl, G⟩
  go_wp2
  refine ⟨rfl, ?_⟩
  rw [HA3.out]
  exact ⟨rfl, HQ6.out.err G⟩
 | ok v =>
  obtain ⟨m, r7⟩ := v
  have HA3 : Hid (ans = .ok ([(U9 of m, (hdT ts).pos)], r7)) := HANS.out.symm
  rw [HT.out] at HA3
  rintro e w7 ⟨rfl, R7⟩
  obtain ⟨i7, vt7, vp7, Q7⟩ := HQ6.out.step R7
  go_wp2_with fail
  refine hK.out _ _ Q7.res (fun hHeld => ?_)
  clear hK K
  try simp only [Act.put, a0, a1, a2, a3, a4, a5]
  have HB := a3G of m
  have CP := F0 Q7.ps ⟨tk, tp, tx, tn⟩ (U9 of m)
  generalize U9 of m = X at *
  refine wpT (i := 5) (v := .agg X.cells.toArray) rfl (Or.inl ⟨by rfl, fun W hW => ?_⟩) hHeld ?_
  ·clear hW
   simp [execOp, Act.eval, HB]
  try simp only [Act.put, a0, a1, a2, a3, a4, a5]
  refine wpR (rs := [6]) (AllReadyH.cons rfl (fun K hK => ?_) AllReadyH.nil)
  unfold tkC at CP
  simp only at CP
  go_simp
  refine CP.mono ?_
  rintro e w8 ⟨rfl, R8⟩
  obtain ⟨i8, vt8, vp8, Q8⟩ := Q7.step R8
  go_wp2_with fail
  refine hK.out _ _ Q8.res (fun hHeld => ?_)
  clear hK K
  refine wpAnyH_done (by kernel_rfl) ?_ _
  go_wp2
  go_end0
  rw [HA3.out]
  exact ⟨rfl, Q8.ret⟩
theorem a7S (h : PS c w i vt vp ts nest bud ns) (of : Nat) (hof : l9 (hdT ts).text = of) (hof0 : of ≠ 0) (hof1 : of ≤ 13) (hk : (hdT ts).kind ≠ 0) (hv : of = 3) (hb : isB ts.tail [91] = false) (hp : isB ts.tail q7 = false) :
  Calls Tryz.prog 119 #[.pointer (some ⟨c.g, 0, none⟩)] w (l6 c w vt vp nest bud ns (.ok ([(I8 of, (hdT ts).pos)], ts.tail))) := by
 have HP : Hid (PS c w i vt vp ts nest bud ns) := h
 have CN := x9 h
 unfold tkC at CN
 have HF2 := fun k p x n W => (o8 k p x n W).2.2.1
 have HNO : Hid (∀ W, Calls Tryz.prog 124 #[str (hdT ts).text] W fun e w' => e = .returned (.int .i64 (of : Int)) ∧ W = w') := fun W => by
  have := T0 (hdT ts).text W
  rw [hof] at this
  exact this
 have HK : Hid ((hdT ts).kind ≠ 0) := hk
 have HOF : Hid (of ≠ 0 ∧ of ≤ 13) := ⟨hof0, hof1⟩
 have hz0 : ((of : Int) == 0) = false := by rw [beq_eq_false_iff_ne]; omega
 have h13' : ((of : Int) != 13) = true := by rw [bne_iff_ne]; omega
 have n2 : ((of : Int) == 2) = false := by rw [beq_eq_false_iff_ne]; omega
 have y3 : ((of : Int) == 3) = true := by rw [hv]; rfl
 have n4 : ((of : Int) == 4) = false := by rw [beq_eq_false_iff_ne]; omega
 have n5 : ((of : Int) == 5) = false := by rw [beq_eq_false_iff_ne]; omega
 have n1 : ((of : Int) == 1) = false := by rw [beq_eq_false_iff_ne]; omega
 clear hv
 clear h hof hk
 go_enter Tryz.func119, Tryz.ntmps119
 go_wp2_with fail
 refine CN.mono ?_
 rintro e w1 ⟨rfl, G1⟩
 clear CN
 go_wp2_with fail
 refine (HNO.out w1).mono ?_
 rintro e w2 ⟨rfl, rfl⟩
 clear HNO
 have P1 := HP.out.keep G1
 go_wp2_with fail
 refine (I5 P1 HK.out).mono ?_
 rintro e w3 ⟨rfl, i3, vt3, vp3, H3, G3, F3⟩
 unfold tkC
 obtain ⟨t, ht⟩ : ∃ t, hdT ts = t := ⟨_, rfl⟩
 have HT : Hid (hdT ts = t) := ht
 rw [ht]
 clear ht
 obtain ⟨tk, tp, tx, tn⟩ := t
 simp only
 have KA := World.grownBy_alloc w3 (.cells #[.int .i64 (tk : Int), .int .i64 (tp : Int), str tx, .int .u32 (tn : Int)] 42) none
 have VM := VAt.alloc w3 42 #[.int .i64 (tk : Int), .int .i64 (tp : Int), str tx, .int .u32 (tn : Int)]
 have Q4 : PR c w vt vp (w3.alloc (.cells #[.int .i64 (tk : Int), .int .i64 (tp : Int), str tx, .int .u32 (tn : Int)] 42)) i3 vt3 vp3 ts.tail nest (bud + 1) ns w3.heap.size 42 #[.int .i64 (tk : Int), .int .i64 (tp : Int), str tx, .int .u32 (tn : Int)] :=
  ⟨H3.keep KA, ((GB.non G1).trans G3 (fun _ _ h => h)).trans (GB.non (S := d3 c.g vt vp) KA) (fun _ _ h => h), fun x hx => F3 x (Nat.lt_of_lt_of_le hx G1.size), H3.not_foot (Nat.le_refl _), VM, Nat.le_trans G1.size G3.size⟩
 clear P1 H3 G3 F3 KA VM G1
 go_upto_region 5 with fail
 generalize w3.alloc (.cells #[.int .i64 (tk : Int), .int .i64 (tp : Int), .string ⟨tx.toArray⟩, .int .u32 (tn : Int)] 42) = w4 at *
 generalize w3.heap.size = M at *
 have GA1 := World.grownBy_alloc w4 (.cells #[str [91]] 9) none
 have CS1 := O8 (Q4.keep GA1).ps [91] (s7 (by decide) (by kernel_rfl)) ⟨w4.heap.size, 0, none⟩ (m8 w4 _ _)
 rw [hb] at CS1
 go_wp2_with fail
 refine CS1.mono ?_
 rintro e w5 ⟨rfl, GB1⟩
 have Q5 := (Q4.keep GA1).keep GB1
 clear CS1 GA1 GB1 Q4
 have GA2 := World.grownBy_alloc w5 (.cells #[str q7] 9) none
 have CS2 := O8 (Q5.keep GA2).ps q7 (T5 (by decide)) ⟨w5.heap.size, 0, none⟩ (m8 w5 _ _)
 rw [hp] at CS2
 go_wp2_with fail
 refine CS2.mono ?_
 rintro e w6 ⟨rfl, GB2⟩
 have Q6 := (Q5.keep GA2).keep GB2
 clear CS2 GA2 GB2 Q5
 have CP := F0 Q6.ps ⟨tk, tp, tx, tn⟩ (I8 of)
 rw [a0w] at CP
 unfold tkC at CP
 simp only at CP
 have VA := Q6.res
 have HQ : Hid (PR c w vt vp w6 i3 vt3 vp3 ts.tail nest (bud + 1) ns M 42 #[.int .i64 (tk : Int), .int .i64 (tp : Int), str tx, .int .u32 (tn : Int)]) := Q6
 clear Q6
 go_wp2_with (refine wpList_load_row rfl 42 (.tmp 3) rfl M rfl 42 _ (0, 0) _ VA Tryz.underlying42 rfl D2 ?_)
 refine CP.mono ?_
 rintro e wz ⟨rfl, R⟩
 go_wp2
 go_end0
 refine ⟨rfl, ?_⟩
 rw [HT.out]
 exact Ret.of HQ.out.gb HQ.out.sh R
theorem a7V (h : PS c w i vt vp ts nest bud ns) (of : Nat) (hof : l9 (hdT ts).text = of) (hof0 : of ≠ 0) (hof1 : of ≤ 13) (hk : (hdT ts).kind ≠ 0) (hv : of = 3) (hb : isB ts.tail [91] = false) (hp : isB ts.tail q7 = true) (ans : Out) (hans : (d8 (j8 ts.tail.tail) fun p => .ok ([(U9 of p.1, (hdT ts).pos)], p.2)) = ans) :
  Calls Tryz.prog 119 #[.pointer (some ⟨c.g, 0, none⟩)] w (l6 c w vt vp nest bud ns ans) := by
 have HP : Hid (PS c w i vt vp ts nest bud ns) := h
 have CN := x9 h
 unfold tkC at CN
 have HF2 := fun k p x n W => (o8 k p x n W).2.2.1
 have HNO : Hid (∀ W, Calls Tryz.prog 124 #[str (hdT ts).text] W fun e w' => e = .returned (.int .i64 (of : Int)) ∧ W = w') := fun W => by
  have := T0 (hdT ts).text W
  rw [hof] at this
  exact this
 have HK : Hid ((hdT ts).kind ≠ 0) := hk
 have HOF : Hid (of ≠ 0 ∧ of ≤ 13) := ⟨hof0, hof1⟩
 have hz0 : ((of : Int) == 0) = false := by rw [beq_eq_false_iff_ne]; omega
 have h13' : ((of : Int) != 13) = true := by rw [bne_iff_ne]; omega
 have n2 : ((of : Int) == 2) = false := by rw [beq_eq_false_iff_ne]; omega
 have y3 : ((of : Int) == 3) = true := by rw [hv]; rfl
 have HANS : Hid ((d8 (j8 ts.tail.tail) fun p => .ok ([(U9 of p.1, (hdT ts).pos)], p.2)) = ans) := hans
 clear hans
 have HMP : Hid (d8 (l5 q7 ts.tail) j8 = j8 ts.tail.tail) := by show _ = _; rw [l5, if_pos hp, q9]
 clear hv
 clear h hof hk
 go_enter Tryz.func119, Tryz.ntmps119
 go_wp2_with fail
 refine CN.mono ?_
 rintro e w1 ⟨rfl, G1⟩
 clear CN
 go_wp2_with fail
 refine (HNO.out w1).mono ?_
 rintro e w2 ⟨rfl, rfl⟩
 clear HNO
 have P1 := HP.out.keep G1
 go_wp2_with fail
 refine (I5 P1 HK.out).mono ?_
 rintro e w3 ⟨rfl, i3, vt3, vp3, H3, G3, F3⟩
 unfold tkC
 obtain ⟨t, ht⟩ : ∃ t, hdT ts = t := ⟨_, rfl⟩
 have HT : Hid (hdT ts = t) := ht
 rw [ht]
 clear ht
 obtain ⟨tk, tp, tx, tn⟩ := t
 simp only
 have KA := World.grownBy_alloc w3 (.cells #[.int .i64 (tk : Int), .int .i64 (tp : Int), str tx, .int .u32 (tn : Int)] 42) none
 have VM := VAt.alloc w3 42 #[.int .i64 (tk : Int), .int .i64 (tp : Int), str tx, .int .u32 (tn : Int)]
 have Q4 : PR c w vt vp (w3.alloc (.cells #[.int .i64 (tk : Int), .int .i64 (tp : Int), str tx, .int .u32 (tn : Int)] 42)) i3 vt3 vp3 ts.tail nest (bud + 1) ns w3.heap.size 42 #[.int .i64 (tk : Int), .int .i64 (tp : Int), str tx, .int .u32 (tn : Int)] :=
  ⟨H3.keep KA, ((GB.non G1).trans G3 (fun _ _ h => h)).trans (GB.non (S := d3 c.g vt vp) KA) (fun _ _ h => h), fun x hx => F3 x (Nat.lt_of_lt_of_le hx G1.size), H3.not_foot (Nat.le_refl _), VM, Nat.le_trans G1.size G3.size⟩
 clear P1 H3 G3 F3 KA VM G1
 go_upto_region 5 with fail
 generalize w3.alloc (.cells #[.int .i64 (tk : Int), .int .i64 (tp : Int), .string ⟨tx.toArray⟩, .int .u32 (tn : Int)] 42) = w4 at *
 generalize w3.heap.size = M at *
 have GA1 := World.grownBy_alloc w4 (.cells #[str [91]] 9) none
 have CS1 := O8 (Q4.keep GA1).ps [91] (s7 (by decide) (by kernel_rfl)) ⟨w4.heap.size, 0, none⟩ (m8 w4 _ _)
 rw [hb] at CS1
 go_wp2_with fail
 refine CS1.mono ?_
 rintro e w5 ⟨rfl, GB1⟩
 have Q5 := (Q4.keep GA1).keep GB1
 clear CS1 GA1 GB1 Q4
 have GA2 := World.grownBy_alloc w5 (.cells #[str q7] 9) none
 have CS2 := O8 (Q5.keep GA2).ps q7 (T5 (by decide)) ⟨w5.heap.size, 0, none⟩ (m8 w5 _ _)
 rw [hp] at CS2
 go_wp2_with fail
 refine CS2.mono ?_
 rintro e w6 ⟨rfl, GB2⟩
 have Q6 := (Q5.keep GA2).keep GB2
 clear CS2 GA2 GB2 Q5
 have HC : Hid (Calls Tryz.prog 117 #[.pointer (some ⟨c.g, 0, none⟩)] w6.drew (M6 c w6.drew vt3 vp3 nest (bud + 1) ns (fun n : Nat => .int .u32 (n : Int)) (j8 ts.tail.tail))) := by
  have := a2U ((Q6.keep (f8 w6 1 none)).ps.less (Nat.le_succ bud))
  rw [HMP.out] at this
  exact this
 have HQ6 : Hid (PR c w vt vp w6.drew i3 vt3 vp3 ts.tail nest (bud + 1) ns M 42 #[.int .i64 (tk : Int), .int .i64 (tp : Int), str tx, .int .u32 (tn : Int)]) := Q6.keep (f8 w6 1 none)
 clear Q6
 generalize j8 ts.tail.tail = nr at *
 go_upto_region 8 with fail
 refine wp_region_held_drew (S := fun W => VAt W M 42 #[.int .i64 (tk : Int), .int .i64 (tp : Int), str tx, .int .u32 (tn : Int)]) (by kernel_rfl) HQ6.out.res (fun hHeld => ?_)
 refine wpT (i := 0) (v := .pointer (some ⟨c.g, 0, none⟩)) rfl (Or.inl ⟨by rfl, fun W hW => ?_⟩) hHeld ?_
 ·clear hW
  go_simp
 try simp only [Act.put, a0, a1, a3, a4, a5]
 refine wpT (i := 1) (v := .agg #[.int .i64 (tk : Int), .int .i64 (tp : Int), str tx, .int .u32 (tn : Int)]) rfl (E8 (by rfl) _ _ rfl M rfl 42 #[.int .i64 (tk : Int), .int .i64 (tp : Int), str tx, .int .u32 (tn : Int)] _ (fun W hW => hW) Tryz.underlying42 rfl D2) hHeld ?_
 try simp only [Act.put, a0, a1, a2, a3, a4, a5]
 refine wpT (i := 2) (v := .int .i64 (of : Int)) rfl (Or.inl ⟨by rfl, fun W hW => ?_⟩) hHeld ?_
 ·clear hW
  go_simp
 try simp only [Act.put, a0, a1, a2, a3, a4, a5]
 refine wpT (i := 3) (v := .pointer (some ⟨c.g, 0, none⟩)) rfl (Or.inl ⟨by rfl, fun W hW => ?_⟩) hHeld ?_
 ·clear hW
  go_simp
 try simp only [Act.put, a0, a1, a2, a3, a4, a5]
 refine wpR (rs := [4]) (AllReadyH.cons rfl (fun K hK => ?_) AllReadyH.nil)
 go_simp
 refine HC.out.mono ?_
 clear HC
 cases nr with
 | error er =>
  have HA3 : Hid (ans = .error er) := HANS.out.symm
  rintro e w7 ⟨rfl, G⟩
  go_wp2
  refine ⟨rfl, ?_⟩
  rw [HA3.out]
  exact ⟨rfl, HQ6.out.err G⟩
 | ok v =>
  obtain ⟨m, r7⟩ := v
  have HA3 : Hid (ans = .ok ([(U9 of m, (hdT ts).pos)], r7)) := HANS.out.symm
  rw [HT.out] at HA3
  rintro e w7 ⟨rfl, R7⟩
  obtain ⟨i7, vt7, vp7, Q7⟩ := HQ6.out.step R7
  go_wp2_with fail
  refine hK.out _ _ Q7.res (fun hHeld => ?_)
  clear hK K
  try simp only [Act.put, a0, a1, a2, a3, a4, a5]
  have HB := a3G of m
  have CP := F0 Q7.ps ⟨tk, tp, tx, tn⟩ (U9 of m)
  generalize U9 of m = X at *
  refine wpT (i := 5) (v := .agg X.cells.toArray) rfl (Or.inl ⟨by rfl, fun W hW => ?_⟩) hHeld ?_
  ·clear hW
   simp [execOp, Act.eval, HB]
  try simp only [Act.put, a0, a1, a2, a3, a4, a5]
  refine wpR (rs := [6]) (AllReadyH.cons rfl (fun K hK => ?_) AllReadyH.nil)
  unfold tkC at CP
  simp only at CP
  go_simp
  refine CP.mono ?_
  rintro e w8 ⟨rfl, R8⟩
  obtain ⟨i8, vt8, vp8, Q8⟩ := Q7.step R8
  go_wp2_with fail
  refine hK.out _ _ Q8.res (fun hHeld => ?_)
  clear hK K
  refine wpAnyH_done (by kernel_rfl) ?_ _
  go_wp2
  go_end0
  rw [HA3.out]
  exact ⟨rfl, Q8.ret⟩
theorem a82 (h : PS c w i vt vp ts nest bud ns) (of : Nat) (hof : l9 (hdT ts).text = of) (hof0 : of ≠ 0) (hof1 : of ≤ 13) (hk : (hdT ts).kind ≠ 0) (hv : of = 4) (hb : isB ts.tail [91] = false) (hp : decide ((hdT ts.tail).text ∈ N9) = false) :
  Calls Tryz.prog 119 #[.pointer (some ⟨c.g, 0, none⟩)] w (l6 c w vt vp nest bud ns (.ok ([(I8 of, (hdT ts).pos)], ts.tail))) := by
 have HP : Hid (PS c w i vt vp ts nest bud ns) := h
 have CN := x9 h
 unfold tkC at CN
 have HF2 := fun k p x n W => (o8 k p x n W).2.2.1
 have HNO : Hid (∀ W, Calls Tryz.prog 124 #[str (hdT ts).text] W fun e w' => e = .returned (.int .i64 (of : Int)) ∧ W = w') := fun W => by
  have := T0 (hdT ts).text W
  rw [hof] at this
  exact this
 have HK : Hid ((hdT ts).kind ≠ 0) := hk
 have HOF : Hid (of ≠ 0 ∧ of ≤ 13) := ⟨hof0, hof1⟩
 have hz0 : ((of : Int) == 0) = false := by rw [beq_eq_false_iff_ne]; omega
 have h13' : ((of : Int) != 13) = true := by rw [bne_iff_ne]; omega
 have n2 : ((of : Int) == 2) = false := by rw [beq_eq_false_iff_ne]; omega
 have n3 : ((of : Int) == 3) = false := by rw [beq_eq_false_iff_ne]; omega
 have y4 : ((of : Int) == 4) = true := by rw [hv]; rfl
 have n1 : ((of : Int) == 1) = false := by rw [beq_eq_false_iff_ne]; omega
 clear hv
 clear h hof hk
 go_enter Tryz.func119, Tryz.ntmps119
 go_wp2_with fail
 refine CN.mono ?_
 rintro e w1 ⟨rfl, G1⟩
 clear CN
 go_wp2_with fail
 refine (HNO.out w1).mono ?_
 rintro e w2 ⟨rfl, rfl⟩
 clear HNO
 have P1 := HP.out.keep G1
 go_wp2_with fail
 refine (I5 P1 HK.out).mono ?_
 rintro e w3 ⟨rfl, i3, vt3, vp3, H3, G3, F3⟩
 unfold tkC
 obtain ⟨t, ht⟩ : ∃ t, hdT ts = t := ⟨_, rfl⟩
 have HT : Hid (hdT ts = t) := ht
 rw [ht]
 clear ht
 obtain ⟨tk, tp, tx, tn⟩ := t
 simp only
 have KA := World.grownBy_alloc w3 (.cells #[.int .i64 (tk : Int), .int .i64 (tp : Int), str tx, .int .u32 (tn : Int)] 42) none
 have VM := VAt.alloc w3 42 #[.int .i64 (tk : Int), .int .i64 (tp : Int), str tx, .int .u32 (tn : Int)]
 have Q4 : PR c w vt vp (w3.alloc (.cells #[.int .i64 (tk : Int), .int .i64 (tp : Int), str tx, .int .u32 (tn : Int)] 42)) i3 vt3 vp3 ts.tail nest (bud + 1) ns w3.heap.size 42 #[.int .i64 (tk : Int), .int .i64 (tp : Int), str tx, .int .u32 (tn : Int)] :=
  ⟨H3.keep KA, ((GB.non G1).trans G3 (fun _ _ h => h)).trans (GB.non (S := d3 c.g vt vp) KA) (fun _ _ h => h), fun x hx => F3 x (Nat.lt_of_lt_of_le hx G1.size), H3.not_foot (Nat.le_refl _), VM, Nat.le_trans G1.size G3.size⟩
 clear P1 H3 G3 F3 KA VM G1
 go_upto_region 5 with fail
 generalize w3.alloc (.cells #[.int .i64 (tk : Int), .int .i64 (tp : Int), .string ⟨tx.toArray⟩, .int .u32 (tn : Int)] 42) = w4 at *
 generalize w3.heap.size = M at *
 have GA1 := World.grownBy_alloc w4 (.cells #[str [91]] 9) none
 have CS1 := O8 (Q4.keep GA1).ps [91] (s7 (by decide) (by kernel_rfl)) ⟨w4.heap.size, 0, none⟩ (m8 w4 _ _)
 rw [hb] at CS1
 go_wp2_with fail
 refine CS1.mono ?_
 rintro e w5 ⟨rfl, GB1⟩
 have Q5 := (Q4.keep GA1).keep GB1
 clear CS1 GA1 GB1 Q4
 have GA2 := World.grownBy_alloc w5 (.cells #[str g9, str j5, str j1, str j4] 9) none
 have CS2 := a0b (Q5.keep GA2).ps (some ⟨w5.heap.size, 0, none⟩) 4 N9 (m8 w5 _ _) (by decide)
 rw [hp] at CS2
 rw [show N9.length = 4 from rfl] at CS2
 go_wp2_with fail
 refine CS2.mono ?_
 rintro e w6 ⟨rfl, GB2⟩
 have Q6 := (Q5.keep GA2).keep GB2
 clear CS2 GA2 GB2 Q5
 have CP := F0 Q6.ps ⟨tk, tp, tx, tn⟩ (I8 of)
 rw [a0w] at CP
 unfold tkC at CP
 simp only at CP
 have VA := Q6.res
 have HQ : Hid (PR c w vt vp w6 i3 vt3 vp3 ts.tail nest (bud + 1) ns M 42 #[.int .i64 (tk : Int), .int .i64 (tp : Int), str tx, .int .u32 (tn : Int)]) := Q6
 clear Q6
 go_wp2_with (refine wpList_load_row rfl 42 (.tmp 3) rfl M rfl 42 _ (0, 0) _ VA Tryz.underlying42 rfl D2 ?_)
 refine CP.mono ?_
 rintro e wz ⟨rfl, R⟩
 go_wp2
 go_end0
 refine ⟨rfl, ?_⟩
 rw [HT.out]
 exact Ret.of HQ.out.gb HQ.out.sh R
theorem a7X (h : PS c w i vt vp ts nest bud ns) (of : Nat) (hof : l9 (hdT ts).text = of) (hof0 : of ≠ 0) (hof1 : of ≤ 13) (hk : (hdT ts).kind ≠ 0) (hv : of = 4) (hb : isB ts.tail [91] = false) (hp : decide ((hdT ts.tail).text ∈ N9) = true) (ans : Out) (hans : D5 (hdT ts).pos (J8 of (p8 ts.tail) (o9 ts.tail)) = ans) :
  Calls Tryz.prog 119 #[.pointer (some ⟨c.g, 0, none⟩)] w (l6 c w vt vp nest bud ns ans) := by
 have HP : Hid (PS c w i vt vp ts nest bud ns) := h
 have CN := x9 h
 unfold tkC at CN
 have HF2 := fun k p x n W => (o8 k p x n W).2.2.1
 have HNO : Hid (∀ W, Calls Tryz.prog 124 #[str (hdT ts).text] W fun e w' => e = .returned (.int .i64 (of : Int)) ∧ W = w') := fun W => by
  have := T0 (hdT ts).text W
  rw [hof] at this
  exact this
 have HK : Hid ((hdT ts).kind ≠ 0) := hk
 have HOF : Hid (of ≠ 0 ∧ of ≤ 13) := ⟨hof0, hof1⟩
 have hz0 : ((of : Int) == 0) = false := by rw [beq_eq_false_iff_ne]; omega
 have h13' : ((of : Int) != 13) = true := by rw [bne_iff_ne]; omega
 have n2 : ((of : Int) == 2) = false := by rw [beq_eq_false_iff_ne]; omega
 have n3 : ((of : Int) == 3) = false := by rw [beq_eq_false_iff_ne]; omega
 have y4 : ((of : Int) == 4) = true := by rw [hv]; rfl
 have HANS : Hid (D5 (hdT ts).pos (J8 of (p8 ts.tail) (o9 ts.tail)) = ans) := hans
 clear hv hans
 clear h hof hk
 go_enter Tryz.func119, Tryz.ntmps119
 go_wp2_with fail
 refine CN.mono ?_
 rintro e w1 ⟨rfl, G1⟩
 clear CN
 go_wp2_with fail
 refine (HNO.out w1).mono ?_
 rintro e w2 ⟨rfl, rfl⟩
 clear HNO
 have P1 := HP.out.keep G1
 go_wp2_with fail
 refine (I5 P1 HK.out).mono ?_
 rintro e w3 ⟨rfl, i3, vt3, vp3, H3, G3, F3⟩
 unfold tkC
 obtain ⟨t, ht⟩ : ∃ t, hdT ts = t := ⟨_, rfl⟩
 have HT : Hid (hdT ts = t) := ht
 rw [ht]
 clear ht
 obtain ⟨tk, tp, tx, tn⟩ := t
 simp only
 have KA := World.grownBy_alloc w3 (.cells #[.int .i64 (tk : Int), .int .i64 (tp : Int), str tx, .int .u32 (tn : Int)] 42) none
 have VM := VAt.alloc w3 42 #[.int .i64 (tk : Int), .int .i64 (tp : Int), str tx, .int .u32 (tn : Int)]
 have Q4 : PR c w vt vp (w3.alloc (.cells #[.int .i64 (tk : Int), .int .i64 (tp : Int), str tx, .int .u32 (tn : Int)] 42)) i3 vt3 vp3 ts.tail nest (bud + 1) ns w3.heap.size 42 #[.int .i64 (tk : Int), .int .i64 (tp : Int), str tx, .int .u32 (tn : Int)] :=
  ⟨H3.keep KA, ((GB.non G1).trans G3 (fun _ _ h => h)).trans (GB.non (S := d3 c.g vt vp) KA) (fun _ _ h => h), fun x hx => F3 x (Nat.lt_of_lt_of_le hx G1.size), H3.not_foot (Nat.le_refl _), VM, Nat.le_trans G1.size G3.size⟩
 clear P1 H3 G3 F3 KA VM G1
 go_upto_region 5 with fail
 generalize w3.alloc (.cells #[.int .i64 (tk : Int), .int .i64 (tp : Int), .string ⟨tx.toArray⟩, .int .u32 (tn : Int)] 42) = w4 at *
 generalize w3.heap.size = M at *
 have GA1 := World.grownBy_alloc w4 (.cells #[str [91]] 9) none
 have CS1 := O8 (Q4.keep GA1).ps [91] (s7 (by decide) (by kernel_rfl)) ⟨w4.heap.size, 0, none⟩ (m8 w4 _ _)
 rw [hb] at CS1
 go_wp2_with fail
 refine CS1.mono ?_
 rintro e w5 ⟨rfl, GB1⟩
 have Q5 := (Q4.keep GA1).keep GB1
 clear CS1 GA1 GB1 Q4
 have GA2 := World.grownBy_alloc w5 (.cells #[str g9, str j5, str j1, str j4] 9) none
 have CS2 := a0b (Q5.keep GA2).ps (some ⟨w5.heap.size, 0, none⟩) 4 N9 (m8 w5 _ _) (by decide)
 rw [hp] at CS2
 rw [show N9.length = 4 from rfl] at CS2
 go_wp2_with fail
 refine CS2.mono ?_
 rintro e w6 ⟨rfl, GB2⟩
 have Q6 := (Q5.keep GA2).keep GB2
 clear CS2 GA2 GB2 Q5
 have HC : Hid (Calls Tryz.prog 121 #[.pointer (some ⟨c.g, 0, none⟩)] w6.drew fun e w' => e = .returned (.int .i64 (p8 ts.tail : Int)) ∧ Ret c w6.drew vt3 vp3 (o9 ts.tail) nest bud ns w') := a36 ((Q6.keep (f8 w6 1 none)).ps.less (Nat.le_succ bud))
 have HQ6 : Hid (PR c w vt vp w6.drew i3 vt3 vp3 ts.tail nest (bud + 1) ns M 42 #[.int .i64 (tk : Int), .int .i64 (tp : Int), str tx, .int .u32 (tn : Int)]) := Q6.keep (f8 w6 1 none)
 clear Q6
 generalize p8 ts.tail = sd at *
 generalize o9 ts.tail = r6 at *
 go_upto_region 10 with fail
 refine wp_region_held_drew (S := fun W => VAt W M 42 #[.int .i64 (tk : Int), .int .i64 (tp : Int), str tx, .int .u32 (tn : Int)]) (by kernel_rfl) HQ6.out.res (fun hHeld => ?_)
 refine wpT (i := 0) (v := .pointer (some ⟨c.g, 0, none⟩)) rfl (Or.inl ⟨by rfl, fun W hW => ?_⟩) hHeld ?_
 ·clear hW
  go_simp
 try simp only [Act.put, a0, a1, a3, a4, a5]
 refine wpT (i := 1) (v := .agg #[.int .i64 (tk : Int), .int .i64 (tp : Int), str tx, .int .u32 (tn : Int)]) rfl (E8 (by rfl) _ _ rfl M rfl 42 #[.int .i64 (tk : Int), .int .i64 (tp : Int), str tx, .int .u32 (tn : Int)] _ (fun W hW => hW) Tryz.underlying42 rfl D2) hHeld ?_
 try simp only [Act.put, a0, a1, a2, a3, a4, a5]
 refine wpT (i := 2) (v := .pointer (some ⟨c.g, 0, none⟩)) rfl (Or.inl ⟨by rfl, fun W hW => ?_⟩) hHeld ?_
 ·clear hW
  go_simp
 try simp only [Act.put, a0, a1, a2, a3, a4, a5]
 refine wpT (i := 3) (v := .int .i64 (of : Int)) rfl (Or.inl ⟨by rfl, fun W hW => ?_⟩) hHeld ?_
 ·clear hW
  go_simp
 try simp only [Act.put, a0, a1, a2, a3, a4, a5]
 refine wpT (i := 4) (v := .pointer (some ⟨c.g, 0, none⟩)) rfl (Or.inl ⟨by rfl, fun W hW => ?_⟩) hHeld ?_
 ·clear hW
  go_simp
 try simp only [Act.put, a0, a1, a2, a3, a4, a5]
 refine wpR (rs := [5]) (AllReadyH.cons rfl (fun K hK => ?_) AllReadyH.nil)
 go_simp
 refine HC.out.mono ?_
 clear HC
 rintro e w7 ⟨rfl, R7⟩
 obtain ⟨i7, vt7, vp7, Q7⟩ := HQ6.out.step R7
 go_wp2_with fail
 refine hK.out _ _ Q7.res (fun hHeld => ?_)
 clear hK K
 try simp only [Act.put, a0, a1, a2, a3, a4, a5]
 have C8 := a2S Q7.ps of sd
 unfold D5 at HANS
 generalize J8 of sd r6 = pr at *
 refine wpR (rs := [6]) (AllReadyH.cons rfl (fun K hK => ?_) AllReadyH.nil)
 go_simp
 refine C8.mono ?_
 clear C8
 cases pr with
 | error er =>
  have HA3 : Hid (ans = .error er) := HANS.out.symm
  rintro e w8 ⟨rfl, G⟩
  go_wp2
  refine ⟨rfl, ?_⟩
  rw [HA3.out]
  exact ⟨rfl, Q7.err G⟩
 | ok v =>
  obtain ⟨X, r8⟩ := v
  have HA3 : Hid (ans = .ok ([(X, (hdT ts).pos)], r8)) := HANS.out.symm
  rw [HT.out] at HA3
  rintro e w8 ⟨rfl, R8⟩
  obtain ⟨i8, vt8, vp8, Q8⟩ := Q7.step R8
  go_wp2_with fail
  refine hK.out _ _ Q8.res (fun hHeld => ?_)
  clear hK K
  try simp only [Act.put, a0, a1, a2, a3, a4, a5]
  have CP := F0 Q8.ps ⟨tk, tp, tx, tn⟩ X
  refine wpR (rs := [7]) (AllReadyH.cons rfl (fun K hK => ?_) AllReadyH.nil)
  unfold tkC at CP
  simp only at CP
  go_simp
  refine CP.mono ?_
  rintro e w9 ⟨rfl, R9⟩
  obtain ⟨i9, vt9, vp9, Q9⟩ := Q8.step R9
  go_wp2_with fail
  refine hK.out _ _ Q9.res (fun hHeld => ?_)
  clear hK K
  refine wpAnyH_done (by kernel_rfl) ?_ _
  go_wp2
  go_end0
  rw [HA3.out]
  exact ⟨rfl, Q9.ret⟩
theorem a83 (h : PS c w i vt vp ts nest bud ns) (of : Nat) (hof : l9 (hdT ts).text = of) (hof0 : of ≠ 0) (hof1 : of ≤ 13) (hk : (hdT ts).kind ≠ 0) (hv : of = 5) (hb : isB ts.tail [91] = false) (hp : decide ((hdT ts.tail).text ∈ N9) = false) :
  Calls Tryz.prog 119 #[.pointer (some ⟨c.g, 0, none⟩)] w (l6 c w vt vp nest bud ns (.ok ([(I8 of, (hdT ts).pos)], ts.tail))) := by
 have HP : Hid (PS c w i vt vp ts nest bud ns) := h
 have CN := x9 h
 unfold tkC at CN
 have HF2 := fun k p x n W => (o8 k p x n W).2.2.1
 have HNO : Hid (∀ W, Calls Tryz.prog 124 #[str (hdT ts).text] W fun e w' => e = .returned (.int .i64 (of : Int)) ∧ W = w') := fun W => by
  have := T0 (hdT ts).text W
  rw [hof] at this
  exact this
 have HK : Hid ((hdT ts).kind ≠ 0) := hk
 have HOF : Hid (of ≠ 0 ∧ of ≤ 13) := ⟨hof0, hof1⟩
 have hz0 : ((of : Int) == 0) = false := by rw [beq_eq_false_iff_ne]; omega
 have h13' : ((of : Int) != 13) = true := by rw [bne_iff_ne]; omega
 have n2 : ((of : Int) == 2) = false := by rw [beq_eq_false_iff_ne]; omega
 have n3 : ((of : Int) == 3) = false := by rw [beq_eq_false_iff_ne]; omega
 have n4 : ((of : Int) == 4) = false := by rw [beq_eq_false_iff_ne]; omega
 have y5 : ((of : Int) == 5) = true := by rw [hv]; rfl
 have n1 : ((of : Int) == 1) = false := by rw [beq_eq_false_iff_ne]; omega
 clear hv
 clear h hof hk
 go_enter Tryz.func119, Tryz.ntmps119
 go_wp2_with fail
 refine CN.mono ?_
 rintro e w1 ⟨rfl, G1⟩
 clear CN
 go_wp2_with fail
 refine (HNO.out w1).mono ?_
 rintro e w2 ⟨rfl, rfl⟩
 clear HNO
 have P1 := HP.out.keep G1
 go_wp2_with fail
 refine (I5 P1 HK.out).mono ?_
 rintro e w3 ⟨rfl, i3, vt3, vp3, H3, G3, F3⟩
 unfold tkC
 obtain ⟨t, ht⟩ : ∃ t, hdT ts = t := ⟨_, rfl⟩
 have HT : Hid (hdT ts = t) := ht
 rw [ht]
 clear ht
 obtain ⟨tk, tp, tx, tn⟩ := t
 simp only
 have KA := World.grownBy_alloc w3 (.cells #[.int .i64 (tk : Int), .int .i64 (tp : Int), str tx, .int .u32 (tn : Int)] 42) none
 have VM := VAt.alloc w3 42 #[.int .i64 (tk : Int), .int .i64 (tp : Int), str tx, .int .u32 (tn : Int)]
 have Q4 : PR c w vt vp (w3.alloc (.cells #[.int .i64 (tk : Int), .int .i64 (tp : Int), str tx, .int .u32 (tn : Int)] 42)) i3 vt3 vp3 ts.tail nest (bud + 1) ns w3.heap.size 42 #[.int .i64 (tk : Int), .int .i64 (tp : Int), str tx, .int .u32 (tn : Int)] :=
  ⟨H3.keep KA, ((GB.non G1).trans G3 (fun _ _ h => h)).trans (GB.non (S := d3 c.g vt vp) KA) (fun _ _ h => h), fun x hx => F3 x (Nat.lt_of_lt_of_le hx G1.size), H3.not_foot (Nat.le_refl _), VM, Nat.le_trans G1.size G3.size⟩
 clear P1 H3 G3 F3 KA VM G1
 go_upto_region 5 with fail
 generalize w3.alloc (.cells #[.int .i64 (tk : Int), .int .i64 (tp : Int), .string ⟨tx.toArray⟩, .int .u32 (tn : Int)] 42) = w4 at *
 generalize w3.heap.size = M at *
 have GA1 := World.grownBy_alloc w4 (.cells #[str [91]] 9) none
 have CS1 := O8 (Q4.keep GA1).ps [91] (s7 (by decide) (by kernel_rfl)) ⟨w4.heap.size, 0, none⟩ (m8 w4 _ _)
 rw [hb] at CS1
 go_wp2_with fail
 refine CS1.mono ?_
 rintro e w5 ⟨rfl, GB1⟩
 have Q5 := (Q4.keep GA1).keep GB1
 clear CS1 GA1 GB1 Q4
 have GA2 := World.grownBy_alloc w5 (.cells #[str g9, str j5, str j1, str j4] 9) none
 have CS2 := a0b (Q5.keep GA2).ps (some ⟨w5.heap.size, 0, none⟩) 4 N9 (m8 w5 _ _) (by decide)
 rw [hp] at CS2
 rw [show N9.length = 4 from rfl] at CS2
 go_wp2_with fail
 refine CS2.mono ?_
 rintro e w6 ⟨rfl, GB2⟩
 have Q6 := (Q5.keep GA2).keep GB2
 clear CS2 GA2 GB2 Q5
 have CP := F0 Q6.ps ⟨tk, tp, tx, tn⟩ (I8 of)
 rw [a0w] at CP
 unfold tkC at CP
 simp only at CP
 have VA := Q6.res
 have HQ : Hid (PR c w vt vp w6 i3 vt3 vp3 ts.tail nest (bud + 1) ns M 42 #[.int .i64 (tk : Int), .int .i64 (tp : Int), str tx, .int .u32 (tn : Int)]) := Q6
 clear Q6
 go_wp2_with (refine wpList_load_row rfl 42 (.tmp 3) rfl M rfl 42 _ (0, 0) _ VA Tryz.underlying42 rfl D2 ?_)
 refine CP.mono ?_
 rintro e wz ⟨rfl, R⟩
 go_wp2
 go_end0
 refine ⟨rfl, ?_⟩
 rw [HT.out]
 exact Ret.of HQ.out.gb HQ.out.sh R
theorem a7Y (h : PS c w i vt vp ts nest bud ns) (of : Nat) (hof : l9 (hdT ts).text = of) (hof0 : of ≠ 0) (hof1 : of ≤ 13) (hk : (hdT ts).kind ≠ 0) (hv : of = 5) (hb : isB ts.tail [91] = false) (hp : decide ((hdT ts.tail).text ∈ N9) = true) (ans : Out) (hans : D5 (hdT ts).pos (J8 of (p8 ts.tail) (o9 ts.tail)) = ans) :
  Calls Tryz.prog 119 #[.pointer (some ⟨c.g, 0, none⟩)] w (l6 c w vt vp nest bud ns ans) := by
 have HP : Hid (PS c w i vt vp ts nest bud ns) := h
 have CN := x9 h
 unfold tkC at CN
 have HF2 := fun k p x n W => (o8 k p x n W).2.2.1
 have HNO : Hid (∀ W, Calls Tryz.prog 124 #[str (hdT ts).text] W fun e w' => e = .returned (.int .i64 (of : Int)) ∧ W = w') := fun W => by
  have := T0 (hdT ts).text W
  rw [hof] at this
  exact this
 have HK : Hid ((hdT ts).kind ≠ 0) := hk
 have HOF : Hid (of ≠ 0 ∧ of ≤ 13) := ⟨hof0, hof1⟩
 have hz0 : ((of : Int) == 0) = false := by rw [beq_eq_false_iff_ne]; omega
 have h13' : ((of : Int) != 13) = true := by rw [bne_iff_ne]; omega
 have n2 : ((of : Int) == 2) = false := by rw [beq_eq_false_iff_ne]; omega
 have n3 : ((of : Int) == 3) = false := by rw [beq_eq_false_iff_ne]; omega
 have n4 : ((of : Int) == 4) = false := by rw [beq_eq_false_iff_ne]; omega
 have y5 : ((of : Int) == 5) = true := by rw [hv]; rfl
 have HANS : Hid (D5 (hdT ts).pos (J8 of (p8 ts.tail) (o9 ts.tail)) = ans) := hans
 clear hv hans
 clear h hof hk
 go_enter Tryz.func119, Tryz.ntmps119
 go_wp2_with fail
 refine CN.mono ?_
 rintro e w1 ⟨rfl, G1⟩
 clear CN
 go_wp2_with fail
 refine (HNO.out w1).mono ?_
 rintro e w2 ⟨rfl, rfl⟩
 clear HNO
 have P1 := HP.out.keep G1
 go_wp2_with fail
 refine (I5 P1 HK.out).mono ?_
 rintro e w3 ⟨rfl, i3, vt3, vp3, H3, G3, F3⟩
 unfold tkC
 obtain ⟨t, ht⟩ : ∃ t, hdT ts = t := ⟨_, rfl⟩
 have HT : Hid (hdT ts = t) := ht
 rw [ht]
 clear ht
 obtain ⟨tk, tp, tx, tn⟩ := t
 simp only
 have KA := World.grownBy_alloc w3 (.cells #[.int .i64 (tk : Int), .int .i64 (tp : Int), str tx, .int .u32 (tn : Int)] 42) none
 have VM := VAt.alloc w3 42 #[.int .i64 (tk : Int), .int .i64 (tp : Int), str tx, .int .u32 (tn : Int)]
 have Q4 : PR c w vt vp (w3.alloc (.cells #[.int .i64 (tk : Int), .int .i64 (tp : Int), str tx, .int .u32 (tn : Int)] 42)) i3 vt3 vp3 ts.tail nest (bud + 1) ns w3.heap.size 42 #[.int .i64 (tk : Int), .int .i64 (tp : Int), str tx, .int .u32 (tn : Int)] :=
  ⟨H3.keep KA, ((GB.non G1).trans G3 (fun _ _ h => h)).trans (GB.non (S := d3 c.g vt vp) KA) (fun _ _ h => h), fun x hx => F3 x (Nat.lt_of_lt_of_le hx G1.size), H3.not_foot (Nat.le_refl _), VM, Nat.le_trans G1.size G3.size⟩
 clear P1 H3 G3 F3 KA VM G1
 go_upto_region 5 with fail
 generalize w3.alloc (.cells #[.int .i64 (tk : Int), .int .i64 (tp : Int), .string ⟨tx.toArray⟩, .int .u32 (tn : Int)] 42) = w4 at *
 generalize w3.heap.size = M at *
 have GA1 := World.grownBy_alloc w4 (.cells #[str [91]] 9) none
 have CS1 := O8 (Q4.keep GA1).ps [91] (s7 (by decide) (by kernel_rfl)) ⟨w4.heap.size, 0, none⟩ (m8 w4 _ _)
 rw [hb] at CS1
 go_wp2_with fail
 refine CS1.mono ?_
 rintro e w5 ⟨rfl, GB1⟩
 have Q5 := (Q4.keep GA1).keep GB1
 clear CS1 GA1 GB1 Q4
 have GA2 := World.grownBy_alloc w5 (.cells #[str g9, str j5, str j1, str j4] 9) none
 have CS2 := a0b (Q5.keep GA2).ps (some ⟨w5.heap.size, 0, none⟩) 4 N9 (m8 w5 _ _) (by decide)
 rw [hp] at CS2
 rw [show N9.length = 4 from rfl] at CS2
 go_wp2_with fail
 refine CS2.mono ?_
 rintro e w6 ⟨rfl, GB2⟩
 have Q6 := (Q5.keep GA2).keep GB2
 clear CS2 GA2 GB2 Q5
 have HC : Hid (Calls Tryz.prog 121 #[.pointer (some ⟨c.g, 0, none⟩)] w6.drew fun e w' => e = .returned (.int .i64 (p8 ts.tail : Int)) ∧ Ret c w6.drew vt3 vp3 (o9 ts.tail) nest bud ns w') := a36 ((Q6.keep (f8 w6 1 none)).ps.less (Nat.le_succ bud))
 have HQ6 : Hid (PR c w vt vp w6.drew i3 vt3 vp3 ts.tail nest (bud + 1) ns M 42 #[.int .i64 (tk : Int), .int .i64 (tp : Int), str tx, .int .u32 (tn : Int)]) := Q6.keep (f8 w6 1 none)
 clear Q6
 generalize p8 ts.tail = sd at *
 generalize o9 ts.tail = r6 at *
 go_upto_region 10 with fail
 refine wp_region_held_drew (S := fun W => VAt W M 42 #[.int .i64 (tk : Int), .int .i64 (tp : Int), str tx, .int .u32 (tn : Int)]) (by kernel_rfl) HQ6.out.res (fun hHeld => ?_)
 refine wpT (i := 0) (v := .pointer (some ⟨c.g, 0, none⟩)) rfl (Or.inl ⟨by rfl, fun W hW => ?_⟩) hHeld ?_
 ·clear hW
  go_simp
 try simp only [Act.put, a0, a1, a3, a4, a5]
 refine wpT (i := 1) (v := .agg #[.int .i64 (tk : Int), .int .i64 (tp : Int), str tx, .int .u32 (tn : Int)]) rfl (E8 (by rfl) _ _ rfl M rfl 42 #[.int .i64 (tk : Int), .int .i64 (tp : Int), str tx, .int .u32 (tn : Int)] _ (fun W hW => hW) Tryz.underlying42 rfl D2) hHeld ?_
 try simp only [Act.put, a0, a1, a2, a3, a4, a5]
 refine wpT (i := 2) (v := .pointer (some ⟨c.g, 0, none⟩)) rfl (Or.inl ⟨by rfl, fun W hW => ?_⟩) hHeld ?_
 ·clear hW
  go_simp
 try simp only [Act.put, a0, a1, a2, a3, a4, a5]
 refine wpT (i := 3) (v := .int .i64 (of : Int)) rfl (Or.inl ⟨by rfl, fun W hW => ?_⟩) hHeld ?_
 ·clear hW
  go_simp
 try simp only [Act.put, a0, a1, a2, a3, a4, a5]
 refine wpT (i := 4) (v := .pointer (some ⟨c.g, 0, none⟩)) rfl (Or.inl ⟨by rfl, fun W hW => ?_⟩) hHeld ?_
 ·clear hW
  go_simp
 try simp only [Act.put, a0, a1, a2, a3, a4, a5]
 refine wpR (rs := [5]) (AllReadyH.cons rfl (fun K hK => ?_) AllReadyH.nil)
 go_simp
 refine HC.out.mono ?_
 clear HC
 rintro e w7 ⟨rfl, R7⟩
 obtain ⟨i7, vt7, vp7, Q7⟩ := HQ6.out.step R7
 go_wp2_with fail
 refine hK.out _ _ Q7.res (fun hHeld => ?_)
 clear hK K
 try simp only [Act.put, a0, a1, a2, a3, a4, a5]
 have C8 := a2S Q7.ps of sd
 unfold D5 at HANS
 generalize J8 of sd r6 = pr at *
 refine wpR (rs := [6]) (AllReadyH.cons rfl (fun K hK => ?_) AllReadyH.nil)
 go_simp
 refine C8.mono ?_
 clear C8
 cases pr with
 | error er =>
  have HA3 : Hid (ans = .error er) := HANS.out.symm
  rintro e w8 ⟨rfl, G⟩
  go_wp2
  refine ⟨rfl, ?_⟩
  rw [HA3.out]
  exact ⟨rfl, Q7.err G⟩
 | ok v =>
  obtain ⟨X, r8⟩ := v
  have HA3 : Hid (ans = .ok ([(X, (hdT ts).pos)], r8)) := HANS.out.symm
  rw [HT.out] at HA3
  rintro e w8 ⟨rfl, R8⟩
  obtain ⟨i8, vt8, vp8, Q8⟩ := Q7.step R8
  go_wp2_with fail
  refine hK.out _ _ Q8.res (fun hHeld => ?_)
  clear hK K
  try simp only [Act.put, a0, a1, a2, a3, a4, a5]
  have CP := F0 Q8.ps ⟨tk, tp, tx, tn⟩ X
  refine wpR (rs := [7]) (AllReadyH.cons rfl (fun K hK => ?_) AllReadyH.nil)
  unfold tkC at CP
  simp only at CP
  go_simp
  refine CP.mono ?_
  rintro e w9 ⟨rfl, R9⟩
  obtain ⟨i9, vt9, vp9, Q9⟩ := Q8.step R9
  go_wp2_with fail
  refine hK.out _ _ Q9.res (fun hHeld => ?_)
  clear hK K
  refine wpAnyH_done (by kernel_rfl) ?_ _
  go_wp2
  go_end0
  rw [HA3.out]
  exact ⟨rfl, Q9.ret⟩

end
end Go.Proofs.YtlfmddjppejmaaaGreatDoor
