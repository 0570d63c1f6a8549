import Derived.Test.YtklipelnjgpnjaaGreatDoorNAb
import Derived.Test.YtklipelnjgpnjaaGreatDoorLotN10
import Derived.Test.YtklipelnjgpnjaaGreatDoorLotN8
import Derived.Test.YtklipelnjgpnjaaGreatDoorLotN9
import Derived.Test.YtklipelnjgpnjaaGreatDoorLotN18
import Derived.Test.YtklipelnjgpnjaaGreatDoorLotN19
import Derived.Test.YtklipelnjgpnjaaGreatDoorLotN11
import Derived.Test.YtklipelnjgpnjaaGreatDoorLotN14
import Derived.BigQuiet
import Derived.Test.YtklipelnjgpnjaaGreatDoorLotN15
import Derived.Test.YtklipelnjgpnjaaGreatDoorLotN5
set_option maxHeartbeats 64000000
set_option maxRecDepth 100000
namespace Go.Proofs.YtklipelnjgpnjaaGreatDoor
open Go.RowKit
def a3b (o : Int) : Int := if o = 7 then 5 else if o = 8 then 6 else if o = 6 then 7 else if o = 9 ∨ o = 10 then 8 else if o = 1 ∨ o = 2 then 9 else 10
theorem aQ1 {x : Ng} (h : x.kind = 4) : d5 x = a3b x.op := by unfold d5 a3b; rw [h]; rfl
theorem aP8 (k : Int) (w : World) : Calls Tryz.prog 129 #[.int .i64 k] w fun e w' => e = .returned (.int .i64 (a3b k)) ∧ w' = w := by
 have h : k = 7 ∨ k = 8 ∨ k = 6 ∨ k = 9 ∨ k = 10 ∨ k = 1 ∨ k = 2 ∨ ¬ (k = 7 ∨ k = 8 ∨ k = 6 ∨ k = 9 ∨ k = 10 ∨ k = 1 ∨ k = 2) := by omega
 rcases h with rfl | rfl | rfl | rfl | rfl | rfl | rfl | hn
 ·go_enter Tryz.func129, Tryz.ntmps129
  go_wp2
  go_ret
  exact ⟨rfl, rfl⟩
 ·go_enter Tryz.func129, Tryz.ntmps129
  go_wp2
  go_ret
  exact ⟨rfl, rfl⟩
 ·go_enter Tryz.func129, Tryz.ntmps129
  go_wp2
  go_ret
  exact ⟨rfl, rfl⟩
 ·go_enter Tryz.func129, Tryz.ntmps129
  go_wp2
  go_ret
  exact ⟨rfl, rfl⟩
 ·go_enter Tryz.func129, Tryz.ntmps129
  go_wp2
  go_ret
  exact ⟨rfl, rfl⟩
 ·go_enter Tryz.func129, Tryz.ntmps129
  go_wp2
  go_ret
  exact ⟨rfl, rfl⟩
 ·go_enter Tryz.func129, Tryz.ntmps129
  go_wp2
  go_ret
  exact ⟨rfl, rfl⟩
 ·have hE : a3b k = 10 := by
   unfold a3b
   rw [if_neg (by omega), if_neg (by omega), if_neg (by omega), if_neg (by omega), if_neg (by omega)]
  rw [hE]
  have u7 : (k == 7) = false := by rw [beq_eq_false_iff_ne]; omega
  have u8 : (k == 8) = false := by rw [beq_eq_false_iff_ne]; omega
  have u6 : (k == 6) = false := by rw [beq_eq_false_iff_ne]; omega
  have u9 : (k == 9) = false := by rw [beq_eq_false_iff_ne]; omega
  have u10 : (k == 10) = false := by rw [beq_eq_false_iff_ne]; omega
  have u1 : (k == 1) = false := by rw [beq_eq_false_iff_ne]; omega
  have u2 : (k == 2) = false := by rw [beq_eq_false_iff_ne]; omega
  clear hn hE
  go_enter Tryz.func129, Tryz.ntmps129
  go_wp2
  go_ret
  exact ⟨rfl, rfl⟩
theorem a3J (k : Int) (w : World) : Calls Tryz.prog 99 #[.int .i64 k] w fun e w' => e = .returned (str (t7 k)) ∧ w' = w := by
 have h : k = 1 ∨ k = 2 ∨ k = 3 ∨ k = 4 ∨ k = 5 ∨ k = 6 ∨ k = 7 ∨ k = 8 ∨ k = 9 ∨ k = 10 ∨ k = 11 ∨ k = 12 ∨ k = 13 ∨ ¬ (k = 1 ∨ k = 2 ∨ k = 3 ∨ k = 4 ∨ k = 5 ∨ k = 6 ∨ k = 7 ∨ k = 8 ∨ k = 9 ∨ k = 10 ∨ k = 11 ∨ k = 12 ∨ k = 13) := by omega
 rcases h with rfl | rfl | rfl | rfl | rfl | rfl | rfl | rfl | rfl | rfl | rfl | rfl | rfl | hn
 ·go_enter Tryz.func99, Tryz.ntmps99
  go_wp2
  go_ret
  exact ⟨rfl, rfl⟩
 ·go_enter Tryz.func99, Tryz.ntmps99
  go_wp2
  go_ret
  exact ⟨rfl, rfl⟩
 ·go_enter Tryz.func99, Tryz.ntmps99
  go_wp2
  go_ret
  exact ⟨rfl, rfl⟩
 ·go_enter Tryz.func99, Tryz.ntmps99
  go_wp2
  go_ret
  exact ⟨rfl, rfl⟩
 ·go_enter Tryz.func99, Tryz.ntmps99
  go_wp2
  go_ret
  exact ⟨rfl, rfl⟩
 ·go_enter Tryz.func99, Tryz.ntmps99
  go_wp2
  go_ret
  exact ⟨rfl, rfl⟩
 ·go_enter Tryz.func99, Tryz.ntmps99
  go_wp2
  go_ret
  exact ⟨rfl, rfl⟩
 ·go_enter Tryz.func99, Tryz.ntmps99
  go_wp2
  go_ret
  exact ⟨rfl, rfl⟩
 ·go_enter Tryz.func99, Tryz.ntmps99
  go_wp2
  go_ret
  exact ⟨rfl, rfl⟩
 ·go_enter Tryz.func99, Tryz.ntmps99
  go_wp2
  go_ret
  exact ⟨rfl, rfl⟩
 ·go_enter Tryz.func99, Tryz.ntmps99
  go_wp2
  go_ret
  exact ⟨rfl, rfl⟩
 ·go_enter Tryz.func99, Tryz.ntmps99
  go_wp2
  go_ret
  exact ⟨rfl, rfl⟩
 ·go_enter Tryz.func99, Tryz.ntmps99
  go_wp2
  go_ret
  exact ⟨rfl, rfl⟩
 ·have hE : t7 k = [] := by
   unfold t7
   rw [if_neg (by omega), if_neg (by omega), if_neg (by omega), if_neg (by omega), if_neg (by omega), if_neg (by omega), if_neg (by omega), if_neg (by omega), if_neg (by omega), if_neg (by omega), if_neg (by omega), if_neg (by omega), if_neg (by omega)]
  rw [hE]
  have u1 : (k == 1) = false := by rw [beq_eq_false_iff_ne]; omega
  have u2 : (k == 2) = false := by rw [beq_eq_false_iff_ne]; omega
  have u3 : (k == 3) = false := by rw [beq_eq_false_iff_ne]; omega
  have u4 : (k == 4) = false := by rw [beq_eq_false_iff_ne]; omega
  have u5 : (k == 5) = false := by rw [beq_eq_false_iff_ne]; omega
  have u6 : (k == 6) = false := by rw [beq_eq_false_iff_ne]; omega
  have u7 : (k == 7) = false := by rw [beq_eq_false_iff_ne]; omega
  have u8 : (k == 8) = false := by rw [beq_eq_false_iff_ne]; omega
  have u9 : (k == 9) = false := by rw [beq_eq_false_iff_ne]; omega
  have u10 : (k == 10) = false := by rw [beq_eq_false_iff_ne]; omega
  have u11 : (k == 11) = false := by rw [beq_eq_false_iff_ne]; omega
  have u12 : (k == 12) = false := by rw [beq_eq_false_iff_ne]; omega
  have u13 : (k == 13) = false := by rw [beq_eq_false_iff_ne]; omega
  clear hn hE
  go_enter Tryz.func99, Tryz.ntmps99
  go_wp2
  go_ret
  exact ⟨rfl, rfl⟩
def P6 (k : Int) : List UInt8 := if k = 1 then [115, 114, 99] else if k = 2 then [100, 115, 116] else []
theorem a6z (k : Int) (w : World) : Calls Tryz.prog 137 #[.int .i64 k] w fun e w' => e = .returned (str (P6 k)) ∧ w' = w := by
 have h : k = 1 ∨ k = 2 ∨ ¬ (k = 1 ∨ k = 2) := by omega
 rcases h with rfl | rfl | hn
 ·go_enter Tryz.func137, Tryz.ntmps137
  go_wp2
  go_ret
  exact ⟨rfl, rfl⟩
 ·go_enter Tryz.func137, Tryz.ntmps137
  go_wp2
  go_ret
  exact ⟨rfl, rfl⟩
 ·have hE : P6 k = [] := by
   unfold P6
   rw [if_neg (by omega), if_neg (by omega)]
  rw [hE]
  have u1 : (k == 1) = false := by rw [beq_eq_false_iff_ne]; omega
  have u2 : (k == 2) = false := by rw [beq_eq_false_iff_ne]; omega
  clear hn hE
  go_enter Tryz.func137, Tryz.ntmps137
  go_wp2
  go_ret
  exact ⟨rfl, rfl⟩
def a3T (k : Int) : List UInt8 := if k = 1 then [105, 110, 98, 111, 117, 110, 100] else [111, 117, 116, 98, 111, 117, 110, 100]
theorem b0i (k : Int) (w : World) : Calls Tryz.prog 135 #[.int .i64 k] w fun e w' => e = .returned (str (a3T k)) ∧ w' = w := by
 have h : k = 1 ∨ ¬ (k = 1) := by omega
 rcases h with rfl | hn
 ·go_enter Tryz.func135, Tryz.ntmps135
  go_wp2
  go_ret
  exact ⟨rfl, rfl⟩
 ·have hE : a3T k = [111, 117, 116, 98, 111, 117, 110, 100] := by
   unfold a3T
   rw [if_neg (by omega)]
  rw [hE]
  have u1 : (k == 1) = false := by rw [beq_eq_false_iff_ne]; omega
  clear hn hE
  go_enter Tryz.func135, Tryz.ntmps135
  go_wp2
  go_ret
  exact ⟨rfl, rfl⟩
def a3u (k : Int) : List UInt8 := if k = 1 then [61] else if k = 2 then [33, 61] else if k = 3 then [60] else if k = 4 then [60, 61] else if k = 5 then [62] else [62, 61]
theorem am8 (k : Int) (w : World) : Calls Tryz.prog 132 #[.int .i64 k] w fun e w' => e = .returned (str (a3u k)) ∧ w' = w := by
 have h : k = 1 ∨ k = 2 ∨ k = 3 ∨ k = 4 ∨ k = 5 ∨ ¬ (k = 1 ∨ k = 2 ∨ k = 3 ∨ k = 4 ∨ k = 5) := by omega
 rcases h with rfl | rfl | rfl | rfl | rfl | hn
 ·go_enter Tryz.func132, Tryz.ntmps132
  go_wp2
  go_ret
  exact ⟨rfl, rfl⟩
 ·go_enter Tryz.func132, Tryz.ntmps132
  go_wp2
  go_ret
  exact ⟨rfl, rfl⟩
 ·go_enter Tryz.func132, Tryz.ntmps132
  go_wp2
  go_ret
  exact ⟨rfl, rfl⟩
 ·go_enter Tryz.func132, Tryz.ntmps132
  go_wp2
  go_ret
  exact ⟨rfl, rfl⟩
 ·go_enter Tryz.func132, Tryz.ntmps132
  go_wp2
  go_ret
  exact ⟨rfl, rfl⟩
 ·have hE : a3u k = [62, 61] := by
   unfold a3u
   rw [if_neg (by omega), if_neg (by omega), if_neg (by omega), if_neg (by omega), if_neg (by omega)]
  rw [hE]
  have u1 : (k == 1) = false := by rw [beq_eq_false_iff_ne]; omega
  have u2 : (k == 2) = false := by rw [beq_eq_false_iff_ne]; omega
  have u3 : (k == 3) = false := by rw [beq_eq_false_iff_ne]; omega
  have u4 : (k == 4) = false := by rw [beq_eq_false_iff_ne]; omega
  have u5 : (k == 5) = false := by rw [beq_eq_false_iff_ne]; omega
  clear hn hE
  go_enter Tryz.func132, Tryz.ntmps132
  go_wp2
  go_ret
  exact ⟨rfl, rfl⟩
def a3r (k : Int) : List UInt8 := if k = 1 then [43] else if k = 2 then [45] else if k = 3 then [42] else if k = 4 then [47] else if k = 5 then [37] else if k = 6 then [38] else if k = 7 then [124] else if k = 8 then [94] else if k = 9 then [60, 60] else [62, 62]
theorem ag4 (k : Int) (w : World) : Calls Tryz.prog 133 #[.int .i64 k] w fun e w' => e = .returned (str (a3r k)) ∧ w' = w := by
 have h : k = 1 ∨ k = 2 ∨ k = 3 ∨ k = 4 ∨ k = 5 ∨ k = 6 ∨ k = 7 ∨ k = 8 ∨ k = 9 ∨ ¬ (k = 1 ∨ k = 2 ∨ k = 3 ∨ k = 4 ∨ k = 5 ∨ k = 6 ∨ k = 7 ∨ k = 8 ∨ k = 9) := by omega
 rcases h with rfl | rfl | rfl | rfl | rfl | rfl | rfl | rfl | rfl | hn
 ·go_enter Tryz.func133, Tryz.ntmps133
  go_wp2
  go_ret
  exact ⟨rfl, rfl⟩
 ·go_enter Tryz.func133, Tryz.ntmps133
  go_wp2
  go_ret
  exact ⟨rfl, rfl⟩
 ·go_enter Tryz.func133, Tryz.ntmps133
  go_wp2
  go_ret
  exact ⟨rfl, rfl⟩
 ·go_enter Tryz.func133, Tryz.ntmps133
  go_wp2
  go_ret
  exact ⟨rfl, rfl⟩
 ·go_enter Tryz.func133, Tryz.ntmps133
  go_wp2
  go_ret
  exact ⟨rfl, rfl⟩
 ·go_enter Tryz.func133, Tryz.ntmps133
  go_wp2
  go_ret
  exact ⟨rfl, rfl⟩
 ·go_enter Tryz.func133, Tryz.ntmps133
  go_wp2
  go_ret
  exact ⟨rfl, rfl⟩
 ·go_enter Tryz.func133, Tryz.ntmps133
  go_wp2
  go_ret
  exact ⟨rfl, rfl⟩
 ·go_enter Tryz.func133, Tryz.ntmps133
  go_wp2
  go_ret
  exact ⟨rfl, rfl⟩
 ·have hE : a3r k = [62, 62] := by
   unfold a3r
   rw [if_neg (by omega), if_neg (by omega), if_neg (by omega), if_neg (by omega), if_neg (by omega), if_neg (by omega), if_neg (by omega), if_neg (by omega), if_neg (by omega)]
  rw [hE]
  have u1 : (k == 1) = false := by rw [beq_eq_false_iff_ne]; omega
  have u2 : (k == 2) = false := by rw [beq_eq_false_iff_ne]; omega
  have u3 : (k == 3) = false := by rw [beq_eq_false_iff_ne]; omega
  have u4 : (k == 4) = false := by rw [beq_eq_false_iff_ne]; omega
  have u5 : (k == 5) = false := by rw [beq_eq_false_iff_ne]; omega
  have u6 : (k == 6) = false := by rw [beq_eq_false_iff_ne]; omega
  have u7 : (k == 7) = false := by rw [beq_eq_false_iff_ne]; omega
  have u8 : (k == 8) = false := by rw [beq_eq_false_iff_ne]; omega
  have u9 : (k == 9) = false := by rw [beq_eq_false_iff_ne]; omega
  clear hn hE
  go_enter Tryz.func133, Tryz.ntmps133
  go_wp2
  go_ret
  exact ⟨rfl, rfl⟩
theorem a3M {P : Program} {ops : Array Oper} {o : Oper} {a : Act} {w : World} {K : Act → World → Prop} {Q : Exit → Act → World → Prop} {E : Prop}
  (hw : Region.wanted o (yielded ops a.tmps) = true) (t : TypeId) (n : Nat) (ps : Array (Nat × Operand)) (ho : o.op = .buildSlice t n ps) (qs : Array (Nat × Value)) (hq : ps.map (fun (i, x) => (i, a.eval x)) = qs) (cs : List Value) (e : TypeId)
  (hr : ∀ W : World, (Instr.buildSlice t n qs).run P W = .ok (.slice (some ⟨W.heap.size, 0, none⟩) n n) (W.alloc (.cells cs.toArray e)))
  (hK : ∀ ad w', CV w' (some ad) cs → w.grownBy w' none → K (a.put o.dst (.slice (some ad) n n)) w') :
  if Region.wanted o (yielded ops a.tmps) = true then Oper.wp P o a w K Q else E := by
 rw [if_pos hw]
 unfold Oper.wp execOp
 have hr' := hr w
 rw [← hq] at hr'
 simp only [ho, Sem.run_bind, Sem.run_pure, Result.andThen_ok, hr']
 exact hK _ _ (o4 w e cs) (World.grownBy_alloc _ _ _)
theorem a69 {k : Int} (h : 1 ≤ k ∧ k ≤ 13) : t7 k ≠ [] := by
 have key : ∀ j : Fin 14, 1 ≤ j.val → t7 (j.val : Int) ≠ [] := by decide
 have := key ⟨k.toNat, by omega⟩ (by show 1 ≤ k.toNat; omega)
 rw [show ((⟨k.toNat, by omega⟩ : Fin 14).val : Int) = k from Int.toNat_of_nonneg (by omega)] at this
 exact this
theorem a6C (k : Int) : a0P k = if P6 k = [] then [] else P6 k ++ [32] := by
 unfold a0P P6
 by_cases h1 : k = 1
 ·rw [if_pos h1, if_pos h1]; rfl
 ·rw [if_neg h1, if_neg h1]
  by_cases h2 : k = 2
  ·rw [if_pos h2, if_pos h2]; rfl
  ·rw [if_neg h2, if_neg h2]; rfl
theorem aT0 (k : Int) : (P6 k).length ≤ 3 := by
 unfold P6
 repeat' split
 all_goals decide
theorem a56 (x : List UInt8) : wv [] x = x := by
 unfold wv
 split
 ·rename_i h; exact h.symm
 ·rfl
theorem a2I {a x : List UInt8} (ha : a ≠ []) (hx : x ≠ []) : wv a x = a ++ 32 :: x := by
 unfold wv
 rw [if_neg hx, if_neg ha]
theorem b0B (a : List UInt8) : wv a [] = a := by unfold wv; rw [if_pos rfl]
theorem ad8 (a b c : List UInt8) : M2 [a, b, c] = wv (wv a b) c := by
 show wv (wv (wv [] a) b) c = _
 rw [a56]
theorem a52 {a b c : List UInt8} (hb : b ≠ []) (hc : c ≠ []) : M2 [a, b, c] = (if a = [] then [] else a ++ [32]) ++ b ++ [32] ++ c := by
 rw [ad8]
 by_cases ha : a = []
 ·rw [ha, a56, a2I hb hc, if_pos rfl]; simp
 ·rw [a2I ha hb, a2I (by simp) hc, if_neg ha]; simp
theorem b0u {a b c : List UInt8} (hc : c ≠ []) : M2 [a, b, c] = (if a = [] then [] else a ++ [32]) ++ (if b = [] then [] else b ++ [32]) ++ c := by
 rw [ad8]
 by_cases ha : a = []
 ·rw [ha, a56, if_pos rfl]
  by_cases hb : b = []
  ·rw [hb, a56, if_pos rfl]; simp
  ·rw [a2I hb hc, if_neg hb]; simp
 ·rw [if_neg ha]
  by_cases hb : b = []
  ·rw [hb, b0B, a2I ha hc, if_pos rfl]; simp
  ·rw [a2I ha hb, a2I (by simp) hc, if_neg hb]; simp
theorem aN0 (n m : Nat) : W6 n m ≠ [] := by
 unfold W6
 split <;> simp
theorem af6 (x : Ng) (h : (k8 x).length = 16) : I0 x ≠ [] := by
 unfold I0
 split
 ·have := a0l (aa6 (gs := d8 (k8 x)) (a3I 8 _ h))
  exact this.1
 ·have := a0l (ac2 (a := (k8 x).take 4) (by rw [List.length_take, h]; rfl))
  exact this.1
theorem a3E (a b c : ByteArray) (W : World) : (Instr.buildSlice 82 3 #[(0, .string a), (1, .string b), (2, .string c)]).run Tryz.prog W = .ok (.slice (some ⟨W.heap.size, 0, none⟩) 3 3) (W.alloc (.cells [Value.string a, Value.string b, Value.string c].toArray 9)) := by kernel_rfl
theorem aS1 (x : Ng) (w : World) (T : j2 w) (ha : arG x.kind = some 0) (hf : U9 x = true) (hr : m4 x = 0) (hn : x.n ≤ 4294967295) (hm : x.m ≤ 4294967295) :
  Calls Tryz.prog 103 #[.agg x.cells.toArray] w fun e w' => e = .returned (str (x6 x)) ∧ w.grownBy w' none := by
 have HT : Hid (j2 w) := T
 clear T
 have hk : x.kind = 1 ∨ x.kind = 2 ∨ x.kind = 10 ∨ x.kind = 11 ∨ x.kind = 12 ∨ x.kind = 13 ∨ x.kind = 14 ∨ x.kind = 15 ∨ x.kind = 16 := by
  rcases a0H ha with ⟨h1, -⟩ | ⟨h1, -⟩ | ⟨-, h1⟩
  ·cases h1
  ·cases h1
  ·exact h1
 obtain ⟨g1, g2, g3, g4, g5, g6, g10, -⟩ := a4a hf hr
 have h12 : x.kind = 12 → x.of = 0 := fun hk => by
  unfold U9 at hf
  obtain ⟨hs, -⟩ := Bool.and_eq_true_iff.1 hf
  unfold a0a at hs
  simp only [Bool.and_eq_true, decide_eq_true_eq] at hs
  have := hs.1.1.1.2
  rw [this]
  unfold D0
  rw [hk]
  rfl
 have h13 : x.kind = 13 → 1 ≤ x.of ∧ x.of ≤ 13 := fun hk => by
  unfold U9 at hf
  obtain ⟨-, hm⟩ := Bool.and_eq_true_iff.1 hf
  unfold q7 at hm
  rw [hk] at hm
  have := (show inG x.of 2 3 = true from hm)
  unfold inG at this
  have := Bool.and_eq_true_iff.1 this
  have h1 := of_decide_eq_true this.1
  have h2 := of_decide_eq_true this.2
  omega
 have HBX := s8 x
 have h3 := World.grownBy_alloc w (.cells x.cells.toArray 43) none
 have V := NB.alloc w x
 have HAL : Hid ((k8 x).length = 16) := a06 x
 obtain ⟨X, hX⟩ : ∃ X, x.cells.toArray = X := ⟨_, rfl⟩
 have HZ : Hid ((Tryz.prog.info? 43).map (·.size) = some X.size) := by rw [← hX]; exact E8 x
 have HXX : Hid (x.cells.toArray = X) := hX
 rw [hX] at HBX ⊢
 go_enter Tryz.func103, Tryz.ntmps103
 go_upto_region 1 with fail
 rw [← hX] at HBX ⊢
 rw [← hX] at hX
 have HNB : Hid (NB (w.alloc (.cells x.cells.toArray 43)) w.heap.size x ∧ w.grownBy (w.alloc (.cells x.cells.toArray 43)) none) := ⟨V, h3⟩
 generalize w.alloc (.cells x.cells.toArray 43) = w1 at *
 generalize w.heap.size = B at *
 have HV : Hid (∀ W, w1.grownBy W none → VAt W B 43 X) := fun W G => by rw [← HXX.out]; exact HNB.out.1.kept G
 have HC : Hid (∀ W, w1.grownBy W none → W.cell? ⟨B, 2, none⟩ = some (.int .u32 (x.n : Int)) ∧ W.cell? ⟨B, 3, none⟩ = some (.int .u32 (x.m : Int)) ∧ W.cell? ⟨B, 5, none⟩ = some (.int .i64 x.of) ∧ W.cell? ⟨B, 6, none⟩ = some (.int .i64 x.side) ∧ W.cell? ⟨B, 23, none⟩ = some (.int .i64 x.bits)) := fun W G => by
  have N := HNB.out.1.kept G
  exact ⟨N.n, N.m, N.of, N.side, N.bits⟩
 have HG1 : Hid (w.grownBy w1 none) := HNB.out.2
 have HT1 : Hid (∀ W, w1.grownBy W none → j2 W) := fun W G => HT.out.grown (d3 HG1.out G)
 have HDEC : Hid (∀ W : World, w1.grownBy W none → Calls Tryz.prog 134 #[.int .u32 (x.n : Int)] W fun e w' => e = .returned (str (dec x.n)) ∧ W.grownBy w' none) := fun W G => a4J x.n hn W (HT1.out W G)
 have HADR : Hid (∀ W : World, w1.grownBy W none → Calls Tryz.prog 138 #[.agg X] W fun e w' => e = .returned (str (I0 x)) ∧ W.grownBy w' none) := fun W G => by rw [← HXX.out]; exact aR8 x W (HT1.out W G)
 have HPRT : Hid (∀ W : World, w1.grownBy W none → Calls Tryz.prog 139 #[.int .u32 (x.n : Int), .int .u32 (x.m : Int)] W fun e w' => e = .returned (str (W6 x.n x.m)) ∧ W.grownBy w' none) := fun W G => aS8 x.n x.m hn hm W (HT1.out W G)
 have HITO : Hid (∀ W : World, w1.grownBy W none → Calls Tryz.prog 130 #[.int .i64 x.bits] W fun e w' => e = .returned (str (dec x.bits.toNat)) ∧ W.grownBy w' none) := fun W G => by
  have := a8A x.bits.toNat (by omega) W (HT1.out W G)
  rw [show ((x.bits.toNat : Nat) : Int) = x.bits by omega] at this
  exact this
 have HWD : Hid (∀ (a b c : List UInt8), a.length ≤ 2000 → b.length ≤ 2000 → c.length ≤ 2000 → ∀ (ad : Addr) (W : World), CV W (some ad) [str a, str b, str c] → Calls Tryz.prog 136 #[.slice (some ad) 3 3] W fun e w' => e = .returned (str (M2 [a, b, c])) ∧ W.grownBy w' none) := fun a b c h1 h2 h3 ad W C => a6V (some ad) 3 [a, b, c] W C (by simp) (fun y hy => by
  simp only [List.mem_cons, List.not_mem_nil, or_false] at hy
  rcases hy with rfl | rfl | rfl <;> omega)
 have hnl := S7 x.n
 have hbl := S7 x.bits.toNat
 have hal := a7d x
 have hol := a2V x.of
 have hsl := aT0 x.side
 have hpl := aM9 x.n x.m
 have HLEN : Hid ((dec x.n).length ≤ 20 ∧ (dec x.bits.toNat).length ≤ 20 ∧ (I0 x).length ≤ 1000 ∧ (t7 x.of).length ≤ 5 ∧ (P6 x.side).length ≤ 3 ∧ (W6 x.n x.m).length ≤ 60) := ⟨hnl, hbl, hal, hol, hsl, hpl⟩
 have c0 := HNB.out.1.kind
 obtain ⟨kk, hkk⟩ : ∃ kk, x.kind = kk := ⟨_, rfl⟩
 have HK : Hid (x.kind = kk) := hkk
 rw [hkk] at c0 hk h12 h13 g10
 have HF : Hid ((1 : Int) ≤ x.side → x.side ≤ 2 → True) := fun _ _ => trivial
 have HOF : Hid ((kk = 12 → x.of = 0) ∧ (kk = 13 → 1 ≤ x.of ∧ x.of ≤ 13) ∧ 0 ≤ x.of ∧ x.of ≤ 13 ∧ x.n ≤ 4294967295 ∧ x.bits.toNat ≤ 128 ∧ 0 ≤ x.side ∧ x.side ≤ 2 ∧ (kk = 10 → x.side ≠ 0)) := ⟨h12, h13, g3, g4, hn, by omega, g1, g2, g10⟩
 clear hnl hbl hal hol hsl hpl hX h3 V HBX hkk h12 h13 g1 g2 g3 g4 g5 g6 g10 hf hr ha hn hm HF
 rcases hk with rfl | rfl | rfl | rfl | rfl | rfl | rfl | rfl | rfl
 ·skip
  have HE : Hid (x6 x = dec x.n) := by unfold Hid x6; rw [HK.out]; rfl
  have c2 := (HC.out w1 (World.grownBy.refl _ _)).1
  go_wp2_with fail
  refine (HDEC.out w1 (World.grownBy.refl _ _)).mono ?_
  rintro e w3 ⟨rfl, K3⟩
  go_wp2
  go_ret
  exact ⟨by rw [HE.out]; rfl, d3 HG1.out K3⟩
 ·skip
  have HE : Hid (x6 x = [108, 101, 110]) := by unfold Hid x6; rw [HK.out]; rfl
  go_wp2
  go_ret
  exact ⟨by rw [HE.out]; rfl, HG1.out⟩
 ·skip
  have HE : Hid (x6 x = a3T x.side) := by unfold Hid x6 a3T; rw [HK.out]; rfl
  have c6 := (HC.out w1 (World.grownBy.refl _ _)).2.2.2.1
  go_wp2_with fail
  refine (b0i x.side w1).mono ?_
  rintro e w3 ⟨rfl, rfl⟩
  go_wp2
  go_ret
  exact ⟨by rw [HE.out]; rfl, HG1.out⟩
 ·skip
  have HE : Hid (x6 x = t7 x.of) := by unfold Hid x6; rw [HK.out]; rfl
  have c5 := (HC.out w1 (World.grownBy.refl _ _)).2.2.1
  go_wp2_with fail
  refine (a3J x.of w1).mono ?_
  rintro e w3 ⟨rfl, rfl⟩
  go_wp2
  go_ret
  exact ⟨by rw [HE.out]; rfl, HG1.out⟩
 ·skip
  have HE : Hid (x6 x = M2 [t7 x.of, [112, 114, 111, 116, 111], dec x.n]) := by
   show x6 x = _
   rw [a52 (by simp) (a5t x.n HOF.out.2.2.2.2.1), HOF.out.1 rfl]
   unfold x6
   rw [HK.out]
   rfl
  go_upto_region 12 with fail
  refine wp_region_held_drew (S := fun W' => w1.grownBy W' none) (by kernel_rfl) (f9 w1 1 none) (fun hHeld => ?_)
  generalize w1.drew = wd at *
  refine wpT (i := 0) (v := .pointer (some ⟨B, 5, none⟩)) rfl (Or.inl ⟨by rfl, fun W hW => ?_⟩) hHeld ?_
  ·clear hW
   go_simp
  try simp only [Act.put, a0, a1, a3, a4, a5]
  refine wpT (i := 1) (v := .int .i64 x.of) rfl (Or.inl ⟨by rfl, fun W hW => ?_⟩) hHeld ?_
  ·have c1 := (HC.out W hW).2.2.1
   clear hW
   go_simp
  try simp only [Act.put, a0, a1, a2, a3, a4, a5]
  refine wpT (i := 3) (v := .pointer (some ⟨B, 2, none⟩)) rfl (Or.inl ⟨by rfl, fun W hW => ?_⟩) hHeld ?_
  ·clear hW
   go_simp
  try simp only [Act.put, a0, a1, a2, a3, a4, a5]
  refine wpT (i := 4) (v := .int .u32 (x.n : Int)) rfl (Or.inl ⟨by rfl, fun W hW => ?_⟩) hHeld ?_
  ·have c1 := (HC.out W hW).1
   clear hW
   go_simp
  try simp only [Act.put, a0, a1, a2, a3, a4, a5]
  refine wpR (rs := [2]) (AllReadyH.cons rfl (fun K hK => ?_) AllReadyH.nil)
  go_simp
  refine (a3J x.of _).mono ?_
  rintro e _ ⟨rfl, rfl⟩
  go_wp2_with fail
  refine hK.out _ _ hHeld (fun hHeld => ?_)
  clear hK K
  try simp only [Act.put, a0, a1, a2, a3, a4, a5]
  refine wpR (rs := [5]) (AllReadyH.cons rfl (fun K hK => ?_) AllReadyH.nil)
  go_simp
  refine (HDEC.out _ hHeld).mono ?_
  rintro e wk ⟨rfl, Kk⟩
  go_wp2_with fail
  refine hK.out _ _ (d3 hHeld Kk) (fun hHeld => ?_)
  clear hK K Kk
  try simp only [Act.put, a0, a1, a2, a3, a4, a5]
  refine wpR (rs := [6]) (AllReadyH.cons rfl (fun K hK => ?_) AllReadyH.nil)
  refine a3M (by rfl) 82 3 _ (by rfl) _ (by kernel_rfl) [str (t7 x.of), str ([112, 114, 111, 116, 111]), str (dec x.n)] 9 (a3E _ _ _) ?_
  intro ad wl CL KL
  refine hK.out _ _ (d3 hHeld KL) (fun hHeld => ?_)
  clear hK K KL
  try simp only [Act.put, a0, a1, a2, a3, a4, a5]
  refine wpR (rs := [7]) (AllReadyH.cons rfl (fun K hK => ?_) AllReadyH.nil)
  go_simp
  refine (HWD.out (t7 x.of) ([112, 114, 111, 116, 111]) (dec x.n) (by have := HLEN.out; first | omega | simp) (by have := HLEN.out; first | omega | simp) (by have := HLEN.out; first | omega | (simp only [List.length_append, List.length_cons, List.length_nil]; omega)) _ _ CL).mono ?_
  rintro e wk ⟨rfl, Kk⟩
  go_wp2_with fail
  refine hK.out _ _ (d3 hHeld Kk) (fun hHeld => ?_)
  clear hK K Kk CL
  try simp only [Act.put, a0, a1, a2, a3, a4, a5]
  refine wpT (i := 8) (v := str (M2 [t7 x.of, [112, 114, 111, 116, 111], dec x.n])) rfl (Or.inl ⟨by rfl, fun W hW => ?_⟩) hHeld ?_
  ·clear hW
   go_simp
  try simp only [Act.put, a0, a1, a2, a3, a4, a5]
  refine wpAnyH_done (by kernel_rfl) ?_ _
  have HGF := hHeld
  clear hHeld
  go_wp2
  go_ret
  exact ⟨by rw [HE.out]; rfl, d3 HG1.out HGF⟩
 ·skip
  have HE : Hid (x6 x = M2 [t7 x.of, [112, 114, 111, 116, 111], dec x.n]) := by
   show x6 x = _
   rw [a52 (by simp) (a5t x.n HOF.out.2.2.2.2.1), if_neg (a69 (HOF.out.2.1 rfl))]
   unfold x6
   rw [HK.out]
   show t7 x.of ++ [32, 112, 114, 111, 116, 111, 32] ++ dec x.n = _
   simp
  go_upto_region 12 with fail
  refine wp_region_held_drew (S := fun W' => w1.grownBy W' none) (by kernel_rfl) (f9 w1 1 none) (fun hHeld => ?_)
  generalize w1.drew = wd at *
  refine wpT (i := 0) (v := .pointer (some ⟨B, 5, none⟩)) rfl (Or.inl ⟨by rfl, fun W hW => ?_⟩) hHeld ?_
  ·clear hW
   go_simp
  try simp only [Act.put, a0, a1, a3, a4, a5]
  refine wpT (i := 1) (v := .int .i64 x.of) rfl (Or.inl ⟨by rfl, fun W hW => ?_⟩) hHeld ?_
  ·have c1 := (HC.out W hW).2.2.1
   clear hW
   go_simp
  try simp only [Act.put, a0, a1, a2, a3, a4, a5]
  refine wpT (i := 3) (v := .pointer (some ⟨B, 2, none⟩)) rfl (Or.inl ⟨by rfl, fun W hW => ?_⟩) hHeld ?_
  ·clear hW
   go_simp
  try simp only [Act.put, a0, a1, a2, a3, a4, a5]
  refine wpT (i := 4) (v := .int .u32 (x.n : Int)) rfl (Or.inl ⟨by rfl, fun W hW => ?_⟩) hHeld ?_
  ·have c1 := (HC.out W hW).1
   clear hW
   go_simp
  try simp only [Act.put, a0, a1, a2, a3, a4, a5]
  refine wpR (rs := [2]) (AllReadyH.cons rfl (fun K hK => ?_) AllReadyH.nil)
  go_simp
  refine (a3J x.of _).mono ?_
  rintro e _ ⟨rfl, rfl⟩
  go_wp2_with fail
  refine hK.out _ _ hHeld (fun hHeld => ?_)
  clear hK K
  try simp only [Act.put, a0, a1, a2, a3, a4, a5]
  refine wpR (rs := [5]) (AllReadyH.cons rfl (fun K hK => ?_) AllReadyH.nil)
  go_simp
  refine (HDEC.out _ hHeld).mono ?_
  rintro e wk ⟨rfl, Kk⟩
  go_wp2_with fail
  refine hK.out _ _ (d3 hHeld Kk) (fun hHeld => ?_)
  clear hK K Kk
  try simp only [Act.put, a0, a1, a2, a3, a4, a5]
  refine wpR (rs := [6]) (AllReadyH.cons rfl (fun K hK => ?_) AllReadyH.nil)
  refine a3M (by rfl) 82 3 _ (by rfl) _ (by kernel_rfl) [str (t7 x.of), str ([112, 114, 111, 116, 111]), str (dec x.n)] 9 (a3E _ _ _) ?_
  intro ad wl CL KL
  refine hK.out _ _ (d3 hHeld KL) (fun hHeld => ?_)
  clear hK K KL
  try simp only [Act.put, a0, a1, a2, a3, a4, a5]
  refine wpR (rs := [7]) (AllReadyH.cons rfl (fun K hK => ?_) AllReadyH.nil)
  go_simp
  refine (HWD.out (t7 x.of) ([112, 114, 111, 116, 111]) (dec x.n) (by have := HLEN.out; first | omega | simp) (by have := HLEN.out; first | omega | simp) (by have := HLEN.out; first | omega | (simp only [List.length_append, List.length_cons, List.length_nil]; omega)) _ _ CL).mono ?_
  rintro e wk ⟨rfl, Kk⟩
  go_wp2_with fail
  refine hK.out _ _ (d3 hHeld Kk) (fun hHeld => ?_)
  clear hK K Kk CL
  try simp only [Act.put, a0, a1, a2, a3, a4, a5]
  refine wpT (i := 8) (v := str (M2 [t7 x.of, [112, 114, 111, 116, 111], dec x.n])) rfl (Or.inl ⟨by rfl, fun W hW => ?_⟩) hHeld ?_
  ·clear hW
   go_simp
  try simp only [Act.put, a0, a1, a2, a3, a4, a5]
  refine wpAnyH_done (by kernel_rfl) ?_ _
  have HGF := hHeld
  clear hHeld
  go_wp2
  go_ret
  exact ⟨by rw [HE.out]; rfl, d3 HG1.out HGF⟩
 ·skip
  have HE : Hid (x6 x = M2 [P6 x.side, [104, 111, 115, 116], I0 x]) := by
   show x6 x = _
   rw [a52 (by simp) (af6 x HAL.out)]
   unfold x6
   rw [HK.out]
   show a0P x.side ++ [104, 111, 115, 116, 32] ++ I0 x = _
   rw [a6C]
   simp
  go_upto_region 14 with fail
  refine wp_region_held_drew (S := fun W' => w1.grownBy W' none) (by kernel_rfl) (f9 w1 1 none) (fun hHeld => ?_)
  generalize w1.drew = wd at *
  refine wpT (i := 0) (v := .pointer (some ⟨B, 6, none⟩)) rfl (Or.inl ⟨by rfl, fun W hW => ?_⟩) hHeld ?_
  ·clear hW
   go_simp
  try simp only [Act.put, a0, a1, a3, a4, a5]
  refine wpT (i := 1) (v := .int .i64 x.side) rfl (Or.inl ⟨by rfl, fun W hW => ?_⟩) hHeld ?_
  ·have c1 := (HC.out W hW).2.2.2.1
   clear hW
   go_simp
  try simp only [Act.put, a0, a1, a2, a3, a4, a5]
  refine wpT (i := 3) (v := .agg (X)) rfl (J3 (by rfl) _ _ rfl B rfl 43 (X) _ (fun W hW => HV.out W hW) Tryz.underlying43 rfl HZ.out) hHeld ?_
  try simp only [Act.put, a0, a1, a2, a3, a4, a5]
  refine wpR (rs := [2]) (AllReadyH.cons rfl (fun K hK => ?_) AllReadyH.nil)
  go_simp
  refine (a6z x.side _).mono ?_
  rintro e _ ⟨rfl, rfl⟩
  go_wp2_with fail
  refine hK.out _ _ hHeld (fun hHeld => ?_)
  clear hK K
  try simp only [Act.put, a0, a1, a2, a3, a4, a5]
  refine wpR (rs := [4]) (AllReadyH.cons rfl (fun K hK => ?_) AllReadyH.nil)
  go_simp
  refine (HADR.out _ hHeld).mono ?_
  rintro e wk ⟨rfl, Kk⟩
  go_wp2_with fail
  refine hK.out _ _ (d3 hHeld Kk) (fun hHeld => ?_)
  clear hK K Kk
  try simp only [Act.put, a0, a1, a2, a3, a4, a5]
  refine wpR (rs := [5]) (AllReadyH.cons rfl (fun K hK => ?_) AllReadyH.nil)
  refine a3M (by rfl) 82 3 _ (by rfl) _ (by kernel_rfl) [str (P6 x.side), str ([104, 111, 115, 116]), str (I0 x)] 9 (a3E _ _ _) ?_
  intro ad wl CL KL
  refine hK.out _ _ (d3 hHeld KL) (fun hHeld => ?_)
  clear hK K KL
  try simp only [Act.put, a0, a1, a2, a3, a4, a5]
  refine wpR (rs := [6]) (AllReadyH.cons rfl (fun K hK => ?_) AllReadyH.nil)
  go_simp
  refine (HWD.out (P6 x.side) ([104, 111, 115, 116]) (I0 x) (by have := HLEN.out; first | omega | simp) (by have := HLEN.out; first | omega | simp) (by have := HLEN.out; first | omega | (simp only [List.length_append, List.length_cons, List.length_nil]; omega)) _ _ CL).mono ?_
  rintro e wk ⟨rfl, Kk⟩
  go_wp2_with fail
  refine hK.out _ _ (d3 hHeld Kk) (fun hHeld => ?_)
  clear hK K Kk CL
  try simp only [Act.put, a0, a1, a2, a3, a4, a5]
  refine wpT (i := 7) (v := str (M2 [P6 x.side, [104, 111, 115, 116], I0 x])) rfl (Or.inl ⟨by rfl, fun W hW => ?_⟩) hHeld ?_
  ·clear hW
   go_simp
  try simp only [Act.put, a0, a1, a2, a3, a4, a5]
  refine wpAnyH_done (by kernel_rfl) ?_ _
  have HGF := hHeld
  clear hHeld
  go_wp2
  go_ret
  exact ⟨by rw [HE.out]; rfl, d3 HG1.out HGF⟩
 ·skip
  have HE : Hid (x6 x = M2 [P6 x.side, [110, 101, 116], I0 x ++ [47] ++ dec x.bits.toNat]) := by
   show x6 x = _
   rw [a52 (by simp) (by simp)]
   unfold x6
   rw [HK.out]
   show a0P x.side ++ [110, 101, 116, 32] ++ I0 x ++ [47] ++ dec x.bits.toNat = _
   rw [a6C]
   simp
  go_upto_region 16 with fail
  refine wp_region_held_drew (S := fun W' => w1.grownBy W' none) (by kernel_rfl) (f9 w1 1 none) (fun hHeld => ?_)
  generalize w1.drew = wd at *
  refine wpT (i := 0) (v := .pointer (some ⟨B, 6, none⟩)) rfl (Or.inl ⟨by rfl, fun W hW => ?_⟩) hHeld ?_
  ·clear hW
   go_simp
  try simp only [Act.put, a0, a1, a3, a4, a5]
  refine wpT (i := 1) (v := .int .i64 x.side) rfl (Or.inl ⟨by rfl, fun W hW => ?_⟩) hHeld ?_
  ·have c1 := (HC.out W hW).2.2.2.1
   clear hW
   go_simp
  try simp only [Act.put, a0, a1, a2, a3, a4, a5]
  refine wpT (i := 3) (v := .agg (X)) rfl (J3 (by rfl) _ _ rfl B rfl 43 (X) _ (fun W hW => HV.out W hW) Tryz.underlying43 rfl HZ.out) hHeld ?_
  try simp only [Act.put, a0, a1, a2, a3, a4, a5]
  refine wpT (i := 6) (v := .pointer (some ⟨B, 23, none⟩)) rfl (Or.inl ⟨by rfl, fun W hW => ?_⟩) hHeld ?_
  ·clear hW
   go_simp
  try simp only [Act.put, a0, a1, a2, a3, a4, a5]
  refine wpT (i := 7) (v := .int .i64 x.bits) rfl (Or.inl ⟨by rfl, fun W hW => ?_⟩) hHeld ?_
  ·have c1 := (HC.out W hW).2.2.2.2
   clear hW
   go_simp
  try simp only [Act.put, a0, a1, a2, a3, a4, a5]
  refine wpR (rs := [2]) (AllReadyH.cons rfl (fun K hK => ?_) AllReadyH.nil)
  go_simp
  refine (a6z x.side _).mono ?_
  rintro e _ ⟨rfl, rfl⟩
  go_wp2_with fail
  refine hK.out _ _ hHeld (fun hHeld => ?_)
  clear hK K
  try simp only [Act.put, a0, a1, a2, a3, a4, a5]
  refine wpR (rs := [4]) (AllReadyH.cons rfl (fun K hK => ?_) AllReadyH.nil)
  go_simp
  refine (HADR.out _ hHeld).mono ?_
  rintro e wk ⟨rfl, Kk⟩
  go_wp2_with fail
  refine hK.out _ _ (d3 hHeld Kk) (fun hHeld => ?_)
  clear hK K Kk
  try simp only [Act.put, a0, a1, a2, a3, a4, a5]
  refine wpT (i := 5) (v := str (I0 x ++ [47])) rfl (Or.inl ⟨by rfl, fun W hW => ?_⟩) hHeld ?_
  ·clear hW
   go_simp
   have hq := HLEN.out
   rw [if_neg (by omega), show (⟨#[47]⟩ : ByteArray) = ⟨([47] : List UInt8).toArray⟩ from rfl, a6J]
  try simp only [Act.put, a0, a1, a2, a3, a4, a5]
  refine wpR (rs := [8]) (AllReadyH.cons rfl (fun K hK => ?_) AllReadyH.nil)
  go_simp
  refine (HITO.out _ hHeld).mono ?_
  rintro e wk ⟨rfl, Kk⟩
  go_wp2_with fail
  refine hK.out _ _ (d3 hHeld Kk) (fun hHeld => ?_)
  clear hK K Kk
  try simp only [Act.put, a0, a1, a2, a3, a4, a5]
  refine wpT (i := 9) (v := str (I0 x ++ [47] ++ dec x.bits.toNat)) rfl (Or.inl ⟨by rfl, fun W hW => ?_⟩) hHeld ?_
  ·clear hW
   go_simp
   have hq := HLEN.out
   (rw [if_neg (by omega), a6J, List.append_assoc]; rfl)
  try simp only [Act.put, a0, a1, a2, a3, a4, a5]
  refine wpR (rs := [10]) (AllReadyH.cons rfl (fun K hK => ?_) AllReadyH.nil)
  refine a3M (by rfl) 82 3 _ (by rfl) _ (by kernel_rfl) [str (P6 x.side), str ([110, 101, 116]), str (I0 x ++ [47] ++ dec x.bits.toNat)] 9 (a3E _ _ _) ?_
  intro ad wl CL KL
  refine hK.out _ _ (d3 hHeld KL) (fun hHeld => ?_)
  clear hK K KL
  try simp only [Act.put, a0, a1, a2, a3, a4, a5]
  refine wpR (rs := [11]) (AllReadyH.cons rfl (fun K hK => ?_) AllReadyH.nil)
  go_simp
  refine (HWD.out (P6 x.side) ([110, 101, 116]) (I0 x ++ [47] ++ dec x.bits.toNat) (by have := HLEN.out; first | omega | simp) (by have := HLEN.out; first | omega | simp) (by have := HLEN.out; first | omega | (simp only [List.length_append, List.length_cons, List.length_nil]; omega)) _ _ CL).mono ?_
  rintro e wk ⟨rfl, Kk⟩
  go_wp2_with fail
  refine hK.out _ _ (d3 hHeld Kk) (fun hHeld => ?_)
  clear hK K Kk CL
  try simp only [Act.put, a0, a1, a2, a3, a4, a5]
  refine wpT (i := 12) (v := str (M2 [P6 x.side, [110, 101, 116], I0 x ++ [47] ++ dec x.bits.toNat])) rfl (Or.inl ⟨by rfl, fun W hW => ?_⟩) hHeld ?_
  ·clear hW
   go_simp
  try simp only [Act.put, a0, a1, a2, a3, a4, a5]
  refine wpAnyH_done (by kernel_rfl) ?_ _
  have HGF := hHeld
  clear hHeld
  go_wp2
  go_ret
  exact ⟨by rw [HE.out]; rfl, d3 HG1.out HGF⟩
 ·skip
  have HE : Hid (x6 x = M2 [t7 x.of, P6 x.side, W6 x.n x.m]) := by
   show x6 x = _
   rw [b0u (aN0 _ _)]
   unfold x6
   rw [HK.out]
   show (if x.of = 0 then [] else t7 x.of ++ [32]) ++ a0P x.side ++ (if x.n = x.m then _ else _) = _
   rw [a6C]
   congr 2
   by_cases h0 : x.of = 0
   ·rw [if_pos h0, h0]; rfl
   ·have := HOF.out
    rw [if_neg h0, if_neg (a69 ⟨by omega, by omega⟩)]
  go_upto_region 17 with fail
  refine wp_region_held_drew (S := fun W' => w1.grownBy W' none) (by kernel_rfl) (f9 w1 1 none) (fun hHeld => ?_)
  generalize w1.drew = wd at *
  refine wpT (i := 0) (v := .pointer (some ⟨B, 5, none⟩)) rfl (Or.inl ⟨by rfl, fun W hW => ?_⟩) hHeld ?_
  ·clear hW
   go_simp
  try simp only [Act.put, a0, a1, a3, a4, a5]
  refine wpT (i := 1) (v := .int .i64 x.of) rfl (Or.inl ⟨by rfl, fun W hW => ?_⟩) hHeld ?_
  ·have c1 := (HC.out W hW).2.2.1
   clear hW
   go_simp
  try simp only [Act.put, a0, a1, a2, a3, a4, a5]
  refine wpT (i := 3) (v := .pointer (some ⟨B, 6, none⟩)) rfl (Or.inl ⟨by rfl, fun W hW => ?_⟩) hHeld ?_
  ·clear hW
   go_simp
  try simp only [Act.put, a0, a1, a2, a3, a4, a5]
  refine wpT (i := 4) (v := .int .i64 x.side) rfl (Or.inl ⟨by rfl, fun W hW => ?_⟩) hHeld ?_
  ·have c1 := (HC.out W hW).2.2.2.1
   clear hW
   go_simp
  try simp only [Act.put, a0, a1, a2, a3, a4, a5]
  refine wpT (i := 6) (v := .pointer (some ⟨B, 2, none⟩)) rfl (Or.inl ⟨by rfl, fun W hW => ?_⟩) hHeld ?_
  ·clear hW
   go_simp
  try simp only [Act.put, a0, a1, a2, a3, a4, a5]
  refine wpT (i := 7) (v := .int .u32 (x.n : Int)) rfl (Or.inl ⟨by rfl, fun W hW => ?_⟩) hHeld ?_
  ·have c1 := (HC.out W hW).1
   clear hW
   go_simp
  try simp only [Act.put, a0, a1, a2, a3, a4, a5]
  refine wpT (i := 8) (v := .pointer (some ⟨B, 3, none⟩)) rfl (Or.inl ⟨by rfl, fun W hW => ?_⟩) hHeld ?_
  ·clear hW
   go_simp
  try simp only [Act.put, a0, a1, a2, a3, a4, a5]
  refine wpT (i := 9) (v := .int .u32 (x.m : Int)) rfl (Or.inl ⟨by rfl, fun W hW => ?_⟩) hHeld ?_
  ·have c1 := (HC.out W hW).2.1
   clear hW
   go_simp
  try simp only [Act.put, a0, a1, a2, a3, a4, a5]
  refine wpR (rs := [2]) (AllReadyH.cons rfl (fun K hK => ?_) AllReadyH.nil)
  go_simp
  refine (a3J x.of _).mono ?_
  rintro e _ ⟨rfl, rfl⟩
  go_wp2_with fail
  refine hK.out _ _ hHeld (fun hHeld => ?_)
  clear hK K
  try simp only [Act.put, a0, a1, a2, a3, a4, a5]
  refine wpR (rs := [5]) (AllReadyH.cons rfl (fun K hK => ?_) AllReadyH.nil)
  go_simp
  refine (a6z x.side _).mono ?_
  rintro e _ ⟨rfl, rfl⟩
  go_wp2_with fail
  refine hK.out _ _ hHeld (fun hHeld => ?_)
  clear hK K
  try simp only [Act.put, a0, a1, a2, a3, a4, a5]
  refine wpR (rs := [10]) (AllReadyH.cons rfl (fun K hK => ?_) AllReadyH.nil)
  go_simp
  refine (HPRT.out _ hHeld).mono ?_
  rintro e wk ⟨rfl, Kk⟩
  go_wp2_with fail
  refine hK.out _ _ (d3 hHeld Kk) (fun hHeld => ?_)
  clear hK K Kk
  try simp only [Act.put, a0, a1, a2, a3, a4, a5]
  refine wpR (rs := [11]) (AllReadyH.cons rfl (fun K hK => ?_) AllReadyH.nil)
  refine a3M (by rfl) 82 3 _ (by rfl) _ (by kernel_rfl) [str (t7 x.of), str (P6 x.side), str (W6 x.n x.m)] 9 (a3E _ _ _) ?_
  intro ad wl CL KL
  refine hK.out _ _ (d3 hHeld KL) (fun hHeld => ?_)
  clear hK K KL
  try simp only [Act.put, a0, a1, a2, a3, a4, a5]
  refine wpR (rs := [12]) (AllReadyH.cons rfl (fun K hK => ?_) AllReadyH.nil)
  go_simp
  refine (HWD.out (t7 x.of) (P6 x.side) (W6 x.n x.m) (by have := HLEN.out; first | omega | simp) (by have := HLEN.out; first | omega | simp) (by have := HLEN.out; first | omega | (simp only [List.length_append, List.length_cons, List.length_nil]; omega)) _ _ CL).mono ?_
  rintro e wk ⟨rfl, Kk⟩
  go_wp2_with fail
  refine hK.out _ _ (d3 hHeld Kk) (fun hHeld => ?_)
  clear hK K Kk CL
  try simp only [Act.put, a0, a1, a2, a3, a4, a5]
  refine wpT (i := 13) (v := str (M2 [t7 x.of, P6 x.side, W6 x.n x.m])) rfl (Or.inl ⟨by rfl, fun W hW => ?_⟩) hHeld ?_
  ·clear hW
   go_simp
  try simp only [Act.put, a0, a1, a2, a3, a4, a5]
  refine wpAnyH_done (by kernel_rfl) ?_ _
  have HGF := hHeld
  clear hHeld
  go_wp2
  go_ret
  exact ⟨by rw [HE.out]; rfl, d3 HG1.out HGF⟩
theorem a3c (x : Ng) (w : World) : Calls Tryz.prog 98 #[.agg x.cells.toArray] w fun e w' => e = .returned (.int .i64 (d5 x)) ∧ w.grownBy w' none := by
 have HBX := s8 x
 have h3 := World.grownBy_alloc w (.cells x.cells.toArray 43) none
 have V := NB.alloc w x
 obtain ⟨E, hE⟩ : ∃ E, d5 x = E := ⟨_, rfl⟩
 rw [hE]
 have HE : Hid (d5 x = E) := hE
 obtain ⟨X, hX⟩ : ∃ X, x.cells.toArray = X := ⟨_, rfl⟩
 rw [hX] at HBX ⊢
 clear hE
 go_enter Tryz.func98, Tryz.ntmps98
 go_upto_region 1 with fail
 rw [← hX] at *
 generalize w.alloc (.cells x.cells.toArray 43) = w1 at *
 generalize w.heap.size = B at *
 have c0 := V.kind
 have c1 := V.op
 obtain ⟨kk, hkk⟩ : ∃ kk, x.kind = kk := ⟨_, rfl⟩
 have HK : Hid (x.kind = kk) := hkk
 rw [hkk] at c0
 clear HBX hX X V hkk
 have hc : kk = 8 ∨ kk = 7 ∨ kk = 9 ∨ kk = 6 ∨ kk = 5 ∨ kk = 4 ∨ ¬ (4 ≤ kk ∧ kk ≤ 9) := by omega
 rcases hc with rfl | rfl | rfl | rfl | rfl | rfl | hn
 ·obtain rfl : E = 1 := by rw [← HE.out]; unfold d5; rw [HK.out]; rfl
  go_wp2
  go_ret
  exact ⟨rfl, h3⟩
 ·obtain rfl : E = 2 := by rw [← HE.out]; unfold d5; rw [HK.out]; rfl
  go_wp2
  go_ret
  exact ⟨rfl, h3⟩
 ·obtain rfl : E = 3 := by rw [← HE.out]; unfold d5; rw [HK.out]; rfl
  go_wp2
  go_ret
  exact ⟨rfl, h3⟩
 ·obtain rfl : E = 4 := by rw [← HE.out]; unfold d5; rw [HK.out]; rfl
  go_wp2
  go_ret
  exact ⟨rfl, h3⟩
 ·obtain rfl : E = 11 := by rw [← HE.out]; unfold d5; rw [HK.out]; rfl
  go_wp2
  go_ret
  exact ⟨rfl, h3⟩
 ·have CA := aP8 x.op
  obtain rfl : E = a3b x.op := by rw [← HE.out]; exact aQ1 HK.out
  go_wp2_with fail
  refine (CA _).mono ?_
  rintro e w2 ⟨rfl, rfl⟩
  go_wp2
  go_ret
  exact ⟨rfl, h3⟩
 ·obtain rfl : E = 12 := by
   rw [← HE.out]
   unfold d5
   rw [HK.out]
   rw [if_neg (by omega), if_neg (by omega), if_neg (by omega), if_neg (by omega), if_neg (by omega), if_pos (by omega)]
  have u4 : (kk == 4) = false := by rw [beq_eq_false_iff_ne]; omega
  have u5 : (kk == 5) = false := by rw [beq_eq_false_iff_ne]; omega
  have u6 : (kk == 6) = false := by rw [beq_eq_false_iff_ne]; omega
  have u7 : (kk == 7) = false := by rw [beq_eq_false_iff_ne]; omega
  have u8 : (kk == 8) = false := by rw [beq_eq_false_iff_ne]; omega
  have u9 : (kk == 9) = false := by rw [beq_eq_false_iff_ne]; omega
  clear hn
  go_wp2
  go_ret
  exact ⟨rfl, h3⟩
theorem am7 {k : Int} (h : 1 ≤ k ∧ k ≤ 6) : a3u k = a2u k := by
 have : k = 1 ∨ k = 2 ∨ k = 3 ∨ k = 4 ∨ k = 5 ∨ k = 6 := by omega
 rcases this with rfl | rfl | rfl | rfl | rfl | rfl <;> rfl
theorem ag1 {k : Int} (h : 1 ≤ k ∧ k ≤ 10) : a3r k = a2n k := by
 have : k = 1 ∨ k = 2 ∨ k = 3 ∨ k = 4 ∨ k = 5 ∨ k = 6 ∨ k = 7 ∨ k = 8 ∨ k = 9 ∨ k = 10 := by omega
 rcases this with rfl | rfl | rfl | rfl | rfl | rfl | rfl | rfl | rfl | rfl <;> rfl
theorem aS9 (x : Ng) (w : World) (hx : x.kind = 7 ∨ x.kind = 8 ∨ (x.kind = 6 ∧ 1 ≤ x.op ∧ x.op ≤ 6) ∨ (x.kind = 4 ∧ 1 ≤ x.op ∧ x.op ≤ 10)) : Calls Tryz.prog 102 #[.agg x.cells.toArray] w fun e w' => e = .returned (str (U4 x)) ∧ w.grownBy w' none := by
 have HBX := s8 x
 have h3 := World.grownBy_alloc w (.cells x.cells.toArray 43) none
 have V := NB.alloc w x
 obtain ⟨E, hE⟩ : ∃ E, U4 x = E := ⟨_, rfl⟩
 rw [hE]
 have HE : Hid (U4 x = E) := hE
 obtain ⟨X, hX⟩ : ∃ X, x.cells.toArray = X := ⟨_, rfl⟩
 rw [hX] at HBX ⊢
 clear hE
 go_enter Tryz.func102, Tryz.ntmps102
 go_upto_region 1 with fail
 rw [← hX] at *
 generalize w.alloc (.cells x.cells.toArray 43) = w1 at *
 generalize w.heap.size = B at *
 have c0 := V.kind
 have c1 := V.op
 obtain ⟨kk, hkk⟩ : ∃ kk, x.kind = kk := ⟨_, rfl⟩
 have HK : Hid (x.kind = kk) := hkk
 rw [hkk] at c0
 rw [hkk] at hx
 clear HBX hX X V hkk
 rcases hx with rfl | rfl | ⟨rfl, h1, h2⟩ | ⟨rfl, h1, h2⟩
 ·obtain rfl : E = [97, 110, 100] := by rw [← HE.out]; unfold U4; rw [HK.out]; rfl
  go_wp2
  go_ret
  exact ⟨rfl, h3⟩
 ·obtain rfl : E = [111, 114] := by rw [← HE.out]; unfold U4; rw [HK.out]; rfl
  go_wp2
  go_ret
  exact ⟨rfl, h3⟩
 ·have CC := am8 x.op
  obtain rfl : E = a3u x.op := by rw [← HE.out, am7 ⟨h1, h2⟩]; unfold U4; rw [HK.out]; rfl
  clear h1 h2
  go_wp2_with fail
  refine (CC _).mono ?_
  rintro e w2 ⟨rfl, rfl⟩
  go_wp2
  go_ret
  exact ⟨rfl, h3⟩
 ·have CC := ag4 x.op
  obtain rfl : E = a3r x.op := by rw [← HE.out, ag1 ⟨h1, h2⟩]; unfold U4; rw [HK.out]; rfl
  clear h1 h2
  go_wp2_with fail
  refine (CC _).mono ?_
  rintro e w2 ⟨rfl, rfl⟩
  go_wp2
  go_ret
  exact ⟨rfl, h3⟩
theorem WP.from {w : World} {M B7 p2 p3 p5 p6 p7 p8 : Nat} {sl : Value} {bf : Nat} {W W1 : World} {v : Value} {ts : List (List UInt8)} {ne dp : Int} {left : Nat} {r : List UInt8} {d n k : Nat} {e : Ending} {W' : World} (G : W.grownBy W1 none) (hM : M ≤ W.heap.size) (h : WP w M B7 p2 p3 p5 p6 p7 p8 sl bf W1 v ts ne dp left r d n k e W') : WP w M B7 p2 p3 p5 p6 p7 p8 sl bf W v ts ne dp left r d n k e W' := by
 obtain ⟨he, v', R, E, g, K, hr, hk⟩ := h
 exact ⟨he, v', R, E, g.mono G.size, (Kp.none G hM).trans K, hr, hk⟩
theorem WP.took {w : World} {M B7 p2 p3 p5 p6 p7 p8 : Nat} {sl : Value} {bf : Nat} {W W1 : World} {v : Value} {ts : List (List UInt8)} {ne dp : Int} {left : Nat} {r : List UInt8} {d n k : Nat} {e : Ending} {W' : World} (K : Kp M (WS p5 p6 v) W W1) (h : WP w M B7 p2 p3 p5 p6 p7 p8 sl bf W1 v ts ne dp left r d n k e W') : WP w M B7 p2 p3 p5 p6 p7 p8 sl bf W v ts ne dp (left + 1) r d (n + 1) k e W' := by
 obtain ⟨he, v', R, E, g, K', hr, hk⟩ := h
 exact ⟨he, v', R, by rw [Nat.add_sub_add_right]; exact E, g.mono K.1.size, K.trans K', hr, hk⟩
theorem j5.took {w : World} {M B7 p2 p3 p5 p6 p7 p8 : Nat} {sl : Value} {bf : Nat} {W : World} {v : Value} {ts : List (List UInt8)} {ne dp : Int} {left : Nat} (P : a05 M B7 p2 p3 p5 p6 p7 p8) (E : j5 w M B7 p2 p3 p5 p6 p7 p8 sl bf W v ts ne dp left) (l : Nat) :
  j5 w M B7 p2 p3 p5 p6 p7 p8 sl bf (W.setCell ⟨p6, 0, none⟩ (.int .i64 (l : Int))) v ts ne dp l ∧ Kp M (WS p5 p6 v) W (W.setCell ⟨p6, 0, none⟩ (.int .i64 (l : Int))) := by
 have K : Kp M (WS p5 p6 v) W (W.setCell ⟨p6, 0, none⟩ (.int .i64 (l : Int))) := ⟨(Below.refl _ _).setCell (p := ⟨p6, 0, none⟩) P.m6 _, fun k o hk ho _ => (Below.heap_setCell _ _ _ _ hk.2.1).trans ho⟩
 exact ⟨E.next P K (VAt.set E.lf 0 _) ⟨VAt.setOther E.out.1 _ P.l5.2, World.ownsRow.kept E.out.2 (row := some p6) ⟨rfl, rfl, rfl, by simp [World.setCell], fun k _ hk => Below.heap_setCell _ _ _ _ (fun e => hk (by rw [e]))⟩ (.inr (E.own P.l6))⟩ E.nd, K⟩
theorem b0b {w : World} {M B7 p2 p3 p5 p6 p7 p8 nb no m cap bf : Nat} (P : a05 M B7 p2 p3 p5 p6 p7 p8) (hM : M ≤ B7) {W : World} {v : Value} {ts : List (List UInt8)} {ne dp : Int} {l : Nat} (E : j5 w M B7 p2 p3 p5 p6 p7 p8 (.slice (some ⟨nb, no, none⟩) m cap) bf W v ts ne dp (l + 1)) (x : Ng) (hx : W.rangeAt nb (no + l * 24) x.cells) (hlt : l < m) (hm : m ≤ 1000000) (least : Int) (hr : d5 x < least) (r : List UInt8) (d n k : Nat) (hne : ne ≤ 900000) (hts : ts.length + k ≤ 900000) (H : ∀ W1 v1, j5 w M B7 p2 p3 p5 p6 p7 p8 (.slice (some ⟨nb, no, none⟩) m cap) bf W1 v1 (ts ++ [[41]]) (ne + 1) (max dp (ne + 1)) (l + 1) → Calls Tryz.prog 97 #[.int .i64 1, .pointer (some ⟨p2, 0, none⟩), .pointer (some ⟨p6, 0, none⟩), .pointer (some ⟨p8, 0, none⟩), .pointer (some ⟨p3, 0, none⟩), .pointer (some ⟨p7, 0, none⟩), .pointer (some ⟨p5, 0, none⟩)] W1 (WP w M B7 p2 p3 p5 p6 p7 p8 (.slice (some ⟨nb, no, none⟩) m cap) bf W1 v1 (ts ++ [[41]]) (ne + 1) (max dp (ne + 1)) (l + 1) r d n k)) :
  Calls Tryz.prog 97 #[.int .i64 least, .pointer (some ⟨p2, 0, none⟩), .pointer (some ⟨p6, 0, none⟩), .pointer (some ⟨p8, 0, none⟩), .pointer (some ⟨p3, 0, none⟩), .pointer (some ⟨p7, 0, none⟩), .pointer (some ⟨p5, 0, none⟩)] W
   (WP w M B7 p2 p3 p5 p6 p7 p8 (.slice (some ⟨nb, no, none⟩) m cap) bf W v ts ne dp (l + 1) ([40] ++ r ++ [41]) (d + 1) n (k + 2)) := by
 have hW := E.sz
 have X0 := VAt.alloc W 43 ngZ.cells.toArray
 have GA := World.grownBy_alloc W (.cells x.cells.toArray 43) none
 have EA := E.kept P hM GA
 have NA := NB.alloc W x
 have c2 := E.c2
 have c6 : W.cell? ⟨p6, 0, none⟩ = some (.int .i64 ((l : Int) + 1)) := VAt.cell E.lf 0
 have hw1 : IntKind.i64.wrap ((l : Int) + 1 - 1) = (l : Int) := by rw [IntKind.wrap_i64]; omega
 have hl0 : (0 : Int) ≤ (l : Int) := by omega
 have hl1 : (l : Int) < (m : Int) := by omega
 have HE : Hid (j5 w M B7 p2 p3 p5 p6 p7 p8 (.slice (some ⟨nb, no, none⟩) m cap) bf W v ts ne dp (l + 1)) := E
 have HEA : Hid (j5 w M B7 p2 p3 p5 p6 p7 p8 (.slice (some ⟨nb, no, none⟩) m cap) bf (W.alloc (.cells x.cells.toArray 43)) v ts ne dp (l + 1)) := EA
 have HX : Hid (W.rangeAt nb (no + l * 24) x.cells) := hx
 clear E EA hx
 go_enter Tryz.func97, Tryz.ntmps97
 go_upto_region 1 with (first | refine a2H (by rfl) 43 (.tmp 13) rfl nb (no + l * 24) rfl x.cells _ HX.out Tryz.underlying43 rfl (a1M x) ?_ | refine wpList_store_row rfl 43 (.tmp 8) (.tmp 14) rfl W.heap.size x.cells.toArray rfl rfl 43 _ X0 (E8 x) rfl (V6 x) ?_)
 rw [World.setRow_alloc_new]
 clear X0
 generalize W.alloc (.cells x.cells.toArray 43) = W0 at *
 generalize hBe : W.heap.size = B at *
 have HBE : Hid (W.heap.size = B) := hBe
 clear hBe
 have CR := a3c x W0
 obtain ⟨X, hX⟩ : ∃ X, x.cells.toArray = X := ⟨_, rfl⟩
 have HV : VAt W0 B 43 X := hX ▸ NA
 have HZ : Hid ((Tryz.prog.info? 43).map (·.size) = some X.size) := hX ▸ E8 x
 rw [hX] at CR ⊢
 have HXX : Hid (x.cells.toArray = X) := hX
 clear hX c2 c6 hw1
 obtain ⟨rr, hrr⟩ : ∃ rr, d5 x = rr := ⟨_, rfl⟩
 have HRR : Hid (d5 x = rr) := hrr
 rw [hrr] at *
 clear hrr
 go_upto_region 2 with (refine wpList_load_row rfl 43 (.tmp 8) rfl B rfl 43 X (0, 0) _ HV Tryz.underlying43 rfl HZ.out ?_)
 refine CR.mono ?_
 rintro e w1 ⟨rfl, G1⟩
 have HE1 : Hid (j5 w M B7 p2 p3 p5 p6 p7 p8 (.slice (some ⟨nb, no, none⟩) m cap) bf w1 v ts ne dp (l + 1)) := HEA.out.kept P hM G1
 have N1 : NB w1 B x := NB.kept NA G1
 have HG1 : Hid (W.grownBy w1 none) := d3 GA G1
 have c8 := HE1.out.c8
 clear CR G1 NA GA HEA HV HZ
 go_wp2_with (refine (a4w P HE1.out [40] [41] 1 r d n k hne hts H).mono ?_; rintro e w2 hw2; have hf := hw2.1; subst hf)
 go_end0
 exact WP.from HG1.out (by have := HE.out.sz; omega) hw2

end Go.Proofs.YtklipelnjgpnjaaGreatDoor
