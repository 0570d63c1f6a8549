import Derived.Test.YtklipelnjgpnjaaGreatDoorLotS8
import Derived.Laws.EntriesVeiled
import Derived.Shelf.Abstract
import Derived.Test.YtklipelnjgpnjaaGreatDoorLotS7
import Derived.Laws.StructEq
set_option maxHeartbeats 64000000
set_option maxRecDepth 100000
namespace Go.Proofs.YtklipelnjgpnjaaGreatDoor
open Go.RowKit
theorem b0w (k : Nat) (h1 : 1 ≤ k) (h2 : k ≤ 16) : ∀ args w, (callFunc (a3B k) args).run Tryz.prog w = .ok (.enter (a3B k) args) w := by
 rcases a1B h1 h2 with rfl | rfl | rfl | rfl | rfl | rfl | rfl | rfl | rfl | rfl | rfl | rfl | rfl | rfl | rfl | rfl
 ·exact enters_of Tryz.func48 (by kernel_rfl) rfl
 ·exact enters_of Tryz.func52 (by kernel_rfl) rfl
 ·exact enters_of Tryz.func54 (by kernel_rfl) rfl
 ·exact enters_of Tryz.func57 (by kernel_rfl) rfl
 ·exact enters_of Tryz.func52 (by kernel_rfl) rfl
 ·exact enters_of Tryz.func57 (by kernel_rfl) rfl
 ·exact enters_of Tryz.func52 (by kernel_rfl) rfl
 ·exact enters_of Tryz.func52 (by kernel_rfl) rfl
 ·exact enters_of Tryz.func52 (by kernel_rfl) rfl
 ·exact enters_of Tryz.func62 (by kernel_rfl) rfl
 ·exact enters_of Tryz.func64 (by kernel_rfl) rfl
 ·exact enters_of Tryz.func48 (by kernel_rfl) rfl
 ·exact enters_of Tryz.func67 (by kernel_rfl) rfl
 ·exact enters_of Tryz.func71 (by kernel_rfl) rfl
 ·exact enters_of Tryz.func73 (by kernel_rfl) rfl
 ·exact enters_of Tryz.func75 (by kernel_rfl) rfl
theorem aE0 (k : Nat) (h1 : 1 ≤ k) (h2 : k ≤ 16) : ∀ args w, (callFunc (a3f k) args).run Tryz.prog w = .ok (.enter (a3f k) args) w := by
 rcases a1B h1 h2 with rfl | rfl | rfl | rfl | rfl | rfl | rfl | rfl | rfl | rfl | rfl | rfl | rfl | rfl | rfl | rfl
 ·exact enters_of Tryz.func49 (by kernel_rfl) rfl
 ·exact enters_of Tryz.func49 (by kernel_rfl) rfl
 ·exact enters_of Tryz.func55 (by kernel_rfl) rfl
 ·exact enters_of Tryz.func58 (by kernel_rfl) rfl
 ·exact enters_of Tryz.func49 (by kernel_rfl) rfl
 ·exact enters_of Tryz.func61 (by kernel_rfl) rfl
 ·exact enters_of Tryz.func49 (by kernel_rfl) rfl
 ·exact enters_of Tryz.func49 (by kernel_rfl) rfl
 ·exact enters_of Tryz.func49 (by kernel_rfl) rfl
 ·exact enters_of Tryz.func63 (by kernel_rfl) rfl
 ·exact enters_of Tryz.func65 (by kernel_rfl) rfl
 ·exact enters_of Tryz.func49 (by kernel_rfl) rfl
 ·exact enters_of Tryz.func68 (by kernel_rfl) rfl
 ·exact enters_of Tryz.func72 (by kernel_rfl) rfl
 ·exact enters_of Tryz.func72 (by kernel_rfl) rfl
 ·exact enters_of Tryz.func76 (by kernel_rfl) rfl
theorem al6 (k : Nat) (h1 : 1 ≤ k) (h2 : k ≤ 16) : ∀ args w, (callFunc (a32 k) args).run Tryz.prog w = .ok (.enter (a32 k) args) w := by
 rcases a1B h1 h2 with rfl | rfl | rfl | rfl | rfl | rfl | rfl | rfl | rfl | rfl | rfl | rfl | rfl | rfl | rfl | rfl
 ·exact enters_of Tryz.func50 (by kernel_rfl) rfl
 ·exact enters_of Tryz.func50 (by kernel_rfl) rfl
 ·exact enters_of Tryz.func56 (by kernel_rfl) rfl
 ·exact enters_of Tryz.func50 (by kernel_rfl) rfl
 ·exact enters_of Tryz.func50 (by kernel_rfl) rfl
 ·exact enters_of Tryz.func50 (by kernel_rfl) rfl
 ·exact enters_of Tryz.func50 (by kernel_rfl) rfl
 ·exact enters_of Tryz.func50 (by kernel_rfl) rfl
 ·exact enters_of Tryz.func50 (by kernel_rfl) rfl
 ·exact enters_of Tryz.func50 (by kernel_rfl) rfl
 ·exact enters_of Tryz.func50 (by kernel_rfl) rfl
 ·exact enters_of Tryz.func66 (by kernel_rfl) rfl
 ·exact enters_of Tryz.func69 (by kernel_rfl) rfl
 ·exact enters_of Tryz.func50 (by kernel_rfl) rfl
 ·exact enters_of Tryz.func74 (by kernel_rfl) rfl
 ·exact enters_of Tryz.func77 (by kernel_rfl) rfl
theorem b0F (k : Nat) (h1 : 1 ≤ k) (h2 : k ≤ 16) : ∀ args w, (callFunc (a2S k) args).run Tryz.prog w = .ok (.enter (a2S k) args) w := by
 rcases a1B h1 h2 with rfl | rfl | rfl | rfl | rfl | rfl | rfl | rfl | rfl | rfl | rfl | rfl | rfl | rfl | rfl | rfl
 ·exact enters_of Tryz.func51 (by kernel_rfl) rfl
 ·exact enters_of Tryz.func53 (by kernel_rfl) rfl
 ·exact enters_of Tryz.func53 (by kernel_rfl) rfl
 ·exact enters_of Tryz.func59 (by kernel_rfl) rfl
 ·exact enters_of Tryz.func60 (by kernel_rfl) rfl
 ·exact enters_of Tryz.func53 (by kernel_rfl) rfl
 ·exact enters_of Tryz.func53 (by kernel_rfl) rfl
 ·exact enters_of Tryz.func53 (by kernel_rfl) rfl
 ·exact enters_of Tryz.func53 (by kernel_rfl) rfl
 ·exact enters_of Tryz.func53 (by kernel_rfl) rfl
 ·exact enters_of Tryz.func53 (by kernel_rfl) rfl
 ·exact enters_of Tryz.func53 (by kernel_rfl) rfl
 ·exact enters_of Tryz.func53 (by kernel_rfl) rfl
 ·exact enters_of Tryz.func53 (by kernel_rfl) rfl
 ·exact enters_of Tryz.func53 (by kernel_rfl) rfl
 ·exact enters_of Tryz.func53 (by kernel_rfl) rfl
theorem b0x (x : Ng) (k : Nat) (h1 : 1 ≤ k) (h2 : k ≤ 16) (hk : x.kind = k) (w : World) : Calls Tryz.prog (a3B k) #[.agg x.cells.toArray] w fun e w' => e = .returned (.agg (j3 x).cells.toArray) ∧ w.grownBy w' none := by
 rcases a1B h1 h2 with rfl | rfl | rfl | rfl | rfl | rfl | rfl | rfl | rfl | rfl | rfl | rfl | rfl | rfl | rfl | rfl
 ·exact af0 x w (by omega)
 ·exact a4g x w (by omega)
 ·exact b0B x w (by omega)
 ·exact af1 x w (by omega)
 ·exact a4g x w (by omega)
 ·exact af1 x w (by omega)
 ·exact a4g x w (by omega)
 ·exact a4g x w (by omega)
 ·exact a4g x w (by omega)
 ·exact b0E x w (by omega)
 ·exact b0C x w (by omega)
 ·exact af0 x w (by omega)
 ·exact b0A x w (by omega)
 ·exact b0y x w (by omega)
 ·exact b0z x w (by omega)
 ·exact b0D x w (by omega)
theorem aE4 (x : Ng) (k : Nat) (h1 : 1 ≤ k) (h2 : k ≤ 16) (hk : x.kind = k) (w : World) : Calls Tryz.prog (a3f k) #[.agg x.cells.toArray] w fun e w' => e = .returned (.bool (m4 x)) ∧ w.grownBy w' none := by
 rcases a1B h1 h2 with rfl | rfl | rfl | rfl | rfl | rfl | rfl | rfl | rfl | rfl | rfl | rfl | rfl | rfl | rfl | rfl
 ·rw [show m4 x = true by unfold m4; rw [hk]; rfl]; exact a2o x w
 ·rw [show m4 x = true by unfold m4; rw [hk]; rfl]; exact a2o x w
 ·rw [show m4 x = inG x.of 1 12 by unfold m4; rw [hk]; rfl]; exact aD9 x w
 ·rw [show m4 x = inG x.op 1 10 by unfold m4; rw [hk]; rfl]; exact aE3 x w
 ·rw [show m4 x = true by unfold m4; rw [hk]; rfl]; exact a2o x w
 ·rw [show m4 x = inG x.op 1 6 by unfold m4; rw [hk]; rfl]; exact aD7 x w
 ·rw [show m4 x = true by unfold m4; rw [hk]; rfl]; exact a2o x w
 ·rw [show m4 x = true by unfold m4; rw [hk]; rfl]; exact a2o x w
 ·rw [show m4 x = true by unfold m4; rw [hk]; rfl]; exact a2o x w
 ·rw [show m4 x = inG x.side 1 2 by unfold m4; rw [hk]; rfl]; exact aD8 x w
 ·rw [show m4 x = inG x.of 2 13 by unfold m4; rw [hk]; rfl]; exact aE1 x w
 ·rw [show m4 x = true by unfold m4; rw [hk]; rfl]; exact a2o x w
 ·rw [show m4 x = inG x.of 2 3 by unfold m4; rw [hk]; rfl]; exact a9r x w
 ·rw [show m4 x = a1y x by unfold m4; rw [hk]; rfl]; exact a9q x w
 ·rw [show m4 x = a1y x by unfold m4; rw [hk]; rfl]; exact a9q x w
 ·rw [show m4 x = ((x.of == 0 || inG x.of 4 5) && inG x.side 0 2) by unfold m4; rw [hk]; rfl]; exact aE2 x w
theorem al7 (x : Ng) (k : Nat) (h1 : 1 ≤ k) (h2 : k ≤ 16) (hk : x.kind = k) (w : World) : Calls Tryz.prog (a32 k) #[.agg x.cells.toArray] w fun e w' => e = .returned (.int .i64 (o7 x)) ∧ w.grownBy w' none := by
 rcases a1B h1 h2 with rfl | rfl | rfl | rfl | rfl | rfl | rfl | rfl | rfl | rfl | rfl | rfl | rfl | rfl | rfl | rfl
 ·rw [show o7 x = 0 by unfold o7; rw [hk]; rfl]; exact a1u x w
 ·rw [show o7 x = 0 by unfold o7; rw [hk]; rfl]; exact a1u x w
 ·rw [show o7 x = (if x.size = 1 ∨ x.size = 2 ∨ x.size = 4 then 0 else 124) by unfold o7; rw [hk]; rfl]; exact al8 x w
 ·rw [show o7 x = 0 by unfold o7; rw [hk]; rfl]; exact a1u x w
 ·rw [show o7 x = 0 by unfold o7; rw [hk]; rfl]; exact a1u x w
 ·rw [show o7 x = 0 by unfold o7; rw [hk]; rfl]; exact a1u x w
 ·rw [show o7 x = 0 by unfold o7; rw [hk]; rfl]; exact a1u x w
 ·rw [show o7 x = 0 by unfold o7; rw [hk]; rfl]; exact a1u x w
 ·rw [show o7 x = 0 by unfold o7; rw [hk]; rfl]; exact a1u x w
 ·rw [show o7 x = 0 by unfold o7; rw [hk]; rfl]; exact a1u x w
 ·rw [show o7 x = 0 by unfold o7; rw [hk]; rfl]; exact a1u x w
 ·rw [show o7 x = (if x.n ≤ 65535 then 0 else 124) by unfold o7; rw [hk]; rfl]; exact am2 x w
 ·rw [show o7 x = (if x.n ≤ 255 then 0 else 124) by unfold o7; rw [hk]; rfl]; exact am0 x w
 ·rw [show o7 x = 0 by unfold o7; rw [hk]; rfl]; exact a1u x w
 ·exact al9 x w hk
 ·rw [show o7 x = (if x.n ≤ x.m ∧ x.m ≤ 65535 then 0 else 124) by unfold o7; rw [hk]; rfl]; exact am1 x w
theorem b0G (x : Ng) (ps : List Pt) (k : Nat) (h1 : 1 ≤ k) (h2 : k ≤ 16) (hk : x.kind = k) (ha : arG x.kind = some ps.length) (hf : O0 x = true) (hz : a0f x ps = false) (hx : ps.all (·.fixed) = true) (hv : ∀ p ∈ ps, p.val ≤ 4294967295)
  (ao : Option Addr) (cap : Nat) (w : World) (C : CV w ao (z6 ptC ps)) : Calls Tryz.prog (a2S k) #[.agg x.cells.toArray, .slice ao ps.length cap] w fun e w' => e = .returned (a0o x ps) ∧ w.grownBy w' none := by
 rcases a1B h1 h2 with rfl | rfl | rfl | rfl | rfl | rfl | rfl | rfl | rfl | rfl | rfl | rfl | rfl | rfl | rfl | rfl
 ·exact az0 x ps _ w hk
 ·exact a0Z x ps _ w ⟨by omega, by omega, by omega⟩
 ·exact a0Z x ps _ w ⟨by omega, by omega, by omega⟩
 ·rw [hk] at ha
  have hl : ps.length = 2 := (Option.some.inj ha).symm
  match ps, hl with
  | [p, q], _ =>
   have hm : m4 x = true := by unfold O0 at hf; simp only [Bool.and_eq_true] at hf; exact hf.2
   rw [show m4 x = inG x.op 1 10 by unfold m4; rw [hk]; rfl] at hm
   have ho : 1 ≤ x.op ∧ x.op ≤ 10 := by unfold inG at hm; simpa using hm
   refine aQ6 x p q ao cap w C (hv p (by simp)) (hv q (by simp)) hk ho (fun hd h0 => ?_)
   have hq : q.fixed = true := by simp at hx; exact hx.2
   have : a0f x [p, q] = true := by unfold a0f; rw [hk, hd]; simp [hq, h0]
   rw [this] at hz
   cases hz
 ·rw [hk] at ha
  have hl : ps.length = 1 := (Option.some.inj ha).symm
  match ps, hl with
  | [p], _ => exact aG9 x p ao cap w C (hv p (by simp)) hk
 ·exact a0Z x ps _ w ⟨by omega, by omega, by omega⟩
 ·exact a0Z x ps _ w ⟨by omega, by omega, by omega⟩
 ·exact a0Z x ps _ w ⟨by omega, by omega, by omega⟩
 ·exact a0Z x ps _ w ⟨by omega, by omega, by omega⟩
 ·exact a0Z x ps _ w ⟨by omega, by omega, by omega⟩
 ·exact a0Z x ps _ w ⟨by omega, by omega, by omega⟩
 ·exact a0Z x ps _ w ⟨by omega, by omega, by omega⟩
 ·exact a0Z x ps _ w ⟨by omega, by omega, by omega⟩
 ·exact a0Z x ps _ w ⟨by omega, by omega, by omega⟩
 ·exact a0Z x ps _ w ⟨by omega, by omega, by omega⟩
 ·exact a0Z x ps _ w ⟨by omega, by omega, by omega⟩
theorem S5.wone {R : RT} {w : World} (h : S5 R w) {k : Nat} (h1 : 1 ≤ k) (h2 : k ≤ 16) : (R.wv k).oneCell' = true := by
 by_cases h3 : k = 14 ∨ k = 15
 ·obtain ⟨b, c, e, -⟩ := h.wg2 k h3
  rw [e]; rfl
 ·obtain ⟨b, e, -⟩ := h.wgt k h1 h2 (by omega) (by omega)
  rw [e]; rfl
theorem a6X {R : RT} {w : World} (h : S5 R w) {k : Nat} (h1 : 1 ≤ k) (h2 : k ≤ 16) : (B5 R k).toArray.all (·.oneCell') = true := by
 have h0 := h.wone h1 h2
 have h3 : (a4e R k).oneCell' = true := by
  unfold a4e
  repeat' split
  all_goals rfl
 rw [List.all_toArray, List.all_eq_true]
 intro u hu
 simp only [B5, List.mem_cons, List.not_mem_nil, or_false] at hu
 rcases hu with rfl | rfl | rfl | rfl | rfl | rfl | rfl
 ·exact h3
 ·rfl
 ·exact h0
 ·rfl
 ·rfl
 ·rfl
 ·rfl
theorem a1C : (Tryz.prog.info? 77).map (·.size) = some 7 := by kernel_rfl
def L6 : List Value := [.slice none 0 0, .int .i64 0, .nilFunc, .nilFunc, .nilFunc, .nilFunc, .nilFunc]
theorem a5j : L6.toArray.all (·.oneCell') = true := by simp [L6, Value.oneCell']
theorem aa5 (R : RT) (x : Int) (hx : arG x = none) (w : World) : Calls Tryz.prog 35 #[.slice (some ⟨R.g, 0, none⟩) 17 17, .int .i64 x] w fun e w' => e = .returned (.tuple #[.agg L6.toArray, .bool false]) ∧ w.grownBy w' none := by
 have hn := a7N.1 hx
 have V := VAt.alloc w 77 L6.toArray
 have G := World.grownBy_alloc w (.cells L6.toArray 77) none
 have hge : Hid (w.heap.size ≤ w.heap.size) := Nat.le_refl _
 have HBD : ∀ W : World, (Instr.build 77 #[]).run Tryz.prog W = .ok (.agg L6.toArray) W := fun W => by kernel_rfl
 by_cases h1 : x < 1
 ·have e1 : decide (x < 1) = true := decide_eq_true h1
  clear hn h1 hx
  go_enter Tryz.func35, Tryz.ntmps35
  go_upto_region 1 with fail
  rw [show (#[.slice none 0 0, .int .i64 0, .nilFunc, .nilFunc, .nilFunc, .nilFunc, .nilFunc] : Array Value) = L6.toArray from rfl]
  generalize w.alloc (.cells L6.toArray 77) = w1 at *
  obtain ⟨B, hB⟩ : ∃ B, w.heap.size = B := ⟨_, rfl⟩
  have HG : Hid (w.grownBy (w1.setRow B L6.toArray) none) := D1 G B _ (.inr (by omega))
  rw [hB] at V ⊢
  clear hB hge G
  go_wp2_with (refine wpList_store_row rfl 77 (.tmp 4) (.tmp 14) rfl B L6.toArray rfl rfl 77 _ V a1C rfl a5j ?_)
  refine bodyPost_ret (a0b rfl _ _ B L6.toArray _ rfl (V.setRow _) Tryz.underlying77 rfl a1C) rfl ?_
  exact ⟨rfl, HG.out⟩
 ·have e1 : decide (x < 1) = false := decide_eq_false h1
  have e2 : decide ((17 : Int) ≤ x) = true := decide_eq_true (by omega)
  clear hn h1 hx
  go_enter Tryz.func35, Tryz.ntmps35
  go_upto_region 1 with fail
  rw [show (#[.slice none 0 0, .int .i64 0, .nilFunc, .nilFunc, .nilFunc, .nilFunc, .nilFunc] : Array Value) = L6.toArray from rfl]
  generalize w.alloc (.cells L6.toArray 77) = w1 at *
  obtain ⟨B, hB⟩ : ∃ B, w.heap.size = B := ⟨_, rfl⟩
  have HG : Hid (w.grownBy (w1.setRow B L6.toArray) none) := D1 G B _ (.inr (by omega))
  rw [hB] at V ⊢
  clear hB hge G
  go_wp2_with (refine wpList_store_row rfl 77 (.tmp 4) (.tmp 14) rfl B L6.toArray rfl rfl 77 _ V a1C rfl a5j ?_)
  refine bodyPost_ret (a0b rfl _ _ B L6.toArray _ rfl (V.setRow _) Tryz.underlying77 rfl a1C) rfl ?_
  exact ⟨rfl, HG.out⟩
theorem aa6 (R : RT) (k : Nat) (h1 : 1 ≤ k) (h2 : k ≤ 16) (w : World) (T : S5 R w) : Calls Tryz.prog 35 #[.slice (some ⟨R.g, 0, none⟩) 17 17, .int .i64 (k : Int)] w fun e w' => e = .returned (.tuple #[.agg (B5 R k).toArray, .bool true]) ∧ w.grownBy w' none := by
 have V := VAt.alloc w 77 L6.toArray
 have G := World.grownBy_alloc w (.cells L6.toArray 77) none
 have HR : Hid ((w.alloc (.cells L6.toArray 77)).rangeAt R.g (k * 7) (B5 R k)) := (T.kept G).rows k h1 h2
 have HC : Hid ((Tryz.prog.info? 77).map (·.size) = some (B5 R k).length ∧ (Tryz.prog.info? 77).map (·.size) = some (B5 R k).toArray.size ∧ L6.toArray.size = (B5 R k).toArray.size ∧ (B5 R k).toArray.all (·.oneCell') = true) := ⟨a1C, a1C, rfl, a6X T h1 h2⟩
 obtain ⟨cs, hcs⟩ : ∃ cs, B5 R k = cs := ⟨_, rfl⟩
 rw [hcs] at HR HC ⊢
 have e1 : decide ((k : Int) < 1) = false := decide_eq_false (by omega)
 have e2 : decide ((17 : Int) ≤ (k : Int)) = false := decide_eq_false (by omega)
 have z0 : (0 : Int) ≤ (k : Int) := by omega
 have z1 : (k : Int) < 17 := by omega
 clear hcs T h1 h2
 go_enter Tryz.func35, Tryz.ntmps35
 go_upto_region 1 with fail
 rw [show (#[.slice none 0 0, .int .i64 0, .nilFunc, .nilFunc, .nilFunc, .nilFunc, .nilFunc] : Array Value) = L6.toArray from rfl]
 generalize w.alloc (.cells L6.toArray 77) = w1 at *
 obtain ⟨B, hB⟩ : ∃ B, w.heap.size = B := ⟨_, rfl⟩
 have HG : Hid (w.grownBy (w1.setRow B cs.toArray) none) := D1 G B _ (.inr (by omega))
 rw [hB] at V ⊢
 clear hB G
 go_wp2_with (first | refine wpList_load_mid rfl 77 (.tmp 17) rfl R.g (k * 7) (by simp [Act.eval]) cs _ HR.out Tryz.underlying77 rfl HC.out.1 ?_ | refine wpList_store_row rfl 77 (.tmp 4) (.tmp 18) rfl B cs.toArray rfl rfl 77 _ V HC.out.2.1 HC.out.2.2.1 HC.out.2.2.2 ?_)
 refine bodyPost_ret (a0b rfl _ _ B cs.toArray _ rfl (V.setRow _) Tryz.underlying77 rfl HC.out.2.1) rfl ?_
 exact ⟨rfl, HG.out⟩
theorem b0X (x : Ng) (b : Nat) (c : Int) (w : World) (hc : w.cell? ⟨b, 0, none⟩ = some (.int .i64 c)) : Calls Tryz.prog 106 #[.agg x.cells.toArray, .pointer (some ⟨b, 0, none⟩)] w fun e w' => e = .returned (.int .i64 c) ∧ w.grownBy w' none := by
 have HBX := z8 x
 have h3 := World.grownBy_alloc w (.cells x.cells.toArray 43) none
 have c1 := h3.cell hc (by simp)
 obtain ⟨X, hX⟩ : ∃ X, x.cells.toArray = X := ⟨_, rfl⟩
 rw [hX] at HBX ⊢
 go_enter Tryz.func106, Tryz.ntmps106
 go_upto_region 1 with fail
 rw [← hX] at *
 generalize w.alloc (.cells x.cells.toArray 43) = w1 at *
 generalize w.heap.size = B at *
 clear HBX hX X hc
 go_wp2
 go_ret
 exact ⟨rfl, h3⟩
theorem b0Y (x : Ng) (b g : Nat) (c d : Int) (w : World) (hc : w.cell? ⟨b, 0, none⟩ = some (.int .i64 c)) (hd : w.cell? ⟨g, 0, none⟩ = some (.int .i64 d)) : Calls Tryz.prog 111 #[.agg x.cells.toArray, .pointer (some ⟨g, 0, none⟩), .pointer (some ⟨b, 0, none⟩)] w fun e w' => e = .returned (.int .i64 (if x.of = 3 then d else c)) ∧ w.grownBy w' none := by
 obtain ⟨E, hE⟩ : ∃ E : Int, (if x.of = 3 then d else c) = E := ⟨_, rfl⟩
 rw [hE]
 have HE : Hid ((if x.of = 3 then d else c) = E) := hE
 clear hE
 have HBX := z8 x
 have h1 := NB.alloc w x
 have h3 := World.grownBy_alloc w (.cells x.cells.toArray 43) none
 have c1 := h3.cell hc (by simp)
 have c2 := h3.cell hd (by simp)
 have c5 := h1.of
 obtain ⟨X, hX⟩ : ∃ X, x.cells.toArray = X := ⟨_, rfl⟩
 rw [hX] at HBX ⊢
 by_cases q : x.of = 3
 ·have HQ : Hid (x.of = 3) := q
  have e1 : (x.of == 3) = true := by simpa using q
  clear q
  go_enter Tryz.func111, Tryz.ntmps111
  go_upto_region 1 with fail
  rw [← hX] at *
  generalize w.alloc (.cells x.cells.toArray 43) = w1 at *
  generalize w.heap.size = B at *
  clear HBX hX X hc hd h1
  go_wp2
  go_ret
  exact ⟨O6 (by rw [← HE.out, if_pos HQ.out]), h3⟩
 ·have HQ : Hid (¬ x.of = 3) := q
  have e1 : (x.of == 3) = false := by simpa using q
  clear q
  go_enter Tryz.func111, Tryz.ntmps111
  go_upto_region 1 with fail
  rw [← hX] at *
  generalize w.alloc (.cells x.cells.toArray 43) = w1 at *
  generalize w.heap.size = B at *
  clear HBX hX X hc hd h1
  go_wp2
  go_ret
  exact ⟨O6 (by rw [← HE.out, if_neg HQ.out]), h3⟩
theorem b0Z (x : Ng) {R : RT} {w : World} (T : S5 R w) (k : Nat) (h1 : 1 ≤ k) (h2 : k ≤ 16) (hk : x.kind = k) : ∃ fn lb, R.wv k = .func (.func fn) #[] lb ∧ (∀ args w, (callFunc fn args).run Tryz.prog w = .ok (.enter fn args) w) ∧
  ∀ W : World, w.grownBy W none → Calls Tryz.prog fn (#[.agg x.cells.toArray] ++ lb) W fun e w' => e = .returned (.int .i64 (I7 x : Int)) ∧ W.grownBy w' none := by
 by_cases h3 : k = 14 ∨ k = 15
 ·obtain ⟨b, g, e, c1, c2⟩ := T.wg2 k h3
  refine ⟨_, _, e, enters_of Tryz.func111 (by kernel_rfl) rfl, fun W K => ?_⟩
  refine (b0Y x b g (a3D k) (a3D k + 48) W (K.cell c1 (by simp)) (K.cell c2 (by simp))).mono ?_
  rintro e' w' ⟨rfl, K'⟩
  refine ⟨O6 ?_, K'⟩
  unfold I7
  rcases h3 with rfl | rfl
  ·rw [hk]
   by_cases ho : x.of = 3
   ·rw [if_pos ho]; simp [ho]; rfl
   ·rw [if_neg ho]; simp [ho]; rfl
  ·rw [hk]
   by_cases ho : x.of = 3
   ·rw [if_pos ho]; simp [ho]; rfl
   ·rw [if_neg ho]; simp [ho]; rfl
 ·obtain ⟨b, e, c1⟩ := T.wgt k h1 h2 (by omega) (by omega)
  refine ⟨_, _, e, enters_of Tryz.func106 (by kernel_rfl) rfl, fun W K => ?_⟩
  refine (b0X x b (a3D k) W (K.cell c1 (by simp))).mono ?_
  rintro e' w' ⟨rfl, K'⟩
  refine ⟨O6 ?_, K'⟩
  unfold I7
  rw [hk]
  rcases a1B h1 h2 with rfl | rfl | rfl | rfl | rfl | rfl | rfl | rfl | rfl | rfl | rfl | rfl | rfl | rfl | rfl | rfl
  all_goals first | rfl | omega
theorem b0V {x : Ng} (h : arG x.kind = none) : I7 x = 0 := by
 have := a7N.1 h
 unfold I7
 rw [if_neg (by omega), if_neg (by omega), if_neg (by omega), if_neg (by omega), if_neg (by omega), if_neg (by omega), if_neg (by omega), if_neg (by omega), if_neg (by omega), if_neg (by omega)]
theorem b0T (x : Ng) : I7 x ≤ 80 := by
 unfold I7
 repeat' split
 all_goals omega
theorem b0W (x : Ng) (R : RT) (w : World) (T : S5 R w) : Calls Tryz.prog 80 #[.slice (some ⟨R.g, 0, none⟩) 17 17, .agg x.cells.toArray] w fun e w' => e = .returned (.int .i64 (I7 x : Int)) ∧ w.grownBy w' none := by
 have HBX := z8 x
 have V1 := VAt.alloc w 43 x.cells.toArray
 have c0 := (NB.alloc w x).kind
 have G1 := World.grownBy_alloc w (.cells x.cells.toArray 43) none
 have HT : Hid (S5 R w) := T
 have HZ : Hid ((Tryz.prog.info? 43).map (·.size) = some x.cells.toArray.size) := I9 x
 cases ha : arG x.kind with
 | none =>
  rw [b0V ha]
  have CR := fun W => aa5 R x.kind ha W
  obtain ⟨X, hX⟩ : ∃ X, x.cells.toArray = X := ⟨_, rfl⟩
  rw [hX] at HBX V1 c0 G1 ⊢
  clear ha T
  go_enter Tryz.func80, Tryz.ntmps80
  go_upto_region 1 with fail
  generalize w.alloc (.cells X 43) = w1 at *
  generalize w.heap.size = B at V1 c0 ⊢
  clear HBX hX
  go_wp2_with fail
  refine (CR _).mono ?_
  rintro e w2 ⟨rfl, K2⟩
  have G2 := d3 G1 K2
  have K3 := World.grownBy_alloc w2 (.cells L6.toArray 77) none
  clear CR
  go_upto_region 2 with (refine wpList_store_row rfl 77 (.tmp 5) (.tmp 12) rfl w2.heap.size L6.toArray rfl rfl 77 _ (heap_alloc_new w2 _) a1C rfl a5j ?_)
  rw [World.setRow_alloc_new]
  have G3 := d3 G2 K3
  generalize w2.alloc (.cells L6.toArray 77) = w3 at *
  generalize w2.heap.size = C at *
  go_wp2
  go_ret
  exact ⟨rfl, G3⟩
 | some a =>
  have hin := a3I ha
  obtain ⟨k, hk⟩ : ∃ k : Nat, x.kind = k := Int.eq_ofNat_of_zero_le (by omega)
  have h1 : 1 ≤ k := by omega
  have h2 : k ≤ 16 := by omega
  obtain ⟨fn, lb, hwv, he, CW⟩ := b0Z x T k h1 h2 hk
  have CR : Hid (∀ W, S5 R W → Calls Tryz.prog 35 #[.slice (some ⟨R.g, 0, none⟩) 17 17, .int .i64 (k : Int)] W fun e w' => e = .returned (.tuple #[.agg (B5 R k).toArray, .bool true]) ∧ W.grownBy w' none) := fun W TW => aa6 R k h1 h2 W TW
  rw [hk] at c0
  have HC : Hid ((Tryz.prog.info? 77).map (·.size) = some (B5 R k).toArray.size ∧ 7 = (B5 R k).toArray.size ∧ (B5 R k).toArray.all (·.oneCell') = true) := ⟨a1C, rfl, a6X T h1 h2⟩
  have HF : Hid ((B5 R k).toArray[2]? = some (.func (.func fn) #[] lb)) := by
   show (B5 R k).toArray[2]? = _
   rw [← hwv]; rfl
  have HCW : Hid _ := CW
  obtain ⟨cs, hcs⟩ : ∃ cs, (B5 R k).toArray = cs := ⟨_, rfl⟩
  rw [hcs] at CR HC HF
  obtain ⟨wt, hwt⟩ : ∃ wt, I7 x = wt := ⟨_, rfl⟩
  rw [hwt] at HCW ⊢
  obtain ⟨X, hX⟩ : ∃ X, x.cells.toArray = X := ⟨_, rfl⟩
  rw [hX] at HBX V1 c0 G1 HZ HCW ⊢
  clear T ha hcs hwt hwv CW hk hin
  go_enter Tryz.func80, Tryz.ntmps80
  go_upto_region 1 with fail
  generalize w.alloc (.cells X 43) = w1 at *
  generalize w.heap.size = B at V1 c0 ⊢
  clear HBX hX
  go_wp2_with fail
  refine (CR.out _ (HT.out.kept G1)).mono ?_
  rintro e w2 ⟨rfl, K2⟩
  have G2 := d3 G1 K2
  have K3 := World.grownBy_alloc w2 (.cells cs 77) none
  have V3 := (V1.kept K2).kept K3
  have C3 := VAt.alloc w2 77 cs
  clear CR V1 c0 K2 G1
  go_upto_region 2 with (refine wpList_store_row rfl 77 (.tmp 5) (.tmp 12) rfl w2.heap.size cs rfl rfl 77 _ (heap_alloc_new w2 _) HC.out.1 HC.out.2.1 HC.out.2.2 ?_)
  rw [World.setRow_alloc_new]
  have G3 := d3 G2 K3
  have CF := HCW.out
  generalize w2.alloc (.cells cs 77) = w3 at *
  generalize w2.heap.size = C at *
  have c2 : w3.cell? ⟨C, 2, none⟩ = some (.func (.func fn) #[] lb) := by rw [C3.cell 2]; exact HF.out
  have CX := CF w3 G3
  clear CF HCW G2 K3 C3
  go_wp2_with (first | refine wpList_load_row rfl 43 (.tmp 3) rfl B rfl 43 X (0, 0) _ V3 Tryz.underlying43 rfl HZ.out ?_ | (go_at_fn fn; refine CX.mono ?_; rintro e w4 ⟨rfl, K4⟩))
  go_ret
  exact ⟨rfl, d3 G3 K4⟩
theorem a27 (x : Ng) : (Tryz.prog.info? 43).map (·.size) = some x.cells.length := a4a
def a3Q (o : Option Nat) : Value := match o with
 | some k => .tuple #[.int .i64 (k : Int), .bool true]
 | none => .tuple #[.int .i64 0, .bool false]
theorem av9 (ao : Option Addr) (cap : Nat) (t : List Ng) (R : RT) (w : World) (T : S5 R w) (C : CV w ao (D6 t)) (hm : t.length * 72 ≤ 140737488355328) : Calls Tryz.prog 30 #[.slice (some ⟨R.g, 0, none⟩) 17 17, .slice ao t.length cap] w fun e w' => e = .returned (a3Q (U5 0 0 t)) ∧ w.grownBy w' none := by
 have HC : Hid (CV w ao (D6 t)) := C
 have HT : Hid (S5 R w) := T
 clear C T
 obtain ⟨E, hE⟩ : ∃ E, a3Q (U5 0 0 t) = E := ⟨_, rfl⟩
 rw [hE]
 have HE : Hid (a3Q (U5 0 0 t) = E) := hE
 clear hE
 go_enter Tryz.func30, Tryz.ntmps30
 go_wp2
 go_loopw [6, 11] (fun s i wr => ∃ k q : Nat, k ≤ t.length ∧ q ≤ 3000 ∧ s = .int .i64 (q : Int) ∧ i = .int .i64 k ∧ Hid (U5 0 0 t = U5 q k (t.drop k)) ∧ w.grownBy wr none) (fun _ i _ => t.length - (intOf i).toNat)
 case atStart => exact ⟨0, 0, Nat.zero_le _, Nat.zero_le _, rfl, rfl, rfl, World.grownBy.refl _ _⟩
 case round =>
  obtain ⟨k, q, hk, hq, rfl, rfl, HH, G⟩ := hrel
  by_cases hlt : k < t.length
  ·obtain ⟨b, o, rfl, hc⟩ := (HC.out.keptNone G).ngs hlt
   have HR : Hid (wr.rangeAt b (o + k * 24) t[k].cells) := hc k hlt
   have HW : Hid (∀ W : World, S5 R W → Calls Tryz.prog 80 #[.slice (some ⟨R.g, 0, none⟩) 17 17, .agg t[k].cells.toArray] W fun e w' => e = .returned (.int .i64 (I7 t[k] : Int)) ∧ W.grownBy w' none) := fun W TW => b0W t[k] R W TW
   have HZ : Hid ((Tryz.prog.info? 43).map (·.size) = some t[k].cells.length ∧ (Tryz.prog.info? 43).map (·.size) = some t[k].cells.toArray.size ∧ 24 = t[k].cells.toArray.size ∧ t[k].cells.toArray.all (·.oneCell') = true) := ⟨a27 _, I9 _, rfl, a02 _⟩
   have hb2 := b0T t[k]
   have HN : Hid (U5 0 0 t = if 3000 < q + I7 t[k] then some k else U5 (q + I7 t[k]) (k + 1) (t.drop (k + 1))) := by
    have := HH.out
    rw [List.drop_eq_getElem_cons hlt] at this
    exact this
   have hwr : IntKind.i64.wrap ((q : Int) + (I7 t[k] : Int)) = (q : Int) + (I7 t[k] : Int) := by rw [IntKind.wrap_i64]; omega
   generalize I7 t[k] = s1 at *
   generalize t[k].cells = cs at *
   have hl : (k : Int) < (t.length : Int) := by omega
   have z0 : (0 : Int) ≤ (k : Int) := by omega
   have w3 : IntKind.i64.wrap ((k : Int) + 1) = (k : Int) + 1 := by rw [IntKind.wrap_i64]; omega
   clear hc HH
   go_upto_region 5 with (first | refine wpList_load_mid rfl 43 (.tmp 14) rfl b (o + k * 24) (by simp [Act.eval]) cs _ HR.out Tryz.underlying43 rfl HZ.out.1 ?_ | refine wpList_store_row rfl 43 (.tmp 8) (.tmp 15) rfl wr.heap.size cs.toArray rfl rfl 43 _ (heap_alloc_new wr _) HZ.out.2.1 HZ.out.2.2.1 HZ.out.2.2.2 ?_)
   rw [World.setRow_alloc_new]
   have V := VAt.alloc wr 43 cs.toArray
   have G2 := d3 G (World.grownBy_alloc wr (.cells cs.toArray 43) none)
   generalize wr.alloc (.cells cs.toArray 43) = w2 at *
   generalize wr.heap.size = B at *
   clear HR G
   go_wp2_with (refine wpList_load_row rfl 43 (.tmp 8) rfl B rfl 43 cs.toArray (0, 0) _ V Tryz.underlying43 rfl HZ.out.2.1 ?_)
   refine (HW.out _ (HT.out.kept G2)).mono ?_
   rintro e w4 ⟨rfl, K4⟩
   have G4 := d3 G2 K4
   clear K4 G2 V HW
   by_cases hov : 3000 < q + s1
   ·have HF : Hid (U5 0 0 t = some k) := by show _ = _; rw [HN.out, if_pos hov]
    have e1 : decide ((3000 : Int) < (q : Int) + (s1 : Int)) = true := decide_eq_true (by omega)
    clear hov HN
    go_wp2
    go_ret2
    exact ⟨by rw [← HE.out, HF.out]; rfl, G4⟩
   ·have HF : Hid (U5 0 0 t = U5 (q + s1) (k + 1) (t.drop (k + 1))) := by show _ = _; rw [HN.out, if_neg hov]
    have e1 : decide ((3000 : Int) < (q : Int) + (s1 : Int)) = false := decide_eq_false (by omega)
    have hq2 : q + s1 ≤ 3000 := by omega
    clear hov HN
    go_wp2
    go_roundw
    case rel => exact ⟨k + 1, q + s1, by omega, hq2, by simp, by go_num, HF, G4⟩
    case measure => simp [intOf]; omega
  ·have HF : Hid (U5 0 0 t = none) := by
    have := HH.out
    rw [List.drop_eq_nil_of_le (by omega)] at this
    exact this
   go_wp2
   go_ret2
   exact ⟨by rw [← HE.out, HF.out]; rfl, G⟩
theorem a1L {P : Program} {d : Nat} {xs ys : Array Value} {w : World} {f : Field} {fs : List Field} {a b : Value} {r : Bool} (hn : f.name ≠ "_") (h1 : (part f.type xs f.offset).run P w = .ok a w) (h2 : (part f.type ys f.offset).run P w = .ok b w) (h3 : (Op.equalIn d f.type a b).run P w = .ok r w) :
  (Op.eqFields d xs ys (f :: fs)).run P w = if r = true then (Op.eqFields d xs ys fs).run P w else .ok false w := by
 simp only [Op.eqFields]
 rw [if_pos hn]
 simp only [Sem.run_bind, h1, h2, h3, Result.andThen_ok]
 cases r <;> rfl
theorem aH7 : (Tryz.prog.fieldsOf 43).toList = [{ name := "Kind", type := 3, offset := 0, embedded := false, tag := "", pkgPath := "", byteOffset := 0 }, { name := "Op", type := 3, offset := 1, embedded := false, tag := "", pkgPath := "", byteOffset := 8 }, { name := "N", type := 40, offset := 2, embedded := false, tag := "", pkgPath := "", byteOffset := 16 }, { name := "M", type := 40, offset := 3, embedded := false, tag := "", pkgPath := "", byteOffset := 20 }, { name := "Size", type := 3, offset := 4, embedded := false, tag := "", pkgPath := "", byteOffset := 24 }, { name := "Of", type := 3, offset := 5, embedded := false, tag := "", pkgPath := "", byteOffset := 32 }, { name := "Side", type := 3, offset := 6, embedded := false, tag := "", pkgPath := "", byteOffset := 40 }, { name := "Addr", type := 41, offset := 7, embedded := false, tag := "", pkgPath := "", byteOffset := 48 }, { name := "Bits", type := 3, offset := 23, embedded := false, tag := "", pkgPath := "", byteOffset := 64 }] := by kernel_rfl
theorem a36 (d : Nat) (a b : Int) (w : World) : (Op.equalIn (d + 1) 3 (.int .i64 a) (.int .i64 b)).run Tryz.prog w = .ok (decide (a = b)) w := by
 rw [run_equalIn_int w d _ _ .i64 _ _ Tryz.underlying3]
 by_cases h : a = b <;> simp [h]
theorem a8q (d : Nat) (a b : Nat) (w : World) : (Op.equalIn (d + 1) 40 (.int .u32 (a : Int)) (.int .u32 (b : Int))).run Tryz.prog w = .ok (decide (a = b)) w := by
 rw [run_equalIn_int w d _ _ .u32 _ _ Tryz.underlying40]
 by_cases h : a = b
 ·simp [h]
 ·have : ¬ (a : Int) = (b : Int) := by omega
  rw [decide_eq_false h, show ((a : Int) == (b : Int)) = false by simpa using this]
theorem ar0 {P : Program} {t e : TypeId} {n : Nat} {i : TypeInfo} (d : Nat) (hu : P.underlying t = some (.array n e)) (hi : P.info? e = some i) (he : P.underlying e = some (.int .u8)) (hk : P.plainKey e = true) (hc : P.cellsOf e = 1) (xs ys : List UInt8) (hx : xs.length = n) (hy : ys.length = n) (w : World) :
  (Op.equalIn (d + 2) t (.agg (xs.map bv).toArray) (.agg (ys.map bv).toArray)).run P w = .ok (decide (xs = ys)) w := by
 rw [run_equalIn_array w (d + 1) _ _ hu hi, hc, List.range_eq_range', a4L d e he hk xs ys w (by omega) n 0 (by omega)]
 rfl
theorem aH4 (x y : Ng) (w : World) : (Op.equalIn 10000 43 (.agg x.cells.toArray) (.agg y.cells.toArray)).run Tryz.prog w = .ok (a2e x y) w := by
 obtain ⟨i0, hi, -⟩ := info_parts a1i
 rw [show (10000 : Nat) = 9999 + 1 from rfl, run_equalIn_struct w 9999 _ _ _ (by kernel_rfl) (by kernel_rfl), aH7]
 rw [a1L (a := .int .i64 x.kind) (b := .int .i64 y.kind) (by decide) (by kernel_rfl) (by kernel_rfl) (a36 9998 _ _ w)]
 rw [a1L (a := .int .i64 x.op) (b := .int .i64 y.op) (by decide) (by kernel_rfl) (by kernel_rfl) (a36 9998 _ _ w)]
 rw [a1L (a := .int .u32 (x.n : Int)) (b := .int .u32 (y.n : Int)) (by decide) (by kernel_rfl) (by kernel_rfl) (a8q 9998 _ _ w)]
 rw [a1L (a := .int .u32 (x.m : Int)) (b := .int .u32 (y.m : Int)) (by decide) (by kernel_rfl) (by kernel_rfl) (a8q 9998 _ _ w)]
 rw [a1L (a := .int .i64 x.size) (b := .int .i64 y.size) (by decide) (by kernel_rfl) (by kernel_rfl) (a36 9998 _ _ w)]
 rw [a1L (a := .int .i64 x.of) (b := .int .i64 y.of) (by decide) (by kernel_rfl) (by kernel_rfl) (a36 9998 _ _ w)]
 rw [a1L (a := .int .i64 x.side) (b := .int .i64 y.side) (by decide) (by kernel_rfl) (by kernel_rfl) (a36 9998 _ _ w)]
 rw [a1L (a := .agg ((l0 x).map bv).toArray) (b := .agg ((l0 y).map bv).toArray) (by decide) (by kernel_rfl) (by kernel_rfl) (ar0 9997 Tryz.underlying41 hi Tryz.underlying5 (by kernel_rfl) (by kernel_rfl) (l0 x) (l0 y) rfl rfl w)]
 rw [a1L (a := .int .i64 x.bits) (b := .int .i64 y.bits) (by decide) (by kernel_rfl) (by kernel_rfl) (a36 9998 _ _ w)]
 have hn : (Op.eqFields 9999 x.cells.toArray y.cells.toArray []).run Tryz.prog w = .ok true w := rfl
 rw [hn]
 unfold a2e
 generalize decide (x.kind = y.kind) = b0
 generalize decide (x.op = y.op) = b1
 generalize decide (x.n = y.n) = b2
 generalize decide (x.m = y.m) = b3
 generalize decide (x.size = y.size) = b4
 generalize decide (x.of = y.of) = b5
 generalize decide (x.side = y.side) = b6
 generalize decide (l0 x = l0 y) = b7
 generalize decide (x.bits = y.bits) = b8
 cases b0 <;> cases b1 <;> cases b2 <;> cases b3 <;> cases b4 <;> cases b5 <;> cases b6 <;> cases b7 <;> cases b8 <;> rfl
theorem az9 (b : Bool) (w : World) : Calls Tryz.prog 116 #[.int .i64 (if b = true then 0 else 1)] w fun e w' => e = .returned (.int .i64 (if b = true then 121 else 122)) ∧ w = w' := by
 cases b with
 | true =>
  go_enter Tryz.func116, Tryz.ntmps116
  go_wp2
  go_ret
  exact ⟨rfl, rfl⟩
 | false =>
  go_enter Tryz.func116, Tryz.ntmps116
  go_wp2
  go_ret
  exact ⟨rfl, rfl⟩
theorem a86 (R : RT) (k : Nat) (W : World) : (Instr.box 77 (.agg (B5 R k).toArray)).run Tryz.prog W = .ok (.pointer (some ⟨W.heap.size, 0, none⟩)) (W.alloc (.cells (B5 R k).toArray 77)) := by kernel_rfl
theorem ae7 (w : World) (cs xs : Array Value) : VAt ((w.alloc (.cells cs 77)).alloc (.cells xs 43)) w.heap.size 77 cs ∧ VAt ((w.alloc (.cells cs 77)).alloc (.cells xs 43)) (w.heap.size + 1) 43 xs ∧ w.grownBy ((w.alloc (.cells cs 77)).alloc (.cells xs 43)) none := by
 have K := World.grownBy_alloc (w.alloc (.cells cs 77)) (.cells xs 43) none
 have h := VAt.alloc (w.alloc (.cells cs 77)) 43 xs
 rw [show (w.alloc (.cells cs 77)).heap.size = w.heap.size + 1 by simp] at h
 exact ⟨(VAt.alloc w _ cs).kept K, h, d3 (World.grownBy_alloc w _ none) K⟩
theorem aq3 (x : Ng) (ps : List Pt) (ao : Option Addr) (cap : Nat) (w : World) (C : CV w ao (z6 ptC ps)) (ha : arG x.kind = some ps.length) : Calls Tryz.prog 117 #[.agg x.cells.toArray, .slice ao ps.length cap] w fun e w' => e = .returned (.bool (a0f x ps)) ∧ w.grownBy w' none := by
 obtain ⟨E, hE⟩ : ∃ E, a0f x ps = E := ⟨_, rfl⟩
 rw [hE]
 have HE : Hid (a0f x ps = E) := hE
 clear hE
 have HBX := z8 x
 have h1 := NB.alloc w x
 have G1 := World.grownBy_alloc w (.cells x.cells.toArray 43) none
 have c0 := h1.kind
 have c1 := h1.op
 have HC : Hid (CV (w.alloc (.cells x.cells.toArray 43)) ao (z6 ptC ps)) := C.keptNone G1
 obtain ⟨X, hX⟩ : ∃ X, x.cells.toArray = X := ⟨_, rfl⟩
 rw [hX] at HBX c0 c1 G1 HC ⊢
 have CD := a8o x.op
 clear h1 C
 by_cases q : x.kind = 4
 ·have e1 : (x.kind != 4) = false := by simpa using q
  have hl : ps.length = 2 := by rw [q] at ha; exact (Option.some.inj ha).symm
  have HQ : Hid (x.kind = 4) := q
  clear q ha
  match ps, hl with
  | [p0, p1], _ =>
  rw [show [p0, p1].length = 2 from rfl]
  cases hd : Z9 x.op with
  | false =>
   have HD : Hid (Z9 x.op = false) := hd
   rw [hd] at CD
   clear hd
   go_enter Tryz.func117, Tryz.ntmps117
   go_upto_region 1 with fail
   generalize w.alloc (.cells X 43) = w1 at *
   generalize w.heap.size = B at c0 c1 ⊢
   clear HBX hX
   go_wp2_with fail
   refine (CD _).mono ?_
   rintro e w' ⟨rfl, rfl⟩
   go_wp2
   go_ret
   exact ⟨a0a (by rw [← HE.out]; unfold a0f; rw [HD.out, Bool.and_false]; rfl), G1⟩
  | true =>
   have HD : Hid (Z9 x.op = true) := hd
   rw [hd] at CD
   clear hd
   obtain ⟨b, of, rfl, hc⟩ := HC.out.pts a2a (k := 1) (by simp)
   have HR : Hid (World.rangeAt _ b (of + 1 * 3) (ptC p1)) := hc 1 (by simp)
   have HSZ : Hid ((Tryz.prog.info? 58).map (·.size) = some (ptC p1).length ∧ (Tryz.prog.info? 58).map (·.size) = some (ptC p1).toArray.size ∧ 3 = (ptC p1).toArray.size ∧ (ptC p1).toArray.all (·.oneCell') = true) := ⟨by kernel_rfl, by kernel_rfl, rfl, by rw [List.all_toArray, List.all_eq_true]; exact a5b p1⟩
   have HP : Hid ((ptC p1).toArray[1]? = some (.bool p1.fixed) ∧ (ptC p1).toArray[2]? = some (.int .u32 (p1.val : Int))) := ⟨rfl, rfl⟩
   rw [Nat.one_mul] at HR
   clear hc HC
   go_enter Tryz.func117, Tryz.ntmps117
   go_upto_region 1 with fail
   generalize w.alloc (.cells X 43) = w1 at *
   generalize w.heap.size = B at c0 c1 ⊢
   clear HBX hX
   go_wp2_with fail
   refine (CD _).mono ?_
   rintro e w' ⟨rfl, rfl⟩
   have K2 := World.grownBy_alloc w1 (.cells (ptC p1).toArray 58) none
   have V2 := VAt.alloc w1 58 (ptC p1).toArray
   generalize ptC p1 = pc at *
   clear CD
   go_upto_region 4 with (first | refine wpList_load_mid rfl 58 (.tmp 16) rfl b (of + 3) (by simp [Act.eval]) pc _ HR.out Tryz.underlying58 rfl HSZ.out.1 ?_ | refine wpList_store_row rfl 58 (.tmp 5) (.tmp 17) rfl w1.heap.size pc.toArray rfl rfl 58 _ (heap_alloc_new w1 _) HSZ.out.2.1 HSZ.out.2.2.1 HSZ.out.2.2.2 ?_)
   rw [World.setRow_alloc_new]
   have G2 := d3 G1 K2
   generalize w1.alloc (.cells pc.toArray 58) = w2 at *
   generalize w1.heap.size = D at *
   have d1 : w2.cell? ⟨D, 1, none⟩ = some (.bool p1.fixed) := by rw [V2.cell 1]; exact HP.out.1
   have d2 : w2.cell? ⟨D, 2, none⟩ = some (.int .u32 (p1.val : Int)) := by rw [V2.cell 2]; exact HP.out.2
   clear HR HP HSZ V2 G1 K2 c0 c1
   cases hf : p1.fixed with
   | false =>
    rw [hf] at d1
    have HF : Hid (p1.fixed = false) := hf
    clear hf
    go_wp2
    go_ret
    exact ⟨a0a (by rw [← HE.out]; unfold a0f; simp [HF.out]), G2⟩
   | true =>
    rw [hf] at d1
    have HF : Hid (p1.fixed = true) := hf
    clear hf
    by_cases hv : p1.val = 0
    ·have e5 : ((p1.val : Int) == 0) = true := by rw [hv]; rfl
     have HV : Hid (p1.val = 0) := hv
     clear hv
     generalize (p1.val : Int) = vi at *
     go_wp2
     go_ret
     exact ⟨a0a (by rw [← HE.out]; unfold a0f; simp [HF.out, HV.out, HQ.out, HD.out]), G2⟩
    ·have e5 : ((p1.val : Int) == 0) = false := by simpa using hv
     have HV : Hid (¬ p1.val = 0) := hv
     clear hv
     generalize (p1.val : Int) = vi at *
     go_wp2
     go_ret
     exact ⟨a0a (by rw [← HE.out]; unfold a0f; simp [HF.out, HV.out]), G2⟩
 ·have e1 : (x.kind != 4) = true := by simpa using q
  have HQ : Hid (¬ x.kind = 4) := q
  clear q ha CD
  generalize ps.length = pl at *
  go_enter Tryz.func117, Tryz.ntmps117
  go_upto_region 1 with fail
  generalize w.alloc (.cells X 43) = w1 at *
  generalize w.heap.size = B at c0 c1 ⊢
  clear HBX hX
  go_wp2
  go_ret
  exact ⟨a0a (by rw [← HE.out]; unfold a0f; rw [decide_eq_false HQ.out]; rfl), G1⟩

end Go.Proofs.YtklipelnjgpnjaaGreatDoor
