/-
  Package types as landed: the functions of a rule, by the kind; ruleOf; weights. Package types as landed: weights. Package types as landed: Weight, tooHeavy.
-/
import Derived.Test.YtnojpepjloceoaaGreatTyR
import Derived.Laws.EntriesVeiled
import Derived.Shelf.Abstract
namespace Go.Proofs.YtnojpepjloceoaaGreat
open Go.RowKit
set_option maxRecDepth 100000

theorem useN_enters (k : Nat) (h1 : 1 ≤ k) (h2 : k ≤ 16) : ∀ args w, (callFunc (useN k) args).run Tryz.prog w = .ok (.enter (useN k) args) w := by
  rcases sixteen h1 h2 with rfl | rfl | rfl | rfl | rfl | rfl | rfl | rfl | rfl | rfl | rfl | rfl | rfl | rfl | rfl | rfl
  · exact enters_of Tryz.func69 (by kernel_rfl) rfl
  · exact enters_of Tryz.func73 (by kernel_rfl) rfl
  · exact enters_of Tryz.func75 (by kernel_rfl) rfl
  · exact enters_of Tryz.func78 (by kernel_rfl) rfl
  · exact enters_of Tryz.func73 (by kernel_rfl) rfl
  · exact enters_of Tryz.func78 (by kernel_rfl) rfl
  · exact enters_of Tryz.func73 (by kernel_rfl) rfl
  · exact enters_of Tryz.func73 (by kernel_rfl) rfl
  · exact enters_of Tryz.func73 (by kernel_rfl) rfl
  · exact enters_of Tryz.func83 (by kernel_rfl) rfl
  · exact enters_of Tryz.func85 (by kernel_rfl) rfl
  · exact enters_of Tryz.func69 (by kernel_rfl) rfl
  · exact enters_of Tryz.func88 (by kernel_rfl) rfl
  · exact enters_of Tryz.func92 (by kernel_rfl) rfl
  · exact enters_of Tryz.func94 (by kernel_rfl) rfl
  · exact enters_of Tryz.func96 (by kernel_rfl) rfl
theorem mayN_enters (k : Nat) (h1 : 1 ≤ k) (h2 : k ≤ 16) : ∀ args w, (callFunc (mayN k) args).run Tryz.prog w = .ok (.enter (mayN k) args) w := by
  rcases sixteen h1 h2 with rfl | rfl | rfl | rfl | rfl | rfl | rfl | rfl | rfl | rfl | rfl | rfl | rfl | rfl | rfl | rfl
  · exact enters_of Tryz.func70 (by kernel_rfl) rfl
  · exact enters_of Tryz.func70 (by kernel_rfl) rfl
  · exact enters_of Tryz.func76 (by kernel_rfl) rfl
  · exact enters_of Tryz.func79 (by kernel_rfl) rfl
  · exact enters_of Tryz.func70 (by kernel_rfl) rfl
  · exact enters_of Tryz.func82 (by kernel_rfl) rfl
  · exact enters_of Tryz.func70 (by kernel_rfl) rfl
  · exact enters_of Tryz.func70 (by kernel_rfl) rfl
  · exact enters_of Tryz.func70 (by kernel_rfl) rfl
  · exact enters_of Tryz.func84 (by kernel_rfl) rfl
  · exact enters_of Tryz.func86 (by kernel_rfl) rfl
  · exact enters_of Tryz.func70 (by kernel_rfl) rfl
  · exact enters_of Tryz.func89 (by kernel_rfl) rfl
  · exact enters_of Tryz.func93 (by kernel_rfl) rfl
  · exact enters_of Tryz.func93 (by kernel_rfl) rfl
  · exact enters_of Tryz.func97 (by kernel_rfl) rfl
theorem bndN_enters (k : Nat) (h1 : 1 ≤ k) (h2 : k ≤ 16) : ∀ args w, (callFunc (bndN k) args).run Tryz.prog w = .ok (.enter (bndN k) args) w := by
  rcases sixteen h1 h2 with rfl | rfl | rfl | rfl | rfl | rfl | rfl | rfl | rfl | rfl | rfl | rfl | rfl | rfl | rfl | rfl
  · exact enters_of Tryz.func71 (by kernel_rfl) rfl
  · exact enters_of Tryz.func71 (by kernel_rfl) rfl
  · exact enters_of Tryz.func77 (by kernel_rfl) rfl
  · exact enters_of Tryz.func71 (by kernel_rfl) rfl
  · exact enters_of Tryz.func71 (by kernel_rfl) rfl
  · exact enters_of Tryz.func71 (by kernel_rfl) rfl
  · exact enters_of Tryz.func71 (by kernel_rfl) rfl
  · exact enters_of Tryz.func71 (by kernel_rfl) rfl
  · exact enters_of Tryz.func71 (by kernel_rfl) rfl
  · exact enters_of Tryz.func71 (by kernel_rfl) rfl
  · exact enters_of Tryz.func71 (by kernel_rfl) rfl
  · exact enters_of Tryz.func87 (by kernel_rfl) rfl
  · exact enters_of Tryz.func90 (by kernel_rfl) rfl
  · exact enters_of Tryz.func71 (by kernel_rfl) rfl
  · exact enters_of Tryz.func95 (by kernel_rfl) rfl
  · exact enters_of Tryz.func98 (by kernel_rfl) rfl
theorem valN_enters (k : Nat) (h1 : 1 ≤ k) (h2 : k ≤ 16) : ∀ args w, (callFunc (valN k) args).run Tryz.prog w = .ok (.enter (valN k) args) w := by
  rcases sixteen h1 h2 with rfl | rfl | rfl | rfl | rfl | rfl | rfl | rfl | rfl | rfl | rfl | rfl | rfl | rfl | rfl | rfl
  · exact enters_of Tryz.func72 (by kernel_rfl) rfl
  · exact enters_of Tryz.func74 (by kernel_rfl) rfl
  · exact enters_of Tryz.func74 (by kernel_rfl) rfl
  · exact enters_of Tryz.func80 (by kernel_rfl) rfl
  · exact enters_of Tryz.func81 (by kernel_rfl) rfl
  · exact enters_of Tryz.func74 (by kernel_rfl) rfl
  · exact enters_of Tryz.func74 (by kernel_rfl) rfl
  · exact enters_of Tryz.func74 (by kernel_rfl) rfl
  · exact enters_of Tryz.func74 (by kernel_rfl) rfl
  · exact enters_of Tryz.func74 (by kernel_rfl) rfl
  · exact enters_of Tryz.func74 (by kernel_rfl) rfl
  · exact enters_of Tryz.func74 (by kernel_rfl) rfl
  · exact enters_of Tryz.func74 (by kernel_rfl) rfl
  · exact enters_of Tryz.func74 (by kernel_rfl) rfl
  · exact enters_of Tryz.func74 (by kernel_rfl) rfl
  · exact enters_of Tryz.func74 (by kernel_rfl) rfl

theorem use_any (x : Ng) (k : Nat) (h1 : 1 ≤ k) (h2 : k ≤ 16) (hk : x.kind = k) (w : World) : Calls Tryz.prog (useN k) #[.agg x.cells.toArray] w fun e w' => e = .returned (.agg (useG x).cells.toArray) ∧ w.grownBy w' none := by
  rcases sixteen h1 h2 with rfl | rfl | rfl | rfl | rfl | rfl | rfl | rfl | rfl | rfl | rfl | rfl | rfl | rfl | rfl | rfl
  · exact usesN_any x w (by omega)
  · exact usesNothing_any x w (by omega)
  · exact usesOfAndSize_any x w (by omega)
  · exact usesOp_any x w (by omega)
  · exact usesNothing_any x w (by omega)
  · exact usesOp_any x w (by omega)
  · exact usesNothing_any x w (by omega)
  · exact usesNothing_any x w (by omega)
  · exact usesNothing_any x w (by omega)
  · exact usesSide_any x w (by omega)
  · exact usesOf_any x w (by omega)
  · exact usesN_any x w (by omega)
  · exact usesOfAndN_any x w (by omega)
  · exact usesAddress_any x w (by omega)
  · exact usesNet_any x w (by omega)
  · exact usesPorts_any x w (by omega)

theorem may_any (x : Ng) (k : Nat) (h1 : 1 ≤ k) (h2 : k ≤ 16) (hk : x.kind = k) (w : World) : Calls Tryz.prog (mayN k) #[.agg x.cells.toArray] w fun e w' => e = .returned (.bool (mayG x)) ∧ w.grownBy w' none := by
  rcases sixteen h1 h2 with rfl | rfl | rfl | rfl | rfl | rfl | rfl | rfl | rfl | rfl | rfl | rfl | rfl | rfl | rfl | rfl
  · rw [show mayG x = true by unfold mayG; rw [hk]; rfl]; exact always_any x w
  · rw [show mayG x = true by unfold mayG; rw [hk]; rfl]; exact always_any x w
  · rw [show mayG x = inG x.of 1 12 by unfold mayG; rw [hk]; rfl]; exact mayLoad_any x w
  · rw [show mayG x = inG x.op 1 10 by unfold mayG; rw [hk]; rfl]; exact mayReckon_any x w
  · rw [show mayG x = true by unfold mayG; rw [hk]; rfl]; exact always_any x w
  · rw [show mayG x = inG x.op 1 6 by unfold mayG; rw [hk]; rfl]; exact mayCompare_any x w
  · rw [show mayG x = true by unfold mayG; rw [hk]; rfl]; exact always_any x w
  · rw [show mayG x = true by unfold mayG; rw [hk]; rfl]; exact always_any x w
  · rw [show mayG x = true by unfold mayG; rw [hk]; rfl]; exact always_any x w
  · rw [show mayG x = inG x.side 1 2 by unfold mayG; rw [hk]; rfl]; exact mayGo_any x w
  · rw [show mayG x = inG x.of 2 13 by unfold mayG; rw [hk]; rfl]; exact mayName_any x w
  · rw [show mayG x = true by unfold mayG; rw [hk]; rfl]; exact always_any x w
  · rw [show mayG x = inG x.of 2 3 by unfold mayG; rw [hk]; rfl]; exact mayCarry_any x w
  · rw [show mayG x = hostG x by unfold mayG; rw [hk]; rfl]; exact mayAddress_any x w
  · rw [show mayG x = hostG x by unfold mayG; rw [hk]; rfl]; exact mayAddress_any x w
  · rw [show mayG x = ((x.of == 0 || inG x.of 4 5) && inG x.side 0 2) by unfold mayG; rw [hk]; rfl]; exact mayPort_any x w

theorem bnd_any (x : Ng) (k : Nat) (h1 : 1 ≤ k) (h2 : k ≤ 16) (hk : x.kind = k) (w : World) : Calls Tryz.prog (bndN k) #[.agg x.cells.toArray] w fun e w' => e = .returned (.int .i64 (rangeE x)) ∧ w.grownBy w' none := by
  rcases sixteen h1 h2 with rfl | rfl | rfl | rfl | rfl | rfl | rfl | rfl | rfl | rfl | rfl | rfl | rfl | rfl | rfl | rfl
  · rw [show rangeE x = 0 by unfold rangeE; rw [hk]; rfl]; exact unbounded_any x w
  · rw [show rangeE x = 0 by unfold rangeE; rw [hk]; rfl]; exact unbounded_any x w
  · rw [show rangeE x = (if x.size = 1 ∨ x.size = 2 ∨ x.size = 4 then 0 else 124) by unfold rangeE; rw [hk]; rfl]; exact boundsOfLoad_any x w
  · rw [show rangeE x = 0 by unfold rangeE; rw [hk]; rfl]; exact unbounded_any x w
  · rw [show rangeE x = 0 by unfold rangeE; rw [hk]; rfl]; exact unbounded_any x w
  · rw [show rangeE x = 0 by unfold rangeE; rw [hk]; rfl]; exact unbounded_any x w
  · rw [show rangeE x = 0 by unfold rangeE; rw [hk]; rfl]; exact unbounded_any x w
  · rw [show rangeE x = 0 by unfold rangeE; rw [hk]; rfl]; exact unbounded_any x w
  · rw [show rangeE x = 0 by unfold rangeE; rw [hk]; rfl]; exact unbounded_any x w
  · rw [show rangeE x = 0 by unfold rangeE; rw [hk]; rfl]; exact unbounded_any x w
  · rw [show rangeE x = 0 by unfold rangeE; rw [hk]; rfl]; exact unbounded_any x w
  · rw [show rangeE x = (if x.n ≤ 65535 then 0 else 124) by unfold rangeE; rw [hk]; rfl]; exact boundsOfProto_any x w
  · rw [show rangeE x = (if x.n ≤ 255 then 0 else 124) by unfold rangeE; rw [hk]; rfl]; exact boundsOfNext_any x w
  · rw [show rangeE x = 0 by unfold rangeE; rw [hk]; rfl]; exact unbounded_any x w
  · exact boundsOfNet_any x w hk
  · rw [show rangeE x = (if x.n ≤ x.m ∧ x.m ≤ 65535 then 0 else 124) by unfold rangeE; rw [hk]; rfl]; exact boundsOfPort_any x w

theorem val_any (x : Ng) (ps : List Pt) (k : Nat) (h1 : 1 ≤ k) (h2 : k ≤ 16) (hk : x.kind = k) (ha : arG x.kind = some ps.length) (hf : formG x = true) (hz : zeroE x ps = false) (hx : ps.all (·.fixed) = true) (hv : ∀ p ∈ ps, p.val ≤ 4294967295)
    (ao : Option Addr) (cap : Nat) (w : World) (C : CV w ao (flat3 ptC ps)) : Calls Tryz.prog (valN k) #[.agg x.cells.toArray, .slice ao ps.length cap] w fun e w' => e = .returned (valR x ps) ∧ w.grownBy w' none := by
  rcases sixteen h1 h2 with rfl | rfl | rfl | rfl | rfl | rfl | rfl | rfl | rfl | rfl | rfl | rfl | rfl | rfl | rfl | rfl
  · exact itself_any x ps _ w hk
  · exact unknown_any x ps _ w ⟨by omega, by omega, by omega⟩
  · exact unknown_any x ps _ w ⟨by omega, by omega, by omega⟩
  · rw [hk] at ha
    have hl : ps.length = 2 := (Option.some.inj ha).symm
    match ps, hl with
    | [p, q], _ =>
      have hm : mayG x = true := by unfold formG at hf; simp only [Bool.and_eq_true] at hf; exact hf.2
      rw [show mayG x = inG x.op 1 10 by unfold mayG; rw [hk]; rfl] at hm
      have ho : 1 ≤ x.op ∧ x.op ≤ 10 := by unfold inG at hm; simpa using hm
      refine reckoned_any x p q ao cap w C (hv p (by simp)) (hv q (by simp)) hk ho (fun hd h0 => ?_)
      have hq : q.fixed = true := by simp at hx; exact hx.2
      have : zeroE x [p, q] = true := by unfold zeroE; rw [hk, hd]; simp [hq, h0]
      rw [this] at hz
      cases hz
  · rw [hk] at ha
    have hl : ps.length = 1 := (Option.some.inj ha).symm
    match ps, hl with
    | [p], _ => exact negated_any x p ao cap w C (hv p (by simp)) hk
  · exact unknown_any x ps _ w ⟨by omega, by omega, by omega⟩
  · exact unknown_any x ps _ w ⟨by omega, by omega, by omega⟩
  · exact unknown_any x ps _ w ⟨by omega, by omega, by omega⟩
  · exact unknown_any x ps _ w ⟨by omega, by omega, by omega⟩
  · exact unknown_any x ps _ w ⟨by omega, by omega, by omega⟩
  · exact unknown_any x ps _ w ⟨by omega, by omega, by omega⟩
  · exact unknown_any x ps _ w ⟨by omega, by omega, by omega⟩
  · exact unknown_any x ps _ w ⟨by omega, by omega, by omega⟩
  · exact unknown_any x ps _ w ⟨by omega, by omega, by omega⟩
  · exact unknown_any x ps _ w ⟨by omega, by omega, by omega⟩
  · exact unknown_any x ps _ w ⟨by omega, by omega, by omega⟩

theorem TabT.wone {R : RT} {w : World} (h : TabT R w) {k : Nat} (h1 : 1 ≤ k) (h2 : k ≤ 16) : (R.wv k).oneCell' = true := by
  by_cases h3 : k = 14 ∨ k = 15
  · obtain ⟨b, c, e, -⟩ := h.wg2 k h3
    rw [e]; rfl
  · obtain ⟨b, e, -⟩ := h.wgt k h1 h2 (by omega) (by omega)
    rw [e]; rfl
theorem ruleC_all {R : RT} {w : World} (h : TabT R w) {k : Nat} (h1 : 1 ≤ k) (h2 : k ≤ 16) : (ruleC R k).toArray.all (·.oneCell') = true := by
  have h0 := h.wone h1 h2
  have h3 : (takesR R k).oneCell' = true := by
    unfold takesR
    repeat' split
    all_goals rfl
  rw [List.all_toArray, List.all_eq_true]
  intro u hu
  simp only [ruleC, List.mem_cons, List.not_mem_nil, or_false] at hu
  rcases hu with rfl | rfl | rfl | rfl | rfl | rfl | rfl
  · exact h3
  · rfl
  · exact h0
  · rfl
  · rfl
  · rfl
  · rfl
theorem size_rule : (Tryz.prog.info? 120).map (·.size) = some 7 := by kernel_rfl
def rule0 : List Value := [.slice none 0 0, .int .i64 0, .nilFunc, .nilFunc, .nilFunc, .nilFunc, .nilFunc]
theorem rule0_all : rule0.toArray.all (·.oneCell') = true := by simp [rule0, Value.oneCell']

set_option maxHeartbeats 1000000 in
theorem ruleOf_no (R : RT) (x : Int) (hx : arG x = none) (w : World) : Calls Tryz.prog 99 #[.slice (some ⟨R.g, 0, none⟩) 17 17, .int .i64 x] w fun e w' => e = .returned (.tuple #[.agg rule0.toArray, .bool false]) ∧ w.grownBy w' none := by
  have hn := arG_none.1 hx
  have V := VAt.alloc w 120 rule0.toArray
  have G := World.grownBy_alloc w (.cells rule0.toArray 120) none
  have hge : Hid (w.heap.size ≤ w.heap.size) := Nat.le_refl _
  have HBD : ∀ W : World, (Instr.build 120 #[]).run Tryz.prog W = .ok (.agg rule0.toArray) W := fun W => by kernel_rfl
  by_cases h1 : x < 1
  · have e1 : decide (x < 1) = true := decide_eq_true h1
    clear hn h1 hx
    go_enter Tryz.func99, Tryz.ntmps99
    go_upto_region 1 with fail
    rw [show (#[.slice none 0 0, .int .i64 0, .nilFunc, .nilFunc, .nilFunc, .nilFunc, .nilFunc] : Array Value) = rule0.toArray from rfl]
    generalize w.alloc (.cells rule0.toArray 120) = w1 at *
    obtain ⟨B, hB⟩ : ∃ B, w.heap.size = B := ⟨_, rfl⟩
    have HG : Hid (w.grownBy (w1.setRow B rule0.toArray) none) := vgrown_setRow G B _ (.inr (by omega))
    rw [hB] at V ⊢
    clear hB hge G
    go_wp2_with (refine wpList_store_row rfl 120 (.tmp 4) (.tmp 14) rfl B rule0.toArray rfl rfl 120 _ V size_rule rfl rule0_all ?_)
    refine bodyPost_ret (ret_row rfl _ _ B rule0.toArray _ rfl (V.setRow _) Tryz.underlying120 rfl size_rule) rfl ?_
    exact ⟨rfl, HG.out⟩
  · have e1 : decide (x < 1) = false := decide_eq_false h1
    have e2 : decide ((17 : Int) ≤ x) = true := decide_eq_true (by omega)
    clear hn h1 hx
    go_enter Tryz.func99, Tryz.ntmps99
    go_upto_region 1 with fail
    rw [show (#[.slice none 0 0, .int .i64 0, .nilFunc, .nilFunc, .nilFunc, .nilFunc, .nilFunc] : Array Value) = rule0.toArray from rfl]
    generalize w.alloc (.cells rule0.toArray 120) = w1 at *
    obtain ⟨B, hB⟩ : ∃ B, w.heap.size = B := ⟨_, rfl⟩
    have HG : Hid (w.grownBy (w1.setRow B rule0.toArray) none) := vgrown_setRow G B _ (.inr (by omega))
    rw [hB] at V ⊢
    clear hB hge G
    go_wp2_with (refine wpList_store_row rfl 120 (.tmp 4) (.tmp 14) rfl B rule0.toArray rfl rfl 120 _ V size_rule rfl rule0_all ?_)
    refine bodyPost_ret (ret_row rfl _ _ B rule0.toArray _ rfl (V.setRow _) Tryz.underlying120 rfl size_rule) rfl ?_
    exact ⟨rfl, HG.out⟩

set_option maxHeartbeats 1000000 in
theorem ruleOf_ok (R : RT) (k : Nat) (h1 : 1 ≤ k) (h2 : k ≤ 16) (w : World) (T : TabT R w) : Calls Tryz.prog 99 #[.slice (some ⟨R.g, 0, none⟩) 17 17, .int .i64 (k : Int)] w fun e w' => e = .returned (.tuple #[.agg (ruleC R k).toArray, .bool true]) ∧ w.grownBy w' none := by
  have V := VAt.alloc w 120 rule0.toArray
  have G := World.grownBy_alloc w (.cells rule0.toArray 120) none
  have HR : Hid ((w.alloc (.cells rule0.toArray 120)).rangeAt R.g (k * 7) (ruleC R k)) := (T.kept G).rows k h1 h2
  have HC : Hid ((Tryz.prog.info? 120).map (·.size) = some (ruleC R k).length ∧ (Tryz.prog.info? 120).map (·.size) = some (ruleC R k).toArray.size ∧ rule0.toArray.size = (ruleC R k).toArray.size ∧ (ruleC R k).toArray.all (·.oneCell') = true) := ⟨size_rule, size_rule, rfl, ruleC_all T h1 h2⟩
  obtain ⟨cs, hcs⟩ : ∃ cs, ruleC R k = cs := ⟨_, rfl⟩
  rw [hcs] at HR HC ⊢
  have e1 : decide ((k : Int) < 1) = false := decide_eq_false (by omega)
  have e2 : decide ((17 : Int) ≤ (k : Int)) = false := decide_eq_false (by omega)
  have z0 : (0 : Int) ≤ (k : Int) := by omega
  have z1 : (k : Int) < 17 := by omega
  clear hcs T h1 h2
  go_enter Tryz.func99, Tryz.ntmps99
  go_upto_region 1 with fail
  rw [show (#[.slice none 0 0, .int .i64 0, .nilFunc, .nilFunc, .nilFunc, .nilFunc, .nilFunc] : Array Value) = rule0.toArray from rfl]
  generalize w.alloc (.cells rule0.toArray 120) = w1 at *
  obtain ⟨B, hB⟩ : ∃ B, w.heap.size = B := ⟨_, rfl⟩
  have HG : Hid (w.grownBy (w1.setRow B cs.toArray) none) := vgrown_setRow G B _ (.inr (by omega))
  rw [hB] at V ⊢
  clear hB G
  go_wp2_with (first | refine wpList_load_mid rfl 120 (.tmp 17) rfl R.g (k * 7) (by simp [Act.eval]) cs _ HR.out Tryz.underlying120 rfl HC.out.1 ?_ | refine wpList_store_row rfl 120 (.tmp 4) (.tmp 18) rfl B cs.toArray rfl rfl 120 _ V HC.out.2.1 HC.out.2.2.1 HC.out.2.2.2 ?_)
  refine bodyPost_ret (ret_row rfl _ _ B cs.toArray _ rfl (V.setRow _) Tryz.underlying120 rfl HC.out.2.1) rfl ?_
  exact ⟨rfl, HG.out⟩

end Go.Proofs.YtnojpepjloceoaaGreat

namespace Go.Proofs.YtnojpepjloceoaaGreat
open Go.RowKit
set_option maxRecDepth 100000

set_option maxHeartbeats 400000 in
theorem wgt1_any (x : Ng) (b : Nat) (c : Int) (w : World) (hc : w.cell? ⟨b, 0, none⟩ = some (.int .i64 c)) : Calls Tryz.prog 118 #[.agg x.cells.toArray, .pointer (some ⟨b, 0, none⟩)] w fun e w' => e = .returned (.int .i64 c) ∧ w.grownBy w' none := by
  have HBX := box_ng x
  have h3 := World.grownBy_alloc w (.cells x.cells.toArray 37) none
  have c1 := h3.cell hc (by simp)
  obtain ⟨X, hX⟩ : ∃ X, x.cells.toArray = X := ⟨_, rfl⟩
  rw [hX] at HBX ⊢
  go_enter Tryz.func118, Tryz.ntmps118
  go_upto_region 1 with fail
  rw [← hX] at *
  generalize w.alloc (.cells x.cells.toArray 37) = w1 at *
  generalize w.heap.size = B at *
  clear HBX hX X hc
  go_wp2
  go_ret
  exact ⟨rfl, h3⟩

set_option maxHeartbeats 400000 in
theorem wgt2_any (x : Ng) (b g : Nat) (c d : Int) (w : World) (hc : w.cell? ⟨b, 0, none⟩ = some (.int .i64 c)) (hd : w.cell? ⟨g, 0, none⟩ = some (.int .i64 d)) : Calls Tryz.prog 123 #[.agg x.cells.toArray, .pointer (some ⟨g, 0, none⟩), .pointer (some ⟨b, 0, none⟩)] w fun e w' => e = .returned (.int .i64 (if x.of = 3 then d else c)) ∧ w.grownBy w' none := by
  obtain ⟨E, hE⟩ : ∃ E : Int, (if x.of = 3 then d else c) = E := ⟨_, rfl⟩
  rw [hE]
  have HE : Hid ((if x.of = 3 then d else c) = E) := hE
  clear hE
  have HBX := box_ng x
  have h1 := NB.alloc w x
  have h3 := World.grownBy_alloc w (.cells x.cells.toArray 37) none
  have c1 := h3.cell hc (by simp)
  have c2 := h3.cell hd (by simp)
  have c5 := h1.of
  obtain ⟨X, hX⟩ : ∃ X, x.cells.toArray = X := ⟨_, rfl⟩
  rw [hX] at HBX ⊢
  by_cases q : x.of = 3
  · have HQ : Hid (x.of = 3) := q
    have e1 : (x.of == 3) = true := by simpa using q
    clear q
    go_enter Tryz.func123, Tryz.ntmps123
    go_upto_region 1 with fail
    rw [← hX] at *
    generalize w.alloc (.cells x.cells.toArray 37) = w1 at *
    generalize w.heap.size = B at *
    clear HBX hX X hc hd h1
    go_wp2
    go_ret
    exact ⟨ret_int (by rw [← HE.out, if_pos HQ.out]), h3⟩
  · have HQ : Hid (¬ x.of = 3) := q
    have e1 : (x.of == 3) = false := by simpa using q
    clear q
    go_enter Tryz.func123, Tryz.ntmps123
    go_upto_region 1 with fail
    rw [← hX] at *
    generalize w.alloc (.cells x.cells.toArray 37) = w1 at *
    generalize w.heap.size = B at *
    clear HBX hX X hc hd h1
    go_wp2
    go_ret
    exact ⟨ret_int (by rw [← HE.out, if_neg HQ.out]), h3⟩

/-- The function of weights of a kind: its number and what it has caught. -/
theorem wgt_fn (x : Ng) {R : RT} {w : World} (T : TabT R w) (k : Nat) (h1 : 1 ≤ k) (h2 : k ≤ 16) (hk : x.kind = k) : ∃ fn lb, R.wv k = .func (.func fn) #[] lb ∧ (∀ args w, (callFunc fn args).run Tryz.prog w = .ok (.enter fn args) w) ∧
    ∀ W : World, w.grownBy W none → Calls Tryz.prog fn (#[.agg x.cells.toArray] ++ lb) W fun e w' => e = .returned (.int .i64 (weighG x : Int)) ∧ W.grownBy w' none := by
  by_cases h3 : k = 14 ∨ k = 15
  · obtain ⟨b, g, e, c1, c2⟩ := T.wg2 k h3
    refine ⟨_, _, e, enters_of Tryz.func123 (by kernel_rfl) rfl, fun W K => ?_⟩
    refine (wgt2_any x b g (wgtN k) (wgtN k + 48) W (K.cell c1 (by simp)) (K.cell c2 (by simp))).mono ?_
    rintro e' w' ⟨rfl, K'⟩
    refine ⟨ret_int ?_, K'⟩
    unfold weighG
    rcases h3 with rfl | rfl
    · rw [hk]
      by_cases ho : x.of = 3
      · rw [if_pos ho]; simp [ho]; rfl
      · rw [if_neg ho]; simp [ho]; rfl
    · rw [hk]
      by_cases ho : x.of = 3
      · rw [if_pos ho]; simp [ho]; rfl
      · rw [if_neg ho]; simp [ho]; rfl
  · obtain ⟨b, e, c1⟩ := T.wgt k h1 h2 (by omega) (by omega)
    refine ⟨_, _, e, enters_of Tryz.func118 (by kernel_rfl) rfl, fun W K => ?_⟩
    refine (wgt1_any x b (wgtN k) W (K.cell c1 (by simp))).mono ?_
    rintro e' w' ⟨rfl, K'⟩
    refine ⟨ret_int ?_, K'⟩
    unfold weighG
    rw [hk]
    rcases sixteen h1 h2 with rfl | rfl | rfl | rfl | rfl | rfl | rfl | rfl | rfl | rfl | rfl | rfl | rfl | rfl | rfl | rfl
    all_goals first | rfl | omega

theorem weighG_zero {x : Ng} (h : arG x.kind = none) : weighG x = 0 := by
  have := arG_none.1 h
  unfold weighG
  rw [if_neg (by omega), if_neg (by omega), if_neg (by omega), if_neg (by omega), if_neg (by omega), if_neg (by omega), if_neg (by omega), if_neg (by omega), if_neg (by omega), if_neg (by omega)]
theorem weighG_le (x : Ng) : weighG x ≤ 80 := by
  unfold weighG
  repeat' split
  all_goals omega

set_option maxHeartbeats 1000000 in
theorem weightOf_any (x : Ng) (R : RT) (w : World) (T : TabT R w) : Calls Tryz.prog 102 #[.slice (some ⟨R.g, 0, none⟩) 17 17, .agg x.cells.toArray] w fun e w' => e = .returned (.int .i64 (weighG x : Int)) ∧ w.grownBy w' none := by
  have HBX := box_ng x
  have V1 := VAt.alloc w 37 x.cells.toArray
  have c0 := (NB.alloc w x).kind
  have G1 := World.grownBy_alloc w (.cells x.cells.toArray 37) none
  have HT : Hid (TabT R w) := T
  have HZ : Hid ((Tryz.prog.info? 37).map (·.size) = some x.cells.toArray.size) := ng_size x
  cases ha : arG x.kind with
  | none =>
    rw [weighG_zero ha]
    have CR := fun W => ruleOf_no R x.kind ha W
    obtain ⟨X, hX⟩ : ∃ X, x.cells.toArray = X := ⟨_, rfl⟩
    rw [hX] at HBX V1 c0 G1 ⊢
    clear ha T
    go_enter Tryz.func102, Tryz.ntmps102
    go_upto_region 1 with fail
    generalize w.alloc (.cells X 37) = w1 at *
    generalize w.heap.size = B at V1 c0 ⊢
    clear HBX hX
    go_wp2_with fail
    refine (CR _).mono ?_
    rintro e w2 ⟨rfl, K2⟩
    have G2 := grown_trans G1 K2
    have K3 := World.grownBy_alloc w2 (.cells rule0.toArray 120) none
    clear CR
    go_upto_region 2 with (refine wpList_store_row rfl 120 (.tmp 5) (.tmp 12) rfl w2.heap.size rule0.toArray rfl rfl 120 _ (heap_alloc_new w2 _) size_rule rfl rule0_all ?_)
    rw [World.setRow_alloc_new]
    have G3 := grown_trans G2 K3
    generalize w2.alloc (.cells rule0.toArray 120) = w3 at *
    generalize w2.heap.size = C at *
    go_wp2
    go_ret
    exact ⟨rfl, G3⟩
  | some a =>
    have hin := arG_in ha
    obtain ⟨k, hk⟩ : ∃ k : Nat, x.kind = k := Int.eq_ofNat_of_zero_le (by omega)
    have h1 : 1 ≤ k := by omega
    have h2 : k ≤ 16 := by omega
    obtain ⟨fn, lb, hwv, he, CW⟩ := wgt_fn x T k h1 h2 hk
    have CR : Hid (∀ W, TabT R W → Calls Tryz.prog 99 #[.slice (some ⟨R.g, 0, none⟩) 17 17, .int .i64 (k : Int)] W fun e w' => e = .returned (.tuple #[.agg (ruleC R k).toArray, .bool true]) ∧ W.grownBy w' none) := fun W TW => ruleOf_ok R k h1 h2 W TW
    rw [hk] at c0
    have HC : Hid ((Tryz.prog.info? 120).map (·.size) = some (ruleC R k).toArray.size ∧ 7 = (ruleC R k).toArray.size ∧ (ruleC R k).toArray.all (·.oneCell') = true) := ⟨size_rule, rfl, ruleC_all T h1 h2⟩
    have HF : Hid ((ruleC R k).toArray[2]? = some (.func (.func fn) #[] lb)) := by
      show (ruleC R k).toArray[2]? = _
      rw [← hwv]; rfl
    have HCW : Hid _ := CW
    obtain ⟨cs, hcs⟩ : ∃ cs, (ruleC R k).toArray = cs := ⟨_, rfl⟩
    rw [hcs] at CR HC HF
    obtain ⟨wt, hwt⟩ : ∃ wt, weighG x = wt := ⟨_, rfl⟩
    rw [hwt] at HCW ⊢
    obtain ⟨X, hX⟩ : ∃ X, x.cells.toArray = X := ⟨_, rfl⟩
    rw [hX] at HBX V1 c0 G1 HZ HCW ⊢
    clear T ha hcs hwt hwv CW hk hin
    go_enter Tryz.func102, Tryz.ntmps102
    go_upto_region 1 with fail
    generalize w.alloc (.cells X 37) = w1 at *
    generalize w.heap.size = B at V1 c0 ⊢
    clear HBX hX
    go_wp2_with fail
    refine (CR.out _ (HT.out.kept G1)).mono ?_
    rintro e w2 ⟨rfl, K2⟩
    have G2 := grown_trans G1 K2
    have K3 := World.grownBy_alloc w2 (.cells cs 120) none
    have V3 := (V1.kept K2).kept K3
    have C3 := VAt.alloc w2 120 cs
    clear CR V1 c0 K2 G1
    go_upto_region 2 with (refine wpList_store_row rfl 120 (.tmp 5) (.tmp 12) rfl w2.heap.size cs rfl rfl 120 _ (heap_alloc_new w2 _) HC.out.1 HC.out.2.1 HC.out.2.2 ?_)
    rw [World.setRow_alloc_new]
    have G3 := grown_trans G2 K3
    have CF := HCW.out
    generalize w2.alloc (.cells cs 120) = w3 at *
    generalize w2.heap.size = C at *
    have c2 : w3.cell? ⟨C, 2, none⟩ = some (.func (.func fn) #[] lb) := by rw [C3.cell 2]; exact HF.out
    have CX := CF w3 G3
    clear CF HCW G2 K3 C3
    go_wp2_with (first | refine wpList_load_row rfl 37 (.tmp 3) rfl B rfl 37 X (0, 0) _ V3 Tryz.underlying37 rfl HZ.out ?_ | (go_at_fn fn; refine CX.mono ?_; rintro e w4 ⟨rfl, K4⟩))
    go_ret
    exact ⟨rfl, grown_trans G3 K4⟩

end Go.Proofs.YtnojpepjloceoaaGreat

namespace Go.Proofs.YtnojpepjloceoaaGreat
open Go.RowKit
set_option maxRecDepth 100000

theorem weightG_nil : weightG [] = 0 := rfl
theorem weightG_app (a b : List Ng) : weightG (a ++ b) = weightG a + weightG b := by simp [weightG]
theorem weightG_one (x : Ng) : weightG [x] = weighG x := by simp [weightG]
theorem weightG_le (t : List Ng) : weightG t ≤ 80 * t.length := by
  induction t with
  | nil => simp [weightG]
  | cons x t ih =>
    have := weighG_le x
    rw [show x :: t = [x] ++ t from rfl, weightG_app, weightG_one, List.length_append, List.length_singleton]
    omega
theorem weightG_take (t : List Ng) (k : Nat) (h : k < t.length) : weightG (t.take (k + 1)) = weightG (t.take k) + weighG t[k] := by
  rw [List.take_succ_eq_append_getElem h, weightG_app, weightG_one]
theorem weightG_take_le (t : List Ng) (k : Nat) : weightG (t.take k) ≤ 80 * k := by
  have := weightG_le (t.take k)
  rw [List.length_take] at this
  omega
theorem ng_len (x : Ng) : (Tryz.prog.info? 37).map (·.size) = some x.cells.length := size37

/-- What tooHeavy tells. -/
def heavyR (o : Option Nat) : Value := match o with
  | some k => .tuple #[.int .i64 (k : Int), .bool true]
  | none => .tuple #[.int .i64 0, .bool false]

set_option maxHeartbeats 2000000 in
theorem heavy_any (ao : Option Addr) (cap : Nat) (t : List Ng) (R : RT) (w : World) (T : TabT R w) (C : CV w ao (flatG t)) (hm : t.length * 72 ≤ 140737488355328) : Calls Tryz.prog 57 #[.slice (some ⟨R.g, 0, none⟩) 17 17, .slice ao t.length cap] w fun e w' => e = .returned (heavyR (heavyG 0 0 t)) ∧ w.grownBy w' none := by
  have HC : Hid (CV w ao (flatG t)) := C
  have HT : Hid (TabT R w) := T
  clear C T
  obtain ⟨E, hE⟩ : ∃ E, heavyR (heavyG 0 0 t) = E := ⟨_, rfl⟩
  rw [hE]
  have HE : Hid (heavyR (heavyG 0 0 t) = E) := hE
  clear hE
  go_enter Tryz.func57, Tryz.ntmps57
  go_wp2
  go_loopw [6, 11] (fun s i wr => ∃ k q : Nat, k ≤ t.length ∧ q ≤ 3000 ∧ s = .int .i64 (q : Int) ∧ i = .int .i64 k ∧ Hid (heavyG 0 0 t = heavyG q k (t.drop k)) ∧ w.grownBy wr none) (fun _ i _ => t.length - (intOf i).toNat)
  case atStart => exact ⟨0, 0, Nat.zero_le _, Nat.zero_le _, rfl, rfl, rfl, World.grownBy.refl _ _⟩
  case round =>
    obtain ⟨k, q, hk, hq, rfl, rfl, HH, G⟩ := hrel
    by_cases hlt : k < t.length
    · obtain ⟨b, o, rfl, hc⟩ := (HC.out.keptNone G).ngs hlt
      have HR : Hid (wr.rangeAt b (o + k * 24) t[k].cells) := hc k hlt
      have HW : Hid (∀ W : World, TabT R W → Calls Tryz.prog 102 #[.slice (some ⟨R.g, 0, none⟩) 17 17, .agg t[k].cells.toArray] W fun e w' => e = .returned (.int .i64 (weighG t[k] : Int)) ∧ W.grownBy w' none) := fun W TW => weightOf_any t[k] R W TW
      have HZ : Hid ((Tryz.prog.info? 37).map (·.size) = some t[k].cells.length ∧ (Tryz.prog.info? 37).map (·.size) = some t[k].cells.toArray.size ∧ 24 = t[k].cells.toArray.size ∧ t[k].cells.toArray.all (·.oneCell') = true) := ⟨ng_len _, ng_size _, rfl, ng_all _⟩
      have hb2 := weighG_le t[k]
      have HN : Hid (heavyG 0 0 t = if 3000 < q + weighG t[k] then some k else heavyG (q + weighG t[k]) (k + 1) (t.drop (k + 1))) := by
        have := HH.out
        rw [List.drop_eq_getElem_cons hlt] at this
        exact this
      have hwr : IntKind.i64.wrap ((q : Int) + (weighG t[k] : Int)) = (q : Int) + (weighG t[k] : Int) := by rw [IntKind.wrap_i64]; omega
      generalize weighG t[k] = s1 at *
      generalize t[k].cells = cs at *
      have hl : (k : Int) < (t.length : Int) := by omega
      have z0 : (0 : Int) ≤ (k : Int) := by omega
      have w3 : IntKind.i64.wrap ((k : Int) + 1) = (k : Int) + 1 := by rw [IntKind.wrap_i64]; omega
      clear hc HH
      go_upto_region 5 with (first | refine wpList_load_mid rfl 37 (.tmp 14) rfl b (o + k * 24) (by simp [Act.eval]) cs _ HR.out Tryz.underlying37 rfl HZ.out.1 ?_ | refine wpList_store_row rfl 37 (.tmp 8) (.tmp 15) rfl wr.heap.size cs.toArray rfl rfl 37 _ (heap_alloc_new wr _) HZ.out.2.1 HZ.out.2.2.1 HZ.out.2.2.2 ?_)
      rw [World.setRow_alloc_new]
      have V := VAt.alloc wr 37 cs.toArray
      have G2 := grown_trans G (World.grownBy_alloc wr (.cells cs.toArray 37) none)
      generalize wr.alloc (.cells cs.toArray 37) = w2 at *
      generalize wr.heap.size = B at *
      clear HR G
      go_wp2_with (refine wpList_load_row rfl 37 (.tmp 8) rfl B rfl 37 cs.toArray (0, 0) _ V Tryz.underlying37 rfl HZ.out.2.1 ?_)
      refine (HW.out _ (HT.out.kept G2)).mono ?_
      rintro e w4 ⟨rfl, K4⟩
      have G4 := grown_trans G2 K4
      clear K4 G2 V HW
      by_cases hov : 3000 < q + s1
      · have HF : Hid (heavyG 0 0 t = some k) := by show _ = _; rw [HN.out, if_pos hov]
        have e1 : decide ((3000 : Int) < (q : Int) + (s1 : Int)) = true := decide_eq_true (by omega)
        clear hov HN
        go_wp2
        go_ret2
        exact ⟨by rw [← HE.out, HF.out]; rfl, G4⟩
      · have HF : Hid (heavyG 0 0 t = heavyG (q + s1) (k + 1) (t.drop (k + 1))) := by show _ = _; rw [HN.out, if_neg hov]
        have e1 : decide ((3000 : Int) < (q : Int) + (s1 : Int)) = false := decide_eq_false (by omega)
        have hq2 : q + s1 ≤ 3000 := by omega
        clear hov HN
        go_wp2
        go_roundw
        case rel => exact ⟨k + 1, q + s1, by omega, hq2, by simp, by go_num, HF, G4⟩
        case measure => simp [intOf]; omega
    · have HF : Hid (heavyG 0 0 t = none) := by
        have := HH.out
        rw [List.drop_eq_nil_of_le (by omega)] at this
        exact this
      go_wp2
      go_ret2
      exact ⟨by rw [← HE.out, HF.out]; rfl, G⟩

end Go.Proofs.YtnojpepjloceoaaGreat
