/-
  Package clock as landed.
-/
import Derived.Test.YtnkdcehnamkoaaaClV
import Derived.Test.YtnkdcehnamkoaaaSum
import Derived.Test.YtnkdcehnamkoaaaJoinL
import Derived.Deep.RegionHeld3
import Derived.Deep.DeepCutAuto
namespace Go.Proofs.Ytnkdcehnamkoaaa
open Go.RowKit
set_option maxRecDepth 100000

/-- A clock's cells as the landed package lays them. -/
def Ck.lcells (c : Ck) : Array Value := #[.int .u32 (c.rest : Int), .int .u32 (c.idle : Int), .int .u32 (c.all : Int), .int .u32 (c.most : Int), .bool c.goes]

/-- What a call of a landed clock leaves. -/
def LDid (t g : Nat) (w : World) (c : Ck) (v : Value) (e : Ending) (w' : World) : Prop := e = .returned v ∧ QBk w' g t c.lcells ∧ GW w w' (fun x => x = g)

theorem csum_two (n : Nat) (h : n ≤ 4294967295) : sumS [UInt32.ofNat n, 1] = upC n := by
  have : (UInt32.ofNat n).toNat = n := by simp; omega
  simp [sumS, tot, this, upC]

set_option maxHeartbeats 1000000 in
theorem cgrow_any (g o n : Nat) (w : World) (hc : w.cell? ⟨g, o, none⟩ = some (.int .u32 (n : Int))) (hf : w.frozen? ⟨g, o, none⟩ = false) (hn : n ≤ 4294967295) :
    Calls Try.prog 19 #[.pointer (some ⟨g, o, none⟩)] w fun e w' => e = .returned (.tuple #[]) ∧ ∃ w1, w.grownBy w1 none ∧ w' = w1.setCell ⟨g, o, none⟩ (.int .u32 ((upC n : Nat) : Int)) := by
  have HN : Hid (n ≤ 4294967295) := hn
  have C := cv_lit w 22 ([UInt32.ofNat n, 1].map wv)
  have e0 : (UInt32.ofNat n).toNat = n := by simp; omega
  have e1 : [UInt32.ofNat n, 1].map wv = [.int .u32 (n : Int), .int .u32 1] := by simp [wv, e0]
  have CS := fun W hW => sum_len (some ⟨w.heap.size, 0, none⟩) 2 2 [UInt32.ofNat n, 1] rfl W hW (by simp)
  rw [csum_two n hn, e1] at CS
  rw [e1] at C
  have G := World.grownBy_alloc w (.cells #[.int .u32 (n : Int), .int .u32 1] 22) none
  have HG : Hid (w.grownBy (w.alloc (.cells #[.int .u32 (n : Int), .int .u32 1] 22)) none) := G
  have HCS : Hid (Calls Try.prog 23 #[.slice (some ⟨w.heap.size, 0, none⟩) 2 2] (w.alloc (.cells #[.int .u32 (n : Int), .int .u32 1] 22)) fun e w' => e = .returned (.int .u32 ((upC n : Nat) : Int)) ∧ (w.alloc (.cells #[.int .u32 (n : Int), .int .u32 1] 22)) = w') := CS _ C
  obtain ⟨m, hm⟩ : ∃ m : Nat, upC n = m := ⟨_, rfl⟩
  rw [hm] at HCS ⊢
  clear CS C e0 e1 hm hn
  have hc' := G.cell hc (by simp)
  have hf' : (w.alloc (.cells #[.int .u32 (n : Int), .int .u32 1] 22)).frozen? ⟨g, o, none⟩ = false := by
    rw [World.frozen?_of_block (w := w)]
    · exact hf
    · exact G.block g (World.block_lt_of_cell? w _ hc) (by simp)
  clear G
  go_enter Try.func19, Try.ntmps19
  go_wp2_with fail
  refine HCS.out.mono ?_
  rintro e w2 ⟨rfl, rfl⟩
  clear HCS
  generalize w.alloc (.cells #[.int .u32 (n : Int), .int .u32 1] 22) = w1 at *
  go_wp2
  go_end0
  exact ⟨rfl, w1, HG.out, rfl⟩

theorem creset_any (g o n : Nat) (w : World) (hc : w.cell? ⟨g, o, none⟩ = some (.int .u32 (n : Int))) (hf : w.frozen? ⟨g, o, none⟩ = false) :
    Calls Try.prog 21 #[.pointer (some ⟨g, o, none⟩)] w fun e w' => e = .returned (.tuple #[]) ∧ w.setCell ⟨g, o, none⟩ (.int .u32 0) = w' := by
  go_enter Try.func21, Try.ntmps21
  go_wp2
  go_end0
  exact ⟨rfl, rfl⟩

theorem cfull_any (g o n l : Nat) (w : World) (hc : w.cell? ⟨g, o, none⟩ = some (.int .u32 (n : Int))) (hl : w.cell? ⟨g, o + 1, none⟩ = some (.int .u32 (l : Int))) :
    Calls Try.prog 24 #[.pointer (some ⟨g, o, none⟩)] w fun e w' => e = .returned (.bool (decide (l ≠ 0 ∧ l ≤ n))) ∧ w.grownBy w' none := by
  by_cases h0 : l = 0
  · subst h0
    rw [show decide ((0 : Nat) ≠ 0 ∧ 0 ≤ n) = false by simp]
    go_enter Try.func24, Try.ntmps24
    go_wp2
    go_quiet (fail)
    go_wp2
    go_ret
    exact ⟨rfl, grown_drewN _ _ none⟩
  · have i4 : ((l : Int) != 0) = true := by rw [bne_iff_ne]; omega
    by_cases h1 : l ≤ n
    · rw [show decide (l ≠ 0 ∧ l ≤ n) = true from decide_eq_true ⟨h0, h1⟩]
      have HL : Hid (l ≤ n) := h1
      clear h0 h1
      go_enter Try.func24, Try.ntmps24
      go_wp2
      go_quiet (fail)
      go_wp2
      go_ret
      exact ⟨by simp [HL.out], grown_drewN _ _ none⟩
    · rw [show decide (l ≠ 0 ∧ l ≤ n) = false from decide_eq_false (fun h => h1 h.2)]
      have HL : Hid (¬ l ≤ n) := h1
      clear h0 h1
      go_enter Try.func24, Try.ntmps24
      go_wp2
      go_quiet (fail)
      go_wp2
      go_ret
      exact ⟨by simp [HL.out], grown_drewN _ _ none⟩

theorem cstop_any (w : World) (g : Nat) (c : Ck) (h : QBk w g 44 c.lcells) :
    Calls Try.prog 14 #[.pointer (some ⟨g, 0, none⟩)] w (LDid 44 g w c.stop (.tuple #[])) := by
  have H : Hid (QBk w g 44 c.lcells) := h
  have c4 := h.cell 4
  have f4 := h.free 4
  simp [Ck.lcells] at c4
  clear h
  obtain ⟨q1, k1⟩ := H.out.put 4 (.bool false)
  have CA := fun hc => creset_any g 0 c.rest (w.setCell ⟨g, 4, none⟩ (.bool false)) hc (q1.free 0)
  have H1 : Hid (QBk (w.setCell ⟨g, 4, none⟩ (.bool false)) g 44 (Ck.lcells ⟨c.idle, c.most, false, c.rest, c.all⟩) ∧ GW w (w.setCell ⟨g, 4, none⟩ (.bool false)) (fun x => x = g)) := ⟨by simpa [Ck.lcells] using q1, k1⟩
  replace CA := CA (by have := q1.cell 0; simpa [Ck.lcells] using this)
  clear q1 k1
  go_enter Try.func14, Try.ntmps14
  go_upto_region 1 with fail
  clear c4 f4
  generalize w.setCell ⟨g, 4, none⟩ (.bool false) = w1 at *
  go_wp2_with fail
  refine CA.mono ?_
  rintro e w2 ⟨rfl, rfl⟩
  clear CA
  have H2 : Hid (QBk (w1.setCell ⟨g, 0, none⟩ (.int .u32 0)) g 44 (Ck.lcells ⟨c.idle, c.most, false, 0, c.all⟩) ∧ GW w (w1.setCell ⟨g, 0, none⟩ (.int .u32 0)) (fun x => x = g)) := by
    obtain ⟨q, k⟩ := H1.out.1.put 0 (.int .u32 0)
    exact ⟨by simpa [Ck.lcells] using q, H1.out.2.trans k (fun _ _ hx => hx)⟩
  clear H1
  generalize w1.setCell ⟨g, 0, none⟩ (.int .u32 0) = w2 at *
  have CA := creset_any g 2 c.all w2 (by have := H2.out.1.cell 2; simpa [Ck.lcells] using this) (H2.out.1.free 2)
  go_wp2_with fail
  refine CA.mono ?_
  rintro e w3 ⟨rfl, rfl⟩
  clear CA
  have H3 : Hid (LDid 44 g w c.stop (.tuple #[]) (.returned (.tuple #[])) (w2.setCell ⟨g, 2, none⟩ (.int .u32 0))) := by
    obtain ⟨q, k⟩ := H2.out.1.put 2 (.int .u32 0)
    exact ⟨rfl, by simpa [Ck.lcells, Ck.stop] using q, H2.out.2.trans k (fun _ _ hx => hx)⟩
  clear H2 H
  go_wp2
  go_end0
  exact H3.out

theorem cstart_any (w : World) (g : Nat) (c : Ck) (h : QBk w g 44 c.lcells) :
    Calls Try.prog 10 #[.pointer (some ⟨g, 0, none⟩)] w (LDid 44 g w c.start (.tuple #[])) := by
  have CS := cstop_any w g c h
  clear h
  go_enter Try.func10, Try.ntmps10
  go_wp2_with fail
  refine CS.mono ?_
  rintro e w1 ⟨rfl, Q, G⟩
  clear CS
  have c4 := Q.cell 4
  have f4 := Q.free 4
  simp [Ck.lcells, Ck.stop] at c4
  have HR : Hid (LDid 44 g w c.start (.tuple #[]) (.returned (.tuple #[])) (w1.setCell ⟨g, 4, none⟩ (.bool true))) := by
    obtain ⟨q, k⟩ := Q.put 4 (.bool true)
    exact ⟨rfl, by simpa [Ck.lcells, Ck.start, Ck.stop] using q, G.trans k (fun _ _ hx => hx)⟩
  clear Q G
  go_wp2
  go_end0
  exact HR.out

theorem ctouch_any (w : World) (g : Nat) (c : Ck) (h : QBk w g 44 c.lcells) :
    Calls Try.prog 12 #[.pointer (some ⟨g, 0, none⟩)] w (LDid 44 g w c.touch (.tuple #[])) := by
  have CA := creset_any g 0 c.rest w (by have := h.cell 0; simpa [Ck.lcells] using this) (h.free 0)
  have HR : Hid (LDid 44 g w c.touch (.tuple #[]) (.returned (.tuple #[])) (w.setCell ⟨g, 0, none⟩ (.int .u32 0))) := by
    obtain ⟨q0, k0⟩ := h.put 0 ((.int .u32 0))
    exact ⟨rfl, by simpa [Ck.lcells, Ck.touch] using q0, k0⟩
  clear h
  go_enter Try.func12, Try.ntmps12
  go_wp2_with fail
  refine CA.mono ?_
  rintro e w2 ⟨rfl, rfl⟩
  clear CA
  go_wp2
  go_end0
  exact HR.out

theorem cdue_any (w : World) (g : Nat) (c : Ck) (h : QBk w g 44 c.lcells) :
    Calls Try.prog 20 #[.pointer (some ⟨g, 0, none⟩)] w fun e w' => e = .returned (.int .i64 (if c.idle ≠ 0 ∧ c.idle ≤ c.rest then 1 else if c.most ≠ 0 ∧ c.most ≤ c.all then 2 else 0)) ∧ w.grownBy w' none := by
  have C1 := cfull_any g 0 c.rest c.idle w (by have := h.cell 0; simpa [Ck.lcells] using this) (by have := h.cell 1; simpa [Ck.lcells] using this)
  by_cases hi : c.idle ≠ 0 ∧ c.idle ≤ c.rest
  · rw [if_pos hi]
    rw [decide_eq_true hi] at C1
    clear h hi
    go_enter Try.func20, Try.ntmps20
    go_wp2_with fail
    refine C1.mono ?_
    rintro e w1 ⟨rfl, K⟩
    clear C1
    go_wp2
    go_ret
    exact ⟨rfl, K⟩
  · rw [if_neg hi]
    rw [decide_eq_false hi] at C1
    have H : Hid (QBk w g 44 c.lcells) := h
    by_cases hm : c.most ≠ 0 ∧ c.most ≤ c.all
    · rw [if_pos hm]
      have HM : Hid (decide (c.most ≠ 0 ∧ c.most ≤ c.all) = true) := decide_eq_true hm
      clear h hi hm
      go_enter Try.func20, Try.ntmps20
      go_wp2_with fail
      refine C1.mono ?_
      rintro e w1 ⟨rfl, K⟩
      clear C1
      have Q := H.out.keptNone K
      have C2 := cfull_any g 2 c.all c.most w1 (by have := Q.cell 2; simpa [Ck.lcells] using this) (by have := Q.cell 3; simpa [Ck.lcells] using this)
      rw [HM.out] at C2
      clear Q H HM
      go_wp2_with fail
      refine C2.mono ?_
      rintro e w2 ⟨rfl, K2⟩
      clear C2
      go_wp2
      go_ret
      exact ⟨rfl, grown_trans K K2⟩
    · rw [if_neg hm]
      have HM : Hid (decide (c.most ≠ 0 ∧ c.most ≤ c.all) = false) := decide_eq_false hm
      clear h hi hm
      go_enter Try.func20, Try.ntmps20
      go_wp2_with fail
      refine C1.mono ?_
      rintro e w1 ⟨rfl, K⟩
      clear C1
      have Q := H.out.keptNone K
      have C2 := cfull_any g 2 c.all c.most w1 (by have := Q.cell 2; simpa [Ck.lcells] using this) (by have := Q.cell 3; simpa [Ck.lcells] using this)
      rw [HM.out] at C2
      clear Q H HM
      go_wp2_with fail
      refine C2.mono ?_
      rintro e w2 ⟨rfl, K2⟩
      clear C2
      go_wp2
      go_ret
      exact ⟨rfl, grown_trans K K2⟩

set_option maxHeartbeats 2000000 in
theorem ctick_any (w : World) (g : Nat) (c : Ck) (h : QBk w g 44 c.lcells) (ok : c.ok) :
    Calls Try.prog 11 #[.pointer (some ⟨g, 0, none⟩)] w (LDid 44 g w c.tickC (.int .i64 c.tickH)) := by
  have c4 := h.cell 4
  simp [Ck.lcells] at c4
  cases hg : c.goes with
  | false =>
    have HR : Hid (LDid 44 g w c.tickC (.int .i64 c.tickH) (.returned (.int .i64 0)) w) := by
      have e1 : c.tickH = 0 := by unfold Ck.tickH; rw [if_pos hg]
      have e2 : c.tickC = c := by unfold Ck.tickC; rw [if_pos hg]
      rw [e1, e2]
      exact ⟨rfl, h, GW.refl _ _⟩
    rw [hg] at c4
    clear h ok hg
    go_enter Try.func11, Try.ntmps11
    go_wp2
    go_ret
    exact HR.out
  | true =>
    rw [hg] at c4
    have H : Hid (QBk w g 44 c.lcells ∧ c.ok ∧ c.goes = true) := ⟨h, ok, hg⟩
    have CA := cgrow_any g 0 c.rest w (by have := h.cell 0; simpa [Ck.lcells] using this) (h.free 0) ok.r
    clear h ok hg
    go_enter Try.func11, Try.ntmps11
    go_wp2_with fail
    refine CA.mono ?_
    rintro e w2 ⟨rfl, w1, K, rfl⟩
    clear CA c4
    have HP : Hid (QBk (w1.setCell ⟨g, 0, none⟩ (.int .u32 ((upC c.rest : Nat) : Int))) g 44 (Ck.lcells ⟨c.idle, c.most, c.goes, upC c.rest, c.all⟩) ∧ GW w (w1.setCell ⟨g, 0, none⟩ (.int .u32 ((upC c.rest : Nat) : Int))) (fun x => x = g)) := by
      obtain ⟨q, k⟩ := (H.out.1.keptNone K).put 0 (.int .u32 ((upC c.rest : Nat) : Int))
      exact ⟨by simpa [Ck.lcells] using q, (GW.non (S := fun x => x = g) K).trans k (fun _ _ hx => hx)⟩
    clear K
    generalize w1.setCell ⟨g, 0, none⟩ (.int .u32 ((upC c.rest : Nat) : Int)) = w2 at *
    have CA := cgrow_any g 2 c.all w2 (by have := HP.out.1.cell 2; simpa [Ck.lcells] using this) (HP.out.1.free 2) H.out.2.1.a
    go_wp2_with fail
    refine CA.mono ?_
    rintro e w4 ⟨rfl, w3, K, rfl⟩
    clear CA
    have HQ : Hid (QBk (w3.setCell ⟨g, 2, none⟩ (.int .u32 ((upC c.all : Nat) : Int))) g 44 c.up.lcells ∧ GW w (w3.setCell ⟨g, 2, none⟩ (.int .u32 ((upC c.all : Nat) : Int))) (fun x => x = g)) := by
      obtain ⟨q, k⟩ := (HP.out.1.keptNone K).put 2 (.int .u32 ((upC c.all : Nat) : Int))
      exact ⟨by simpa [Ck.lcells, Ck.up] using q, (HP.out.2.trans (GW.non (S := fun x => x = g) K) (fun _ _ hx => hx)).trans k (fun _ _ hx => hx)⟩
    clear K HP
    generalize w3.setCell ⟨g, 2, none⟩ (.int .u32 ((upC c.all : Nat) : Int)) = w4 at *
    have CD := cdue_any w4 g c.up HQ.out.1
    by_cases hi : c.hitI
    · have HC : Hid (c.tickH = 1 ∧ c.tickC = c.stop) := by
        refine ⟨?_, ?_⟩
        · unfold Ck.tickH; rw [if_neg (by rw [H.out.2.2]; decide), if_pos hi]
        · unfold Ck.tickC; rw [if_neg (by rw [H.out.2.2]; decide), if_pos hi]
      rw [if_pos (show c.up.idle ≠ 0 ∧ c.up.idle ≤ c.up.rest from hi)] at CD
      clear hi
      go_wp2_with fail
      refine CD.mono ?_
      rintro e w5 ⟨rfl, K⟩
      clear CD
      have HZ : Hid (QBk w5 g 44 c.up.lcells ∧ GW w w5 (fun x => x = g)) := ⟨HQ.out.1.keptNone K, HQ.out.2.trans (GW.non (S := fun x => x = g) K) (fun _ _ hx => hx)⟩
      clear HQ K
      have CS := cstop_any w5 g c.up HZ.out.1
      go_wp2_with fail
      refine CS.mono ?_
      rintro e w6 ⟨rfl, Q, G⟩
      have HR : Hid (LDid 44 g w c.tickC (.int .i64 c.tickH) (.returned (.int .i64 1)) w6) := by
        rw [HC.out.1, HC.out.2]
        exact ⟨rfl, Q, HZ.out.2.trans G (fun _ _ hx => hx)⟩
      clear CS Q G HZ HC H
      go_wp2
      go_ret
      exact HR.out
    · rw [if_neg (show ¬ (c.up.idle ≠ 0 ∧ c.up.idle ≤ c.up.rest) from hi)] at CD
      by_cases hm : c.hitM
      · have HC : Hid (c.tickH = 2 ∧ c.tickC = c.stop) := by
          refine ⟨?_, ?_⟩
          · unfold Ck.tickH; rw [if_neg (by rw [H.out.2.2]; decide), if_neg hi, if_pos hm]
          · unfold Ck.tickC; rw [if_neg (by rw [H.out.2.2]; decide), if_neg hi, if_pos hm]
        rw [if_pos (show c.up.most ≠ 0 ∧ c.up.most ≤ c.up.all from hm)] at CD
        clear hi hm
        go_wp2_with fail
        refine CD.mono ?_
        rintro e w5 ⟨rfl, K⟩
        clear CD
        have HZ : Hid (QBk w5 g 44 c.up.lcells ∧ GW w w5 (fun x => x = g)) := ⟨HQ.out.1.keptNone K, HQ.out.2.trans (GW.non (S := fun x => x = g) K) (fun _ _ hx => hx)⟩
        clear HQ K
        have CS := cstop_any w5 g c.up HZ.out.1
        go_wp2_with fail
        refine CS.mono ?_
        rintro e w6 ⟨rfl, Q, G⟩
        have HR : Hid (LDid 44 g w c.tickC (.int .i64 c.tickH) (.returned (.int .i64 2)) w6) := by
          rw [HC.out.1, HC.out.2]
          exact ⟨rfl, Q, HZ.out.2.trans G (fun _ _ hx => hx)⟩
        clear CS Q G HZ HC H
        go_wp2
        go_ret
        exact HR.out
      · have HC : Hid (c.tickH = 0 ∧ c.tickC = c.up) := by
          refine ⟨?_, ?_⟩
          · unfold Ck.tickH; rw [if_neg (by rw [H.out.2.2]; decide), if_neg hi, if_neg hm]
          · unfold Ck.tickC; rw [if_neg (by rw [H.out.2.2]; decide), if_neg hi, if_neg hm]
        rw [if_neg (show ¬ (c.up.most ≠ 0 ∧ c.up.most ≤ c.up.all) from hm)] at CD
        clear hi hm
        go_wp2_with fail
        refine CD.mono ?_
        rintro e w5 ⟨rfl, K⟩
        clear CD
        have HR : Hid (LDid 44 g w c.tickC (.int .i64 c.tickH) (.returned (.int .i64 0)) w5) := by
          rw [HC.out.1, HC.out.2]
          exact ⟨rfl, HQ.out.1.keptNone K, HQ.out.2.trans (GW.non (S := fun x => x = g) K) (fun _ _ hx => hx)⟩
        clear HQ K HC H
        go_wp2
        go_ret
        exact HR.out

theorem cnow_any (w : World) (g : Nat) (c : Ck) (h : QBk w g 44 c.lcells) :
    Calls Try.prog 13 #[.pointer (some ⟨g, 0, none⟩)] w fun e w' => e = .returned (.tuple #[.bool c.goes, .int .u32 (c.rest : Int), .int .u32 (c.all : Int)]) ∧ w.grownBy w' none := by
  have c0 := h.cell 0
  have c2 := h.cell 2
  have c4 := h.cell 4
  simp [Ck.lcells] at c0 c2 c4
  clear h
  go_enter Try.func13, Try.ntmps13
  go_wp2
  go_quiet (fail)
  go_wp2
  go_ret3
  exact ⟨rfl, grown_drewN _ _ none⟩

theorem cnew_any (w : World) (i m : Nat) :
    Calls Try.prog 7 #[.int .u32 (i : Int), .int .u32 (m : Int)] w fun e w' => ∃ g, e = .returned (.pointer (some ⟨g, 0, none⟩)) ∧ w.heap.size ≤ g ∧ QBk w' g 44 (Ck.new i m).lcells ∧ w.grownBy w' none := by
  have K := World.grownBy_alloc w (.cells (Ck.new i m).lcells 44) none
  have B := QBk.alloc w 44 (Ck.new i m).lcells
  have HR : Hid (QBk (w.alloc (.cells (Ck.new i m).lcells 44)) w.heap.size 44 (Ck.new i m).lcells ∧ w.grownBy (w.alloc (.cells (Ck.new i m).lcells 44)) none) := ⟨B, K⟩
  clear K B
  go_enter Try.func7, Try.ntmps7
  go_wp2
  go_ret
  exact ⟨_, rfl, Nat.le_refl _, HR.out.1, HR.out.2⟩

end Go.Proofs.Ytnkdcehnamkoaaa
