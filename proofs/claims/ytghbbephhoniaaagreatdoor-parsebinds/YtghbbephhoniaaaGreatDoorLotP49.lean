import Derived.Test.YtghbbephhoniaaaGreatDoorPsO
import Derived.Defers
import Derived.Recover
namespace Go.Proofs.YtghbbephhoniaaaGreatDoor
open Go.RowKit
set_option maxRecDepth 100000
def FnOk (c : PC) (n : Nat) (rec : Nat → List Tk → Out) : Prop := ∀ (W : World) (i : Nat) (vt vp : Value) (ts : List Tk) (nest bud : Nat) (ns : List (Nd × Nat)), PS c W i vt vp ts nest bud ns → rec nest ts ≠ .error exP → Calls Tryz.prog n #[.pointer (some ⟨c.g, 0, none⟩)] W (RunP c W vt vp nest bud ns (rec nest ts))
theorem op_find {k : Nat} {os : List Op3} (hos : ∀ o ∈ os, Asked o.1) (hb : ∀ x, binV k x = findO os x) (ts : List Tk) (hG : TksG ts) : opT k ts = findO os (hdT ts).text := by
 unfold opT
 split
 ·exact hb _
 ·rename_i hk
  refine (findO_no (fun j hj e => hk ?_)).symm
  have hA := hos _ (List.getElem_mem hj)
  have hi : isB ts os[j].1 = true := by rw [asked_is hG.hd hA]; simpa using e.symm
  exact isB_kind hi
def ops1 : List Op3 := [(wOr, 8, 0), ([124, 124], 8, 0)]
theorem ask1 : ∀ o ∈ ops1, Asked o.1 := by
 intro o ho
 simp only [ops1, List.mem_cons, List.not_mem_nil, or_false] at ho
 rcases ho with rfl | rfl
 ·exact ask_2 (by decide) (by kernel_rfl)
 ·exact ask_s (by decide) (by kernel_rfl)
theorem bin1 (x : List UInt8) : binV 1 x = findO ops1 x := by
 by_cases h0 : x = [111, 114]
 ·subst h0; rfl
 have g0 : ¬ [111, 114] = x := fun e => h0 e.symm
 by_cases h1 : x = [124, 124]
 ·subst h1; rfl
 have g1 : ¬ [124, 124] = x := fun e => h1 e.symm
 simp [binV, wOr, findO, ops1, h0, g0, h1, g1]
def ops2 : List Op3 := [(wAnd, 7, 0), ([38, 38], 7, 0)]
theorem ask2 : ∀ o ∈ ops2, Asked o.1 := by
 intro o ho
 simp only [ops2, List.mem_cons, List.not_mem_nil, or_false] at ho
 rcases ho with rfl | rfl
 ·exact ask_2 (by decide) (by kernel_rfl)
 ·exact ask_s (by decide) (by kernel_rfl)
theorem bin2 (x : List UInt8) : binV 2 x = findO ops2 x := by
 by_cases h0 : x = [97, 110, 100]
 ·subst h0; rfl
 have g0 : ¬ [97, 110, 100] = x := fun e => h0 e.symm
 by_cases h1 : x = [38, 38]
 ·subst h1; rfl
 have g1 : ¬ [38, 38] = x := fun e => h1 e.symm
 simp [binV, wAnd, findO, ops2, h0, g0, h1, g1]
def ops4 : List Op3 := [([61], 6, 1), ([61, 61], 6, 1), ([33, 61], 6, 2), ([60], 6, 3), ([60, 61], 6, 4), ([62], 6, 5), ([62, 61], 6, 6)]
theorem ask4 : ∀ o ∈ ops4, Asked o.1 := by
 intro o ho
 simp only [ops4, List.mem_cons, List.not_mem_nil, or_false] at ho
 rcases ho with rfl | rfl | rfl | rfl | rfl | rfl | rfl
 ·exact ask_s (by decide) (by kernel_rfl)
 ·exact ask_s (by decide) (by kernel_rfl)
 ·exact ask_s (by decide) (by kernel_rfl)
 ·exact ask_s (by decide) (by kernel_rfl)
 ·exact ask_s (by decide) (by kernel_rfl)
 ·exact ask_s (by decide) (by kernel_rfl)
 ·exact ask_s (by decide) (by kernel_rfl)
theorem bin4 (x : List UInt8) : binV 4 x = findO ops4 x := by
 by_cases h0 : x = [61]
 ·subst h0; rfl
 have g0 : ¬ [61] = x := fun e => h0 e.symm
 by_cases h1 : x = [61, 61]
 ·subst h1; rfl
 have g1 : ¬ [61, 61] = x := fun e => h1 e.symm
 by_cases h2 : x = [33, 61]
 ·subst h2; rfl
 have g2 : ¬ [33, 61] = x := fun e => h2 e.symm
 by_cases h3 : x = [60]
 ·subst h3; rfl
 have g3 : ¬ [60] = x := fun e => h3 e.symm
 by_cases h4 : x = [60, 61]
 ·subst h4; rfl
 have g4 : ¬ [60, 61] = x := fun e => h4 e.symm
 by_cases h5 : x = [62]
 ·subst h5; rfl
 have g5 : ¬ [62] = x := fun e => h5 e.symm
 by_cases h6 : x = [62, 61]
 ·subst h6; rfl
 have g6 : ¬ [62, 61] = x := fun e => h6 e.symm
 simp [binV, relV, findO, ops4, h0, g0, h1, g1, h2, g2, h3, g3, h4, g4, h5, g5, h6, g6]
def ops5 : List Op3 := [([124], 4, 7)]
theorem ask5 : ∀ o ∈ ops5, Asked o.1 := by
 intro o ho
 simp only [ops5, List.mem_cons, List.not_mem_nil, or_false] at ho
 subst ho
 ·exact ask_s (by decide) (by kernel_rfl)
theorem bin5 (x : List UInt8) : binV 5 x = findO ops5 x := by
 by_cases h0 : x = [124]
 ·subst h0; rfl
 have g0 : ¬ [124] = x := fun e => h0 e.symm
 simp [binV, findO, ops5, h0, g0]
def ops6 : List Op3 := [([94], 4, 8)]
theorem ask6 : ∀ o ∈ ops6, Asked o.1 := by
 intro o ho
 simp only [ops6, List.mem_cons, List.not_mem_nil, or_false] at ho
 subst ho
 ·exact ask_s (by decide) (by kernel_rfl)
theorem bin6 (x : List UInt8) : binV 6 x = findO ops6 x := by
 by_cases h0 : x = [94]
 ·subst h0; rfl
 have g0 : ¬ [94] = x := fun e => h0 e.symm
 simp [binV, findO, ops6, h0, g0]
def ops7 : List Op3 := [([38], 4, 6)]
theorem ask7 : ∀ o ∈ ops7, Asked o.1 := by
 intro o ho
 simp only [ops7, List.mem_cons, List.not_mem_nil, or_false] at ho
 subst ho
 ·exact ask_s (by decide) (by kernel_rfl)
theorem bin7 (x : List UInt8) : binV 7 x = findO ops7 x := by
 by_cases h0 : x = [38]
 ·subst h0; rfl
 have g0 : ¬ [38] = x := fun e => h0 e.symm
 simp [binV, findO, ops7, h0, g0]
def ops8 : List Op3 := [([60, 60], 4, 9), ([62, 62], 4, 10)]
theorem ask8 : ∀ o ∈ ops8, Asked o.1 := by
 intro o ho
 simp only [ops8, List.mem_cons, List.not_mem_nil, or_false] at ho
 rcases ho with rfl | rfl
 ·exact ask_s (by decide) (by kernel_rfl)
 ·exact ask_s (by decide) (by kernel_rfl)
theorem bin8 (x : List UInt8) : binV 8 x = findO ops8 x := by
 by_cases h0 : x = [60, 60]
 ·subst h0; rfl
 have g0 : ¬ [60, 60] = x := fun e => h0 e.symm
 by_cases h1 : x = [62, 62]
 ·subst h1; rfl
 have g1 : ¬ [62, 62] = x := fun e => h1 e.symm
 simp [binV, findO, ops8, h0, g0, h1, g1]
def ops9 : List Op3 := [([43], 4, 1), ([45], 4, 2)]
theorem ask9 : ∀ o ∈ ops9, Asked o.1 := by
 intro o ho
 simp only [ops9, List.mem_cons, List.not_mem_nil, or_false] at ho
 rcases ho with rfl | rfl
 ·exact ask_s (by decide) (by kernel_rfl)
 ·exact ask_s (by decide) (by kernel_rfl)
theorem bin9 (x : List UInt8) : binV 9 x = findO ops9 x := by
 by_cases h0 : x = [43]
 ·subst h0; rfl
 have g0 : ¬ [43] = x := fun e => h0 e.symm
 by_cases h1 : x = [45]
 ·subst h1; rfl
 have g1 : ¬ [45] = x := fun e => h1 e.symm
 simp [binV, findO, ops9, h0, g0, h1, g1]
def ops10 : List Op3 := [([42], 4, 3), ([47], 4, 4), ([37], 4, 5)]
theorem ask10 : ∀ o ∈ ops10, Asked o.1 := by
 intro o ho
 simp only [ops10, List.mem_cons, List.not_mem_nil, or_false] at ho
 rcases ho with rfl | rfl | rfl
 ·exact ask_s (by decide) (by kernel_rfl)
 ·exact ask_s (by decide) (by kernel_rfl)
 ·exact ask_s (by decide) (by kernel_rfl)
theorem bin10 (x : List UInt8) : binV 10 x = findO ops10 x := by
 by_cases h0 : x = [42]
 ·subst h0; rfl
 have g0 : ¬ [42] = x := fun e => h0 e.symm
 by_cases h1 : x = [47]
 ·subst h1; rfl
 have g1 : ¬ [47] = x := fun e => h1 e.symm
 by_cases h2 : x = [37]
 ·subst h2; rfl
 have g2 : ¬ [37] = x := fun e => h2 e.symm
 simp [binV, findO, ops10, h0, g0, h1, g1, h2, g2]

section
variable {c : PC}
set_option maxHeartbeats 4000000 in
theorem row1_ok (f : Nat) (hin : FnOk c 26 (rowF f 2)) : FnOk c 14 (rowF (f + 1) 1) := by
 intro w i vt vp ts nest bud ns h hne
 have hans : rowF (f + 1) 1 nest ts = thenE (rowF f 2 nest ts) (fun p => loopG (rowF f 2 nest) 1 p.2.length p.1 p.2) := by
  rw [row_succ, stepR, if_neg (by omega), if_neg (by omega), if_neg (by omega), if_neg (by omega)]
 obtain ⟨ans, ha⟩ : ∃ a, rowF (f + 1) 1 nest ts = a := ⟨_, rfl⟩
 rw [ha] at hans hne ⊢
 have K := World.grownBy_alloc w (.cells (flatO ops1).toArray 69) none
 have CR := prow_any (h.keep K) 26 #[.pointer (some ⟨c.g, 0, none⟩)] #[] (fun _ _ => by kernel_rfl) (rowF f 2) (fun W i vt vp ts nest bud ns h hne => hin W i vt vp ts nest bud ns h hne) (fun nest ts ns r hr => (row_fr f 2 nest ts ns r hr).1) (some ⟨w.heap.size, 0, none⟩) 2 ops1 (cv_lit w _ _) (fun ad had => by cases had; exact h.not_foot (Nat.le_refl _)) (fun ad had => by cases had; simp) ask1 (by decide) 1 (by decide) (op_find ask1 bin1) ans hans.symm hne
 have HC : Hid (Calls Tryz.prog 25 #[.pointer (some ⟨c.g, 0, none⟩), .func (.func 26) #[.pointer (some ⟨c.g, 0, none⟩)] #[], .slice (some ⟨w.heap.size, 0, none⟩) 2 2] (w.alloc (.cells #[str [111, 114], .int .i64 8, .int .i64 0, str [124, 124], .int .i64 8, .int .i64 0] 69)) (RunP c (w.alloc (.cells #[str [111, 114], .int .i64 8, .int .i64 0, str [124, 124], .int .i64 8, .int .i64 0] 69)) vt vp nest bud ns ans)) := CR
 have HK : Hid (w.grownBy (w.alloc (.cells #[str [111, 114], .int .i64 8, .int .i64 0, str [124, 124], .int .i64 8, .int .i64 0] 69)) none) := K
 have hmf : ∀ (fn : Fn) (first cap : Array Value) (w : World), (Instr.makeFunc fn first cap).run Tryz.prog w = .ok (.func fn first cap) w := fun _ _ _ _ => rfl
 clear h hans hin ha K CR
 go_enter Tryz.func14, Tryz.ntmps14
 go_wp2_with fail
 refine HC.out.mono ?_
 clear HC
 cases ans with
 | error er =>
  rintro e w1 ⟨rfl, G⟩
  go_wp2
  exact ⟨rfl, rfl, (GB.non HK.out).trans G (fun _ _ h => h)⟩
 | ok v =>
  obtain ⟨ms, r⟩ := v
  rintro e w1 ⟨rfl, R⟩
  go_wp2
  go_end0
  exact ⟨rfl, Ret.of (GB.non HK.out) (fun _ _ h => h) R⟩
set_option maxHeartbeats 4000000 in
theorem row2_ok (f : Nat) (hin : FnOk c 42 (rowF f 3)) : FnOk c 26 (rowF (f + 1) 2) := by
 intro w i vt vp ts nest bud ns h hne
 have hans : rowF (f + 1) 2 nest ts = thenE (rowF f 3 nest ts) (fun p => loopG (rowF f 3 nest) 2 p.2.length p.1 p.2) := by
  rw [row_succ, stepR, if_neg (by omega), if_neg (by omega), if_neg (by omega), if_neg (by omega)]
 obtain ⟨ans, ha⟩ : ∃ a, rowF (f + 1) 2 nest ts = a := ⟨_, rfl⟩
 rw [ha] at hans hne ⊢
 have K := World.grownBy_alloc w (.cells (flatO ops2).toArray 69) none
 have CR := prow_any (h.keep K) 42 #[.pointer (some ⟨c.g, 0, none⟩)] #[] (fun _ _ => by kernel_rfl) (rowF f 3) (fun W i vt vp ts nest bud ns h hne => hin W i vt vp ts nest bud ns h hne) (fun nest ts ns r hr => (row_fr f 3 nest ts ns r hr).1) (some ⟨w.heap.size, 0, none⟩) 2 ops2 (cv_lit w _ _) (fun ad had => by cases had; exact h.not_foot (Nat.le_refl _)) (fun ad had => by cases had; simp) ask2 (by decide) 2 (by decide) (op_find ask2 bin2) ans hans.symm hne
 have HC : Hid (Calls Tryz.prog 25 #[.pointer (some ⟨c.g, 0, none⟩), .func (.func 42) #[.pointer (some ⟨c.g, 0, none⟩)] #[], .slice (some ⟨w.heap.size, 0, none⟩) 2 2] (w.alloc (.cells #[str [97, 110, 100], .int .i64 7, .int .i64 0, str [38, 38], .int .i64 7, .int .i64 0] 69)) (RunP c (w.alloc (.cells #[str [97, 110, 100], .int .i64 7, .int .i64 0, str [38, 38], .int .i64 7, .int .i64 0] 69)) vt vp nest bud ns ans)) := CR
 have HK : Hid (w.grownBy (w.alloc (.cells #[str [97, 110, 100], .int .i64 7, .int .i64 0, str [38, 38], .int .i64 7, .int .i64 0] 69)) none) := K
 have hmf : ∀ (fn : Fn) (first cap : Array Value) (w : World), (Instr.makeFunc fn first cap).run Tryz.prog w = .ok (.func fn first cap) w := fun _ _ _ _ => rfl
 clear h hans hin ha K CR
 go_enter Tryz.func26, Tryz.ntmps26
 go_wp2_with fail
 refine HC.out.mono ?_
 clear HC
 cases ans with
 | error er =>
  rintro e w1 ⟨rfl, G⟩
  go_wp2
  exact ⟨rfl, rfl, (GB.non HK.out).trans G (fun _ _ h => h)⟩
 | ok v =>
  obtain ⟨ms, r⟩ := v
  rintro e w1 ⟨rfl, R⟩
  go_wp2
  go_end0
  exact ⟨rfl, Ret.of (GB.non HK.out) (fun _ _ h => h) R⟩
set_option maxHeartbeats 4000000 in
theorem row5_ok (f : Nat) (hin : FnOk c 82 (rowF f 6)) : FnOk c 67 (rowF (f + 1) 5) := by
 intro w i vt vp ts nest bud ns h hne
 have hans : rowF (f + 1) 5 nest ts = thenE (rowF f 6 nest ts) (fun p => loopG (rowF f 6 nest) 5 p.2.length p.1 p.2) := by
  rw [row_succ, stepR, if_neg (by omega), if_neg (by omega), if_neg (by omega), if_neg (by omega)]
 obtain ⟨ans, ha⟩ : ∃ a, rowF (f + 1) 5 nest ts = a := ⟨_, rfl⟩
 rw [ha] at hans hne ⊢
 have K := World.grownBy_alloc w (.cells (flatO ops5).toArray 69) none
 have CR := prow_any (h.keep K) 82 #[.pointer (some ⟨c.g, 0, none⟩)] #[] (fun _ _ => by kernel_rfl) (rowF f 6) (fun W i vt vp ts nest bud ns h hne => hin W i vt vp ts nest bud ns h hne) (fun nest ts ns r hr => (row_fr f 6 nest ts ns r hr).1) (some ⟨w.heap.size, 0, none⟩) 1 ops5 (cv_lit w _ _) (fun ad had => by cases had; exact h.not_foot (Nat.le_refl _)) (fun ad had => by cases had; simp) ask5 (by decide) 5 (by decide) (op_find ask5 bin5) ans hans.symm hne
 have HC : Hid (Calls Tryz.prog 25 #[.pointer (some ⟨c.g, 0, none⟩), .func (.func 82) #[.pointer (some ⟨c.g, 0, none⟩)] #[], .slice (some ⟨w.heap.size, 0, none⟩) 1 1] (w.alloc (.cells #[str [124], .int .i64 4, .int .i64 7] 69)) (RunP c (w.alloc (.cells #[str [124], .int .i64 4, .int .i64 7] 69)) vt vp nest bud ns ans)) := CR
 have HK : Hid (w.grownBy (w.alloc (.cells #[str [124], .int .i64 4, .int .i64 7] 69)) none) := K
 have hmf : ∀ (fn : Fn) (first cap : Array Value) (w : World), (Instr.makeFunc fn first cap).run Tryz.prog w = .ok (.func fn first cap) w := fun _ _ _ _ => rfl
 clear h hans hin ha K CR
 go_enter Tryz.func67, Tryz.ntmps67
 go_wp2_with fail
 refine HC.out.mono ?_
 clear HC
 cases ans with
 | error er =>
  rintro e w1 ⟨rfl, G⟩
  go_wp2
  exact ⟨rfl, rfl, (GB.non HK.out).trans G (fun _ _ h => h)⟩
 | ok v =>
  obtain ⟨ms, r⟩ := v
  rintro e w1 ⟨rfl, R⟩
  go_wp2
  go_end0
  exact ⟨rfl, Ret.of (GB.non HK.out) (fun _ _ h => h) R⟩
set_option maxHeartbeats 4000000 in
theorem row6_ok (f : Nat) (hin : FnOk c 91 (rowF f 7)) : FnOk c 82 (rowF (f + 1) 6) := by
 intro w i vt vp ts nest bud ns h hne
 have hans : rowF (f + 1) 6 nest ts = thenE (rowF f 7 nest ts) (fun p => loopG (rowF f 7 nest) 6 p.2.length p.1 p.2) := by
  rw [row_succ, stepR, if_neg (by omega), if_neg (by omega), if_neg (by omega), if_neg (by omega)]
 obtain ⟨ans, ha⟩ : ∃ a, rowF (f + 1) 6 nest ts = a := ⟨_, rfl⟩
 rw [ha] at hans hne ⊢
 have K := World.grownBy_alloc w (.cells (flatO ops6).toArray 69) none
 have CR := prow_any (h.keep K) 91 #[.pointer (some ⟨c.g, 0, none⟩)] #[] (fun _ _ => by kernel_rfl) (rowF f 7) (fun W i vt vp ts nest bud ns h hne => hin W i vt vp ts nest bud ns h hne) (fun nest ts ns r hr => (row_fr f 7 nest ts ns r hr).1) (some ⟨w.heap.size, 0, none⟩) 1 ops6 (cv_lit w _ _) (fun ad had => by cases had; exact h.not_foot (Nat.le_refl _)) (fun ad had => by cases had; simp) ask6 (by decide) 6 (by decide) (op_find ask6 bin6) ans hans.symm hne
 have HC : Hid (Calls Tryz.prog 25 #[.pointer (some ⟨c.g, 0, none⟩), .func (.func 91) #[.pointer (some ⟨c.g, 0, none⟩)] #[], .slice (some ⟨w.heap.size, 0, none⟩) 1 1] (w.alloc (.cells #[str [94], .int .i64 4, .int .i64 8] 69)) (RunP c (w.alloc (.cells #[str [94], .int .i64 4, .int .i64 8] 69)) vt vp nest bud ns ans)) := CR
 have HK : Hid (w.grownBy (w.alloc (.cells #[str [94], .int .i64 4, .int .i64 8] 69)) none) := K
 have hmf : ∀ (fn : Fn) (first cap : Array Value) (w : World), (Instr.makeFunc fn first cap).run Tryz.prog w = .ok (.func fn first cap) w := fun _ _ _ _ => rfl
 clear h hans hin ha K CR
 go_enter Tryz.func82, Tryz.ntmps82
 go_wp2_with fail
 refine HC.out.mono ?_
 clear HC
 cases ans with
 | error er =>
  rintro e w1 ⟨rfl, G⟩
  go_wp2
  exact ⟨rfl, rfl, (GB.non HK.out).trans G (fun _ _ h => h)⟩
 | ok v =>
  obtain ⟨ms, r⟩ := v
  rintro e w1 ⟨rfl, R⟩
  go_wp2
  go_end0
  exact ⟨rfl, Ret.of (GB.non HK.out) (fun _ _ h => h) R⟩
set_option maxHeartbeats 4000000 in
theorem row7_ok (f : Nat) (hin : FnOk c 95 (rowF f 8)) : FnOk c 91 (rowF (f + 1) 7) := by
 intro w i vt vp ts nest bud ns h hne
 have hans : rowF (f + 1) 7 nest ts = thenE (rowF f 8 nest ts) (fun p => loopG (rowF f 8 nest) 7 p.2.length p.1 p.2) := by
  rw [row_succ, stepR, if_neg (by omega), if_neg (by omega), if_neg (by omega), if_neg (by omega)]
 obtain ⟨ans, ha⟩ : ∃ a, rowF (f + 1) 7 nest ts = a := ⟨_, rfl⟩
 rw [ha] at hans hne ⊢
 have K := World.grownBy_alloc w (.cells (flatO ops7).toArray 69) none
 have CR := prow_any (h.keep K) 95 #[.pointer (some ⟨c.g, 0, none⟩)] #[] (fun _ _ => by kernel_rfl) (rowF f 8) (fun W i vt vp ts nest bud ns h hne => hin W i vt vp ts nest bud ns h hne) (fun nest ts ns r hr => (row_fr f 8 nest ts ns r hr).1) (some ⟨w.heap.size, 0, none⟩) 1 ops7 (cv_lit w _ _) (fun ad had => by cases had; exact h.not_foot (Nat.le_refl _)) (fun ad had => by cases had; simp) ask7 (by decide) 7 (by decide) (op_find ask7 bin7) ans hans.symm hne
 have HC : Hid (Calls Tryz.prog 25 #[.pointer (some ⟨c.g, 0, none⟩), .func (.func 95) #[.pointer (some ⟨c.g, 0, none⟩)] #[], .slice (some ⟨w.heap.size, 0, none⟩) 1 1] (w.alloc (.cells #[str [38], .int .i64 4, .int .i64 6] 69)) (RunP c (w.alloc (.cells #[str [38], .int .i64 4, .int .i64 6] 69)) vt vp nest bud ns ans)) := CR
 have HK : Hid (w.grownBy (w.alloc (.cells #[str [38], .int .i64 4, .int .i64 6] 69)) none) := K
 have hmf : ∀ (fn : Fn) (first cap : Array Value) (w : World), (Instr.makeFunc fn first cap).run Tryz.prog w = .ok (.func fn first cap) w := fun _ _ _ _ => rfl
 clear h hans hin ha K CR
 go_enter Tryz.func91, Tryz.ntmps91
 go_wp2_with fail
 refine HC.out.mono ?_
 clear HC
 cases ans with
 | error er =>
  rintro e w1 ⟨rfl, G⟩
  go_wp2
  exact ⟨rfl, rfl, (GB.non HK.out).trans G (fun _ _ h => h)⟩
 | ok v =>
  obtain ⟨ms, r⟩ := v
  rintro e w1 ⟨rfl, R⟩
  go_wp2
  go_end0
  exact ⟨rfl, Ret.of (GB.non HK.out) (fun _ _ h => h) R⟩
set_option maxHeartbeats 4000000 in
theorem row8_ok (f : Nat) (hin : FnOk c 97 (rowF f 9)) : FnOk c 95 (rowF (f + 1) 8) := by
 intro w i vt vp ts nest bud ns h hne
 have hans : rowF (f + 1) 8 nest ts = thenE (rowF f 9 nest ts) (fun p => loopG (rowF f 9 nest) 8 p.2.length p.1 p.2) := by
  rw [row_succ, stepR, if_neg (by omega), if_neg (by omega), if_neg (by omega), if_neg (by omega)]
 obtain ⟨ans, ha⟩ : ∃ a, rowF (f + 1) 8 nest ts = a := ⟨_, rfl⟩
 rw [ha] at hans hne ⊢
 have K := World.grownBy_alloc w (.cells (flatO ops8).toArray 69) none
 have CR := prow_any (h.keep K) 97 #[.pointer (some ⟨c.g, 0, none⟩)] #[] (fun _ _ => by kernel_rfl) (rowF f 9) (fun W i vt vp ts nest bud ns h hne => hin W i vt vp ts nest bud ns h hne) (fun nest ts ns r hr => (row_fr f 9 nest ts ns r hr).1) (some ⟨w.heap.size, 0, none⟩) 2 ops8 (cv_lit w _ _) (fun ad had => by cases had; exact h.not_foot (Nat.le_refl _)) (fun ad had => by cases had; simp) ask8 (by decide) 8 (by decide) (op_find ask8 bin8) ans hans.symm hne
 have HC : Hid (Calls Tryz.prog 25 #[.pointer (some ⟨c.g, 0, none⟩), .func (.func 97) #[.pointer (some ⟨c.g, 0, none⟩)] #[], .slice (some ⟨w.heap.size, 0, none⟩) 2 2] (w.alloc (.cells #[str [60, 60], .int .i64 4, .int .i64 9, str [62, 62], .int .i64 4, .int .i64 10] 69)) (RunP c (w.alloc (.cells #[str [60, 60], .int .i64 4, .int .i64 9, str [62, 62], .int .i64 4, .int .i64 10] 69)) vt vp nest bud ns ans)) := CR
 have HK : Hid (w.grownBy (w.alloc (.cells #[str [60, 60], .int .i64 4, .int .i64 9, str [62, 62], .int .i64 4, .int .i64 10] 69)) none) := K
 have hmf : ∀ (fn : Fn) (first cap : Array Value) (w : World), (Instr.makeFunc fn first cap).run Tryz.prog w = .ok (.func fn first cap) w := fun _ _ _ _ => rfl
 clear h hans hin ha K CR
 go_enter Tryz.func95, Tryz.ntmps95
 go_wp2_with fail
 refine HC.out.mono ?_
 clear HC
 cases ans with
 | error er =>
  rintro e w1 ⟨rfl, G⟩
  go_wp2
  exact ⟨rfl, rfl, (GB.non HK.out).trans G (fun _ _ h => h)⟩
 | ok v =>
  obtain ⟨ms, r⟩ := v
  rintro e w1 ⟨rfl, R⟩
  go_wp2
  go_end0
  exact ⟨rfl, Ret.of (GB.non HK.out) (fun _ _ h => h) R⟩
set_option maxHeartbeats 4000000 in
theorem row9_ok (f : Nat) (hin : FnOk c 102 (rowF f 10)) : FnOk c 97 (rowF (f + 1) 9) := by
 intro w i vt vp ts nest bud ns h hne
 have hans : rowF (f + 1) 9 nest ts = thenE (rowF f 10 nest ts) (fun p => loopG (rowF f 10 nest) 9 p.2.length p.1 p.2) := by
  rw [row_succ, stepR, if_neg (by omega), if_neg (by omega), if_neg (by omega), if_neg (by omega)]
 obtain ⟨ans, ha⟩ : ∃ a, rowF (f + 1) 9 nest ts = a := ⟨_, rfl⟩
 rw [ha] at hans hne ⊢
 have K := World.grownBy_alloc w (.cells (flatO ops9).toArray 69) none
 have CR := prow_any (h.keep K) 102 #[.pointer (some ⟨c.g, 0, none⟩)] #[] (fun _ _ => by kernel_rfl) (rowF f 10) (fun W i vt vp ts nest bud ns h hne => hin W i vt vp ts nest bud ns h hne) (fun nest ts ns r hr => (row_fr f 10 nest ts ns r hr).1) (some ⟨w.heap.size, 0, none⟩) 2 ops9 (cv_lit w _ _) (fun ad had => by cases had; exact h.not_foot (Nat.le_refl _)) (fun ad had => by cases had; simp) ask9 (by decide) 9 (by decide) (op_find ask9 bin9) ans hans.symm hne
 have HC : Hid (Calls Tryz.prog 25 #[.pointer (some ⟨c.g, 0, none⟩), .func (.func 102) #[.pointer (some ⟨c.g, 0, none⟩)] #[], .slice (some ⟨w.heap.size, 0, none⟩) 2 2] (w.alloc (.cells #[str [43], .int .i64 4, .int .i64 1, str [45], .int .i64 4, .int .i64 2] 69)) (RunP c (w.alloc (.cells #[str [43], .int .i64 4, .int .i64 1, str [45], .int .i64 4, .int .i64 2] 69)) vt vp nest bud ns ans)) := CR
 have HK : Hid (w.grownBy (w.alloc (.cells #[str [43], .int .i64 4, .int .i64 1, str [45], .int .i64 4, .int .i64 2] 69)) none) := K
 have hmf : ∀ (fn : Fn) (first cap : Array Value) (w : World), (Instr.makeFunc fn first cap).run Tryz.prog w = .ok (.func fn first cap) w := fun _ _ _ _ => rfl
 clear h hans hin ha K CR
 go_enter Tryz.func97, Tryz.ntmps97
 go_wp2_with fail
 refine HC.out.mono ?_
 clear HC
 cases ans with
 | error er =>
  rintro e w1 ⟨rfl, G⟩
  go_wp2
  exact ⟨rfl, rfl, (GB.non HK.out).trans G (fun _ _ h => h)⟩
 | ok v =>
  obtain ⟨ms, r⟩ := v
  rintro e w1 ⟨rfl, R⟩
  go_wp2
  go_end0
  exact ⟨rfl, Ret.of (GB.non HK.out) (fun _ _ h => h) R⟩
set_option maxHeartbeats 4000000 in
theorem row10_ok (f : Nat) (hin : FnOk c 108 (rowF f 11)) : FnOk c 102 (rowF (f + 1) 10) := by
 intro w i vt vp ts nest bud ns h hne
 have hans : rowF (f + 1) 10 nest ts = thenE (rowF f 11 nest ts) (fun p => loopG (rowF f 11 nest) 10 p.2.length p.1 p.2) := by
  rw [row_succ, stepR, if_neg (by omega), if_neg (by omega), if_neg (by omega), if_neg (by omega)]
 obtain ⟨ans, ha⟩ : ∃ a, rowF (f + 1) 10 nest ts = a := ⟨_, rfl⟩
 rw [ha] at hans hne ⊢
 have K := World.grownBy_alloc w (.cells (flatO ops10).toArray 69) none
 have CR := prow_any (h.keep K) 108 #[.pointer (some ⟨c.g, 0, none⟩)] #[] (fun _ _ => by kernel_rfl) (rowF f 11) (fun W i vt vp ts nest bud ns h hne => hin W i vt vp ts nest bud ns h hne) (fun nest ts ns r hr => (row_fr f 11 nest ts ns r hr).1) (some ⟨w.heap.size, 0, none⟩) 3 ops10 (cv_lit w _ _) (fun ad had => by cases had; exact h.not_foot (Nat.le_refl _)) (fun ad had => by cases had; simp) ask10 (by decide) 10 (by decide) (op_find ask10 bin10) ans hans.symm hne
 have HC : Hid (Calls Tryz.prog 25 #[.pointer (some ⟨c.g, 0, none⟩), .func (.func 108) #[.pointer (some ⟨c.g, 0, none⟩)] #[], .slice (some ⟨w.heap.size, 0, none⟩) 3 3] (w.alloc (.cells #[str [42], .int .i64 4, .int .i64 3, str [47], .int .i64 4, .int .i64 4, str [37], .int .i64 4, .int .i64 5] 69)) (RunP c (w.alloc (.cells #[str [42], .int .i64 4, .int .i64 3, str [47], .int .i64 4, .int .i64 4, str [37], .int .i64 4, .int .i64 5] 69)) vt vp nest bud ns ans)) := CR
 have HK : Hid (w.grownBy (w.alloc (.cells #[str [42], .int .i64 4, .int .i64 3, str [47], .int .i64 4, .int .i64 4, str [37], .int .i64 4, .int .i64 5] 69)) none) := K
 have hmf : ∀ (fn : Fn) (first cap : Array Value) (w : World), (Instr.makeFunc fn first cap).run Tryz.prog w = .ok (.func fn first cap) w := fun _ _ _ _ => rfl
 clear h hans hin ha K CR
 go_enter Tryz.func102, Tryz.ntmps102
 go_wp2_with fail
 refine HC.out.mono ?_
 clear HC
 cases ans with
 | error er =>
  rintro e w1 ⟨rfl, G⟩
  go_wp2
  exact ⟨rfl, rfl, (GB.non HK.out).trans G (fun _ _ h => h)⟩
 | ok v =>
  obtain ⟨ms, r⟩ := v
  rintro e w1 ⟨rfl, R⟩
  go_wp2
  go_end0
  exact ⟨rfl, Ret.of (GB.non HK.out) (fun _ _ h => h) R⟩
set_option maxHeartbeats 4000000 in
theorem row3_ok (f : Nat) (hin : FnOk c 42 (rowF f 3)) (hin2 : FnOk c 58 (rowF f 4)) : FnOk c 42 (rowF (f + 1) 3) := by
 intro w i vt vp ts nest bud ns h hne
 obtain ⟨ans, ha⟩ : ∃ a, rowF (f + 1) 3 nest ts = a := ⟨_, rfl⟩
 have hG := h.good.hd
 have K := World.grownBy_alloc w (.cells #[str [110, 111, 116], str [33]] 9) none
 have hyes : (hdT ts).text ∈ [[110, 111, 116], [33]] → (hdT ts).kind ≠ 0 ∧ opnV nest ts (thenE (rowF f 3 (nest + 1) ts.tail) fun p => .ok (p.1 ++ [(ndK 9, (hdT ts).pos)], p.2)) = ans := fun hm => by
  have hb : isB ts wNot = true ∨ isB ts [33] = true := by
   rw [asked_is hG (ask_2 (x := wNot) (by decide) (by kernel_rfl)), asked_is hG (ask_s (x := [33]) (by decide) (by kernel_rfl))]
   simp only [List.mem_cons, List.not_mem_nil, or_false] at hm
   rcases hm with hm | hm
   ·exact .inl (by rw [hm]; rfl)
   ·exact .inr (by rw [hm]; rfl)
  refine ⟨hb.elim isB_k0 isB_k0, ?_⟩
  rw [← ha, row_succ, stepR, if_pos ⟨rfl, hb⟩]
 have hno : (hdT ts).text ∉ [[110, 111, 116], [33]] → rowF f 4 nest ts = ans := fun hm => by
  have hb : ¬ (isB ts wNot = true ∨ isB ts [33] = true) := fun h => hm (by rcases h with h | h <;> rw [isB_text h] <;> decide)
  rw [← ha, row_succ, stepR, if_neg (fun h => hb h.2), if_neg (by omega), if_pos (.inl rfl)]
 rw [ha] at hne ⊢
 have CR := punary_any (h.keep K) 9 42 #[.pointer (some ⟨c.g, 0, none⟩)] #[] (fun _ _ => by kernel_rfl) 58 #[.pointer (some ⟨c.g, 0, none⟩)] #[] (fun _ _ => by kernel_rfl) (rowF f 3) (rowF f 4) (fun W i vt vp ts nest bud ns h hne => hin W i vt vp ts nest bud ns h hne) (fun W i vt vp ts nest bud ns h hne => hin2 W i vt vp ts nest bud ns h hne) (some ⟨w.heap.size, 0, none⟩) 2 [[110, 111, 116], [33]] (cv_lit w _ _) (by decide) ans hyes hno hne
 have HC : Hid (Calls Tryz.prog 57 #[.pointer (some ⟨c.g, 0, none⟩), .int .i64 9, .func (.func 42) #[.pointer (some ⟨c.g, 0, none⟩)] #[], .func (.func 58) #[.pointer (some ⟨c.g, 0, none⟩)] #[], .slice (some ⟨w.heap.size, 0, none⟩) 2 2] (w.alloc (.cells #[str [110, 111, 116], str [33]] 9)) (RunP c (w.alloc (.cells #[str [110, 111, 116], str [33]] 9)) vt vp nest bud ns ans)) := CR
 have HK : Hid (w.grownBy (w.alloc (.cells #[str [110, 111, 116], str [33]] 9)) none) := K
 have hmf : ∀ (fn : Fn) (first cap : Array Value) (w : World), (Instr.makeFunc fn first cap).run Tryz.prog w = .ok (.func fn first cap) w := fun _ _ _ _ => rfl
 clear h hyes hno hin hin2 ha K CR hG hne
 go_enter Tryz.func42, Tryz.ntmps42
 go_wp2_with fail
 refine HC.out.mono ?_
 clear HC
 cases ans with
 | error er =>
  rintro e w1 ⟨rfl, G⟩
  go_wp2
  exact ⟨rfl, rfl, (GB.non HK.out).trans G (fun _ _ h => h)⟩
 | ok v =>
  obtain ⟨ms, r⟩ := v
  rintro e w1 ⟨rfl, R⟩
  go_wp2
  go_end0
  exact ⟨rfl, Ret.of (GB.non HK.out) (fun _ _ h => h) R⟩
set_option maxHeartbeats 4000000 in
theorem row11_ok (f : Nat) (hin : FnOk c 108 (rowF f 11)) (hin2 : FnOk c 111 (rowF f 12)) : FnOk c 108 (rowF (f + 1) 11) := by
 intro w i vt vp ts nest bud ns h hne
 obtain ⟨ans, ha⟩ : ∃ a, rowF (f + 1) 11 nest ts = a := ⟨_, rfl⟩
 have hG := h.good.hd
 have K := World.grownBy_alloc w (.cells #[str [45]] 9) none
 have hyes : (hdT ts).text ∈ [[45]] → (hdT ts).kind ≠ 0 ∧ opnV nest ts (thenE (rowF f 11 (nest + 1) ts.tail) fun p => .ok (p.1 ++ [(ndK 5, (hdT ts).pos)], p.2)) = ans := fun hm => by
  have hb : isB ts [45] = true := by
   rw [asked_is hG (ask_s (x := [45]) (by decide) (by kernel_rfl))]
   simpa using hm
  refine ⟨isB_k0 hb, ?_⟩
  rw [← ha, row_succ, stepR, if_neg (by omega), if_pos ⟨rfl, hb⟩]
 have hno : (hdT ts).text ∉ [[45]] → rowF f 12 nest ts = ans := fun hm => by
  have hb : ¬ isB ts [45] = true := fun h => hm (by rw [isB_text h]; decide)
  rw [← ha, row_succ, stepR, if_neg (by omega), if_neg (fun h => hb h.2), if_pos (.inr rfl)]
 rw [ha] at hne ⊢
 have CR := punary_any (h.keep K) 5 108 #[.pointer (some ⟨c.g, 0, none⟩)] #[] (fun _ _ => by kernel_rfl) 111 #[.pointer (some ⟨c.g, 0, none⟩)] #[] (fun _ _ => by kernel_rfl) (rowF f 11) (rowF f 12) (fun W i vt vp ts nest bud ns h hne => hin W i vt vp ts nest bud ns h hne) (fun W i vt vp ts nest bud ns h hne => hin2 W i vt vp ts nest bud ns h hne) (some ⟨w.heap.size, 0, none⟩) 1 [[45]] (cv_lit w _ _) (by decide) ans hyes hno hne
 have HC : Hid (Calls Tryz.prog 57 #[.pointer (some ⟨c.g, 0, none⟩), .int .i64 5, .func (.func 108) #[.pointer (some ⟨c.g, 0, none⟩)] #[], .func (.func 111) #[.pointer (some ⟨c.g, 0, none⟩)] #[], .slice (some ⟨w.heap.size, 0, none⟩) 1 1] (w.alloc (.cells #[str [45]] 9)) (RunP c (w.alloc (.cells #[str [45]] 9)) vt vp nest bud ns ans)) := CR
 have HK : Hid (w.grownBy (w.alloc (.cells #[str [45]] 9)) none) := K
 have hmf : ∀ (fn : Fn) (first cap : Array Value) (w : World), (Instr.makeFunc fn first cap).run Tryz.prog w = .ok (.func fn first cap) w := fun _ _ _ _ => rfl
 clear h hyes hno hin hin2 ha K CR hG hne
 go_enter Tryz.func108, Tryz.ntmps108
 go_wp2_with fail
 refine HC.out.mono ?_
 clear HC
 cases ans with
 | error er =>
  rintro e w1 ⟨rfl, G⟩
  go_wp2
  exact ⟨rfl, rfl, (GB.non HK.out).trans G (fun _ _ h => h)⟩
 | ok v =>
  obtain ⟨ms, r⟩ := v
  rintro e w1 ⟨rfl, R⟩
  go_wp2
  go_end0
  exact ⟨rfl, Ret.of (GB.non HK.out) (fun _ _ h => h) R⟩
theorem loop_rel {rec : List Tk → Out} {ms : List (Nd × Nat)} {ts : List Tk} (h : ts ≠ []) : loopG rec 4 ts.length ms ts = match opT 4 ts with
  | none => .ok (ms, ts)
  | some nd => thenE (rec ts.tail) fun p => .ok (ms ++ p.1 ++ [(nd, (hdT ts).pos)], p.2) := by
 obtain ⟨n, hn⟩ : ∃ n, ts.length = n + 1 := ⟨ts.length - 1, by have := List.length_pos_iff.2 h; omega⟩
 rw [hn, loopG]
 cases opT 4 ts with
 | none => rfl
 | some nd =>
  simp only
  congr 1
set_option maxHeartbeats 4000000 in
theorem row4_ok (f : Nat) (hin : FnOk c 67 (rowF f 5)) : FnOk c 58 (rowF (f + 1) 4) := by
 intro w i vt vp ts nest bud ns h hne
 have hans : rowF (f + 1) 4 nest ts = thenE (rowF f 5 nest ts) (fun p => loopG (rowF f 5 nest) 4 p.2.length p.1 p.2) := by
  rw [row_succ, stepR, if_neg (by omega), if_neg (by omega), if_neg (by omega), if_neg (by omega)]
 obtain ⟨ans, ha⟩ : ∃ a, rowF (f + 1) 4 nest ts = a := ⟨_, rfl⟩
 rw [ha] at hans hne ⊢
 have h1 : rowF f 5 nest ts ≠ .error exP := fun e => by rw [e] at hans; exact hne hans
 have C1 := hin w i vt vp ts nest bud ns h h1
 have HIN : Hid (FnOk c 67 (rowF f 5)) := hin
 have HANS : Hid (ans = thenE (rowF f 5 nest ts) (fun p => loopG (rowF f 5 nest) 4 p.2.length p.1 p.2)) := hans
 have HNE : Hid (ans ≠ .error exP) := hne
 have hmf : ∀ (fn : Fn) (first cap : Array Value) (w : World), (Instr.makeFunc fn first cap).run Tryz.prog w = .ok (.func fn first cap) w := fun _ _ _ _ => rfl
 clear h hans hin ha h1 hne
 generalize rowF f 5 nest ts = rr at *
 go_enter Tryz.func58, Tryz.ntmps58
 go_wp2_with fail
 refine C1.mono ?_
 clear C1
 cases rr with
 | error er =>
  have HA3 : Hid (ans = .error er) := HANS.out
  rintro e w1 ⟨rfl, G⟩
  go_wp2
  refine ⟨rfl, ?_⟩
  rw [HA3.out]
  exact ⟨rfl, G⟩
 | ok v =>
  obtain ⟨ms, r1⟩ := v
  rw [thenE_ok] at HANS
  simp only at HANS
  rintro e w1 ⟨rfl, i1, vt1, vp1, H1, G1, F1⟩
  rw [loop_rel H1.good.ne, op_find ask4 bin4 r1 H1.good] at HANS
  have K := World.grownBy_alloc w1 (.cells (flatO ops4).toArray 69) none
  have CF := further_any (H1.keep K) 67 #[.pointer (some ⟨c.g, 0, none⟩)] #[] (fun _ _ => by kernel_rfl) (rowF f 5) (fun W i vt vp ts nest bud ns h hne => HIN.out W i vt vp ts nest bud ns h hne) (some ⟨w1.heap.size, 0, none⟩) 7 ops4 (cv_lit w1 _ _) ask4 (by decide) (fun hf e => by
   cases hfo : findO ops4 (hdT r1).text with
   | none => exact hf hfo
   | some nd =>
    have := HANS.out
    rw [hfo] at this
    simp only at this
    rw [e] at this
    exact HNE.out this)
  have HC : Hid (Calls Tryz.prog 41 #[.pointer (some ⟨c.g, 0, none⟩), .func (.func 67) #[.pointer (some ⟨c.g, 0, none⟩)] #[], .slice (some ⟨w1.heap.size, 0, none⟩) 7 7] (w1.alloc (.cells #[str [61], .int .i64 6, .int .i64 1, str [61, 61], .int .i64 6, .int .i64 1, str [33, 61], .int .i64 6, .int .i64 2, str [60], .int .i64 6, .int .i64 3, str [60, 61], .int .i64 6, .int .i64 4, str [62], .int .i64 6, .int .i64 5, str [62, 61], .int .i64 6, .int .i64 6] 69)) (FurP c (w1.alloc (.cells #[str [61], .int .i64 6, .int .i64 1, str [61, 61], .int .i64 6, .int .i64 1, str [33, 61], .int .i64 6, .int .i64 2, str [60], .int .i64 6, .int .i64 3, str [60, 61], .int .i64 6, .int .i64 4, str [62], .int .i64 6, .int .i64 5, str [62, 61], .int .i64 6, .int .i64 6] 69)) vt1 vp1 nest bud (ns ++ ms) (hdT r1).pos (findO ops4 (hdT r1).text) (rowF f 5 nest r1.tail))) := CF
  have HK : Hid (w1.grownBy (w1.alloc (.cells #[str [61], .int .i64 6, .int .i64 1, str [61, 61], .int .i64 6, .int .i64 1, str [33, 61], .int .i64 6, .int .i64 2, str [60], .int .i64 6, .int .i64 3, str [60, 61], .int .i64 6, .int .i64 4, str [62], .int .i64 6, .int .i64 5, str [62, 61], .int .i64 6, .int .i64 6] 69)) none) := K
  have HQ : Hid (PS c w1 i1 vt1 vp1 r1 nest bud (ns ++ ms) ∧ GB w w1 (foot c.g vt vp) ∧ ∀ x, x < w.heap.size → foot c.g vt1 vp1 x → foot c.g vt vp x) := ⟨H1, G1, F1⟩
  clear K CF H1 G1 F1 HIN HNE
  generalize rowF f 5 nest r1.tail = rr at *
  generalize findO ops4 (hdT r1).text = fo at *
  go_wp2_with fail
  refine HC.out.mono ?_
  clear HC
  cases fo with
  | none =>
   have HA3 : Hid (ans = .ok (ms, r1)) := HANS.out
   rintro e w2 ⟨rfl, G2⟩
   go_wp2
   go_end0
   rw [HA3.out]
   have G3 := grown_trans HK.out G2
   exact ⟨rfl, i1, vt1, vp1, HQ.out.1.keep G3, HQ.out.2.1.trans (GB.non (S := foot c.g vt vp) G3) (fun _ _ h => h), HQ.out.2.2⟩
  | some nd =>
   cases rr with
   | error er =>
    have HA3 : Hid (ans = .error er) := HANS.out
    rintro e w2 ⟨rfl, G2⟩
    go_wp2
    refine ⟨rfl, ?_⟩
    rw [HA3.out]
    exact ⟨rfl, HQ.out.2.1.trans ((GB.non (S := foot c.g vt1 vp1) HK.out).trans G2 (fun _ _ h => h)) HQ.out.2.2⟩
   | ok v =>
    obtain ⟨m2, r2⟩ := v
    have HA3 : Hid (ans = .ok (ms ++ m2 ++ [(nd, (hdT r1).pos)], r2)) := HANS.out
    rintro e w2 ⟨rfl, R2⟩
    go_wp2
    go_end0
    rw [HA3.out]
    refine ⟨rfl, ?_⟩
    rw [← List.append_assoc, ← List.append_assoc]
    exact Ret.of HQ.out.2.1 HQ.out.2.2 (Ret.of (GB.non HK.out) (fun _ _ h => h) R2)
theorem row12_ok (f : Nat) (hin : FnOk c 14 (rowF f 1)) : FnOk c 111 (rowF (f + 1) 12) := by
 intro w i vt vp ts nest bud ns h hne
 have HO : OrOk c (rowF f 1) := hin
 have hans : rowF (f + 1) 12 nest ts = partF (rowF f 1) nest ts := by
  rw [row_succ, stepR, if_neg (by omega), if_neg (by omega), if_neg (by omega), if_pos rfl]
 rw [hans] at hne ⊢
 have hG := h.good.hd
 by_cases h1 : (hdT ts).kind = 1
 ·rw [part_num h1]
  exact part_n h h1
 by_cases h2 : (hdT ts).text = [40]
 ·have hk : (hdT ts).kind = 5 := asked_kind hG (by decide) (by kernel_rfl) h2
  have e := part_paren (rec := rowF f 1) (nest := nest) hG h2
  exact part_p h (rowF f 1) HO h1 (by omega) h2 _ e.symm hne
 by_cases h3 : (hdT ts).text ∈ wordsL
 ·have hk : (hdT ts).kind = 2 := asked_kind hG (tok_words _ h3).1 (tok_words _ h3).2.1 rfl
  have hk0 : (hdT ts).kind ≠ 0 := by omega
  have e := part_word (rec := rowF f 1) (nest := nest) hG h3
  rw [e] at hne ⊢
  simp only [wordsL, List.mem_cons, List.not_mem_nil, or_false] at h3
  have hs : (hdT ts).text ∈ [wSrc, wDst, wHost, wNet, wPort, wPortrange] → wordF ts = one1 (hdT ts).pos (hnpV (sideN ts) (sideR ts)) := fun hm => by
   have n1 : (hdT ts).text ≠ wLen := fun e => by rw [e] at hm; exact absurd hm (by decide)
   have n2 : (hdT ts).text ≠ wInbound := fun e => by rw [e] at hm; exact absurd hm (by decide)
   have n3 : (hdT ts).text ≠ wOutbound := fun e => by rw [e] at hm; exact absurd hm (by decide)
   have n4 : (hdT ts).text ≠ wProto := fun e => by rw [e] at hm; exact absurd hm (by decide)
   rw [wordF, if_neg n1, if_neg n2, if_neg n3, if_neg n4, if_pos hm, sidedV, sided_hnp]
  rcases h3 with h3 | h3 | h3 | h3 | h3 | h3 | h3 | h3 | h3 | h3
  ·have e2 : wordF ts = .ok ([(ndK 2, (hdT ts).pos)], ts.tail) := by rw [wordF, if_pos h3]
   rw [e2]
   exact part_l h h1 hk0 h3
  ·have e2 : wordF ts = .ok ([(wayN 1, (hdT ts).pos)], ts.tail) := by rw [wordF, if_neg (by rw [h3]; decide), if_pos h3]; rfl
   rw [e2]
   exact part_i h h1 hk0 h3
  ·have e2 : wordF ts = .ok ([(wayN 2, (hdT ts).pos)], ts.tail) := by rw [wordF, if_neg (by rw [h3]; decide), if_neg (by rw [h3]; decide), if_pos h3]; rfl
   rw [e2]
   exact part_o h h1 hk0 h3
  ·have e2 : wordF ts = thenE (numT ts.tail) fun p => .ok ([(protoN p.1, (hdT ts).pos)], p.2) := by rw [wordF, if_neg (by rw [h3]; decide), if_neg (by rw [h3]; decide), if_neg (by rw [h3]; decide), if_pos h3]; rfl
   rw [e2]
   exact part_q h h1 hk0 h3 _ rfl
  ·rw [hs (by rw [h3]; decide)]
   exact part_s5 h h1 h3 _ rfl
  ·rw [hs (by rw [h3]; decide)]
   exact part_s6 h h1 h3 _ rfl
  ·rw [hs (by rw [h3]; decide)]
   exact part_s7 h h1 h3 _ rfl
  ·rw [hs (by rw [h3]; decide)]
   exact part_s8 h h1 h3 _ rfl
  ·rw [hs (by rw [h3]; decide)]
   exact part_s9 h h1 h3 _ rfl
  ·rw [hs (by rw [h3]; decide)]
   exact part_s10 h h1 h3 _ rfl
 have e : partF (rowF f 1) nest ts = (if nameN (hdT ts).text = 0 then .error (stuckE ts) else nameF (rowF f 1) nest (nameN (hdT ts).text) (hdT ts).pos ts.tail) := by
  by_cases hn : nameN (hdT ts).text = 0
  ·rw [if_pos hn, part_none h1 h2 h3 hn]
   rfl
  ·rw [if_neg hn]
   exact (part_name hG hn).1
 exact part_d h (rowF f 1) HO h1 h2 h3 _ e.symm hne
def methN : Nat → Nat
 | 1 => 14
 | 2 => 26
 | 3 => 42
 | 4 => 58
 | 5 => 67
 | 6 => 82
 | 7 => 91
 | 8 => 95
 | 9 => 97
 | 10 => 102
 | 11 => 108
 | _ => 111
theorem rows_ok : ∀ (f k : Nat), 1 ≤ k → k ≤ 12 → FnOk c (methN k) (rowF f k)
 | 0, k, _, _ => fun w i vt vp ts nest bud ns _ hne => absurd rfl hne
 | f + 1, k, h1, h12 => by
  have ih := rows_ok f
  have hk : k = 1 ∨ k = 2 ∨ k = 3 ∨ k = 4 ∨ k = 5 ∨ k = 6 ∨ k = 7 ∨ k = 8 ∨ k = 9 ∨ k = 10 ∨ k = 11 ∨ k = 12 := by omega
  rcases hk with rfl | rfl | rfl | rfl | rfl | rfl | rfl | rfl | rfl | rfl | rfl | rfl
  ·exact row1_ok f (ih 2 (by omega) (by omega))
  ·exact row2_ok f (ih 3 (by omega) (by omega))
  ·exact row3_ok f (ih 3 (by omega) (by omega)) (ih 4 (by omega) (by omega))
  ·exact row4_ok f (ih 5 (by omega) (by omega))
  ·exact row5_ok f (ih 6 (by omega) (by omega))
  ·exact row6_ok f (ih 7 (by omega) (by omega))
  ·exact row7_ok f (ih 8 (by omega) (by omega))
  ·exact row8_ok f (ih 9 (by omega) (by omega))
  ·exact row9_ok f (ih 10 (by omega) (by omega))
  ·exact row10_ok f (ih 11 (by omega) (by omega))
  ·exact row11_ok f (ih 11 (by omega) (by omega)) (ih 12 (by omega) (by omega))
  ·exact row12_ok f (ih 1 (by omega) (by omega))

end
def nilV : Value := .slice none 0 0
structure Res (w : World) (R : Nat) (a b d e : Value) : Prop where
 t : VAt w R 31 #[a]
 p : VAt w (R + 1) 24 #[b]
 n : VAt w (R + 2) 3 #[d]
 x : VAt w (R + 3) 33 #[e]
theorem Res.keep {w w' : World} {R : Nat} {a b d e : Value} (h : Res w R a b d e) (G : w.grownBy w' none) : Res w' R a b d e := ⟨h.t.kept G, h.p.kept G, h.n.kept G, h.x.kept G⟩
theorem Res.gb {w w' : World} {R : Nat} {a b d e : Value} {S : Nat → Prop} (h : Res w R a b d e) (G : GB w w' S) (hS : ∀ x, S x → x < R ∨ R + 3 < x) : Res w' R a b d e :=
 ⟨G.vat h.t (fun e => by have := hS _ e; omega), G.vat h.p (fun e => by have := hS _ e; omega), G.vat h.n (fun e => by have := hS _ e; omega), G.vat h.x (fun e => by have := hS _ e; omega)⟩
def R4 (R x : Nat) : Prop := R ≤ x ∧ x ≤ R + 3
theorem Res.set {w : World} {R : Nat} {a b d e : Value} (h : Res w R a b d e) (a' b' d' e' : Value) :
  Res ((((w.setCell ⟨R, 0, none⟩ a').setCell ⟨R + 1, 0, none⟩ b').setCell ⟨R + 2, 0, none⟩ d').setCell ⟨R + 3, 0, none⟩ e') R a' b' d' e' ∧ GB w ((((w.setCell ⟨R, 0, none⟩ a').setCell ⟨R + 1, 0, none⟩ b').setCell ⟨R + 2, 0, none⟩ d').setCell ⟨R + 3, 0, none⟩ e') (R4 R) := by
 have t1 := h.t.set 0 a'
 have p2 := (h.p.setOther (k := R) (i := 0) a' (by omega)).set 0 b'
 have t2 := t1.setOther (k := R + 1) (i := 0) b' (by omega)
 have n3 := ((h.n.setOther (k := R) (i := 0) a' (by omega)).setOther (k := R + 1) (i := 0) b' (by omega)).set 0 d'
 have x4 := (((h.x.setOther (k := R) (i := 0) a' (by omega)).setOther (k := R + 1) (i := 0) b' (by omega)).setOther (k := R + 2) (i := 0) d' (by omega)).set 0 e'
 refine ⟨⟨(t2.setOther d' (by omega)).setOther e' (by omega), (p2.setOther d' (by omega)).setOther e' (by omega), n3.setOther e' (by omega), x4⟩, ?_⟩
 have g : ∀ (W : World) (k : Nat) (v : Value), R ≤ k → k ≤ R + 3 → GB W (W.setCell ⟨k, 0, none⟩ v) (R4 R) := fun W k v h1 h2 => GB.of (grown_set W k 0 v) (fun x hx => by cases hx; exact ⟨h1, h2⟩)
 exact ((((g w R a' (by omega) (by omega)).trans (g _ (R + 1) b' (by omega) (by omega)) (fun _ _ h => h)).trans (g _ (R + 2) d' (by omega) (by omega)) (fun _ _ h => h)).trans (g _ (R + 3) e' (by omega) (by omega)) (fun _ _ h => h))
set_option maxHeartbeats 4000000 in
theorem pcatch_pan (R : Nat) (er : Er) (a b d e0 : Value) (w : World) (h : Res w R a b d e0) :
  CallsD Tryz.prog 13 #[.pointer (some ⟨R, 0, none⟩), .pointer (some ⟨R + 1, 0, none⟩), .pointer (some ⟨R + 2, 0, none⟩), .pointer (some ⟨R + 3, 0, none⟩)] (.panicking (PanS er)) w fun e u' w' =>
   e = .returned (.tuple #[]) ∧ u' = .panicking [{ v := .iface 46 (.agg #[.int .i64 (er.1 : Int), .int .i64 er.2]), recovered := true }] ∧ Res w' R nilV nilV (.int .i64 (er.1 : Int)) (.int .i64 er.2) ∧ GB w w' (R4 R) := by
 obtain ⟨ep, ex⟩ := er
 have hta : ∀ W : World, (Instr.typeAssert (.iface 46 (.agg #[.int .i64 (ep : Int), .int .i64 ex])) 20 46 true).run Tryz.prog W = .ok (.tuple #[.agg #[.int .i64 (ep : Int), .int .i64 ex], .bool true]) W := fun W => by kernel_rfl
 refine callsD_of_wpS Tryz.func13 rfl fun c₀ cs hu => ?_
 unfold PanS at hu
 apply wpS_seq
 apply wpS_region
 simp [wpOpsS, go_sem, recoverD, hu, hta, Tryz.ntmps13, Exit.thenS]
 refine wpS_of_wp ?_
 have K1 := World.grownBy_alloc w (.cells #[.int .i64 (ep : Int), .int .i64 ex] 46) none
 have B1 := VAt.alloc w 46 #[.int .i64 (ep : Int), .int .i64 ex]
 have H1 := h.keep K1
 have HL : Hid (R + 3 < w.heap.size) := h.x.lt
 clear hta h
 obtain ⟨T, hT⟩ : ∃ T, Tryz.f13 = T := ⟨_, rfl⟩
 have HT : Hid (T.results = #[]) := by show T.results = #[]; rw [← hT]; rfl
 rw [hT]
 clear hT
 have eT : (#[.pointer (some ⟨R, 0, none⟩), .pointer (some ⟨R + 1, 0, none⟩), .pointer (some ⟨R + 2, 0, none⟩), .pointer (some ⟨R + 3, 0, none⟩)] ++ (((((((Array.replicate 12 undef).setIfInBounds 3 (.iface 46 (.agg #[.int .i64 (ep : Int), .int .i64 ex]))).setIfInBounds 4 (.tuple #[.agg #[.int .i64 (ep : Int), .int .i64 ex], .bool true])).setIfInBounds 2 (.tuple #[.agg #[.int .i64 (ep : Int), .int .i64 ex], .bool true])).setIfInBounds 5 (.agg #[.int .i64 (ep : Int), .int .i64 ex])).setIfInBounds 6 (.bool true)).setIfInBounds 0 (.pointer (some ⟨w.heap.size, 0, none⟩))).setIfInBounds 1 (.bool true) : Array Value) =
  #[.pointer (some ⟨R, 0, none⟩), .pointer (some ⟨R + 1, 0, none⟩), .pointer (some ⟨R + 2, 0, none⟩), .pointer (some ⟨R + 3, 0, none⟩), .pointer (some ⟨w.heap.size, 0, none⟩), .bool true, .tuple #[.agg #[.int .i64 (ep : Int), .int .i64 ex], .bool true], .iface 46 (.agg #[.int .i64 (ep : Int), .int .i64 ex]), .tuple #[.agg #[.int .i64 (ep : Int), .int .i64 ex], .bool true], .agg #[.int .i64 (ep : Int), .int .i64 ex], .bool true, undef, undef, undef, undef, undef] := by kernel_rfl
 rw [eT]
 clear eT
 generalize w.alloc (.cells #[.int .i64 (ep : Int), .int .i64 ex] 46) = w1 at *
 generalize w.heap.size = V at *
 have b0 : w1.cell? ⟨V, 0, none⟩ = some (.int .i64 (ep : Int)) := B1.cell 0
 have b1 : w1.cell? ⟨V, 1, none⟩ = some (.int .i64 ex) := B1.cell 1
 have r0 : w1.cell? ⟨R, 0, none⟩ = some a := H1.t.cell 0
 have r1 : w1.cell? ⟨R + 1, 0, none⟩ = some b := H1.p.cell 0
 have r2 : w1.cell? ⟨R + 2, 0, none⟩ = some d := H1.n.cell 0
 have r3 : w1.cell? ⟨R + 3, 0, none⟩ = some e0 := H1.x.cell 0
 have f0 := H1.t.free 0
 have f1 := H1.p.free 0
 have f2 := H1.n.free 0
 have f3 := H1.x.free 0
 have HQ : Hid (Res w1 R a b d e0 ∧ w.grownBy w1 none) := ⟨H1, K1⟩
 have n0 : ¬ R = V := fun e => by have := HL.out; omega
 have n1 : ¬ R + 1 = V := fun e => by have := HL.out; omega
 have n2 : ¬ R + 2 = V := fun e => by have := HL.out; omega
 have n3 : ¬ R + 3 = V := fun e => by have := HL.out; omega
 clear K1 B1 H1
 go_wp2
 go_region
 go_wp2
 obtain ⟨h1, h2⟩ := HQ.out.1.set nilV nilV (.int .i64 (ep : Int)) (.int .i64 ex)
 exact ⟨rfl, _, rfl, _, results_none HT.out _ _ _, rfl, rfl, h1.keep (grown_drewN _ 1 none), ((GB.non HQ.out.2).trans h2 (fun _ _ h => h)).trans (GB.non (S := R4 R) (grown_drewN _ 1 none)) (fun _ _ h => h)⟩
set_option maxHeartbeats 4000000 in
theorem pcatch_idle (R : Nat) (a b d e0 : Value) (w : World) (h : Res w R a b d e0) :
  CallsD Tryz.prog 13 #[.pointer (some ⟨R, 0, none⟩), .pointer (some ⟨R + 1, 0, none⟩), .pointer (some ⟨R + 2, 0, none⟩), .pointer (some ⟨R + 3, 0, none⟩)] .returning w fun e u' w' => e = .returned (.tuple #[]) ∧ u' = .returning ∧ Res w' R a b d e0 ∧ w.grownBy w' none := by
 have hta : ∀ W : World, (Instr.typeAssert .nilIface 20 46 true).run Tryz.prog W = .ok (.tuple #[.agg #[.int .i64 0, .int .i64 0], .bool false]) W := fun W => by kernel_rfl
 refine callsD_of_wpS Tryz.func13 rfl fun c₀ cs hu => ?_
 apply wpS_seq
 apply wpS_region
 simp [wpOpsS, go_sem, recoverD, hu, hta, Tryz.ntmps13, Exit.thenS]
 refine wpS_of_wp ?_
 have K1 := World.grownBy_alloc w (.cells #[.int .i64 0, .int .i64 0] 46) none
 have HQ : Hid (Res (w.alloc (.cells #[.int .i64 0, .int .i64 0] 46)) R a b d e0 ∧ w.grownBy (w.alloc (.cells #[.int .i64 0, .int .i64 0] 46)) none) := ⟨h.keep K1, K1⟩
 clear hta h K1
 obtain ⟨T, hT⟩ : ∃ T, Tryz.f13 = T := ⟨_, rfl⟩
 have HT : Hid (T.results = #[]) := by show T.results = #[]; rw [← hT]; rfl
 rw [hT]
 clear hT
 have eT : (#[.pointer (some ⟨R, 0, none⟩), .pointer (some ⟨R + 1, 0, none⟩), .pointer (some ⟨R + 2, 0, none⟩), .pointer (some ⟨R + 3, 0, none⟩)] ++ (((((((Array.replicate 12 undef).setIfInBounds 3 .nilIface).setIfInBounds 4 (.tuple #[.agg #[.int .i64 0, .int .i64 0], .bool false])).setIfInBounds 2 (.tuple #[.agg #[.int .i64 0, .int .i64 0], .bool false])).setIfInBounds 5 (.agg #[.int .i64 0, .int .i64 0])).setIfInBounds 6 (.bool false)).setIfInBounds 0 (.pointer (some ⟨w.heap.size, 0, none⟩))).setIfInBounds 1 (.bool false) : Array Value) =
  #[.pointer (some ⟨R, 0, none⟩), .pointer (some ⟨R + 1, 0, none⟩), .pointer (some ⟨R + 2, 0, none⟩), .pointer (some ⟨R + 3, 0, none⟩), .pointer (some ⟨w.heap.size, 0, none⟩), .bool false, .tuple #[.agg #[.int .i64 0, .int .i64 0], .bool false], .nilIface, .tuple #[.agg #[.int .i64 0, .int .i64 0], .bool false], .agg #[.int .i64 0, .int .i64 0], .bool false, undef, undef, undef, undef, undef] := by kernel_rfl
 rw [eT]
 clear eT
 generalize w.alloc (.cells #[.int .i64 0, .int .i64 0] 46) = w1 at *
 generalize w.heap.size = V at *
 go_wp2
 exact ⟨rfl, _, by rw [← hu], _, results_none HT.out _ _ _, rfl, rfl, HQ.out.1, HQ.out.2⟩

end Go.Proofs.YtghbbephhoniaaaGreatDoor
