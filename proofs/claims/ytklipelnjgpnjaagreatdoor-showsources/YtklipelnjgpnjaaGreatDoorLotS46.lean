import Derived.Test.YtklipelnjgpnjaaGreatDoorSPsO
import Derived.Defers
import Derived.Recover
import Derived.Test.YtklipelnjgpnjaaGreatDoorLotS37
import Derived.Test.YtklipelnjgpnjaaGreatDoorLotS6
set_option maxHeartbeats 64000000
set_option maxRecDepth 100000
namespace Go.Proofs.YtklipelnjgpnjaaGreatDoor
open Go.RowKit
def L8 (c : PC) (n : Nat) (rec : Nat → List Tk → Out) : Prop := ∀ (W : World) (i : Nat) (vt vp : Value) (ts : List Tk) (nest bud : Nat) (ns : List (Nd × Nat)), PS c W i vt vp ts nest bud ns → rec nest ts ≠ .error exP → Calls Tryz.prog n #[.pointer (some ⟨c.g, 0, none⟩)] W (o6 c W vt vp nest bud ns (rec nest ts))
theorem a1S {k : Nat} {os : List Op3} (hos : ∀ o ∈ os, R0 o.1) (hb : ∀ x, q7 k x = I5 os x) (ts : List Tk) (hG : a0i ts) : opT k ts = I5 os (hdT ts).text := by
 unfold opT
 split
 ·exact hb _
 ·rename_i hk
  refine (a8u (fun j hj e => hk ?_)).symm
  have hA := hos _ (List.getElem_mem hj)
  have hi : isB ts os[j].1 = true := by rw [a11 hG.hd hA]; simpa using e.symm
  exact a6o hi
def a3i : List Op3 := [(wOr, 8, 0), ([124, 124], 8, 0)]
theorem a7Q : ∀ o ∈ a3i, R0 o.1 := by
 intro o ho
 simp only [a3i, List.mem_cons, List.not_mem_nil, or_false] at ho
 rcases ho with rfl | rfl
 ·exact a5R (by decide) (by kernel_rfl)
 ·exact D9 (by decide) (by kernel_rfl)
theorem aj8 (x : List UInt8) : q7 1 x = I5 a3i x := by
 by_cases h0 : x = [111, 114]
 ·subst h0; rfl
 have g0 : ¬ [111, 114] = x := fun e => h0 e.symm
 by_cases h1 : x = [124, 124]
 ·subst h1; rfl
 have g1 : ¬ [124, 124] = x := fun e => h1 e.symm
 simp [q7, wOr, I5, a3i, h0, g0, h1, g1]
def a3k : List Op3 := [(V0, 7, 0), ([38, 38], 7, 0)]
theorem a7S : ∀ o ∈ a3k, R0 o.1 := by
 intro o ho
 simp only [a3k, List.mem_cons, List.not_mem_nil, or_false] at ho
 rcases ho with rfl | rfl
 ·exact a5R (by decide) (by kernel_rfl)
 ·exact D9 (by decide) (by kernel_rfl)
theorem ak0 (x : List UInt8) : q7 2 x = I5 a3k x := by
 by_cases h0 : x = [97, 110, 100]
 ·subst h0; rfl
 have g0 : ¬ [97, 110, 100] = x := fun e => h0 e.symm
 by_cases h1 : x = [38, 38]
 ·subst h1; rfl
 have g1 : ¬ [38, 38] = x := fun e => h1 e.symm
 simp [q7, V0, I5, a3k, h0, g0, h1, g1]
def a1T : List Op3 := [([61], 6, 1), ([61, 61], 6, 1), ([33, 61], 6, 2), ([60], 6, 3), ([60, 61], 6, 4), ([62], 6, 5), ([62, 61], 6, 6)]
theorem a7T : ∀ o ∈ a1T, R0 o.1 := by
 intro o ho
 simp only [a1T, List.mem_cons, List.not_mem_nil, or_false] at ho
 rcases ho with rfl | rfl | rfl | rfl | rfl | rfl | rfl
 ·exact D9 (by decide) (by kernel_rfl)
 ·exact D9 (by decide) (by kernel_rfl)
 ·exact D9 (by decide) (by kernel_rfl)
 ·exact D9 (by decide) (by kernel_rfl)
 ·exact D9 (by decide) (by kernel_rfl)
 ·exact D9 (by decide) (by kernel_rfl)
 ·exact D9 (by decide) (by kernel_rfl)
theorem ak1 (x : List UInt8) : q7 4 x = I5 a1T x := by
 by_cases h0 : x = [61]
 ·subst h0; rfl
 have g0 : ¬ [61] = x := fun e => h0 e.symm
 by_cases h1 : x = [61, 61]
 ·subst h1; rfl
 have g1 : ¬ [61, 61] = x := fun e => h1 e.symm
 by_cases h2 : x = [33, 61]
 ·subst h2; rfl
 have g2 : ¬ [33, 61] = x := fun e => h2 e.symm
 by_cases h3 : x = [60]
 ·subst h3; rfl
 have g3 : ¬ [60] = x := fun e => h3 e.symm
 by_cases h4 : x = [60, 61]
 ·subst h4; rfl
 have g4 : ¬ [60, 61] = x := fun e => h4 e.symm
 by_cases h5 : x = [62]
 ·subst h5; rfl
 have g5 : ¬ [62] = x := fun e => h5 e.symm
 by_cases h6 : x = [62, 61]
 ·subst h6; rfl
 have g6 : ¬ [62, 61] = x := fun e => h6 e.symm
 simp [q7, a2c, I5, a1T, h0, g0, h1, g1, h2, g2, h3, g3, h4, g4, h5, g5, h6, g6]
def a3l : List Op3 := [([124], 4, 7)]
theorem a7U : ∀ o ∈ a3l, R0 o.1 := by
 intro o ho
 simp only [a3l, List.mem_cons, List.not_mem_nil, or_false] at ho
 subst ho
 ·exact D9 (by decide) (by kernel_rfl)
theorem ak2 (x : List UInt8) : q7 5 x = I5 a3l x := by
 by_cases h0 : x = [124]
 ·subst h0; rfl
 have g0 : ¬ [124] = x := fun e => h0 e.symm
 simp [q7, I5, a3l, h0, g0]
def a3m : List Op3 := [([94], 4, 8)]
theorem a7V : ∀ o ∈ a3m, R0 o.1 := by
 intro o ho
 simp only [a3m, List.mem_cons, List.not_mem_nil, or_false] at ho
 subst ho
 ·exact D9 (by decide) (by kernel_rfl)
theorem ak3 (x : List UInt8) : q7 6 x = I5 a3m x := by
 by_cases h0 : x = [94]
 ·subst h0; rfl
 have g0 : ¬ [94] = x := fun e => h0 e.symm
 simp [q7, I5, a3m, h0, g0]
def a3n : List Op3 := [([38], 4, 6)]
theorem a7W : ∀ o ∈ a3n, R0 o.1 := by
 intro o ho
 simp only [a3n, List.mem_cons, List.not_mem_nil, or_false] at ho
 subst ho
 ·exact D9 (by decide) (by kernel_rfl)
theorem ak4 (x : List UInt8) : q7 7 x = I5 a3n x := by
 by_cases h0 : x = [38]
 ·subst h0; rfl
 have g0 : ¬ [38] = x := fun e => h0 e.symm
 simp [q7, I5, a3n, h0, g0]
def a3o : List Op3 := [([60, 60], 4, 9), ([62, 62], 4, 10)]
theorem a7X : ∀ o ∈ a3o, R0 o.1 := by
 intro o ho
 simp only [a3o, List.mem_cons, List.not_mem_nil, or_false] at ho
 rcases ho with rfl | rfl
 ·exact D9 (by decide) (by kernel_rfl)
 ·exact D9 (by decide) (by kernel_rfl)
theorem ak5 (x : List UInt8) : q7 8 x = I5 a3o x := by
 by_cases h0 : x = [60, 60]
 ·subst h0; rfl
 have g0 : ¬ [60, 60] = x := fun e => h0 e.symm
 by_cases h1 : x = [62, 62]
 ·subst h1; rfl
 have g1 : ¬ [62, 62] = x := fun e => h1 e.symm
 simp [q7, I5, a3o, h0, g0, h1, g1]
def a3p : List Op3 := [([43], 4, 1), ([45], 4, 2)]
theorem a7Y : ∀ o ∈ a3p, R0 o.1 := by
 intro o ho
 simp only [a3p, List.mem_cons, List.not_mem_nil, or_false] at ho
 rcases ho with rfl | rfl
 ·exact D9 (by decide) (by kernel_rfl)
 ·exact D9 (by decide) (by kernel_rfl)
theorem ak6 (x : List UInt8) : q7 9 x = I5 a3p x := by
 by_cases h0 : x = [43]
 ·subst h0; rfl
 have g0 : ¬ [43] = x := fun e => h0 e.symm
 by_cases h1 : x = [45]
 ·subst h1; rfl
 have g1 : ¬ [45] = x := fun e => h1 e.symm
 simp [q7, I5, a3p, h0, g0, h1, g1]
def a3j : List Op3 := [([42], 4, 3), ([47], 4, 4), ([37], 4, 5)]
theorem a7R : ∀ o ∈ a3j, R0 o.1 := by
 intro o ho
 simp only [a3j, List.mem_cons, List.not_mem_nil, or_false] at ho
 rcases ho with rfl | rfl | rfl
 ·exact D9 (by decide) (by kernel_rfl)
 ·exact D9 (by decide) (by kernel_rfl)
 ·exact D9 (by decide) (by kernel_rfl)
theorem aj9 (x : List UInt8) : q7 10 x = I5 a3j x := by
 by_cases h0 : x = [42]
 ·subst h0; rfl
 have g0 : ¬ [42] = x := fun e => h0 e.symm
 by_cases h1 : x = [47]
 ·subst h1; rfl
 have g1 : ¬ [47] = x := fun e => h1 e.symm
 by_cases h2 : x = [37]
 ·subst h2; rfl
 have g2 : ¬ [37] = x := fun e => h2 e.symm
 simp [q7, I5, a3j, h0, g0, h1, g1, h2, g2]

section
variable {c : PC}
theorem aR3 (f : Nat) (hin : L8 c 86 (d6 f 2)) : L8 c 33 (d6 (f + 1) 1) := by
 intro w i vt vp ts nest bud ns h hne
 have hans : d6 (f + 1) 1 nest ts = d7 (d6 f 2 nest ts) (fun p => q9 (d6 f 2 nest) 1 p.2.length p.1 p.2) := by
  rw [J9, L0, if_neg (by omega), if_neg (by omega), if_neg (by omega), if_neg (by omega)]
 obtain ⟨ans, ha⟩ : ∃ a, d6 (f + 1) 1 nest ts = a := ⟨_, rfl⟩
 rw [ha] at hans hne ⊢
 have K := World.grownBy_alloc w (.cells (W6 a3i).toArray 105) none
 have CR := a29 (h.keep K) 86 #[.pointer (some ⟨c.g, 0, none⟩)] #[] (fun _ _ => by kernel_rfl) (d6 f 2) (fun W i vt vp ts nest bud ns h hne => hin W i vt vp ts nest bud ns h hne) (fun nest ts ns r hr => (a17 f 2 nest ts ns r hr).1) (some ⟨w.heap.size, 0, none⟩) 2 a3i (q8 w _ _) (fun ad had => by cases had; exact h.not_foot (Nat.le_refl _)) (fun ad had => by cases had; simp) a7Q (by decide) 1 (by decide) (a1S a7Q aj8) ans hans.symm hne
 have HC : Hid (Calls Tryz.prog 85 #[.pointer (some ⟨c.g, 0, none⟩), .func (.func 86) #[.pointer (some ⟨c.g, 0, none⟩)] #[], .slice (some ⟨w.heap.size, 0, none⟩) 2 2] (w.alloc (.cells #[str [111, 114], .int .i64 8, .int .i64 0, str [124, 124], .int .i64 8, .int .i64 0] 105)) (o6 c (w.alloc (.cells #[str [111, 114], .int .i64 8, .int .i64 0, str [124, 124], .int .i64 8, .int .i64 0] 105)) vt vp nest bud ns ans)) := CR
 have HK : Hid (w.grownBy (w.alloc (.cells #[str [111, 114], .int .i64 8, .int .i64 0, str [124, 124], .int .i64 8, .int .i64 0] 105)) none) := K
 have hmf : ∀ (fn : Fn) (first cap : Array Value) (w : World), (Instr.makeFunc fn first cap).run Tryz.prog w = .ok (.func fn first cap) w := fun _ _ _ _ => rfl
 clear h hans hin ha K CR
 go_enter Tryz.func33, Tryz.ntmps33
 go_wp2_with fail
 refine HC.out.mono ?_
 clear HC
 cases ans with
 | error er =>
  rintro e w1 ⟨rfl, G⟩
  go_wp2
  exact ⟨rfl, rfl, (GB.non HK.out).trans G (fun _ _ h => h)⟩
 | ok v =>
  obtain ⟨ms, r⟩ := v
  rintro e w1 ⟨rfl, R⟩
  go_wp2
  go_end0
  exact ⟨rfl, Ret.of (GB.non HK.out) (fun _ _ h => h) R⟩
theorem aR4 (f : Nat) (hin : L8 c 124 (d6 f 3)) : L8 c 86 (d6 (f + 1) 2) := by
 intro w i vt vp ts nest bud ns h hne
 have hans : d6 (f + 1) 2 nest ts = d7 (d6 f 3 nest ts) (fun p => q9 (d6 f 3 nest) 2 p.2.length p.1 p.2) := by
  rw [J9, L0, if_neg (by omega), if_neg (by omega), if_neg (by omega), if_neg (by omega)]
 obtain ⟨ans, ha⟩ : ∃ a, d6 (f + 1) 2 nest ts = a := ⟨_, rfl⟩
 rw [ha] at hans hne ⊢
 have K := World.grownBy_alloc w (.cells (W6 a3k).toArray 105) none
 have CR := a29 (h.keep K) 124 #[.pointer (some ⟨c.g, 0, none⟩)] #[] (fun _ _ => by kernel_rfl) (d6 f 3) (fun W i vt vp ts nest bud ns h hne => hin W i vt vp ts nest bud ns h hne) (fun nest ts ns r hr => (a17 f 3 nest ts ns r hr).1) (some ⟨w.heap.size, 0, none⟩) 2 a3k (q8 w _ _) (fun ad had => by cases had; exact h.not_foot (Nat.le_refl _)) (fun ad had => by cases had; simp) a7S (by decide) 2 (by decide) (a1S a7S ak0) ans hans.symm hne
 have HC : Hid (Calls Tryz.prog 85 #[.pointer (some ⟨c.g, 0, none⟩), .func (.func 124) #[.pointer (some ⟨c.g, 0, none⟩)] #[], .slice (some ⟨w.heap.size, 0, none⟩) 2 2] (w.alloc (.cells #[str [97, 110, 100], .int .i64 7, .int .i64 0, str [38, 38], .int .i64 7, .int .i64 0] 105)) (o6 c (w.alloc (.cells #[str [97, 110, 100], .int .i64 7, .int .i64 0, str [38, 38], .int .i64 7, .int .i64 0] 105)) vt vp nest bud ns ans)) := CR
 have HK : Hid (w.grownBy (w.alloc (.cells #[str [97, 110, 100], .int .i64 7, .int .i64 0, str [38, 38], .int .i64 7, .int .i64 0] 105)) none) := K
 have hmf : ∀ (fn : Fn) (first cap : Array Value) (w : World), (Instr.makeFunc fn first cap).run Tryz.prog w = .ok (.func fn first cap) w := fun _ _ _ _ => rfl
 clear h hans hin ha K CR
 go_enter Tryz.func86, Tryz.ntmps86
 go_wp2_with fail
 refine HC.out.mono ?_
 clear HC
 cases ans with
 | error er =>
  rintro e w1 ⟨rfl, G⟩
  go_wp2
  exact ⟨rfl, rfl, (GB.non HK.out).trans G (fun _ _ h => h)⟩
 | ok v =>
  obtain ⟨ms, r⟩ := v
  rintro e w1 ⟨rfl, R⟩
  go_wp2
  go_end0
  exact ⟨rfl, Ret.of (GB.non HK.out) (fun _ _ h => h) R⟩
theorem aR7 (f : Nat) (hin : L8 c 196 (d6 f 6)) : L8 c 175 (d6 (f + 1) 5) := by
 intro w i vt vp ts nest bud ns h hne
 have hans : d6 (f + 1) 5 nest ts = d7 (d6 f 6 nest ts) (fun p => q9 (d6 f 6 nest) 5 p.2.length p.1 p.2) := by
  rw [J9, L0, if_neg (by omega), if_neg (by omega), if_neg (by omega), if_neg (by omega)]
 obtain ⟨ans, ha⟩ : ∃ a, d6 (f + 1) 5 nest ts = a := ⟨_, rfl⟩
 rw [ha] at hans hne ⊢
 have K := World.grownBy_alloc w (.cells (W6 a3l).toArray 105) none
 have CR := a29 (h.keep K) 196 #[.pointer (some ⟨c.g, 0, none⟩)] #[] (fun _ _ => by kernel_rfl) (d6 f 6) (fun W i vt vp ts nest bud ns h hne => hin W i vt vp ts nest bud ns h hne) (fun nest ts ns r hr => (a17 f 6 nest ts ns r hr).1) (some ⟨w.heap.size, 0, none⟩) 1 a3l (q8 w _ _) (fun ad had => by cases had; exact h.not_foot (Nat.le_refl _)) (fun ad had => by cases had; simp) a7U (by decide) 5 (by decide) (a1S a7U ak2) ans hans.symm hne
 have HC : Hid (Calls Tryz.prog 85 #[.pointer (some ⟨c.g, 0, none⟩), .func (.func 196) #[.pointer (some ⟨c.g, 0, none⟩)] #[], .slice (some ⟨w.heap.size, 0, none⟩) 1 1] (w.alloc (.cells #[str [124], .int .i64 4, .int .i64 7] 105)) (o6 c (w.alloc (.cells #[str [124], .int .i64 4, .int .i64 7] 105)) vt vp nest bud ns ans)) := CR
 have HK : Hid (w.grownBy (w.alloc (.cells #[str [124], .int .i64 4, .int .i64 7] 105)) none) := K
 have hmf : ∀ (fn : Fn) (first cap : Array Value) (w : World), (Instr.makeFunc fn first cap).run Tryz.prog w = .ok (.func fn first cap) w := fun _ _ _ _ => rfl
 clear h hans hin ha K CR
 go_enter Tryz.func175, Tryz.ntmps175
 go_wp2_with fail
 refine HC.out.mono ?_
 clear HC
 cases ans with
 | error er =>
  rintro e w1 ⟨rfl, G⟩
  go_wp2
  exact ⟨rfl, rfl, (GB.non HK.out).trans G (fun _ _ h => h)⟩
 | ok v =>
  obtain ⟨ms, r⟩ := v
  rintro e w1 ⟨rfl, R⟩
  go_wp2
  go_end0
  exact ⟨rfl, Ret.of (GB.non HK.out) (fun _ _ h => h) R⟩
theorem aR8 (f : Nat) (hin : L8 c 207 (d6 f 7)) : L8 c 196 (d6 (f + 1) 6) := by
 intro w i vt vp ts nest bud ns h hne
 have hans : d6 (f + 1) 6 nest ts = d7 (d6 f 7 nest ts) (fun p => q9 (d6 f 7 nest) 6 p.2.length p.1 p.2) := by
  rw [J9, L0, if_neg (by omega), if_neg (by omega), if_neg (by omega), if_neg (by omega)]
 obtain ⟨ans, ha⟩ : ∃ a, d6 (f + 1) 6 nest ts = a := ⟨_, rfl⟩
 rw [ha] at hans hne ⊢
 have K := World.grownBy_alloc w (.cells (W6 a3m).toArray 105) none
 have CR := a29 (h.keep K) 207 #[.pointer (some ⟨c.g, 0, none⟩)] #[] (fun _ _ => by kernel_rfl) (d6 f 7) (fun W i vt vp ts nest bud ns h hne => hin W i vt vp ts nest bud ns h hne) (fun nest ts ns r hr => (a17 f 7 nest ts ns r hr).1) (some ⟨w.heap.size, 0, none⟩) 1 a3m (q8 w _ _) (fun ad had => by cases had; exact h.not_foot (Nat.le_refl _)) (fun ad had => by cases had; simp) a7V (by decide) 6 (by decide) (a1S a7V ak3) ans hans.symm hne
 have HC : Hid (Calls Tryz.prog 85 #[.pointer (some ⟨c.g, 0, none⟩), .func (.func 207) #[.pointer (some ⟨c.g, 0, none⟩)] #[], .slice (some ⟨w.heap.size, 0, none⟩) 1 1] (w.alloc (.cells #[str [94], .int .i64 4, .int .i64 8] 105)) (o6 c (w.alloc (.cells #[str [94], .int .i64 4, .int .i64 8] 105)) vt vp nest bud ns ans)) := CR
 have HK : Hid (w.grownBy (w.alloc (.cells #[str [94], .int .i64 4, .int .i64 8] 105)) none) := K
 have hmf : ∀ (fn : Fn) (first cap : Array Value) (w : World), (Instr.makeFunc fn first cap).run Tryz.prog w = .ok (.func fn first cap) w := fun _ _ _ _ => rfl
 clear h hans hin ha K CR
 go_enter Tryz.func196, Tryz.ntmps196
 go_wp2_with fail
 refine HC.out.mono ?_
 clear HC
 cases ans with
 | error er =>
  rintro e w1 ⟨rfl, G⟩
  go_wp2
  exact ⟨rfl, rfl, (GB.non HK.out).trans G (fun _ _ h => h)⟩
 | ok v =>
  obtain ⟨ms, r⟩ := v
  rintro e w1 ⟨rfl, R⟩
  go_wp2
  go_end0
  exact ⟨rfl, Ret.of (GB.non HK.out) (fun _ _ h => h) R⟩
theorem aR9 (f : Nat) (hin : L8 c 215 (d6 f 8)) : L8 c 207 (d6 (f + 1) 7) := by
 intro w i vt vp ts nest bud ns h hne
 have hans : d6 (f + 1) 7 nest ts = d7 (d6 f 8 nest ts) (fun p => q9 (d6 f 8 nest) 7 p.2.length p.1 p.2) := by
  rw [J9, L0, if_neg (by omega), if_neg (by omega), if_neg (by omega), if_neg (by omega)]
 obtain ⟨ans, ha⟩ : ∃ a, d6 (f + 1) 7 nest ts = a := ⟨_, rfl⟩
 rw [ha] at hans hne ⊢
 have K := World.grownBy_alloc w (.cells (W6 a3n).toArray 105) none
 have CR := a29 (h.keep K) 215 #[.pointer (some ⟨c.g, 0, none⟩)] #[] (fun _ _ => by kernel_rfl) (d6 f 8) (fun W i vt vp ts nest bud ns h hne => hin W i vt vp ts nest bud ns h hne) (fun nest ts ns r hr => (a17 f 8 nest ts ns r hr).1) (some ⟨w.heap.size, 0, none⟩) 1 a3n (q8 w _ _) (fun ad had => by cases had; exact h.not_foot (Nat.le_refl _)) (fun ad had => by cases had; simp) a7W (by decide) 7 (by decide) (a1S a7W ak4) ans hans.symm hne
 have HC : Hid (Calls Tryz.prog 85 #[.pointer (some ⟨c.g, 0, none⟩), .func (.func 215) #[.pointer (some ⟨c.g, 0, none⟩)] #[], .slice (some ⟨w.heap.size, 0, none⟩) 1 1] (w.alloc (.cells #[str [38], .int .i64 4, .int .i64 6] 105)) (o6 c (w.alloc (.cells #[str [38], .int .i64 4, .int .i64 6] 105)) vt vp nest bud ns ans)) := CR
 have HK : Hid (w.grownBy (w.alloc (.cells #[str [38], .int .i64 4, .int .i64 6] 105)) none) := K
 have hmf : ∀ (fn : Fn) (first cap : Array Value) (w : World), (Instr.makeFunc fn first cap).run Tryz.prog w = .ok (.func fn first cap) w := fun _ _ _ _ => rfl
 clear h hans hin ha K CR
 go_enter Tryz.func207, Tryz.ntmps207
 go_wp2_with fail
 refine HC.out.mono ?_
 clear HC
 cases ans with
 | error er =>
  rintro e w1 ⟨rfl, G⟩
  go_wp2
  exact ⟨rfl, rfl, (GB.non HK.out).trans G (fun _ _ h => h)⟩
 | ok v =>
  obtain ⟨ms, r⟩ := v
  rintro e w1 ⟨rfl, R⟩
  go_wp2
  go_end0
  exact ⟨rfl, Ret.of (GB.non HK.out) (fun _ _ h => h) R⟩
theorem aS0 (f : Nat) (hin : L8 c 219 (d6 f 9)) : L8 c 215 (d6 (f + 1) 8) := by
 intro w i vt vp ts nest bud ns h hne
 have hans : d6 (f + 1) 8 nest ts = d7 (d6 f 9 nest ts) (fun p => q9 (d6 f 9 nest) 8 p.2.length p.1 p.2) := by
  rw [J9, L0, if_neg (by omega), if_neg (by omega), if_neg (by omega), if_neg (by omega)]
 obtain ⟨ans, ha⟩ : ∃ a, d6 (f + 1) 8 nest ts = a := ⟨_, rfl⟩
 rw [ha] at hans hne ⊢
 have K := World.grownBy_alloc w (.cells (W6 a3o).toArray 105) none
 have CR := a29 (h.keep K) 219 #[.pointer (some ⟨c.g, 0, none⟩)] #[] (fun _ _ => by kernel_rfl) (d6 f 9) (fun W i vt vp ts nest bud ns h hne => hin W i vt vp ts nest bud ns h hne) (fun nest ts ns r hr => (a17 f 9 nest ts ns r hr).1) (some ⟨w.heap.size, 0, none⟩) 2 a3o (q8 w _ _) (fun ad had => by cases had; exact h.not_foot (Nat.le_refl _)) (fun ad had => by cases had; simp) a7X (by decide) 8 (by decide) (a1S a7X ak5) ans hans.symm hne
 have HC : Hid (Calls Tryz.prog 85 #[.pointer (some ⟨c.g, 0, none⟩), .func (.func 219) #[.pointer (some ⟨c.g, 0, none⟩)] #[], .slice (some ⟨w.heap.size, 0, none⟩) 2 2] (w.alloc (.cells #[str [60, 60], .int .i64 4, .int .i64 9, str [62, 62], .int .i64 4, .int .i64 10] 105)) (o6 c (w.alloc (.cells #[str [60, 60], .int .i64 4, .int .i64 9, str [62, 62], .int .i64 4, .int .i64 10] 105)) vt vp nest bud ns ans)) := CR
 have HK : Hid (w.grownBy (w.alloc (.cells #[str [60, 60], .int .i64 4, .int .i64 9, str [62, 62], .int .i64 4, .int .i64 10] 105)) none) := K
 have hmf : ∀ (fn : Fn) (first cap : Array Value) (w : World), (Instr.makeFunc fn first cap).run Tryz.prog w = .ok (.func fn first cap) w := fun _ _ _ _ => rfl
 clear h hans hin ha K CR
 go_enter Tryz.func215, Tryz.ntmps215
 go_wp2_with fail
 refine HC.out.mono ?_
 clear HC
 cases ans with
 | error er =>
  rintro e w1 ⟨rfl, G⟩
  go_wp2
  exact ⟨rfl, rfl, (GB.non HK.out).trans G (fun _ _ h => h)⟩
 | ok v =>
  obtain ⟨ms, r⟩ := v
  rintro e w1 ⟨rfl, R⟩
  go_wp2
  go_end0
  exact ⟨rfl, Ret.of (GB.non HK.out) (fun _ _ h => h) R⟩
theorem aS1 (f : Nat) (hin : L8 c 220 (d6 f 10)) : L8 c 219 (d6 (f + 1) 9) := by
 intro w i vt vp ts nest bud ns h hne
 have hans : d6 (f + 1) 9 nest ts = d7 (d6 f 10 nest ts) (fun p => q9 (d6 f 10 nest) 9 p.2.length p.1 p.2) := by
  rw [J9, L0, if_neg (by omega), if_neg (by omega), if_neg (by omega), if_neg (by omega)]
 obtain ⟨ans, ha⟩ : ∃ a, d6 (f + 1) 9 nest ts = a := ⟨_, rfl⟩
 rw [ha] at hans hne ⊢
 have K := World.grownBy_alloc w (.cells (W6 a3p).toArray 105) none
 have CR := a29 (h.keep K) 220 #[.pointer (some ⟨c.g, 0, none⟩)] #[] (fun _ _ => by kernel_rfl) (d6 f 10) (fun W i vt vp ts nest bud ns h hne => hin W i vt vp ts nest bud ns h hne) (fun nest ts ns r hr => (a17 f 10 nest ts ns r hr).1) (some ⟨w.heap.size, 0, none⟩) 2 a3p (q8 w _ _) (fun ad had => by cases had; exact h.not_foot (Nat.le_refl _)) (fun ad had => by cases had; simp) a7Y (by decide) 9 (by decide) (a1S a7Y ak6) ans hans.symm hne
 have HC : Hid (Calls Tryz.prog 85 #[.pointer (some ⟨c.g, 0, none⟩), .func (.func 220) #[.pointer (some ⟨c.g, 0, none⟩)] #[], .slice (some ⟨w.heap.size, 0, none⟩) 2 2] (w.alloc (.cells #[str [43], .int .i64 4, .int .i64 1, str [45], .int .i64 4, .int .i64 2] 105)) (o6 c (w.alloc (.cells #[str [43], .int .i64 4, .int .i64 1, str [45], .int .i64 4, .int .i64 2] 105)) vt vp nest bud ns ans)) := CR
 have HK : Hid (w.grownBy (w.alloc (.cells #[str [43], .int .i64 4, .int .i64 1, str [45], .int .i64 4, .int .i64 2] 105)) none) := K
 have hmf : ∀ (fn : Fn) (first cap : Array Value) (w : World), (Instr.makeFunc fn first cap).run Tryz.prog w = .ok (.func fn first cap) w := fun _ _ _ _ => rfl
 clear h hans hin ha K CR
 go_enter Tryz.func219, Tryz.ntmps219
 go_wp2_with fail
 refine HC.out.mono ?_
 clear HC
 cases ans with
 | error er =>
  rintro e w1 ⟨rfl, G⟩
  go_wp2
  exact ⟨rfl, rfl, (GB.non HK.out).trans G (fun _ _ h => h)⟩
 | ok v =>
  obtain ⟨ms, r⟩ := v
  rintro e w1 ⟨rfl, R⟩
  go_wp2
  go_end0
  exact ⟨rfl, Ret.of (GB.non HK.out) (fun _ _ h => h) R⟩
theorem aR0 (f : Nat) (hin : L8 c 221 (d6 f 11)) : L8 c 220 (d6 (f + 1) 10) := by
 intro w i vt vp ts nest bud ns h hne
 have hans : d6 (f + 1) 10 nest ts = d7 (d6 f 11 nest ts) (fun p => q9 (d6 f 11 nest) 10 p.2.length p.1 p.2) := by
  rw [J9, L0, if_neg (by omega), if_neg (by omega), if_neg (by omega), if_neg (by omega)]
 obtain ⟨ans, ha⟩ : ∃ a, d6 (f + 1) 10 nest ts = a := ⟨_, rfl⟩
 rw [ha] at hans hne ⊢
 have K := World.grownBy_alloc w (.cells (W6 a3j).toArray 105) none
 have CR := a29 (h.keep K) 221 #[.pointer (some ⟨c.g, 0, none⟩)] #[] (fun _ _ => by kernel_rfl) (d6 f 11) (fun W i vt vp ts nest bud ns h hne => hin W i vt vp ts nest bud ns h hne) (fun nest ts ns r hr => (a17 f 11 nest ts ns r hr).1) (some ⟨w.heap.size, 0, none⟩) 3 a3j (q8 w _ _) (fun ad had => by cases had; exact h.not_foot (Nat.le_refl _)) (fun ad had => by cases had; simp) a7R (by decide) 10 (by decide) (a1S a7R aj9) ans hans.symm hne
 have HC : Hid (Calls Tryz.prog 85 #[.pointer (some ⟨c.g, 0, none⟩), .func (.func 221) #[.pointer (some ⟨c.g, 0, none⟩)] #[], .slice (some ⟨w.heap.size, 0, none⟩) 3 3] (w.alloc (.cells #[str [42], .int .i64 4, .int .i64 3, str [47], .int .i64 4, .int .i64 4, str [37], .int .i64 4, .int .i64 5] 105)) (o6 c (w.alloc (.cells #[str [42], .int .i64 4, .int .i64 3, str [47], .int .i64 4, .int .i64 4, str [37], .int .i64 4, .int .i64 5] 105)) vt vp nest bud ns ans)) := CR
 have HK : Hid (w.grownBy (w.alloc (.cells #[str [42], .int .i64 4, .int .i64 3, str [47], .int .i64 4, .int .i64 4, str [37], .int .i64 4, .int .i64 5] 105)) none) := K
 have hmf : ∀ (fn : Fn) (first cap : Array Value) (w : World), (Instr.makeFunc fn first cap).run Tryz.prog w = .ok (.func fn first cap) w := fun _ _ _ _ => rfl
 clear h hans hin ha K CR
 go_enter Tryz.func220, Tryz.ntmps220
 go_wp2_with fail
 refine HC.out.mono ?_
 clear HC
 cases ans with
 | error er =>
  rintro e w1 ⟨rfl, G⟩
  go_wp2
  exact ⟨rfl, rfl, (GB.non HK.out).trans G (fun _ _ h => h)⟩
 | ok v =>
  obtain ⟨ms, r⟩ := v
  rintro e w1 ⟨rfl, R⟩
  go_wp2
  go_end0
  exact ⟨rfl, Ret.of (GB.non HK.out) (fun _ _ h => h) R⟩
theorem aR5 (f : Nat) (hin : L8 c 124 (d6 f 3)) (hin2 : L8 c 154 (d6 f 4)) : L8 c 124 (d6 (f + 1) 3) := by
 intro w i vt vp ts nest bud ns h hne
 obtain ⟨ans, ha⟩ : ∃ a, d6 (f + 1) 3 nest ts = a := ⟨_, rfl⟩
 have hG := h.good.hd
 have K := World.grownBy_alloc w (.cells #[str [110, 111, 116], str [33]] 9) none
 have hyes : (hdT ts).text ∈ [[110, 111, 116], [33]] → (hdT ts).kind ≠ 0 ∧ y0 nest ts (d7 (d6 f 3 (nest + 1) ts.tail) fun p => .ok (p.1 ++ [(ndK 9, (hdT ts).pos)], p.2)) = ans := fun hm => by
  have hb : isB ts U1 = true ∨ isB ts [33] = true := by
   rw [a11 hG (a5R (x := U1) (by decide) (by kernel_rfl)), a11 hG (D9 (x := [33]) (by decide) (by kernel_rfl))]
   simp only [List.mem_cons, List.not_mem_nil, or_false] at hm
   rcases hm with hm | hm
   ·exact .inl (by rw [hm]; rfl)
   ·exact .inr (by rw [hm]; rfl)
  refine ⟨hb.elim S7 S7, ?_⟩
  rw [← ha, J9, L0, if_pos ⟨rfl, hb⟩]
 have hno : (hdT ts).text ∉ [[110, 111, 116], [33]] → d6 f 4 nest ts = ans := fun hm => by
  have hb : ¬ (isB ts U1 = true ∨ isB ts [33] = true) := fun h => hm (by rcases h with h | h <;> rw [a3a h] <;> decide)
  rw [← ha, J9, L0, if_neg (fun h => hb h.2), if_neg (by omega), if_pos (.inl rfl)]
 rw [ha] at hne ⊢
 have CR := a9T (h.keep K) 9 124 #[.pointer (some ⟨c.g, 0, none⟩)] #[] (fun _ _ => by kernel_rfl) 154 #[.pointer (some ⟨c.g, 0, none⟩)] #[] (fun _ _ => by kernel_rfl) (d6 f 3) (d6 f 4) (fun W i vt vp ts nest bud ns h hne => hin W i vt vp ts nest bud ns h hne) (fun W i vt vp ts nest bud ns h hne => hin2 W i vt vp ts nest bud ns h hne) (some ⟨w.heap.size, 0, none⟩) 2 [[110, 111, 116], [33]] (q8 w _ _) (by decide) ans hyes hno hne
 have HC : Hid (Calls Tryz.prog 153 #[.pointer (some ⟨c.g, 0, none⟩), .int .i64 9, .func (.func 124) #[.pointer (some ⟨c.g, 0, none⟩)] #[], .func (.func 154) #[.pointer (some ⟨c.g, 0, none⟩)] #[], .slice (some ⟨w.heap.size, 0, none⟩) 2 2] (w.alloc (.cells #[str [110, 111, 116], str [33]] 9)) (o6 c (w.alloc (.cells #[str [110, 111, 116], str [33]] 9)) vt vp nest bud ns ans)) := CR
 have HK : Hid (w.grownBy (w.alloc (.cells #[str [110, 111, 116], str [33]] 9)) none) := K
 have hmf : ∀ (fn : Fn) (first cap : Array Value) (w : World), (Instr.makeFunc fn first cap).run Tryz.prog w = .ok (.func fn first cap) w := fun _ _ _ _ => rfl
 clear h hyes hno hin hin2 ha K CR hG hne
 go_enter Tryz.func124, Tryz.ntmps124
 go_wp2_with fail
 refine HC.out.mono ?_
 clear HC
 cases ans with
 | error er =>
  rintro e w1 ⟨rfl, G⟩
  go_wp2
  exact ⟨rfl, rfl, (GB.non HK.out).trans G (fun _ _ h => h)⟩
 | ok v =>
  obtain ⟨ms, r⟩ := v
  rintro e w1 ⟨rfl, R⟩
  go_wp2
  go_end0
  exact ⟨rfl, Ret.of (GB.non HK.out) (fun _ _ h => h) R⟩
theorem aR1 (f : Nat) (hin : L8 c 221 (d6 f 11)) (hin2 : L8 c 222 (d6 f 12)) : L8 c 221 (d6 (f + 1) 11) := by
 intro w i vt vp ts nest bud ns h hne
 obtain ⟨ans, ha⟩ : ∃ a, d6 (f + 1) 11 nest ts = a := ⟨_, rfl⟩
 have hG := h.good.hd
 have K := World.grownBy_alloc w (.cells #[str [45]] 9) none
 have hyes : (hdT ts).text ∈ [[45]] → (hdT ts).kind ≠ 0 ∧ y0 nest ts (d7 (d6 f 11 (nest + 1) ts.tail) fun p => .ok (p.1 ++ [(ndK 5, (hdT ts).pos)], p.2)) = ans := fun hm => by
  have hb : isB ts [45] = true := by
   rw [a11 hG (D9 (x := [45]) (by decide) (by kernel_rfl))]
   simpa using hm
  refine ⟨S7 hb, ?_⟩
  rw [← ha, J9, L0, if_neg (by omega), if_pos ⟨rfl, hb⟩]
 have hno : (hdT ts).text ∉ [[45]] → d6 f 12 nest ts = ans := fun hm => by
  have hb : ¬ isB ts [45] = true := fun h => hm (by rw [a3a h]; decide)
  rw [← ha, J9, L0, if_neg (by omega), if_neg (fun h => hb h.2), if_pos (.inr rfl)]
 rw [ha] at hne ⊢
 have CR := a9T (h.keep K) 5 221 #[.pointer (some ⟨c.g, 0, none⟩)] #[] (fun _ _ => by kernel_rfl) 222 #[.pointer (some ⟨c.g, 0, none⟩)] #[] (fun _ _ => by kernel_rfl) (d6 f 11) (d6 f 12) (fun W i vt vp ts nest bud ns h hne => hin W i vt vp ts nest bud ns h hne) (fun W i vt vp ts nest bud ns h hne => hin2 W i vt vp ts nest bud ns h hne) (some ⟨w.heap.size, 0, none⟩) 1 [[45]] (q8 w _ _) (by decide) ans hyes hno hne
 have HC : Hid (Calls Tryz.prog 153 #[.pointer (some ⟨c.g, 0, none⟩), .int .i64 5, .func (.func 221) #[.pointer (some ⟨c.g, 0, none⟩)] #[], .func (.func 222) #[.pointer (some ⟨c.g, 0, none⟩)] #[], .slice (some ⟨w.heap.size, 0, none⟩) 1 1] (w.alloc (.cells #[str [45]] 9)) (o6 c (w.alloc (.cells #[str [45]] 9)) vt vp nest bud ns ans)) := CR
 have HK : Hid (w.grownBy (w.alloc (.cells #[str [45]] 9)) none) := K
 have hmf : ∀ (fn : Fn) (first cap : Array Value) (w : World), (Instr.makeFunc fn first cap).run Tryz.prog w = .ok (.func fn first cap) w := fun _ _ _ _ => rfl
 clear h hyes hno hin hin2 ha K CR hG hne
 go_enter Tryz.func221, Tryz.ntmps221
 go_wp2_with fail
 refine HC.out.mono ?_
 clear HC
 cases ans with
 | error er =>
  rintro e w1 ⟨rfl, G⟩
  go_wp2
  exact ⟨rfl, rfl, (GB.non HK.out).trans G (fun _ _ h => h)⟩
 | ok v =>
  obtain ⟨ms, r⟩ := v
  rintro e w1 ⟨rfl, R⟩
  go_wp2
  go_end0
  exact ⟨rfl, Ret.of (GB.non HK.out) (fun _ _ h => h) R⟩
theorem aD2 {rec : List Tk → Out} {ms : List (Nd × Nat)} {ts : List Tk} (h : ts ≠ []) : q9 rec 4 ts.length ms ts = match opT 4 ts with
  | none => .ok (ms, ts)
  | some nd => d7 (rec ts.tail) fun p => .ok (ms ++ p.1 ++ [(nd, (hdT ts).pos)], p.2) := by
 obtain ⟨n, hn⟩ : ∃ n, ts.length = n + 1 := ⟨ts.length - 1, by have := List.length_pos_iff.2 h; omega⟩
 rw [hn, q9]
 cases opT 4 ts with
 | none => rfl
 | some nd =>
  simp only
  congr 1
theorem aR6 (f : Nat) (hin : L8 c 175 (d6 f 5)) : L8 c 154 (d6 (f + 1) 4) := by
 intro w i vt vp ts nest bud ns h hne
 have hans : d6 (f + 1) 4 nest ts = d7 (d6 f 5 nest ts) (fun p => q9 (d6 f 5 nest) 4 p.2.length p.1 p.2) := by
  rw [J9, L0, if_neg (by omega), if_neg (by omega), if_neg (by omega), if_neg (by omega)]
 obtain ⟨ans, ha⟩ : ∃ a, d6 (f + 1) 4 nest ts = a := ⟨_, rfl⟩
 rw [ha] at hans hne ⊢
 have h1 : d6 f 5 nest ts ≠ .error exP := fun e => by rw [e] at hans; exact hne hans
 have C1 := hin w i vt vp ts nest bud ns h h1
 have HIN : Hid (L8 c 175 (d6 f 5)) := hin
 have HANS : Hid (ans = d7 (d6 f 5 nest ts) (fun p => q9 (d6 f 5 nest) 4 p.2.length p.1 p.2)) := hans
 have HNE : Hid (ans ≠ .error exP) := hne
 have hmf : ∀ (fn : Fn) (first cap : Array Value) (w : World), (Instr.makeFunc fn first cap).run Tryz.prog w = .ok (.func fn first cap) w := fun _ _ _ _ => rfl
 clear h hans hin ha h1 hne
 generalize d6 f 5 nest ts = rr at *
 go_enter Tryz.func154, Tryz.ntmps154
 go_wp2_with fail
 refine C1.mono ?_
 clear C1
 cases rr with
 | error er =>
  have HA3 : Hid (ans = .error er) := HANS.out
  rintro e w1 ⟨rfl, G⟩
  go_wp2
  refine ⟨rfl, ?_⟩
  rw [HA3.out]
  exact ⟨rfl, G⟩
 | ok v =>
  obtain ⟨ms, r1⟩ := v
  rw [D0] at HANS
  simp only at HANS
  rintro e w1 ⟨rfl, i1, vt1, vp1, H1, G1, F1⟩
  rw [aD2 H1.good.ne, a1S a7T ak1 r1 H1.good] at HANS
  have K := World.grownBy_alloc w1 (.cells (W6 a1T).toArray 105) none
  have CF := a6f (H1.keep K) 175 #[.pointer (some ⟨c.g, 0, none⟩)] #[] (fun _ _ => by kernel_rfl) (d6 f 5) (fun W i vt vp ts nest bud ns h hne => HIN.out W i vt vp ts nest bud ns h hne) (some ⟨w1.heap.size, 0, none⟩) 7 a1T (q8 w1 _ _) a7T (by decide) (fun hf e => by
   cases hfo : I5 a1T (hdT r1).text with
   | none => exact hf hfo
   | some nd =>
    have := HANS.out
    rw [hfo] at this
    simp only at this
    rw [e] at this
    exact HNE.out this)
  have HC : Hid (Calls Tryz.prog 123 #[.pointer (some ⟨c.g, 0, none⟩), .func (.func 175) #[.pointer (some ⟨c.g, 0, none⟩)] #[], .slice (some ⟨w1.heap.size, 0, none⟩) 7 7] (w1.alloc (.cells #[str [61], .int .i64 6, .int .i64 1, str [61, 61], .int .i64 6, .int .i64 1, str [33, 61], .int .i64 6, .int .i64 2, str [60], .int .i64 6, .int .i64 3, str [60, 61], .int .i64 6, .int .i64 4, str [62], .int .i64 6, .int .i64 5, str [62, 61], .int .i64 6, .int .i64 6] 105)) (a7t c (w1.alloc (.cells #[str [61], .int .i64 6, .int .i64 1, str [61, 61], .int .i64 6, .int .i64 1, str [33, 61], .int .i64 6, .int .i64 2, str [60], .int .i64 6, .int .i64 3, str [60, 61], .int .i64 6, .int .i64 4, str [62], .int .i64 6, .int .i64 5, str [62, 61], .int .i64 6, .int .i64 6] 105)) vt1 vp1 nest bud (ns ++ ms) (hdT r1).pos (I5 a1T (hdT r1).text) (d6 f 5 nest r1.tail))) := CF
  have HK : Hid (w1.grownBy (w1.alloc (.cells #[str [61], .int .i64 6, .int .i64 1, str [61, 61], .int .i64 6, .int .i64 1, str [33, 61], .int .i64 6, .int .i64 2, str [60], .int .i64 6, .int .i64 3, str [60, 61], .int .i64 6, .int .i64 4, str [62], .int .i64 6, .int .i64 5, str [62, 61], .int .i64 6, .int .i64 6] 105)) none) := K
  have HQ : Hid (PS c w1 i1 vt1 vp1 r1 nest bud (ns ++ ms) ∧ GB w w1 (d5 c.g vt vp) ∧ ∀ x, x < w.heap.size → d5 c.g vt1 vp1 x → d5 c.g vt vp x) := ⟨H1, G1, F1⟩
  clear K CF H1 G1 F1 HIN HNE
  generalize d6 f 5 nest r1.tail = rr at *
  generalize I5 a1T (hdT r1).text = fo at *
  go_wp2_with fail
  refine HC.out.mono ?_
  clear HC
  cases fo with
  | none =>
   have HA3 : Hid (ans = .ok (ms, r1)) := HANS.out
   rintro e w2 ⟨rfl, G2⟩
   go_wp2
   go_end0
   rw [HA3.out]
   have G3 := d3 HK.out G2
   exact ⟨rfl, i1, vt1, vp1, HQ.out.1.keep G3, HQ.out.2.1.trans (GB.non (S := d5 c.g vt vp) G3) (fun _ _ h => h), HQ.out.2.2⟩
  | some nd =>
   cases rr with
   | error er =>
    have HA3 : Hid (ans = .error er) := HANS.out
    rintro e w2 ⟨rfl, G2⟩
    go_wp2
    refine ⟨rfl, ?_⟩
    rw [HA3.out]
    exact ⟨rfl, HQ.out.2.1.trans ((GB.non (S := d5 c.g vt1 vp1) HK.out).trans G2 (fun _ _ h => h)) HQ.out.2.2⟩
   | ok v =>
    obtain ⟨m2, r2⟩ := v
    have HA3 : Hid (ans = .ok (ms ++ m2 ++ [(nd, (hdT r1).pos)], r2)) := HANS.out
    rintro e w2 ⟨rfl, R2⟩
    go_wp2
    go_end0
    rw [HA3.out]
    refine ⟨rfl, ?_⟩
    rw [← List.append_assoc, ← List.append_assoc]
    exact Ret.of HQ.out.2.1 HQ.out.2.2 (Ret.of (GB.non HK.out) (fun _ _ h => h) R2)
theorem aR2 (f : Nat) (hin : L8 c 33 (d6 f 1)) : L8 c 222 (d6 (f + 1) 12) := by
 intro w i vt vp ts nest bud ns h hne
 have HO : a1b c (d6 f 1) := hin
 have hans : d6 (f + 1) 12 nest ts = s9 (d6 f 1) nest ts := by
  rw [J9, L0, if_neg (by omega), if_neg (by omega), if_neg (by omega), if_pos rfl]
 rw [hans] at hne ⊢
 have hG := h.good.hd
 by_cases h1 : (hdT ts).kind = 1
 ·rw [aN5 h1]
  exact aN3 h h1
 by_cases h2 : (hdT ts).text = [40]
 ·have hk : (hdT ts).kind = 5 := a3M hG (by decide) (by kernel_rfl) h2
  have e := aN8 (rec := d6 f 1) (nest := nest) hG h2
  exact aN7 h (d6 f 1) HO h1 (by omega) h2 _ e.symm hne
 by_cases h3 : (hdT ts).text ∈ a1v
 ·have hk : (hdT ts).kind = 2 := a3M hG (a4f _ h3).1 (a4f _ h3).2.1 rfl
  have hk0 : (hdT ts).kind ≠ 0 := by omega
  have e := aO9 (rec := d6 f 1) (nest := nest) hG h3
  rw [e] at hne ⊢
  simp only [a1v, List.mem_cons, List.not_mem_nil, or_false] at h3
  have hs : (hdT ts).text ∈ [J8, I6, U0, V6, J0, H9] → P8 ts = L5 (hdT ts).pos (I8 (r9 ts) (s8 ts)) := fun hm => by
   have n1 : (hdT ts).text ≠ a1F := fun e => by rw [e] at hm; exact absurd hm (by decide)
   have n2 : (hdT ts).text ≠ a1E := fun e => by rw [e] at hm; exact absurd hm (by decide)
   have n3 : (hdT ts).text ≠ a1G := fun e => by rw [e] at hm; exact absurd hm (by decide)
   have n4 : (hdT ts).text ≠ D5 := fun e => by rw [e] at hm; exact absurd hm (by decide)
   rw [P8, if_neg n1, if_neg n2, if_neg n3, if_neg n4, if_pos hm, a0n, aV7]
  rcases h3 with h3 | h3 | h3 | h3 | h3 | h3 | h3 | h3 | h3 | h3
  ·have e2 : P8 ts = .ok ([(ndK 2, (hdT ts).pos)], ts.tail) := by rw [P8, if_pos h3]
   rw [e2]
   exact aN0 h h1 hk0 h3
  ·have e2 : P8 ts = .ok ([(a1H 1, (hdT ts).pos)], ts.tail) := by rw [P8, if_neg (by rw [h3]; decide), if_pos h3]; rfl
   rw [e2]
   exact aM9 h h1 hk0 h3
  ·have e2 : P8 ts = .ok ([(a1H 2, (hdT ts).pos)], ts.tail) := by rw [P8, if_neg (by rw [h3]; decide), if_neg (by rw [h3]; decide), if_pos h3]; rfl
   rw [e2]
   exact aN6 h h1 hk0 h3
  ·have e2 : P8 ts = d7 (j7 ts.tail) fun p => .ok ([(a2G p.1, (hdT ts).pos)], p.2) := by rw [P8, if_neg (by rw [h3]; decide), if_neg (by rw [h3]; decide), if_neg (by rw [h3]; decide), if_pos h3]; rfl
   rw [e2]
   exact aN9 h h1 hk0 h3 _ rfl
  ·rw [hs (by rw [h3]; decide)]
   exact aO2 h h1 h3 _ rfl
  ·rw [hs (by rw [h3]; decide)]
   exact aO3 h h1 h3 _ rfl
  ·rw [hs (by rw [h3]; decide)]
   exact aO4 h h1 h3 _ rfl
  ·rw [hs (by rw [h3]; decide)]
   exact aO5 h h1 h3 _ rfl
  ·rw [hs (by rw [h3]; decide)]
   exact aO6 h h1 h3 _ rfl
  ·rw [hs (by rw [h3]; decide)]
   exact aO1 h h1 h3 _ rfl
 have e : s9 (d6 f 1) nest ts = (if D7 (hdT ts).text = 0 then .error (a0d ts) else M1 (d6 f 1) nest (D7 (hdT ts).text) (hdT ts).pos ts.tail) := by
  by_cases hn : D7 (hdT ts).text = 0
  ·rw [if_pos hn, aN4 h1 h2 h3 hn]
   rfl
  ·rw [if_neg hn]
   exact (a9O hG hn).1
 exact aM7 h (d6 f 1) HO h1 h2 h3 _ e.symm hne
def a9t : Nat → Nat
 | 1 => 33
 | 2 => 86
 | 3 => 124
 | 4 => 154
 | 5 => 175
 | 6 => 196
 | 7 => 207
 | 8 => 215
 | 9 => 219
 | 10 => 220
 | 11 => 221
 | _ => 222
theorem aa4 : ∀ (f k : Nat), 1 ≤ k → k ≤ 12 → L8 c (a9t k) (d6 f k)
 | 0, k, _, _ => fun w i vt vp ts nest bud ns _ hne => absurd rfl hne
 | f + 1, k, h1, h12 => by
  have ih := aa4 f
  have hk : k = 1 ∨ k = 2 ∨ k = 3 ∨ k = 4 ∨ k = 5 ∨ k = 6 ∨ k = 7 ∨ k = 8 ∨ k = 9 ∨ k = 10 ∨ k = 11 ∨ k = 12 := by omega
  rcases hk with rfl | rfl | rfl | rfl | rfl | rfl | rfl | rfl | rfl | rfl | rfl | rfl
  ·exact aR3 f (ih 2 (by omega) (by omega))
  ·exact aR4 f (ih 3 (by omega) (by omega))
  ·exact aR5 f (ih 3 (by omega) (by omega)) (ih 4 (by omega) (by omega))
  ·exact aR6 f (ih 5 (by omega) (by omega))
  ·exact aR7 f (ih 6 (by omega) (by omega))
  ·exact aR8 f (ih 7 (by omega) (by omega))
  ·exact aR9 f (ih 8 (by omega) (by omega))
  ·exact aS0 f (ih 9 (by omega) (by omega))
  ·exact aS1 f (ih 10 (by omega) (by omega))
  ·exact aR0 f (ih 11 (by omega) (by omega))
  ·exact aR1 f (ih 11 (by omega) (by omega)) (ih 12 (by omega) (by omega))
  ·exact aR2 f (ih 1 (by omega) (by omega))

end
def J2 : Value := .slice none 0 0
structure Res (w : World) (R : Nat) (a b d e : Value) : Prop where
 t : VAt w R 22 #[a]
 p : VAt w (R + 1) 33 #[b]
 n : VAt w (R + 2) 3 #[d]
 x : VAt w (R + 3) 23 #[e]
theorem Res.keep {w w' : World} {R : Nat} {a b d e : Value} (h : Res w R a b d e) (G : w.grownBy w' none) : Res w' R a b d e := ⟨h.t.kept G, h.p.kept G, h.n.kept G, h.x.kept G⟩
theorem Res.gb {w w' : World} {R : Nat} {a b d e : Value} {S : Nat → Prop} (h : Res w R a b d e) (G : GB w w' S) (hS : ∀ x, S x → x < R ∨ R + 3 < x) : Res w' R a b d e :=
 ⟨G.vat h.t (fun e => by have := hS _ e; omega), G.vat h.p (fun e => by have := hS _ e; omega), G.vat h.n (fun e => by have := hS _ e; omega), G.vat h.x (fun e => by have := hS _ e; omega)⟩
def R4 (R x : Nat) : Prop := R ≤ x ∧ x ≤ R + 3
theorem Res.set {w : World} {R : Nat} {a b d e : Value} (h : Res w R a b d e) (a' b' d' e' : Value) :
  Res ((((w.setCell ⟨R, 0, none⟩ a').setCell ⟨R + 1, 0, none⟩ b').setCell ⟨R + 2, 0, none⟩ d').setCell ⟨R + 3, 0, none⟩ e') R a' b' d' e' ∧ GB w ((((w.setCell ⟨R, 0, none⟩ a').setCell ⟨R + 1, 0, none⟩ b').setCell ⟨R + 2, 0, none⟩ d').setCell ⟨R + 3, 0, none⟩ e') (R4 R) := by
 have t1 := h.t.set 0 a'
 have p2 := (h.p.setOther (k := R) (i := 0) a' (by omega)).set 0 b'
 have t2 := t1.setOther (k := R + 1) (i := 0) b' (by omega)
 have n3 := ((h.n.setOther (k := R) (i := 0) a' (by omega)).setOther (k := R + 1) (i := 0) b' (by omega)).set 0 d'
 have x4 := (((h.x.setOther (k := R) (i := 0) a' (by omega)).setOther (k := R + 1) (i := 0) b' (by omega)).setOther (k := R + 2) (i := 0) d' (by omega)).set 0 e'
 refine ⟨⟨(t2.setOther d' (by omega)).setOther e' (by omega), (p2.setOther d' (by omega)).setOther e' (by omega), n3.setOther e' (by omega), x4⟩, ?_⟩
 have g : ∀ (W : World) (k : Nat) (v : Value), R ≤ k → k ≤ R + 3 → GB W (W.setCell ⟨k, 0, none⟩ v) (R4 R) := fun W k v h1 h2 => GB.of (U4 W k 0 v) (fun x hx => by cases hx; exact ⟨h1, h2⟩)
 exact ((((g w R a' (by omega) (by omega)).trans (g _ (R + 1) b' (by omega) (by omega)) (fun _ _ h => h)).trans (g _ (R + 2) d' (by omega) (by omega)) (fun _ _ h => h)).trans (g _ (R + 3) e' (by omega) (by omega)) (fun _ _ h => h))
theorem a9Q (R : Nat) (er : Er) (a b d e0 : Value) (w : World) (h : Res w R a b d e0) :
  CallsD Tryz.prog 32 #[.pointer (some ⟨R, 0, none⟩), .pointer (some ⟨R + 1, 0, none⟩), .pointer (some ⟨R + 2, 0, none⟩), .pointer (some ⟨R + 3, 0, none⟩)] (.panicking (a0g er)) w fun e u' w' =>
   e = .returned (.tuple #[]) ∧ u' = .panicking [{ v := .iface 65 (.agg #[.int .i64 (er.1 : Int), .int .i64 er.2]), recovered := true }] ∧ Res w' R J2 J2 (.int .i64 (er.1 : Int)) (.int .i64 er.2) ∧ GB w w' (R4 R) := by
 obtain ⟨ep, ex⟩ := er
 have hta : ∀ W : World, (Instr.typeAssert (.iface 65 (.agg #[.int .i64 (ep : Int), .int .i64 ex])) 20 65 true).run Tryz.prog W = .ok (.tuple #[.agg #[.int .i64 (ep : Int), .int .i64 ex], .bool true]) W := fun W => by kernel_rfl
 refine callsD_of_wpS Tryz.func32 rfl fun c₀ cs hu => ?_
 unfold a0g at hu
 apply wpS_seq
 apply wpS_region
 simp [wpOpsS, go_sem, recoverD, hu, hta, Tryz.ntmps32, Exit.thenS]
 refine wpS_of_wp ?_
 have K1 := World.grownBy_alloc w (.cells #[.int .i64 (ep : Int), .int .i64 ex] 65) none
 have B1 := VAt.alloc w 65 #[.int .i64 (ep : Int), .int .i64 ex]
 have H1 := h.keep K1
 have HL : Hid (R + 3 < w.heap.size) := h.x.lt
 clear hta h
 obtain ⟨T, hT⟩ : ∃ T, Tryz.f32 = T := ⟨_, rfl⟩
 have HT : Hid (T.results = #[]) := by show T.results = #[]; rw [← hT]; rfl
 rw [hT]
 clear hT
 have eT : (#[.pointer (some ⟨R, 0, none⟩), .pointer (some ⟨R + 1, 0, none⟩), .pointer (some ⟨R + 2, 0, none⟩), .pointer (some ⟨R + 3, 0, none⟩)] ++ (((((((Array.replicate 12 undef).setIfInBounds 3 (.iface 65 (.agg #[.int .i64 (ep : Int), .int .i64 ex]))).setIfInBounds 4 (.tuple #[.agg #[.int .i64 (ep : Int), .int .i64 ex], .bool true])).setIfInBounds 2 (.tuple #[.agg #[.int .i64 (ep : Int), .int .i64 ex], .bool true])).setIfInBounds 5 (.agg #[.int .i64 (ep : Int), .int .i64 ex])).setIfInBounds 6 (.bool true)).setIfInBounds 0 (.pointer (some ⟨w.heap.size, 0, none⟩))).setIfInBounds 1 (.bool true) : Array Value) =
  #[.pointer (some ⟨R, 0, none⟩), .pointer (some ⟨R + 1, 0, none⟩), .pointer (some ⟨R + 2, 0, none⟩), .pointer (some ⟨R + 3, 0, none⟩), .pointer (some ⟨w.heap.size, 0, none⟩), .bool true, .tuple #[.agg #[.int .i64 (ep : Int), .int .i64 ex], .bool true], .iface 65 (.agg #[.int .i64 (ep : Int), .int .i64 ex]), .tuple #[.agg #[.int .i64 (ep : Int), .int .i64 ex], .bool true], .agg #[.int .i64 (ep : Int), .int .i64 ex], .bool true, undef, undef, undef, undef, undef] := by kernel_rfl
 rw [eT]
 clear eT
 generalize w.alloc (.cells #[.int .i64 (ep : Int), .int .i64 ex] 65) = w1 at *
 generalize w.heap.size = V at *
 have b0 : w1.cell? ⟨V, 0, none⟩ = some (.int .i64 (ep : Int)) := B1.cell 0
 have b1 : w1.cell? ⟨V, 1, none⟩ = some (.int .i64 ex) := B1.cell 1
 have r0 : w1.cell? ⟨R, 0, none⟩ = some a := H1.t.cell 0
 have r1 : w1.cell? ⟨R + 1, 0, none⟩ = some b := H1.p.cell 0
 have r2 : w1.cell? ⟨R + 2, 0, none⟩ = some d := H1.n.cell 0
 have r3 : w1.cell? ⟨R + 3, 0, none⟩ = some e0 := H1.x.cell 0
 have f0 := H1.t.free 0
 have f1 := H1.p.free 0
 have f2 := H1.n.free 0
 have f3 := H1.x.free 0
 have HQ : Hid (Res w1 R a b d e0 ∧ w.grownBy w1 none) := ⟨H1, K1⟩
 have n0 : ¬ R = V := fun e => by have := HL.out; omega
 have n1 : ¬ R + 1 = V := fun e => by have := HL.out; omega
 have n2 : ¬ R + 2 = V := fun e => by have := HL.out; omega
 have n3 : ¬ R + 3 = V := fun e => by have := HL.out; omega
 clear K1 B1 H1
 go_wp2
 go_region
 go_wp2
 obtain ⟨h1, h2⟩ := HQ.out.1.set J2 J2 (.int .i64 (ep : Int)) (.int .i64 ex)
 exact ⟨rfl, _, rfl, _, results_none HT.out _ _ _, rfl, rfl, h1.keep (f4 _ 1 none), ((GB.non HQ.out.2).trans h2 (fun _ _ h => h)).trans (GB.non (S := R4 R) (f4 _ 1 none)) (fun _ _ h => h)⟩
theorem aP1 (R : Nat) (a b d e0 : Value) (w : World) (h : Res w R a b d e0) :
  CallsD Tryz.prog 32 #[.pointer (some ⟨R, 0, none⟩), .pointer (some ⟨R + 1, 0, none⟩), .pointer (some ⟨R + 2, 0, none⟩), .pointer (some ⟨R + 3, 0, none⟩)] .returning w fun e u' w' => e = .returned (.tuple #[]) ∧ u' = .returning ∧ Res w' R a b d e0 ∧ w.grownBy w' none := by
 have hta : ∀ W : World, (Instr.typeAssert .nilIface 20 65 true).run Tryz.prog W = .ok (.tuple #[.agg #[.int .i64 0, .int .i64 0], .bool false]) W := fun W => by kernel_rfl
 refine callsD_of_wpS Tryz.func32 rfl fun c₀ cs hu => ?_
 apply wpS_seq
 apply wpS_region
 simp [wpOpsS, go_sem, recoverD, hu, hta, Tryz.ntmps32, Exit.thenS]
 refine wpS_of_wp ?_
 have K1 := World.grownBy_alloc w (.cells #[.int .i64 0, .int .i64 0] 65) none
 have HQ : Hid (Res (w.alloc (.cells #[.int .i64 0, .int .i64 0] 65)) R a b d e0 ∧ w.grownBy (w.alloc (.cells #[.int .i64 0, .int .i64 0] 65)) none) := ⟨h.keep K1, K1⟩
 clear hta h K1
 obtain ⟨T, hT⟩ : ∃ T, Tryz.f32 = T := ⟨_, rfl⟩
 have HT : Hid (T.results = #[]) := by show T.results = #[]; rw [← hT]; rfl
 rw [hT]
 clear hT
 have eT : (#[.pointer (some ⟨R, 0, none⟩), .pointer (some ⟨R + 1, 0, none⟩), .pointer (some ⟨R + 2, 0, none⟩), .pointer (some ⟨R + 3, 0, none⟩)] ++ (((((((Array.replicate 12 undef).setIfInBounds 3 .nilIface).setIfInBounds 4 (.tuple #[.agg #[.int .i64 0, .int .i64 0], .bool false])).setIfInBounds 2 (.tuple #[.agg #[.int .i64 0, .int .i64 0], .bool false])).setIfInBounds 5 (.agg #[.int .i64 0, .int .i64 0])).setIfInBounds 6 (.bool false)).setIfInBounds 0 (.pointer (some ⟨w.heap.size, 0, none⟩))).setIfInBounds 1 (.bool false) : Array Value) =
  #[.pointer (some ⟨R, 0, none⟩), .pointer (some ⟨R + 1, 0, none⟩), .pointer (some ⟨R + 2, 0, none⟩), .pointer (some ⟨R + 3, 0, none⟩), .pointer (some ⟨w.heap.size, 0, none⟩), .bool false, .tuple #[.agg #[.int .i64 0, .int .i64 0], .bool false], .nilIface, .tuple #[.agg #[.int .i64 0, .int .i64 0], .bool false], .agg #[.int .i64 0, .int .i64 0], .bool false, undef, undef, undef, undef, undef] := by kernel_rfl
 rw [eT]
 clear eT
 generalize w.alloc (.cells #[.int .i64 0, .int .i64 0] 65) = w1 at *
 generalize w.heap.size = V at *
 go_wp2
 exact ⟨rfl, _, by rw [← hu], _, results_none HT.out _ _ _, rfl, rfl, HQ.out.1, HQ.out.2⟩
def prN (r : Except Er (List (Nd × Nat))) : List (Nd × Nat) := match r with
 | .ok ns => ns
 | .error _ => []
def prP (r : Except Er (List (Nd × Nat))) : Nat := match r with
 | .ok _ => 0
 | .error e => e.1
def prE (r : Except Er (List (Nd × Nat))) : Int := match r with
 | .ok _ => 0
 | .error e => e.2
def a1e (w : World) : Prop := Tab w ∧ j4 w
theorem a1e.grown {w w' : World} (T : a1e w) (G : w.grownBy w' none) : a1e w' := ⟨T.1.grown G, T.2.grown G⟩
theorem a4Q {P : Program} {t : TypeId} {w : World} {g : Nat} {v : Value} (A : VAt w g t #[v]) (ha : (isAgg t).run P w = .ok false w) : (loadVar t ⟨g, 0, none⟩).run P w = .ok v w := by
 have hc : w.cell? ⟨g, 0, none⟩ = some v := A.cell 0
 simp [loadVar, Sem.run_bind, ha, go_sem, hc]
theorem a5f {fn : Func} {p q r s : Tmp} (h : fn.results = #[.cell p 22, .cell q 33, .cell r 3, .cell s 23]) (tmps : Array Value) (w : World) (R : Nat) (a b d e : Value) (H : Res w R a b d e)
  (hp : tmps.getD p undef = .pointer (some ⟨R, 0, none⟩)) (hq : tmps.getD q undef = .pointer (some ⟨R + 1, 0, none⟩)) (hr : tmps.getD r undef = .pointer (some ⟨R + 2, 0, none⟩)) (hs : tmps.getD s undef = .pointer (some ⟨R + 3, 0, none⟩)) : (results fn tmps).run Tryz.prog w = .ok (.tuple #[a, b, d, e]) w := by
 have hp' : tmps[p]?.getD undef = .pointer (some ⟨R, 0, none⟩) := by simpa using hp
 have hq' : tmps[q]?.getD undef = .pointer (some ⟨R + 1, 0, none⟩) := by simpa using hq
 have hr' : tmps[r]?.getD undef = .pointer (some ⟨R + 2, 0, none⟩) := by simpa using hr
 have hs' : tmps[s]?.getD undef = .pointer (some ⟨R + 3, 0, none⟩) := by simpa using hs
 have h1 := a4Q (P := Tryz.prog) H.t (run_isAgg_plain Tryz.underlying22 rfl w)
 have h2 := a4Q (P := Tryz.prog) H.p (run_isAgg_plain Tryz.underlying33 rfl w)
 have h3 := a4Q (P := Tryz.prog) H.n (run_isAgg_plain Tryz.underlying3 rfl w)
 have h4 := a4Q (P := Tryz.prog) H.x (run_isAgg_plain Tryz.underlying23 rfl w)
 simp [results, h, hp', hq', hr', hs', asAddr, h1, h2, h3, h4, Sem.run_bind]
theorem at7 (w : World) : ∀ W, ((((w.alloc (.cells #[J2] 22)).alloc (.cells #[J2] 33)).alloc (.cells #[.int .i64 0] 3)).alloc (.cells #[.int .i64 0] 23)) = W → Res W w.heap.size J2 J2 (.int .i64 0) (.int .i64 0) ∧ w.grownBy W none ∧ W.heap.size = w.heap.size + 4 := by
 rintro W rfl
 have k1 := World.grownBy_alloc w (.cells #[J2] 22) none
 have k2 := World.grownBy_alloc (w.alloc (.cells #[J2] 22)) (.cells #[J2] 33) none
 have k3 := World.grownBy_alloc ((w.alloc (.cells #[J2] 22)).alloc (.cells #[J2] 33)) (.cells #[.int .i64 0] 3) none
 have k4 := World.grownBy_alloc (((w.alloc (.cells #[J2] 22)).alloc (.cells #[J2] 33)).alloc (.cells #[.int .i64 0] 3)) (.cells #[.int .i64 0] 23) none
 have a1 := VAt.alloc w 22 #[J2]
 have a2 := VAt.alloc (w.alloc (.cells #[J2] 22)) 33 #[J2]
 have a3 := VAt.alloc ((w.alloc (.cells #[J2] 22)).alloc (.cells #[J2] 33)) 3 #[.int .i64 0]
 have a4 := VAt.alloc (((w.alloc (.cells #[J2] 22)).alloc (.cells #[J2] 33)).alloc (.cells #[.int .i64 0] 3)) 23 #[.int .i64 0]
 rw [show (w.alloc (.cells #[J2] 22)).heap.size = w.heap.size + 1 by simp] at a2
 rw [show ((w.alloc (.cells #[J2] 22)).alloc (.cells #[J2] 33)).heap.size = w.heap.size + 2 by simp] at a3
 rw [show (((w.alloc (.cells #[J2] 22)).alloc (.cells #[J2] 33)).alloc (.cells #[.int .i64 0] 3)).heap.size = w.heap.size + 3 by simp] at a4
 exact ⟨⟨((a1.kept k2).kept k3).kept k4, (a2.kept k3).kept k4, a3.kept k4, a4⟩, d3 (d3 (d3 k1 k2) k3) k4, by simp⟩
theorem a8R {w1 w2 : World} (G : w1.grownBy w2 none) (g k : Nat) (v : Value) : (w1.setCell ⟨g, k, none⟩ v).grownBy (w2.setCell ⟨g, k, none⟩ v) none := by
 have s1 : (w1.setCell ⟨g, k, none⟩ v).heap.size = w1.heap.size := by simp [World.setCell]
 have s2 : (w2.setCell ⟨g, k, none⟩ v).heap.size = w2.heap.size := by simp [World.setCell]
 refine ⟨G.os, G.tape, G.output, by rw [s1, s2]; exact G.size, fun i hi _ => ?_⟩
 rw [s1] at hi
 have hb := G.block i hi (by simp)
 by_cases e : i = g
 ·subst e
  simp only [World.setCell, Array.getElem?_modify, hb]
 ·rw [ab0 _ _ _ _ _ e, ab0 _ _ _ _ _ e, hb]
theorem aM5 (ts : List Tk) : d6 (a0m 1 ts) 1 0 ts ≠ .error exP := a5i _ 1 0 ts (by omega) (Nat.le_refl _)
theorem a9R (s : ByteArray) (hs : s.size ≤ 140737488355328) (w : World) (T : a1e w) :
  Calls Tryz.prog 17 #[.string s] w fun e w' => ∃ vt vp, e = .returned (.tuple #[vt, vp, .int .i64 (prP (a08 (sl s)) : Int), .int .i64 (prE (a08 (sl s)))]) ∧ a5J w' w.heap.size vt ((prN (a08 (sl s))).map Prod.fst) ∧ a5N w' w.heap.size vp ((prN (a08 (sl s))).map plc) ∧ w.grownBy w' none := by
 have HT : Hid (a1e w) := T
 obtain ⟨ans, hans⟩ : ∃ a, a08 (sl s) = a := ⟨_, rfl⟩
 have HA : Hid (d7 (U8 (sl s)) a1p = ans) := hans
 rw [hans]
 clear T hans
 have hF := at7 w _ rfl
 unfold J2 at hF
 have hmf : ∀ (fn : Fn) (first cap : Array Value) (w : World), (Instr.makeFunc fn first cap).run Tryz.prog w = .ok (.func fn first cap) w := fun _ _ _ _ => rfl
 go_enter_defers Tryz.func17, Tryz.ntmps17
 go_upto_region 1 with fail
 generalize (((w.alloc (.cells #[.slice none 0 0] 22)).alloc (.cells #[.slice none 0 0] 33)).alloc (.cells #[.int .i64 0] 3)).alloc (.cells #[.int .i64 0] 23) = w1 at *
 rw [show w.heap.size + 1 + 1 + 1 = w.heap.size + 3 from rfl, show w.heap.size + 1 + 1 = w.heap.size + 2 from rfl]
 obtain ⟨R, hR⟩ : ∃ R, w.heap.size = R := ⟨_, rfl⟩
 obtain ⟨H1, G1, S1⟩ := hF
 rw [hR] at H1 S1 ⊢
 have HR : Hid (w.heap.size = R ∧ w1.heap.size = R + 4) := ⟨hR, S1⟩
 clear hR S1
 have CL := aB5 s hs w1 (HT.out.1.grown G1)
 obtain ⟨lx, hlx⟩ : ∃ l, U8 (sl s) = l := ⟨_, rfl⟩
 have HGD : Hid (∀ ts, lx = .ok ts → a0i ts ∧ ts.length ≤ 65537) := fun ts hts => a9c (hlx.trans hts)
 have HEE : Hid (∀ x, lx = .error x → (x.2 != 0) = true) := fun x hx => a9a (hlx.trans hx)
 rw [hlx] at CL HA
 clear hlx
 go_wp2_with fail
 refine CL.mono ?_
 rintro e w2 ⟨v, rfl, O2, G2⟩
 have H2 := H1.keep G2
 clear CL
 have r2 : w2.cell? ⟨R + 2, 0, none⟩ = some (.int .i64 0) := H2.n.cell 0
 have r3 : w2.cell? ⟨R + 3, 0, none⟩ = some (.int .i64 0) := H2.x.cell 0
 have f2 := H2.n.free 0
 have f3 := H2.x.free 0
 cases lx with
 | error x =>
  obtain ⟨lp, le⟩ := x
  have hz : (le != 0) = true := HEE.out _ rfl
  have HA3 : Hid (ans = .error (lp, le)) := HA.out.symm
  simp only [a6v, a6t]
  have H3 : Res ((w2.setCell ⟨R + 2, 0, none⟩ (.int .i64 (lp : Int))).setCell ⟨R + 3, 0, none⟩ (.int .i64 le)) R (.slice none 0 0) (.slice none 0 0) (.int .i64 (lp : Int)) (.int .i64 le) :=
   ⟨(H2.t.setOther _ (by omega)).setOther _ (by omega), (H2.p.setOther _ (by omega)).setOther _ (by omega), (H2.n.set 0 _).setOther _ (by omega), (H2.x.setOther _ (by omega)).set 0 _⟩
  have G3 : w.grownBy ((w2.setCell ⟨R + 2, 0, none⟩ (.int .i64 (lp : Int))).setCell ⟨R + 3, 0, none⟩ (.int .i64 le)) none := T3 (T3 (d3 G1 G2) _ _ (.inr (by show _ ≤ R + 2; have := HR.out; omega))) _ _ (.inr (by show _ ≤ R + 3; have := HR.out; omega))
  go_upto_region 3 with fail
  generalize (w2.setCell ⟨R + 2, 0, none⟩ (.int .i64 (lp : Int))).setCell ⟨R + 3, 0, none⟩ (.int .i64 le) = w3 at *
  clear r2 r3 f2 f3 H1 H2 G1 G2 O2
  have q0 : w3.cell? ⟨R, 0, none⟩ = some (.slice none 0 0) := H3.t.cell 0
  have q1 : w3.cell? ⟨R + 1, 0, none⟩ = some (.slice none 0 0) := H3.p.cell 0
  have q2 : w3.cell? ⟨R + 2, 0, none⟩ = some (.int .i64 (lp : Int)) := H3.n.cell 0
  have q3 : w3.cell? ⟨R + 3, 0, none⟩ = some (.int .i64 le) := H3.x.cell 0
  have g0 := H3.t.free 0
  have g1 := H3.p.free 0
  have g2 := H3.n.free 0
  have g3 := H3.x.free 0
  obtain ⟨h4, h5⟩ := H3.set (.slice none 0 0) (.slice none 0 0) (.int .i64 (lp : Int)) (.int .i64 le)
  have HQ : Hid (_ ∧ _ ∧ w.grownBy w3 none) := ⟨h4, h5, G3⟩
  clear H3 h4 h5 G3
  refine wp_region_noPanic ?_
  go_region
  refine NoPanic.normal ?_
  go_wp2
  have G6 : w.grownBy _ none := ((GB.non (S := R4 R) HQ.out.2.2).trans HQ.out.2.1 (fun _ _ h => h)).grown (fun x hx h => by have := HR.out; have := h.1; omega)
  refine ⟨_, a5f rfl _ _ R _ _ _ _ (HQ.out.1.keep (f4 _ 1 none)) rfl rfl rfl rfl, .slice none 0 0, .slice none 0 0, ?_, ?_, ?_, d3 G6 (f4 _ 1 none)⟩
  ·rw [HA3.out]
   rfl
  ·rw [HA3.out]
   exact World.ownsRow_nil _ _ _ _
  ·rw [HA3.out]
   exact World.ownsRow_nil _ _ _ _
 | ok toks =>
  obtain ⟨hgd, hlen⟩ := HGD.out toks rfl
  rw [D0] at HA
  simp only [a6v, a6t, a9b] at O2 ⊢
  have H3 : Res ((w2.setCell ⟨R + 2, 0, none⟩ (.int .i64 0)).setCell ⟨R + 3, 0, none⟩ (.int .i64 0)) R (.slice none 0 0) (.slice none 0 0) (.int .i64 0) (.int .i64 0) :=
   ⟨(H2.t.setOther _ (by omega)).setOther _ (by omega), (H2.p.setOther _ (by omega)).setOther _ (by omega), (H2.n.set 0 _).setOther _ (by omega), (H2.x.setOther _ (by omega)).set 0 _⟩
  have GW : ((w1.setCell ⟨R + 2, 0, none⟩ (.int .i64 0)).setCell ⟨R + 3, 0, none⟩ (.int .i64 0)).grownBy ((w2.setCell ⟨R + 2, 0, none⟩ (.int .i64 0)).setCell ⟨R + 3, 0, none⟩ (.int .i64 0)) none := a8R (a8R G2 _ _ _) _ _ _
  have GX : w.grownBy ((w1.setCell ⟨R + 2, 0, none⟩ (.int .i64 0)).setCell ⟨R + 3, 0, none⟩ (.int .i64 0)) none := T3 (T3 G1 _ _ (.inr (by show _ ≤ R + 2; have := HR.out; omega))) _ _ (.inr (by show _ ≤ R + 3; have := HR.out; omega))
  have SX : ((w1.setCell ⟨R + 2, 0, none⟩ (.int .i64 0)).setCell ⟨R + 3, 0, none⟩ (.int .i64 0)).heap.size = R + 4 := by simp [World.setCell]; exact HR.out.2
  have OX : a03 ((w2.setCell ⟨R + 2, 0, none⟩ (.int .i64 0)).setCell ⟨R + 3, 0, none⟩ (.int .i64 0)) (R + 4) v toks := by
   have hv : ∀ k, k < R + 4 → ¬ v.ownBlock = some k := fun k hk e => by
    have := (O2.lt k e).1
    have := HR.out
    omega
   have o1 : a03 w2 (R + 4) v toks := by rw [← HR.out.2]; exact O2
   exact a0B (a0B o1 (U4 w2 (R + 2) 0 _) (hv _ (by omega))) (U4 _ (R + 3) 0 _) (hv _ (by omega))
  clear H1 H2 G1 G2 O2
  go_upto_region 4 with fail
  generalize (w2.setCell ⟨R + 2, 0, none⟩ (.int .i64 0)).setCell ⟨R + 3, 0, none⟩ (.int .i64 0) = w3 at *
  generalize (w1.setCell ⟨R + 2, 0, none⟩ (.int .i64 0)).setCell ⟨R + 3, 0, none⟩ (.int .i64 0) = wX at *
  clear r2 r3 f2 f3
  obtain ⟨va, vl, vc, hv⟩ := a2E OX
  subst hv
  have K4 := World.grownBy_alloc w3 (.cells #[.slice va vl vc, .int .i64 0, .int .i64 0, .slice none 0 0, .slice none 0 0] 70) none
  have A4 := VAt.alloc w3 70 #[.slice va vl vc, .int .i64 0, .int .i64 0, .slice none 0 0, .slice none 0 0]
  have H4 := H3.keep K4
  have P4 : PS ⟨wX, w3.heap.size, .slice va vl vc, toks⟩ (w3.alloc (.cells #[.slice va vl vc, .int .i64 0, .int .i64 0, .slice none 0 0, .slice none 0 0] 70)) 0 (.slice none 0 0) (.slice none 0 0) toks 0 0 [] :=
   { tab := HT.out.2.grown GX, grown := d3 GW K4, blk := A4, new := GW.size, toks := by show a03 _ wX.heap.size _ _; rw [SX]; exact D8 OX K4, drop := rfl, good := hgd, len := hlen, nest_le := by omega, bud_le := by simp; exact hlen, tree := World.ownsRow_nil _ _ _ _, places := World.ownsRow_nil _ _ _ _ }
  have HG0 : Hid (w.grownBy wX none ∧ wX.heap.size = R + 4) := ⟨GX, SX⟩
  have HGD2 : Hid (w3.heap.size ≥ R + 4) := by show _ ≤ _; rw [← SX]; exact GW.size
  clear K4 A4 H3 GW GX SX OX hgd hlen HGD HEE
  go_upto_region 6 with fail
  generalize w3.alloc (.cells #[.slice va vl vc, .int .i64 0, .int .i64 0, .slice none 0 0, .slice none 0 0] 70) = w4 at *
  generalize w3.heap.size = g at *
  have CO := aa4 (c := ⟨wX, g, .slice va vl vc, toks⟩) (a0m 1 toks) 1 (by omega) (by omega) w4 0 _ _ toks 0 0 [] P4 (aM5 toks)
  unfold a9t at CO
  unfold a1p at HA
  have HFT : Hid (∀ x, d5 g (.slice none 0 0) (.slice none 0 0) x → R + 4 ≤ x) := fun x hx => by have := P4.ge hx; have := HG0.out.2; simp only at *; omega
  have HP4 : Hid (PS ⟨wX, g, .slice va vl vc, toks⟩ w4 0 (.slice none 0 0) (.slice none 0 0) toks 0 0 []) := P4
  have HH4 : Hid (Res w4 R (.slice none 0 0) (.slice none 0 0) (.int .i64 0) (.int .i64 0)) := H4
  clear P4 H4
  generalize d6 (a0m 1 toks) 1 0 toks = rr at *
  go_wp2_with fail
  refine CO.mono ?_
  clear CO
  cases rr with
  | error er =>
   have HA3 : Hid (ans = .error er) := HA.out.symm
   rintro e w5 ⟨rfl, G5⟩
   have H5 := HH4.out.gb G5 (fun x hx => .inr (by have := HFT.out x hx; omega))
   have GZ := d3 HG0.out.1 (HP4.out.gb G5)
   go_wp2
   refine leaves_cons (f := 32) (args := #[.pointer (some ⟨R, 0, none⟩), .pointer (some ⟨R + 1, 0, none⟩), .pointer (some ⟨R + 2, 0, none⟩), .pointer (some ⟨R + 3, 0, none⟩)]) (by simp) (by simp [go_sem]) ?_
   refine (a9Q R er _ _ _ _ _ H5).mono ?_
   rintro e u' w'' ⟨rfl, rfl, H6, G6⟩
   have G7 : w.grownBy w'' none := ((GB.non (S := R4 R) GZ).trans G6 (fun _ _ h => h)).grown (fun x hx h => by have := HR.out; have := h.1; omega)
   refine ⟨_, a5f rfl _ _ R _ _ _ _ H6 rfl rfl rfl rfl, J2, J2, ?_, ?_, ?_, G7⟩
   ·rw [HA3.out]
    rfl
   ·rw [HA3.out]
    exact World.ownsRow_nil _ _ _ _
   ·rw [HA3.out]
    exact World.ownsRow_nil _ _ _ _
  | ok v =>
   obtain ⟨ms, r5⟩ := v
   rw [D0] at HA
   simp only at HA
   rintro e w5 ⟨rfl, i5, vt5, vp5, P5, G5, F5⟩
   rw [List.nil_append] at P5
   have H5 := HH4.out.gb G5 (fun x hx => .inr (by have := HFT.out x hx; omega))
   have CE := aq6 P5
   have HQ5 : Hid (PS ⟨wX, g, .slice va vl vc, toks⟩ w5 i5 vt5 vp5 r5 0 0 ms) := P5
   clear G5 F5 P5 HH4 HFT HP4
   go_wp2_with fail
   refine CE.mono ?_
   rintro e w6 ⟨G6, hcase⟩
   clear CE
   have H6 := H5.keep G6
   have Q6 := HQ5.out.keep G6
   have GZ := d3 HG0.out.1 Q6.grown
   rcases hcase with ⟨hk, rfl⟩ | ⟨hk, rfl⟩
   ·have HA3 : Hid (ans = .ok ms) := by show ans = _; rw [← HA.out, if_pos hk]
    clear HA hk H5
    obtain ⟨ta, tl, tc, ht⟩ := a2E Q6.tree
    obtain ⟨pa, pl, pc, hp⟩ := a2E Q6.places
    subst ht hp
    have q3 : w6.cell? ⟨g, 3, none⟩ = some (.slice ta tl tc) := Q6.blk.cell 3
    have q4 : w6.cell? ⟨g, 4, none⟩ = some (.slice pa pl pc) := Q6.blk.cell 4
    have a0 : w6.cell? ⟨R, 0, none⟩ = some (.slice none 0 0) := H6.t.cell 0
    have a1 : w6.cell? ⟨R + 1, 0, none⟩ = some (.slice none 0 0) := H6.p.cell 0
    have a2 : w6.cell? ⟨R + 2, 0, none⟩ = some (.int .i64 0) := H6.n.cell 0
    have a3 : w6.cell? ⟨R + 3, 0, none⟩ = some (.int .i64 0) := H6.x.cell 0
    have b0 := H6.t.free 0
    have b1 := H6.p.free 0
    have b2 := H6.n.free 0
    have b3 := H6.x.free 0
    have n0 : ¬ R = g := fun e => by have := HGD2.out; omega
    have n1 : ¬ R + 1 = g := fun e => by have := HGD2.out; omega
    have n2 : ¬ R + 2 = g := fun e => by have := HGD2.out; omega
    have n3 : ¬ R + 3 = g := fun e => by have := HGD2.out; omega
    obtain ⟨h7, g7⟩ := H6.set (.slice ta tl tc) (.slice pa pl pc) (.int .i64 0) (.int .i64 0)
    have hown : ∀ k, R4 R k → k < wX.heap.size := fun k hk => by have := hk.2; have := HG0.out.2; omega
    have HQ : Hid (_ ∧ _ ∧ _ ∧ _ ∧ w.grownBy w6 none) := ⟨h7, g7, g7.owns Q6.tree (fun x hx hr => by have := (Q6.tree.lt x hx).1; have := hown x hr; simp only at *; omega), g7.owns Q6.places (fun x hx hr => by have := (Q6.places.lt x hx).1; have := hown x hr; simp only at *; omega), GZ⟩
    clear H6 Q6 GZ h7 g7 hown HQ5 G6
    go_upto_region 8 with fail
    refine wp_region_noPanic ?_
    go_region
    refine NoPanic.normal ?_
    go_wp2
    refine leaves_cons (f := 32) (args := #[.pointer (some ⟨R, 0, none⟩), .pointer (some ⟨R + 1, 0, none⟩), .pointer (some ⟨R + 2, 0, none⟩), .pointer (some ⟨R + 3, 0, none⟩)]) (by simp) (by simp [go_sem]) ?_
    refine (aP1 R _ _ _ _ _ (HQ.out.1.keep (f4 _ 1 none))).mono ?_
    rintro e u' w'' ⟨rfl, rfl, H8, G8⟩
    have G9 : w.grownBy w'' none := d3 (((GB.non (S := R4 R) HQ.out.2.2.2.2).trans HQ.out.2.1 (fun _ _ h => h)).grown (fun x hx h => by have := HR.out; have := h.1; omega)) (d3 (f4 _ 1 none) G8)
    refine ⟨_, a5f rfl _ _ R _ _ _ _ H8 rfl rfl rfl rfl, .slice ta tl tc, .slice pa pl pc, ?_, ?_, ?_, G9⟩
    ·rw [HA3.out]
     rfl
    ·rw [HA3.out]
     exact a9F (D8 HQ.out.2.2.1 (d3 (f4 _ 1 none) G8)) (by have := HR.out; have := HG0.out.2; omega)
    ·rw [HA3.out]
     exact a9F (D8 HQ.out.2.2.2.1 (d3 (f4 _ 1 none) G8)) (by have := HR.out; have := HG0.out.2; omega)
   ·have HA3 : Hid (ans = .error (a0d r5)) := by show ans = _; rw [← HA.out, if_neg hk]; rfl
    clear HA hk H5 HQ5 Q6 G6
    go_wp2
    refine leaves_cons (f := 32) (args := #[.pointer (some ⟨R, 0, none⟩), .pointer (some ⟨R + 1, 0, none⟩), .pointer (some ⟨R + 2, 0, none⟩), .pointer (some ⟨R + 3, 0, none⟩)]) (by simp) (by simp [go_sem]) ?_
    refine (a9Q R (a0d r5) _ _ _ _ _ H6).mono ?_
    rintro e u' w'' ⟨rfl, rfl, H6, G6⟩
    have G7 : w.grownBy w'' none := ((GB.non (S := R4 R) GZ).trans G6 (fun _ _ h => h)).grown (fun x hx h => by have := HR.out; have := h.1; omega)
    refine ⟨_, a5f rfl _ _ R _ _ _ _ H6 rfl rfl rfl rfl, J2, J2, ?_, ?_, ?_, G7⟩
    ·rw [HA3.out]
     rfl
    ·rw [HA3.out]
     exact World.ownsRow_nil _ _ _ _
    ·rw [HA3.out]
     exact World.ownsRow_nil _ _ _ _
theorem a9N {s : List UInt8} {t : List Ng} {ns : List (Nd × Nat)} (hp : a08 s = .ok ns) (hf : ns.map (·.1.g) = t) (hs : s.length ≤ 140737488355328) (W : World) (TW : a1e W) :
  Calls Tryz.prog 17 #[.string ⟨s.toArray⟩] W fun e w' => ∃ ao cap vp, e = .returned (.tuple #[.slice ao t.length cap, vp, .int .i64 0, .int .i64 0]) ∧ CV w' ao (D6 t) ∧ (ao = none → cap = 0) ∧ W.grownBy w' none := by
 refine (a9R ⟨s.toArray⟩ (by simpa [ByteArray.size] using hs) W TW).mono ?_
 rintro e w' ⟨vt, vp, rfl, O, -, G⟩
 have hsl : sl ⟨s.toArray⟩ = s := by simp [sl]
 rw [hsl, hp] at O ⊢
 simp only [prN, prP, prE] at O ⊢
 obtain ⟨ao, cap, rfl, C, -, -, h0, -, -⟩ := T0 O
 rw [← as5, List.map_map] at C
 subst hf
 refine ⟨ao, cap, vp, by rw [List.length_map, List.length_map]; rfl, C, h0, G⟩
theorem aM1 {s : ByteArray} {x : Er} (hp : a08 (sl s) = .error x) (hs : s.size ≤ 140737488355328) (W : World) (TW : a1e W) :
  Calls Tryz.prog 17 #[.string s] W fun e w' => ∃ vt vp p, e = .returned (.tuple #[vt, vp, p, .int .i64 x.2]) ∧ W.grownBy w' none := by
 refine (a9R s hs W TW).mono ?_
 rintro e w' ⟨vt, vp, rfl, -, -, G⟩
 rw [hp]
 exact ⟨vt, vp, _, rfl, G⟩

end Go.Proofs.YtklipelnjgpnjaaGreatDoor
