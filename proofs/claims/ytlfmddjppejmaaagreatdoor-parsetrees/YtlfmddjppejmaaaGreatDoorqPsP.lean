import Derived.Test.YtlfmddjppejmaaaGreatDoorqPsO
set_option maxHeartbeats 64000000
set_option maxRecDepth 100000
namespace Go.Proofs.YtlfmddjppejmaaaGreatDoor
open Go.RowKit
def D6 (c : PC) (n : Nat) (rec : Nat → List Tk → Out) : Prop := ∀ (W : World) (i : Nat) (vt vp : Value) (ts : List Tk) (nest bud : Nat) (ns : List (Nd × Nat)), PS c W i vt vp ts nest bud ns → rec nest ts ≠ .error exP → Calls Tryz.prog n #[.pointer (some ⟨c.g, 0, none⟩)] W (l6 c W vt vp nest bud ns (rec nest ts))
theorem Z3 {k : Nat} {os : List Op3} (hos : ∀ o ∈ os, F9 o.1) (hb : ∀ x, l0 k x = y0 os x) (ts : List Tk) (hG : I0 ts) : opT k ts = y0 os (hdT ts).text := by
 unfold opT
 split
 ·exact hb _
 ·rename_i hk
  refine (a3R (fun j hj e => hk ?_)).symm
  have hA := hos _ (List.getElem_mem hj)
  have hi : isB ts os[j].1 = true := by rw [T6 hG.hd hA]; simpa using e.symm
  exact a2x hi
def a0K : List Op3 := [(wOr, 8, 0), ([124, 124], 8, 0)]
theorem a3v : ∀ o ∈ a0K, F9 o.1 := by
 intro o ho
 simp only [a0K, List.mem_cons, List.not_mem_nil, or_false] at ho
 rcases ho with rfl | rfl
 ·exact a2e (by decide) (by kernel_rfl)
 ·exact s7 (by decide) (by kernel_rfl)
theorem a5S (x : List UInt8) : l0 1 x = y0 a0K x := by
 by_cases h0 : x = [111, 114]
 ·subst h0; rfl
 have g0 : ¬ [111, 114] = x := fun e => h0 e.symm
 by_cases h1 : x = [124, 124]
 ·subst h1; rfl
 have g1 : ¬ [124, 124] = x := fun e => h1 e.symm
 simp [l0, wOr, y0, a0K, h0, g0, h1, g1]
def a0M : List Op3 := [(a29, 7, 0), ([38, 38], 7, 0)]
theorem a3x : ∀ o ∈ a0M, F9 o.1 := by
 intro o ho
 simp only [a0M, List.mem_cons, List.not_mem_nil, or_false] at ho
 rcases ho with rfl | rfl
 ·exact a2e (by decide) (by kernel_rfl)
 ·exact s7 (by decide) (by kernel_rfl)
theorem a61 (x : List UInt8) : l0 2 x = y0 a0M x := by
 by_cases h0 : x = [97, 110, 100]
 ·subst h0; rfl
 have g0 : ¬ [97, 110, 100] = x := fun e => h0 e.symm
 by_cases h1 : x = [38, 38]
 ·subst h1; rfl
 have g1 : ¬ [38, 38] = x := fun e => h1 e.symm
 simp [l0, a29, y0, a0M, h0, g0, h1, g1]
def Z7 : List Op3 := [([61], 6, 1), ([61, 61], 6, 1), ([33, 61], 6, 2), ([60], 6, 3), ([60, 61], 6, 4), ([62], 6, 5), ([62, 61], 6, 6)]
theorem a3y : ∀ o ∈ Z7, F9 o.1 := by
 intro o ho
 simp only [Z7, List.mem_cons, List.not_mem_nil, or_false] at ho
 rcases ho with rfl | rfl | rfl | rfl | rfl | rfl | rfl
 ·exact s7 (by decide) (by kernel_rfl)
 ·exact s7 (by decide) (by kernel_rfl)
 ·exact s7 (by decide) (by kernel_rfl)
 ·exact s7 (by decide) (by kernel_rfl)
 ·exact s7 (by decide) (by kernel_rfl)
 ·exact s7 (by decide) (by kernel_rfl)
 ·exact s7 (by decide) (by kernel_rfl)
theorem a65 (x : List UInt8) : l0 4 x = y0 Z7 x := by
 by_cases h0 : x = [61]
 ·subst h0; rfl
 have g0 : ¬ [61] = x := fun e => h0 e.symm
 by_cases h1 : x = [61, 61]
 ·subst h1; rfl
 have g1 : ¬ [61, 61] = x := fun e => h1 e.symm
 by_cases h2 : x = [33, 61]
 ·subst h2; rfl
 have g2 : ¬ [33, 61] = x := fun e => h2 e.symm
 by_cases h3 : x = [60]
 ·subst h3; rfl
 have g3 : ¬ [60] = x := fun e => h3 e.symm
 by_cases h4 : x = [60, 61]
 ·subst h4; rfl
 have g4 : ¬ [60, 61] = x := fun e => h4 e.symm
 by_cases h5 : x = [62]
 ·subst h5; rfl
 have g5 : ¬ [62] = x := fun e => h5 e.symm
 by_cases h6 : x = [62, 61]
 ·subst h6; rfl
 have g6 : ¬ [62, 61] = x := fun e => h6 e.symm
 simp [l0, a1Z, y0, Z7, h0, g0, h1, g1, h2, g2, h3, g3, h4, g4, h5, g5, h6, g6]
def a0N : List Op3 := [([124], 4, 7)]
theorem a3z : ∀ o ∈ a0N, F9 o.1 := by
 intro o ho
 simp only [a0N, List.mem_cons, List.not_mem_nil, or_false] at ho
 subst ho
 ·exact s7 (by decide) (by kernel_rfl)
theorem a67 (x : List UInt8) : l0 5 x = y0 a0N x := by
 by_cases h0 : x = [124]
 ·subst h0; rfl
 have g0 : ¬ [124] = x := fun e => h0 e.symm
 simp [l0, y0, a0N, h0, g0]
def a0O : List Op3 := [([94], 4, 8)]
theorem a3A : ∀ o ∈ a0O, F9 o.1 := by
 intro o ho
 simp only [a0O, List.mem_cons, List.not_mem_nil, or_false] at ho
 subst ho
 ·exact s7 (by decide) (by kernel_rfl)
theorem a6a (x : List UInt8) : l0 6 x = y0 a0O x := by
 by_cases h0 : x = [94]
 ·subst h0; rfl
 have g0 : ¬ [94] = x := fun e => h0 e.symm
 simp [l0, y0, a0O, h0, g0]
def a0P : List Op3 := [([38], 4, 6)]
theorem a3B : ∀ o ∈ a0P, F9 o.1 := by
 intro o ho
 simp only [a0P, List.mem_cons, List.not_mem_nil, or_false] at ho
 subst ho
 ·exact s7 (by decide) (by kernel_rfl)
theorem a6d (x : List UInt8) : l0 7 x = y0 a0P x := by
 by_cases h0 : x = [38]
 ·subst h0; rfl
 have g0 : ¬ [38] = x := fun e => h0 e.symm
 simp [l0, y0, a0P, h0, g0]
def a0Q : List Op3 := [([60, 60], 4, 9), ([62, 62], 4, 10)]
theorem a3C : ∀ o ∈ a0Q, F9 o.1 := by
 intro o ho
 simp only [a0Q, List.mem_cons, List.not_mem_nil, or_false] at ho
 rcases ho with rfl | rfl
 ·exact s7 (by decide) (by kernel_rfl)
 ·exact s7 (by decide) (by kernel_rfl)
theorem a6g (x : List UInt8) : l0 8 x = y0 a0Q x := by
 by_cases h0 : x = [60, 60]
 ·subst h0; rfl
 have g0 : ¬ [60, 60] = x := fun e => h0 e.symm
 by_cases h1 : x = [62, 62]
 ·subst h1; rfl
 have g1 : ¬ [62, 62] = x := fun e => h1 e.symm
 simp [l0, y0, a0Q, h0, g0, h1, g1]
def a0R : List Op3 := [([43], 4, 1), ([45], 4, 2)]
theorem a3D : ∀ o ∈ a0R, F9 o.1 := by
 intro o ho
 simp only [a0R, List.mem_cons, List.not_mem_nil, or_false] at ho
 rcases ho with rfl | rfl
 ·exact s7 (by decide) (by kernel_rfl)
 ·exact s7 (by decide) (by kernel_rfl)
theorem a6k (x : List UInt8) : l0 9 x = y0 a0R x := by
 by_cases h0 : x = [43]
 ·subst h0; rfl
 have g0 : ¬ [43] = x := fun e => h0 e.symm
 by_cases h1 : x = [45]
 ·subst h1; rfl
 have g1 : ¬ [45] = x := fun e => h1 e.symm
 simp [l0, y0, a0R, h0, g0, h1, g1]
def a0L : List Op3 := [([42], 4, 3), ([47], 4, 4), ([37], 4, 5)]
theorem a3w : ∀ o ∈ a0L, F9 o.1 := by
 intro o ho
 simp only [a0L, List.mem_cons, List.not_mem_nil, or_false] at ho
 rcases ho with rfl | rfl | rfl
 ·exact s7 (by decide) (by kernel_rfl)
 ·exact s7 (by decide) (by kernel_rfl)
 ·exact s7 (by decide) (by kernel_rfl)
theorem a5T (x : List UInt8) : l0 10 x = y0 a0L x := by
 by_cases h0 : x = [42]
 ·subst h0; rfl
 have g0 : ¬ [42] = x := fun e => h0 e.symm
 by_cases h1 : x = [47]
 ·subst h1; rfl
 have g1 : ¬ [47] = x := fun e => h1 e.symm
 by_cases h2 : x = [37]
 ·subst h2; rfl
 have g2 : ¬ [37] = x := fun e => h2 e.symm
 simp [l0, y0, a0L, h0, g0, h1, g1, h2, g2]

section
variable {c : PC}
theorem a9M (f : Nat) (hin : D6 c 33 (d7 f 2)) : D6 c 17 (d7 (f + 1) 1) := by
 intro w i vt vp ts nest bud ns h hne
 have hans : d7 (f + 1) 1 nest ts = d8 (d7 f 2 nest ts) (fun p => x0 (d7 f 2 nest) 1 p.2.length p.1 p.2) := by
  rw [M3, J9, if_neg (by omega), if_neg (by omega), if_neg (by omega), if_neg (by omega)]
 obtain ⟨ans, ha⟩ : ∃ a, d7 (f + 1) 1 nest ts = a := ⟨_, rfl⟩
 rw [ha] at hans hne ⊢
 have K := World.grownBy_alloc w (.cells (J5 a0K).toArray 68) none
 have CR := a09 (h.keep K) 33 #[.pointer (some ⟨c.g, 0, none⟩)] #[] (fun _ _ => by kernel_rfl) (d7 f 2) (fun W i vt vp ts nest bud ns h hne => hin W i vt vp ts nest bud ns h hne) (fun nest ts ns r hr => (V8 f 2 nest ts ns r hr).1) (some ⟨w.heap.size, 0, none⟩) 2 a0K (m8 w _ _) (fun ad had => by cases had; exact h.not_foot (Nat.le_refl _)) (fun ad had => by cases had; simp) a3v (by decide) 1 (by decide) (Z3 a3v a5S) ans hans.symm hne
 have HC : Hid (Calls Tryz.prog 32 #[.pointer (some ⟨c.g, 0, none⟩), .func (.func 33) #[.pointer (some ⟨c.g, 0, none⟩)] #[], .slice (some ⟨w.heap.size, 0, none⟩) 2 2] (w.alloc (.cells #[str [111, 114], .int .i64 8, .int .i64 0, str [124, 124], .int .i64 8, .int .i64 0] 68)) (l6 c (w.alloc (.cells #[str [111, 114], .int .i64 8, .int .i64 0, str [124, 124], .int .i64 8, .int .i64 0] 68)) vt vp nest bud ns ans)) := CR
 have HK : Hid (w.grownBy (w.alloc (.cells #[str [111, 114], .int .i64 8, .int .i64 0, str [124, 124], .int .i64 8, .int .i64 0] 68)) none) := K
 have hmf : ∀ (fn : Fn) (first cap : Array Value) (w : World), (Instr.makeFunc fn first cap).run Tryz.prog w = .ok (.func fn first cap) w := fun _ _ _ _ => rfl
 clear h hans hin ha K CR
 go_enter Tryz.func17, Tryz.ntmps17
 go_wp2_with fail
 refine HC.out.mono ?_
 clear HC
 cases ans with
 | error er =>
  rintro e w1 ⟨rfl, G⟩
  go_wp2
  exact ⟨rfl, rfl, (GB.non HK.out).trans G (fun _ _ h => h)⟩
 | ok v =>
  obtain ⟨ms, r⟩ := v
  rintro e w1 ⟨rfl, R⟩
  go_wp2
  go_end0
  exact ⟨rfl, Ret.of (GB.non HK.out) (fun _ _ h => h) R⟩
theorem a9N (f : Nat) (hin : D6 c 53 (d7 f 3)) : D6 c 33 (d7 (f + 1) 2) := by
 intro w i vt vp ts nest bud ns h hne
 have hans : d7 (f + 1) 2 nest ts = d8 (d7 f 3 nest ts) (fun p => x0 (d7 f 3 nest) 2 p.2.length p.1 p.2) := by
  rw [M3, J9, if_neg (by omega), if_neg (by omega), if_neg (by omega), if_neg (by omega)]
 obtain ⟨ans, ha⟩ : ∃ a, d7 (f + 1) 2 nest ts = a := ⟨_, rfl⟩
 rw [ha] at hans hne ⊢
 have K := World.grownBy_alloc w (.cells (J5 a0M).toArray 68) none
 have CR := a09 (h.keep K) 53 #[.pointer (some ⟨c.g, 0, none⟩)] #[] (fun _ _ => by kernel_rfl) (d7 f 3) (fun W i vt vp ts nest bud ns h hne => hin W i vt vp ts nest bud ns h hne) (fun nest ts ns r hr => (V8 f 3 nest ts ns r hr).1) (some ⟨w.heap.size, 0, none⟩) 2 a0M (m8 w _ _) (fun ad had => by cases had; exact h.not_foot (Nat.le_refl _)) (fun ad had => by cases had; simp) a3x (by decide) 2 (by decide) (Z3 a3x a61) ans hans.symm hne
 have HC : Hid (Calls Tryz.prog 32 #[.pointer (some ⟨c.g, 0, none⟩), .func (.func 53) #[.pointer (some ⟨c.g, 0, none⟩)] #[], .slice (some ⟨w.heap.size, 0, none⟩) 2 2] (w.alloc (.cells #[str [97, 110, 100], .int .i64 7, .int .i64 0, str [38, 38], .int .i64 7, .int .i64 0] 68)) (l6 c (w.alloc (.cells #[str [97, 110, 100], .int .i64 7, .int .i64 0, str [38, 38], .int .i64 7, .int .i64 0] 68)) vt vp nest bud ns ans)) := CR
 have HK : Hid (w.grownBy (w.alloc (.cells #[str [97, 110, 100], .int .i64 7, .int .i64 0, str [38, 38], .int .i64 7, .int .i64 0] 68)) none) := K
 have hmf : ∀ (fn : Fn) (first cap : Array Value) (w : World), (Instr.makeFunc fn first cap).run Tryz.prog w = .ok (.func fn first cap) w := fun _ _ _ _ => rfl
 clear h hans hin ha K CR
 go_enter Tryz.func33, Tryz.ntmps33
 go_wp2_with fail
 refine HC.out.mono ?_
 clear HC
 cases ans with
 | error er =>
  rintro e w1 ⟨rfl, G⟩
  go_wp2
  exact ⟨rfl, rfl, (GB.non HK.out).trans G (fun _ _ h => h)⟩
 | ok v =>
  obtain ⟨ms, r⟩ := v
  rintro e w1 ⟨rfl, R⟩
  go_wp2
  go_end0
  exact ⟨rfl, Ret.of (GB.non HK.out) (fun _ _ h => h) R⟩
theorem a9Q (f : Nat) (hin : D6 c 87 (d7 f 6)) : D6 c 76 (d7 (f + 1) 5) := by
 intro w i vt vp ts nest bud ns h hne
 have hans : d7 (f + 1) 5 nest ts = d8 (d7 f 6 nest ts) (fun p => x0 (d7 f 6 nest) 5 p.2.length p.1 p.2) := by
  rw [M3, J9, if_neg (by omega), if_neg (by omega), if_neg (by omega), if_neg (by omega)]
 obtain ⟨ans, ha⟩ : ∃ a, d7 (f + 1) 5 nest ts = a := ⟨_, rfl⟩
 rw [ha] at hans hne ⊢
 have K := World.grownBy_alloc w (.cells (J5 a0N).toArray 68) none
 have CR := a09 (h.keep K) 87 #[.pointer (some ⟨c.g, 0, none⟩)] #[] (fun _ _ => by kernel_rfl) (d7 f 6) (fun W i vt vp ts nest bud ns h hne => hin W i vt vp ts nest bud ns h hne) (fun nest ts ns r hr => (V8 f 6 nest ts ns r hr).1) (some ⟨w.heap.size, 0, none⟩) 1 a0N (m8 w _ _) (fun ad had => by cases had; exact h.not_foot (Nat.le_refl _)) (fun ad had => by cases had; simp) a3z (by decide) 5 (by decide) (Z3 a3z a67) ans hans.symm hne
 have HC : Hid (Calls Tryz.prog 32 #[.pointer (some ⟨c.g, 0, none⟩), .func (.func 87) #[.pointer (some ⟨c.g, 0, none⟩)] #[], .slice (some ⟨w.heap.size, 0, none⟩) 1 1] (w.alloc (.cells #[str [124], .int .i64 4, .int .i64 7] 68)) (l6 c (w.alloc (.cells #[str [124], .int .i64 4, .int .i64 7] 68)) vt vp nest bud ns ans)) := CR
 have HK : Hid (w.grownBy (w.alloc (.cells #[str [124], .int .i64 4, .int .i64 7] 68)) none) := K
 have hmf : ∀ (fn : Fn) (first cap : Array Value) (w : World), (Instr.makeFunc fn first cap).run Tryz.prog w = .ok (.func fn first cap) w := fun _ _ _ _ => rfl
 clear h hans hin ha K CR
 go_enter Tryz.func76, Tryz.ntmps76
 go_wp2_with fail
 refine HC.out.mono ?_
 clear HC
 cases ans with
 | error er =>
  rintro e w1 ⟨rfl, G⟩
  go_wp2
  exact ⟨rfl, rfl, (GB.non HK.out).trans G (fun _ _ h => h)⟩
 | ok v =>
  obtain ⟨ms, r⟩ := v
  rintro e w1 ⟨rfl, R⟩
  go_wp2
  go_end0
  exact ⟨rfl, Ret.of (GB.non HK.out) (fun _ _ h => h) R⟩
theorem a9R (f : Nat) (hin : D6 c 94 (d7 f 7)) : D6 c 87 (d7 (f + 1) 6) := by
 intro w i vt vp ts nest bud ns h hne
 have hans : d7 (f + 1) 6 nest ts = d8 (d7 f 7 nest ts) (fun p => x0 (d7 f 7 nest) 6 p.2.length p.1 p.2) := by
  rw [M3, J9, if_neg (by omega), if_neg (by omega), if_neg (by omega), if_neg (by omega)]
 obtain ⟨ans, ha⟩ : ∃ a, d7 (f + 1) 6 nest ts = a := ⟨_, rfl⟩
 rw [ha] at hans hne ⊢
 have K := World.grownBy_alloc w (.cells (J5 a0O).toArray 68) none
 have CR := a09 (h.keep K) 94 #[.pointer (some ⟨c.g, 0, none⟩)] #[] (fun _ _ => by kernel_rfl) (d7 f 7) (fun W i vt vp ts nest bud ns h hne => hin W i vt vp ts nest bud ns h hne) (fun nest ts ns r hr => (V8 f 7 nest ts ns r hr).1) (some ⟨w.heap.size, 0, none⟩) 1 a0O (m8 w _ _) (fun ad had => by cases had; exact h.not_foot (Nat.le_refl _)) (fun ad had => by cases had; simp) a3A (by decide) 6 (by decide) (Z3 a3A a6a) ans hans.symm hne
 have HC : Hid (Calls Tryz.prog 32 #[.pointer (some ⟨c.g, 0, none⟩), .func (.func 94) #[.pointer (some ⟨c.g, 0, none⟩)] #[], .slice (some ⟨w.heap.size, 0, none⟩) 1 1] (w.alloc (.cells #[str [94], .int .i64 4, .int .i64 8] 68)) (l6 c (w.alloc (.cells #[str [94], .int .i64 4, .int .i64 8] 68)) vt vp nest bud ns ans)) := CR
 have HK : Hid (w.grownBy (w.alloc (.cells #[str [94], .int .i64 4, .int .i64 8] 68)) none) := K
 have hmf : ∀ (fn : Fn) (first cap : Array Value) (w : World), (Instr.makeFunc fn first cap).run Tryz.prog w = .ok (.func fn first cap) w := fun _ _ _ _ => rfl
 clear h hans hin ha K CR
 go_enter Tryz.func87, Tryz.ntmps87
 go_wp2_with fail
 refine HC.out.mono ?_
 clear HC
 cases ans with
 | error er =>
  rintro e w1 ⟨rfl, G⟩
  go_wp2
  exact ⟨rfl, rfl, (GB.non HK.out).trans G (fun _ _ h => h)⟩
 | ok v =>
  obtain ⟨ms, r⟩ := v
  rintro e w1 ⟨rfl, R⟩
  go_wp2
  go_end0
  exact ⟨rfl, Ret.of (GB.non HK.out) (fun _ _ h => h) R⟩
theorem a9S (f : Nat) (hin : D6 c 97 (d7 f 8)) : D6 c 94 (d7 (f + 1) 7) := by
 intro w i vt vp ts nest bud ns h hne
 have hans : d7 (f + 1) 7 nest ts = d8 (d7 f 8 nest ts) (fun p => x0 (d7 f 8 nest) 7 p.2.length p.1 p.2) := by
  rw [M3, J9, if_neg (by omega), if_neg (by omega), if_neg (by omega), if_neg (by omega)]
 obtain ⟨ans, ha⟩ : ∃ a, d7 (f + 1) 7 nest ts = a := ⟨_, rfl⟩
 rw [ha] at hans hne ⊢
 have K := World.grownBy_alloc w (.cells (J5 a0P).toArray 68) none
 have CR := a09 (h.keep K) 97 #[.pointer (some ⟨c.g, 0, none⟩)] #[] (fun _ _ => by kernel_rfl) (d7 f 8) (fun W i vt vp ts nest bud ns h hne => hin W i vt vp ts nest bud ns h hne) (fun nest ts ns r hr => (V8 f 8 nest ts ns r hr).1) (some ⟨w.heap.size, 0, none⟩) 1 a0P (m8 w _ _) (fun ad had => by cases had; exact h.not_foot (Nat.le_refl _)) (fun ad had => by cases had; simp) a3B (by decide) 7 (by decide) (Z3 a3B a6d) ans hans.symm hne
 have HC : Hid (Calls Tryz.prog 32 #[.pointer (some ⟨c.g, 0, none⟩), .func (.func 97) #[.pointer (some ⟨c.g, 0, none⟩)] #[], .slice (some ⟨w.heap.size, 0, none⟩) 1 1] (w.alloc (.cells #[str [38], .int .i64 4, .int .i64 6] 68)) (l6 c (w.alloc (.cells #[str [38], .int .i64 4, .int .i64 6] 68)) vt vp nest bud ns ans)) := CR
 have HK : Hid (w.grownBy (w.alloc (.cells #[str [38], .int .i64 4, .int .i64 6] 68)) none) := K
 have hmf : ∀ (fn : Fn) (first cap : Array Value) (w : World), (Instr.makeFunc fn first cap).run Tryz.prog w = .ok (.func fn first cap) w := fun _ _ _ _ => rfl
 clear h hans hin ha K CR
 go_enter Tryz.func94, Tryz.ntmps94
 go_wp2_with fail
 refine HC.out.mono ?_
 clear HC
 cases ans with
 | error er =>
  rintro e w1 ⟨rfl, G⟩
  go_wp2
  exact ⟨rfl, rfl, (GB.non HK.out).trans G (fun _ _ h => h)⟩
 | ok v =>
  obtain ⟨ms, r⟩ := v
  rintro e w1 ⟨rfl, R⟩
  go_wp2
  go_end0
  exact ⟨rfl, Ret.of (GB.non HK.out) (fun _ _ h => h) R⟩
theorem a9T (f : Nat) (hin : D6 c 99 (d7 f 9)) : D6 c 97 (d7 (f + 1) 8) := by
 intro w i vt vp ts nest bud ns h hne
 have hans : d7 (f + 1) 8 nest ts = d8 (d7 f 9 nest ts) (fun p => x0 (d7 f 9 nest) 8 p.2.length p.1 p.2) := by
  rw [M3, J9, if_neg (by omega), if_neg (by omega), if_neg (by omega), if_neg (by omega)]
 obtain ⟨ans, ha⟩ : ∃ a, d7 (f + 1) 8 nest ts = a := ⟨_, rfl⟩
 rw [ha] at hans hne ⊢
 have K := World.grownBy_alloc w (.cells (J5 a0Q).toArray 68) none
 have CR := a09 (h.keep K) 99 #[.pointer (some ⟨c.g, 0, none⟩)] #[] (fun _ _ => by kernel_rfl) (d7 f 9) (fun W i vt vp ts nest bud ns h hne => hin W i vt vp ts nest bud ns h hne) (fun nest ts ns r hr => (V8 f 9 nest ts ns r hr).1) (some ⟨w.heap.size, 0, none⟩) 2 a0Q (m8 w _ _) (fun ad had => by cases had; exact h.not_foot (Nat.le_refl _)) (fun ad had => by cases had; simp) a3C (by decide) 8 (by decide) (Z3 a3C a6g) ans hans.symm hne
 have HC : Hid (Calls Tryz.prog 32 #[.pointer (some ⟨c.g, 0, none⟩), .func (.func 99) #[.pointer (some ⟨c.g, 0, none⟩)] #[], .slice (some ⟨w.heap.size, 0, none⟩) 2 2] (w.alloc (.cells #[str [60, 60], .int .i64 4, .int .i64 9, str [62, 62], .int .i64 4, .int .i64 10] 68)) (l6 c (w.alloc (.cells #[str [60, 60], .int .i64 4, .int .i64 9, str [62, 62], .int .i64 4, .int .i64 10] 68)) vt vp nest bud ns ans)) := CR
 have HK : Hid (w.grownBy (w.alloc (.cells #[str [60, 60], .int .i64 4, .int .i64 9, str [62, 62], .int .i64 4, .int .i64 10] 68)) none) := K
 have hmf : ∀ (fn : Fn) (first cap : Array Value) (w : World), (Instr.makeFunc fn first cap).run Tryz.prog w = .ok (.func fn first cap) w := fun _ _ _ _ => rfl
 clear h hans hin ha K CR
 go_enter Tryz.func97, Tryz.ntmps97
 go_wp2_with fail
 refine HC.out.mono ?_
 clear HC
 cases ans with
 | error er =>
  rintro e w1 ⟨rfl, G⟩
  go_wp2
  exact ⟨rfl, rfl, (GB.non HK.out).trans G (fun _ _ h => h)⟩
 | ok v =>
  obtain ⟨ms, r⟩ := v
  rintro e w1 ⟨rfl, R⟩
  go_wp2
  go_end0
  exact ⟨rfl, Ret.of (GB.non HK.out) (fun _ _ h => h) R⟩
theorem a9U (f : Nat) (hin : D6 c 104 (d7 f 10)) : D6 c 99 (d7 (f + 1) 9) := by
 intro w i vt vp ts nest bud ns h hne
 have hans : d7 (f + 1) 9 nest ts = d8 (d7 f 10 nest ts) (fun p => x0 (d7 f 10 nest) 9 p.2.length p.1 p.2) := by
  rw [M3, J9, if_neg (by omega), if_neg (by omega), if_neg (by omega), if_neg (by omega)]
 obtain ⟨ans, ha⟩ : ∃ a, d7 (f + 1) 9 nest ts = a := ⟨_, rfl⟩
 rw [ha] at hans hne ⊢
 have K := World.grownBy_alloc w (.cells (J5 a0R).toArray 68) none
 have CR := a09 (h.keep K) 104 #[.pointer (some ⟨c.g, 0, none⟩)] #[] (fun _ _ => by kernel_rfl) (d7 f 10) (fun W i vt vp ts nest bud ns h hne => hin W i vt vp ts nest bud ns h hne) (fun nest ts ns r hr => (V8 f 10 nest ts ns r hr).1) (some ⟨w.heap.size, 0, none⟩) 2 a0R (m8 w _ _) (fun ad had => by cases had; exact h.not_foot (Nat.le_refl _)) (fun ad had => by cases had; simp) a3D (by decide) 9 (by decide) (Z3 a3D a6k) ans hans.symm hne
 have HC : Hid (Calls Tryz.prog 32 #[.pointer (some ⟨c.g, 0, none⟩), .func (.func 104) #[.pointer (some ⟨c.g, 0, none⟩)] #[], .slice (some ⟨w.heap.size, 0, none⟩) 2 2] (w.alloc (.cells #[str [43], .int .i64 4, .int .i64 1, str [45], .int .i64 4, .int .i64 2] 68)) (l6 c (w.alloc (.cells #[str [43], .int .i64 4, .int .i64 1, str [45], .int .i64 4, .int .i64 2] 68)) vt vp nest bud ns ans)) := CR
 have HK : Hid (w.grownBy (w.alloc (.cells #[str [43], .int .i64 4, .int .i64 1, str [45], .int .i64 4, .int .i64 2] 68)) none) := K
 have hmf : ∀ (fn : Fn) (first cap : Array Value) (w : World), (Instr.makeFunc fn first cap).run Tryz.prog w = .ok (.func fn first cap) w := fun _ _ _ _ => rfl
 clear h hans hin ha K CR
 go_enter Tryz.func99, Tryz.ntmps99
 go_wp2_with fail
 refine HC.out.mono ?_
 clear HC
 cases ans with
 | error er =>
  rintro e w1 ⟨rfl, G⟩
  go_wp2
  exact ⟨rfl, rfl, (GB.non HK.out).trans G (fun _ _ h => h)⟩
 | ok v =>
  obtain ⟨ms, r⟩ := v
  rintro e w1 ⟨rfl, R⟩
  go_wp2
  go_end0
  exact ⟨rfl, Ret.of (GB.non HK.out) (fun _ _ h => h) R⟩
theorem a9J (f : Nat) (hin : D6 c 110 (d7 f 11)) : D6 c 104 (d7 (f + 1) 10) := by
 intro w i vt vp ts nest bud ns h hne
 have hans : d7 (f + 1) 10 nest ts = d8 (d7 f 11 nest ts) (fun p => x0 (d7 f 11 nest) 10 p.2.length p.1 p.2) := by
  rw [M3, J9, if_neg (by omega), if_neg (by omega), if_neg (by omega), if_neg (by omega)]
 obtain ⟨ans, ha⟩ : ∃ a, d7 (f + 1) 10 nest ts = a := ⟨_, rfl⟩
 rw [ha] at hans hne ⊢
 have K := World.grownBy_alloc w (.cells (J5 a0L).toArray 68) none
 have CR := a09 (h.keep K) 110 #[.pointer (some ⟨c.g, 0, none⟩)] #[] (fun _ _ => by kernel_rfl) (d7 f 11) (fun W i vt vp ts nest bud ns h hne => hin W i vt vp ts nest bud ns h hne) (fun nest ts ns r hr => (V8 f 11 nest ts ns r hr).1) (some ⟨w.heap.size, 0, none⟩) 3 a0L (m8 w _ _) (fun ad had => by cases had; exact h.not_foot (Nat.le_refl _)) (fun ad had => by cases had; simp) a3w (by decide) 10 (by decide) (Z3 a3w a5T) ans hans.symm hne
 have HC : Hid (Calls Tryz.prog 32 #[.pointer (some ⟨c.g, 0, none⟩), .func (.func 110) #[.pointer (some ⟨c.g, 0, none⟩)] #[], .slice (some ⟨w.heap.size, 0, none⟩) 3 3] (w.alloc (.cells #[str [42], .int .i64 4, .int .i64 3, str [47], .int .i64 4, .int .i64 4, str [37], .int .i64 4, .int .i64 5] 68)) (l6 c (w.alloc (.cells #[str [42], .int .i64 4, .int .i64 3, str [47], .int .i64 4, .int .i64 4, str [37], .int .i64 4, .int .i64 5] 68)) vt vp nest bud ns ans)) := CR
 have HK : Hid (w.grownBy (w.alloc (.cells #[str [42], .int .i64 4, .int .i64 3, str [47], .int .i64 4, .int .i64 4, str [37], .int .i64 4, .int .i64 5] 68)) none) := K
 have hmf : ∀ (fn : Fn) (first cap : Array Value) (w : World), (Instr.makeFunc fn first cap).run Tryz.prog w = .ok (.func fn first cap) w := fun _ _ _ _ => rfl
 clear h hans hin ha K CR
 go_enter Tryz.func104, Tryz.ntmps104
 go_wp2_with fail
 refine HC.out.mono ?_
 clear HC
 cases ans with
 | error er =>
  rintro e w1 ⟨rfl, G⟩
  go_wp2
  exact ⟨rfl, rfl, (GB.non HK.out).trans G (fun _ _ h => h)⟩
 | ok v =>
  obtain ⟨ms, r⟩ := v
  rintro e w1 ⟨rfl, R⟩
  go_wp2
  go_end0
  exact ⟨rfl, Ret.of (GB.non HK.out) (fun _ _ h => h) R⟩
theorem a9O (f : Nat) (hin : D6 c 53 (d7 f 3)) (hin2 : D6 c 69 (d7 f 4)) : D6 c 53 (d7 (f + 1) 3) := by
 intro w i vt vp ts nest bud ns h hne
 obtain ⟨ans, ha⟩ : ∃ a, d7 (f + 1) 3 nest ts = a := ⟨_, rfl⟩
 have hG := h.good.hd
 have K := World.grownBy_alloc w (.cells #[str [110, 111, 116], str [33]] 9) none
 have hyes : (hdT ts).text ∈ [[110, 111, 116], [33]] → (hdT ts).kind ≠ 0 ∧ s9 nest ts (d8 (d7 f 3 (nest + 1) ts.tail) fun p => .ok (p.1 ++ [(ndK 9, (hdT ts).pos)], p.2)) = ans := fun hm => by
  have hb : isB ts T4 = true ∨ isB ts [33] = true := by
   rw [T6 hG (a2e (x := T4) (by decide) (by kernel_rfl)), T6 hG (s7 (x := [33]) (by decide) (by kernel_rfl))]
   simp only [List.mem_cons, List.not_mem_nil, or_false] at hm
   rcases hm with hm | hm
   ·exact .inl (by rw [hm]; rfl)
   ·exact .inr (by rw [hm]; rfl)
  refine ⟨hb.elim a0i a0i, ?_⟩
  rw [← ha, M3, J9, if_pos ⟨rfl, hb⟩]
 have hno : (hdT ts).text ∉ [[110, 111, 116], [33]] → d7 f 4 nest ts = ans := fun hm => by
  have hb : ¬ (isB ts T4 = true ∨ isB ts [33] = true) := fun h => hm (by rcases h with h | h <;> rw [a0C h] <;> decide)
  rw [← ha, M3, J9, if_neg (fun h => hb h.2), if_neg (by omega), if_pos (.inl rfl)]
 rw [ha] at hne ⊢
 have CR := a4X (h.keep K) 9 53 #[.pointer (some ⟨c.g, 0, none⟩)] #[] (fun _ _ => by kernel_rfl) 69 #[.pointer (some ⟨c.g, 0, none⟩)] #[] (fun _ _ => by kernel_rfl) (d7 f 3) (d7 f 4) (fun W i vt vp ts nest bud ns h hne => hin W i vt vp ts nest bud ns h hne) (fun W i vt vp ts nest bud ns h hne => hin2 W i vt vp ts nest bud ns h hne) (some ⟨w.heap.size, 0, none⟩) 2 [[110, 111, 116], [33]] (m8 w _ _) (by decide) ans hyes hno hne
 have HC : Hid (Calls Tryz.prog 68 #[.pointer (some ⟨c.g, 0, none⟩), .int .i64 9, .func (.func 53) #[.pointer (some ⟨c.g, 0, none⟩)] #[], .func (.func 69) #[.pointer (some ⟨c.g, 0, none⟩)] #[], .slice (some ⟨w.heap.size, 0, none⟩) 2 2] (w.alloc (.cells #[str [110, 111, 116], str [33]] 9)) (l6 c (w.alloc (.cells #[str [110, 111, 116], str [33]] 9)) vt vp nest bud ns ans)) := CR
 have HK : Hid (w.grownBy (w.alloc (.cells #[str [110, 111, 116], str [33]] 9)) none) := K
 have hmf : ∀ (fn : Fn) (first cap : Array Value) (w : World), (Instr.makeFunc fn first cap).run Tryz.prog w = .ok (.func fn first cap) w := fun _ _ _ _ => rfl
 clear h hyes hno hin hin2 ha K CR hG hne
 go_enter Tryz.func53, Tryz.ntmps53
 go_wp2_with fail
 refine HC.out.mono ?_
 clear HC
 cases ans with
 | error er =>
  rintro e w1 ⟨rfl, G⟩
  go_wp2
  exact ⟨rfl, rfl, (GB.non HK.out).trans G (fun _ _ h => h)⟩
 | ok v =>
  obtain ⟨ms, r⟩ := v
  rintro e w1 ⟨rfl, R⟩
  go_wp2
  go_end0
  exact ⟨rfl, Ret.of (GB.non HK.out) (fun _ _ h => h) R⟩
theorem a9K (f : Nat) (hin : D6 c 110 (d7 f 11)) (hin2 : D6 c 113 (d7 f 12)) : D6 c 110 (d7 (f + 1) 11) := by
 intro w i vt vp ts nest bud ns h hne
 obtain ⟨ans, ha⟩ : ∃ a, d7 (f + 1) 11 nest ts = a := ⟨_, rfl⟩
 have hG := h.good.hd
 have K := World.grownBy_alloc w (.cells #[str [45]] 9) none
 have hyes : (hdT ts).text ∈ [[45]] → (hdT ts).kind ≠ 0 ∧ s9 nest ts (d8 (d7 f 11 (nest + 1) ts.tail) fun p => .ok (p.1 ++ [(ndK 5, (hdT ts).pos)], p.2)) = ans := fun hm => by
  have hb : isB ts [45] = true := by
   rw [T6 hG (s7 (x := [45]) (by decide) (by kernel_rfl))]
   simpa using hm
  refine ⟨a0i hb, ?_⟩
  rw [← ha, M3, J9, if_neg (by omega), if_pos ⟨rfl, hb⟩]
 have hno : (hdT ts).text ∉ [[45]] → d7 f 12 nest ts = ans := fun hm => by
  have hb : ¬ isB ts [45] = true := fun h => hm (by rw [a0C h]; decide)
  rw [← ha, M3, J9, if_neg (by omega), if_neg (fun h => hb h.2), if_pos (.inr rfl)]
 rw [ha] at hne ⊢
 have CR := a4X (h.keep K) 5 110 #[.pointer (some ⟨c.g, 0, none⟩)] #[] (fun _ _ => by kernel_rfl) 113 #[.pointer (some ⟨c.g, 0, none⟩)] #[] (fun _ _ => by kernel_rfl) (d7 f 11) (d7 f 12) (fun W i vt vp ts nest bud ns h hne => hin W i vt vp ts nest bud ns h hne) (fun W i vt vp ts nest bud ns h hne => hin2 W i vt vp ts nest bud ns h hne) (some ⟨w.heap.size, 0, none⟩) 1 [[45]] (m8 w _ _) (by decide) ans hyes hno hne
 have HC : Hid (Calls Tryz.prog 68 #[.pointer (some ⟨c.g, 0, none⟩), .int .i64 5, .func (.func 110) #[.pointer (some ⟨c.g, 0, none⟩)] #[], .func (.func 113) #[.pointer (some ⟨c.g, 0, none⟩)] #[], .slice (some ⟨w.heap.size, 0, none⟩) 1 1] (w.alloc (.cells #[str [45]] 9)) (l6 c (w.alloc (.cells #[str [45]] 9)) vt vp nest bud ns ans)) := CR
 have HK : Hid (w.grownBy (w.alloc (.cells #[str [45]] 9)) none) := K
 have hmf : ∀ (fn : Fn) (first cap : Array Value) (w : World), (Instr.makeFunc fn first cap).run Tryz.prog w = .ok (.func fn first cap) w := fun _ _ _ _ => rfl
 clear h hyes hno hin hin2 ha K CR hG hne
 go_enter Tryz.func110, Tryz.ntmps110
 go_wp2_with fail
 refine HC.out.mono ?_
 clear HC
 cases ans with
 | error er =>
  rintro e w1 ⟨rfl, G⟩
  go_wp2
  exact ⟨rfl, rfl, (GB.non HK.out).trans G (fun _ _ h => h)⟩
 | ok v =>
  obtain ⟨ms, r⟩ := v
  rintro e w1 ⟨rfl, R⟩
  go_wp2
  go_end0
  exact ⟨rfl, Ret.of (GB.non HK.out) (fun _ _ h => h) R⟩
theorem a7I {rec : List Tk → Out} {ms : List (Nd × Nat)} {ts : List Tk} (h : ts ≠ []) : x0 rec 4 ts.length ms ts = match opT 4 ts with
  | none => .ok (ms, ts)
  | some nd => d8 (rec ts.tail) fun p => .ok (ms ++ p.1 ++ [(nd, (hdT ts).pos)], p.2) := by
 obtain ⟨n, hn⟩ : ∃ n, ts.length = n + 1 := ⟨ts.length - 1, by have := List.length_pos_iff.2 h; omega⟩
 rw [hn, x0]
 cases opT 4 ts with
 | none => rfl
 | some nd =>
  simp only
  congr 1
theorem a9P (f : Nat) (hin : D6 c 76 (d7 f 5)) : D6 c 69 (d7 (f + 1) 4) := by
 intro w i vt vp ts nest bud ns h hne
 have hans : d7 (f + 1) 4 nest ts = d8 (d7 f 5 nest ts) (fun p => x0 (d7 f 5 nest) 4 p.2.length p.1 p.2) := by
  rw [M3, J9, if_neg (by omega), if_neg (by omega), if_neg (by omega), if_neg (by omega)]
 obtain ⟨ans, ha⟩ : ∃ a, d7 (f + 1) 4 nest ts = a := ⟨_, rfl⟩
 rw [ha] at hans hne ⊢
 have h1 : d7 f 5 nest ts ≠ .error exP := fun e => by rw [e] at hans; exact hne hans
 have C1 := hin w i vt vp ts nest bud ns h h1
 have HIN : Hid (D6 c 76 (d7 f 5)) := hin
 have HANS : Hid (ans = d8 (d7 f 5 nest ts) (fun p => x0 (d7 f 5 nest) 4 p.2.length p.1 p.2)) := hans
 have HNE : Hid (ans ≠ .error exP) := hne
 have hmf : ∀ (fn : Fn) (first cap : Array Value) (w : World), (Instr.makeFunc fn first cap).run Tryz.prog w = .ok (.func fn first cap) w := fun _ _ _ _ => rfl
 clear h hans hin ha h1 hne
 generalize d7 f 5 nest ts = rr at *
 go_enter Tryz.func69, Tryz.ntmps69
 go_wp2_with fail
 refine C1.mono ?_
 clear C1
 cases rr with
 | error er =>
  have HA3 : Hid (ans = .error er) := HANS.out
  rintro e w1 ⟨rfl, G⟩
  go_wp2
  refine ⟨rfl, ?_⟩
  rw [HA3.out]
  exact ⟨rfl, G⟩
 | ok v =>
  obtain ⟨ms, r1⟩ := v
  rw [q9] at HANS
  simp only at HANS
  rintro e w1 ⟨rfl, i1, vt1, vp1, H1, G1, F1⟩
  rw [a7I H1.good.ne, Z3 a3y a65 r1 H1.good] at HANS
  have K := World.grownBy_alloc w1 (.cells (J5 Z7).toArray 68) none
  have CF := a2q (H1.keep K) 76 #[.pointer (some ⟨c.g, 0, none⟩)] #[] (fun _ _ => by kernel_rfl) (d7 f 5) (fun W i vt vp ts nest bud ns h hne => HIN.out W i vt vp ts nest bud ns h hne) (some ⟨w1.heap.size, 0, none⟩) 7 Z7 (m8 w1 _ _) a3y (by decide) (fun hf e => by
   cases hfo : y0 Z7 (hdT r1).text with
   | none => exact hf hfo
   | some nd =>
    have := HANS.out
    rw [hfo] at this
    simp only at this
    rw [e] at this
    exact HNE.out this)
  have HC : Hid (Calls Tryz.prog 52 #[.pointer (some ⟨c.g, 0, none⟩), .func (.func 76) #[.pointer (some ⟨c.g, 0, none⟩)] #[], .slice (some ⟨w1.heap.size, 0, none⟩) 7 7] (w1.alloc (.cells #[str [61], .int .i64 6, .int .i64 1, str [61, 61], .int .i64 6, .int .i64 1, str [33, 61], .int .i64 6, .int .i64 2, str [60], .int .i64 6, .int .i64 3, str [60, 61], .int .i64 6, .int .i64 4, str [62], .int .i64 6, .int .i64 5, str [62, 61], .int .i64 6, .int .i64 6] 68)) (a3f c (w1.alloc (.cells #[str [61], .int .i64 6, .int .i64 1, str [61, 61], .int .i64 6, .int .i64 1, str [33, 61], .int .i64 6, .int .i64 2, str [60], .int .i64 6, .int .i64 3, str [60, 61], .int .i64 6, .int .i64 4, str [62], .int .i64 6, .int .i64 5, str [62, 61], .int .i64 6, .int .i64 6] 68)) vt1 vp1 nest bud (ns ++ ms) (hdT r1).pos (y0 Z7 (hdT r1).text) (d7 f 5 nest r1.tail))) := CF
  have HK : Hid (w1.grownBy (w1.alloc (.cells #[str [61], .int .i64 6, .int .i64 1, str [61, 61], .int .i64 6, .int .i64 1, str [33, 61], .int .i64 6, .int .i64 2, str [60], .int .i64 6, .int .i64 3, str [60, 61], .int .i64 6, .int .i64 4, str [62], .int .i64 6, .int .i64 5, str [62, 61], .int .i64 6, .int .i64 6] 68)) none) := K
  have HQ : Hid (PS c w1 i1 vt1 vp1 r1 nest bud (ns ++ ms) ∧ GB w w1 (d3 c.g vt vp) ∧ ∀ x, x < w.heap.size → d3 c.g vt1 vp1 x → d3 c.g vt vp x) := ⟨H1, G1, F1⟩
  clear K CF H1 G1 F1 HIN HNE
  generalize d7 f 5 nest r1.tail = rr at *
  generalize y0 Z7 (hdT r1).text = fo at *
  go_wp2_with fail
  refine HC.out.mono ?_
  clear HC
  cases fo with
  | none =>
   have HA3 : Hid (ans = .ok (ms, r1)) := HANS.out
   rintro e w2 ⟨rfl, G2⟩
   go_wp2
   go_end0
   rw [HA3.out]
   have G3 := d5 HK.out G2
   exact ⟨rfl, i1, vt1, vp1, HQ.out.1.keep G3, HQ.out.2.1.trans (GB.non (S := d3 c.g vt vp) G3) (fun _ _ h => h), HQ.out.2.2⟩
  | some nd =>
   cases rr with
   | error er =>
    have HA3 : Hid (ans = .error er) := HANS.out
    rintro e w2 ⟨rfl, G2⟩
    go_wp2
    refine ⟨rfl, ?_⟩
    rw [HA3.out]
    exact ⟨rfl, HQ.out.2.1.trans ((GB.non (S := d3 c.g vt1 vp1) HK.out).trans G2 (fun _ _ h => h)) HQ.out.2.2⟩
   | ok v =>
    obtain ⟨m2, r2⟩ := v
    have HA3 : Hid (ans = .ok (ms ++ m2 ++ [(nd, (hdT r1).pos)], r2)) := HANS.out
    rintro e w2 ⟨rfl, R2⟩
    go_wp2
    go_end0
    rw [HA3.out]
    refine ⟨rfl, ?_⟩
    rw [← List.append_assoc, ← List.append_assoc]
    exact Ret.of HQ.out.2.1 HQ.out.2.2 (Ret.of (GB.non HK.out) (fun _ _ h => h) R2)
theorem a9L (f : Nat) (hin : D6 c 17 (d7 f 1)) : D6 c 113 (d7 (f + 1) 12) := by
 intro w i vt vp ts nest bud ns h hne
 have HO : U4 c (d7 f 1) := hin
 have hans : d7 (f + 1) 12 nest ts = J2 (d7 f 1) nest ts := by
  rw [M3, J9, if_neg (by omega), if_neg (by omega), if_neg (by omega), if_pos rfl]
 rw [hans] at hne ⊢
 have hG := h.good.hd
 by_cases h1 : (hdT ts).kind = 1
 ·rw [a8G h1]
  exact a8E h h1
 by_cases h2 : (hdT ts).text = [40]
 ·have hk : (hdT ts).kind = 5 := a1a hG (by decide) (by kernel_rfl) h2
  have e := a8J (rec := d7 f 1) (nest := nest) hG h2
  exact a8I h (d7 f 1) HO h1 (by omega) h2 _ e.symm hne
 by_cases h3 : (hdT ts).text ∈ W7
 ·have hk : (hdT ts).kind = 2 := a1a hG (a1u _ h3).1 (a1u _ h3).2.1 rfl
  have hk0 : (hdT ts).kind ≠ 0 := by omega
  have e := a8S (rec := d7 f 1) (nest := nest) hG h3
  rw [e] at hne ⊢
  simp only [W7, List.mem_cons, List.not_mem_nil, or_false] at h3
  have hs : (hdT ts).text ∈ [g9, j5, p9, C9, j1, j4] → K9 ts = D5 (hdT ts).pos (z7 (p8 ts) (o9 ts)) := fun hm => by
   have n1 : (hdT ts).text ≠ W5 := fun e => by rw [e] at hm; exact absurd hm (by decide)
   have n2 : (hdT ts).text ≠ W4 := fun e => by rw [e] at hm; exact absurd hm (by decide)
   have n3 : (hdT ts).text ≠ W6 := fun e => by rw [e] at hm; exact absurd hm (by decide)
   have n4 : (hdT ts).text ≠ q7 := fun e => by rw [e] at hm; exact absurd hm (by decide)
   rw [K9, if_neg n1, if_neg n2, if_neg n3, if_neg n4, if_pos hm, Z9, af0]
  rcases h3 with h3 | h3 | h3 | h3 | h3 | h3 | h3 | h3 | h3 | h3
  ·have e2 : K9 ts = .ok ([(ndK 2, (hdT ts).pos)], ts.tail) := by rw [K9, if_pos h3]
   rw [e2]
   exact a8D h h1 hk0 h3
  ·have e2 : K9 ts = .ok ([(Y4 1, (hdT ts).pos)], ts.tail) := by rw [K9, if_neg (by rw [h3]; decide), if_pos h3]; rfl
   rw [e2]
   exact a8C h h1 hk0 h3
  ·have e2 : K9 ts = .ok ([(Y4 2, (hdT ts).pos)], ts.tail) := by rw [K9, if_neg (by rw [h3]; decide), if_neg (by rw [h3]; decide), if_pos h3]; rfl
   rw [e2]
   exact a8H h h1 hk0 h3
  ·have e2 : K9 ts = d8 (j8 ts.tail) fun p => .ok ([(a0q p.1, (hdT ts).pos)], p.2) := by rw [K9, if_neg (by rw [h3]; decide), if_neg (by rw [h3]; decide), if_neg (by rw [h3]; decide), if_pos h3]; rfl
   rw [e2]
   exact a8K h h1 hk0 h3 _ rfl
  ·rw [hs (by rw [h3]; decide)]
   exact a8M h h1 h3 _ rfl
  ·rw [hs (by rw [h3]; decide)]
   exact a8N h h1 h3 _ rfl
  ·rw [hs (by rw [h3]; decide)]
   exact a8O h h1 h3 _ rfl
  ·rw [hs (by rw [h3]; decide)]
   exact a8P h h1 h3 _ rfl
  ·rw [hs (by rw [h3]; decide)]
   exact a8Q h h1 h3 _ rfl
  ·rw [hs (by rw [h3]; decide)]
   exact a8L h h1 h3 _ rfl
 have e : J2 (d7 f 1) nest ts = (if l9 (hdT ts).text = 0 then .error (M4 ts) else N7 (d7 f 1) nest (l9 (hdT ts).text) (hdT ts).pos ts.tail) := by
  by_cases hn : l9 (hdT ts).text = 0
  ·rw [if_pos hn, a8F h1 h2 h3 hn]
   rfl
  ·rw [if_neg hn]
   exact (a4T hG hn).1
 exact a8A h (d7 f 1) HO h1 h2 h3 _ e.symm hne
def a4v : Nat → Nat
 | 1 => 17
 | 2 => 33
 | 3 => 53
 | 4 => 69
 | 5 => 76
 | 6 => 87
 | 7 => 94
 | 8 => 97
 | 9 => 99
 | 10 => 104
 | 11 => 110
 | _ => 113
theorem a5d : ∀ (f k : Nat), 1 ≤ k → k ≤ 12 → D6 c (a4v k) (d7 f k)
 | 0, k, _, _ => fun w i vt vp ts nest bud ns _ hne => absurd rfl hne
 | f + 1, k, h1, h12 => by
  have ih := a5d f
  have hk : k = 1 ∨ k = 2 ∨ k = 3 ∨ k = 4 ∨ k = 5 ∨ k = 6 ∨ k = 7 ∨ k = 8 ∨ k = 9 ∨ k = 10 ∨ k = 11 ∨ k = 12 := by omega
  rcases hk with rfl | rfl | rfl | rfl | rfl | rfl | rfl | rfl | rfl | rfl | rfl | rfl
  ·exact a9M f (ih 2 (by omega) (by omega))
  ·exact a9N f (ih 3 (by omega) (by omega))
  ·exact a9O f (ih 3 (by omega) (by omega)) (ih 4 (by omega) (by omega))
  ·exact a9P f (ih 5 (by omega) (by omega))
  ·exact a9Q f (ih 6 (by omega) (by omega))
  ·exact a9R f (ih 7 (by omega) (by omega))
  ·exact a9S f (ih 8 (by omega) (by omega))
  ·exact a9T f (ih 9 (by omega) (by omega))
  ·exact a9U f (ih 10 (by omega) (by omega))
  ·exact a9J f (ih 11 (by omega) (by omega))
  ·exact a9K f (ih 11 (by omega) (by omega)) (ih 12 (by omega) (by omega))
  ·exact a9L f (ih 1 (by omega) (by omega))

end
end Go.Proofs.YtlfmddjppejmaaaGreatDoor
