import Derived.Test.YtklipelnjgpnjaaGreatDoorNPsO
import Derived.Defers
import Derived.Recover
import Derived.Test.YtklipelnjgpnjaaGreatDoorLotN37
set_option maxHeartbeats 64000000
set_option maxRecDepth 100000
namespace Go.Proofs.YtklipelnjgpnjaaGreatDoor
open Go.RowKit
def J0 (c : PC) (n : Nat) (rec : Nat → List Tk → Out) : Prop := ∀ (W : World) (i : Nat) (vt vp : Value) (ts : List Tk) (nest bud : Nat) (ns : List (Nd × Nat)), PS c W i vt vp ts nest bud ns → rec nest ts ≠ .error exP → Calls Tryz.prog n #[.pointer (some ⟨c.g, 0, none⟩)] W (l9 c W vt vp nest bud ns (rec nest ts))
theorem a1y {k : Nat} {os : List Op3} (hos : ∀ o ∈ os, M3 o.1) (hb : ∀ x, x7 k x = D8 os x) (ts : List Tk) (hG : Z7 ts) : opT k ts = D8 os (hdT ts).text := by
 unfold opT
 split
 ·exact hb _
 ·rename_i hk
  refine (a82 (fun j hj e => hk ?_)).symm
  have hA := hos _ (List.getElem_mem hj)
  have hi : isB ts os[j].1 = true := by rw [a0J hG.hd hA]; simpa using e.symm
  exact a5Q hi
def a2Y : List Op3 := [(wOr, 8, 0), ([124, 124], 8, 0)]
theorem a7m : ∀ o ∈ a2Y, M3 o.1 := by
 intro o ho
 simp only [a2Y, List.mem_cons, List.not_mem_nil, or_false] at ho
 rcases ho with rfl | rfl
 ·exact a5l (by decide) (by kernel_rfl)
 ·exact z8 (by decide) (by kernel_rfl)
theorem ai0 (x : List UInt8) : x7 1 x = D8 a2Y x := by
 by_cases h0 : x = [111, 114]
 ·subst h0; rfl
 have g0 : ¬ [111, 114] = x := fun e => h0 e.symm
 by_cases h1 : x = [124, 124]
 ·subst h1; rfl
 have g1 : ¬ [124, 124] = x := fun e => h1 e.symm
 simp [x7, wOr, D8, a2Y, h0, g0, h1, g1]
def a30 : List Op3 := [(a0m, 7, 0), ([38, 38], 7, 0)]
theorem a7o : ∀ o ∈ a30, M3 o.1 := by
 intro o ho
 simp only [a30, List.mem_cons, List.not_mem_nil, or_false] at ho
 rcases ho with rfl | rfl
 ·exact a5l (by decide) (by kernel_rfl)
 ·exact z8 (by decide) (by kernel_rfl)
theorem ai2 (x : List UInt8) : x7 2 x = D8 a30 x := by
 by_cases h0 : x = [97, 110, 100]
 ·subst h0; rfl
 have g0 : ¬ [97, 110, 100] = x := fun e => h0 e.symm
 by_cases h1 : x = [38, 38]
 ·subst h1; rfl
 have g1 : ¬ [38, 38] = x := fun e => h1 e.symm
 simp [x7, a0m, D8, a30, h0, g0, h1, g1]
def a1z : List Op3 := [([61], 6, 1), ([61, 61], 6, 1), ([33, 61], 6, 2), ([60], 6, 3), ([60, 61], 6, 4), ([62], 6, 5), ([62, 61], 6, 6)]
theorem a7p : ∀ o ∈ a1z, M3 o.1 := by
 intro o ho
 simp only [a1z, List.mem_cons, List.not_mem_nil, or_false] at ho
 rcases ho with rfl | rfl | rfl | rfl | rfl | rfl | rfl
 ·exact z8 (by decide) (by kernel_rfl)
 ·exact z8 (by decide) (by kernel_rfl)
 ·exact z8 (by decide) (by kernel_rfl)
 ·exact z8 (by decide) (by kernel_rfl)
 ·exact z8 (by decide) (by kernel_rfl)
 ·exact z8 (by decide) (by kernel_rfl)
 ·exact z8 (by decide) (by kernel_rfl)
theorem ai3 (x : List UInt8) : x7 4 x = D8 a1z x := by
 by_cases h0 : x = [61]
 ·subst h0; rfl
 have g0 : ¬ [61] = x := fun e => h0 e.symm
 by_cases h1 : x = [61, 61]
 ·subst h1; rfl
 have g1 : ¬ [61, 61] = x := fun e => h1 e.symm
 by_cases h2 : x = [33, 61]
 ·subst h2; rfl
 have g2 : ¬ [33, 61] = x := fun e => h2 e.symm
 by_cases h3 : x = [60]
 ·subst h3; rfl
 have g3 : ¬ [60] = x := fun e => h3 e.symm
 by_cases h4 : x = [60, 61]
 ·subst h4; rfl
 have g4 : ¬ [60, 61] = x := fun e => h4 e.symm
 by_cases h5 : x = [62]
 ·subst h5; rfl
 have g5 : ¬ [62] = x := fun e => h5 e.symm
 by_cases h6 : x = [62, 61]
 ·subst h6; rfl
 have g6 : ¬ [62, 61] = x := fun e => h6 e.symm
 simp [x7, a3a, D8, a1z, h0, g0, h1, g1, h2, g2, h3, g3, h4, g4, h5, g5, h6, g6]
def a32 : List Op3 := [([124], 4, 7)]
theorem a7q : ∀ o ∈ a32, M3 o.1 := by
 intro o ho
 simp only [a32, List.mem_cons, List.not_mem_nil, or_false] at ho
 subst ho
 ·exact z8 (by decide) (by kernel_rfl)
theorem ai4 (x : List UInt8) : x7 5 x = D8 a32 x := by
 by_cases h0 : x = [124]
 ·subst h0; rfl
 have g0 : ¬ [124] = x := fun e => h0 e.symm
 simp [x7, D8, a32, h0, g0]
def a33 : List Op3 := [([94], 4, 8)]
theorem a7r : ∀ o ∈ a33, M3 o.1 := by
 intro o ho
 simp only [a33, List.mem_cons, List.not_mem_nil, or_false] at ho
 subst ho
 ·exact z8 (by decide) (by kernel_rfl)
theorem ai5 (x : List UInt8) : x7 6 x = D8 a33 x := by
 by_cases h0 : x = [94]
 ·subst h0; rfl
 have g0 : ¬ [94] = x := fun e => h0 e.symm
 simp [x7, D8, a33, h0, g0]
def a34 : List Op3 := [([38], 4, 6)]
theorem a7s : ∀ o ∈ a34, M3 o.1 := by
 intro o ho
 simp only [a34, List.mem_cons, List.not_mem_nil, or_false] at ho
 subst ho
 ·exact z8 (by decide) (by kernel_rfl)
theorem ai6 (x : List UInt8) : x7 7 x = D8 a34 x := by
 by_cases h0 : x = [38]
 ·subst h0; rfl
 have g0 : ¬ [38] = x := fun e => h0 e.symm
 simp [x7, D8, a34, h0, g0]
def a35 : List Op3 := [([60, 60], 4, 9), ([62, 62], 4, 10)]
theorem a7t : ∀ o ∈ a35, M3 o.1 := by
 intro o ho
 simp only [a35, List.mem_cons, List.not_mem_nil, or_false] at ho
 rcases ho with rfl | rfl
 ·exact z8 (by decide) (by kernel_rfl)
 ·exact z8 (by decide) (by kernel_rfl)
theorem ai7 (x : List UInt8) : x7 8 x = D8 a35 x := by
 by_cases h0 : x = [60, 60]
 ·subst h0; rfl
 have g0 : ¬ [60, 60] = x := fun e => h0 e.symm
 by_cases h1 : x = [62, 62]
 ·subst h1; rfl
 have g1 : ¬ [62, 62] = x := fun e => h1 e.symm
 simp [x7, D8, a35, h0, g0, h1, g1]
def a36 : List Op3 := [([43], 4, 1), ([45], 4, 2)]
theorem a7u : ∀ o ∈ a36, M3 o.1 := by
 intro o ho
 simp only [a36, List.mem_cons, List.not_mem_nil, or_false] at ho
 rcases ho with rfl | rfl
 ·exact z8 (by decide) (by kernel_rfl)
 ·exact z8 (by decide) (by kernel_rfl)
theorem ai8 (x : List UInt8) : x7 9 x = D8 a36 x := by
 by_cases h0 : x = [43]
 ·subst h0; rfl
 have g0 : ¬ [43] = x := fun e => h0 e.symm
 by_cases h1 : x = [45]
 ·subst h1; rfl
 have g1 : ¬ [45] = x := fun e => h1 e.symm
 simp [x7, D8, a36, h0, g0, h1, g1]
def a2Z : List Op3 := [([42], 4, 3), ([47], 4, 4), ([37], 4, 5)]
theorem a7n : ∀ o ∈ a2Z, M3 o.1 := by
 intro o ho
 simp only [a2Z, List.mem_cons, List.not_mem_nil, or_false] at ho
 rcases ho with rfl | rfl | rfl
 ·exact z8 (by decide) (by kernel_rfl)
 ·exact z8 (by decide) (by kernel_rfl)
 ·exact z8 (by decide) (by kernel_rfl)
theorem ai1 (x : List UInt8) : x7 10 x = D8 a2Z x := by
 by_cases h0 : x = [42]
 ·subst h0; rfl
 have g0 : ¬ [42] = x := fun e => h0 e.symm
 by_cases h1 : x = [47]
 ·subst h1; rfl
 have g1 : ¬ [47] = x := fun e => h1 e.symm
 by_cases h2 : x = [37]
 ·subst h2; rfl
 have g2 : ¬ [37] = x := fun e => h2 e.symm
 simp [x7, D8, a2Z, h0, g0, h1, g1, h2, g2]

section
variable {c : PC}
theorem aO9 (f : Nat) (hin : J0 c 86 (d7 f 2)) : J0 c 33 (d7 (f + 1) 1) := by
 intro w i vt vp ts nest bud ns h hne
 have hans : d7 (f + 1) 1 nest ts = d6 (d7 f 2 nest ts) (fun p => x8 (d7 f 2 nest) 1 p.2.length p.1 p.2) := by
  rw [T4, N0, if_neg (by omega), if_neg (by omega), if_neg (by omega), if_neg (by omega)]
 obtain ⟨ans, ha⟩ : ∃ a, d7 (f + 1) 1 nest ts = a := ⟨_, rfl⟩
 rw [ha] at hans hne ⊢
 have K := World.grownBy_alloc w (.cells (U0 a2Y).toArray 105) none
 have CR := a1P (h.keep K) 86 #[.pointer (some ⟨c.g, 0, none⟩)] #[] (fun _ _ => by kernel_rfl) (d7 f 2) (fun W i vt vp ts nest bud ns h hne => hin W i vt vp ts nest bud ns h hne) (fun nest ts ns r hr => (a0O f 2 nest ts ns r hr).1) (some ⟨w.heap.size, 0, none⟩) 2 a2Y (o4 w _ _) (fun ad had => by cases had; exact h.not_foot (Nat.le_refl _)) (fun ad had => by cases had; simp) a7m (by decide) 1 (by decide) (a1y a7m ai0) ans hans.symm hne
 have HC : Hid (Calls Tryz.prog 85 #[.pointer (some ⟨c.g, 0, none⟩), .func (.func 86) #[.pointer (some ⟨c.g, 0, none⟩)] #[], .slice (some ⟨w.heap.size, 0, none⟩) 2 2] (w.alloc (.cells #[str [111, 114], .int .i64 8, .int .i64 0, str [124, 124], .int .i64 8, .int .i64 0] 105)) (l9 c (w.alloc (.cells #[str [111, 114], .int .i64 8, .int .i64 0, str [124, 124], .int .i64 8, .int .i64 0] 105)) vt vp nest bud ns ans)) := CR
 have HK : Hid (w.grownBy (w.alloc (.cells #[str [111, 114], .int .i64 8, .int .i64 0, str [124, 124], .int .i64 8, .int .i64 0] 105)) none) := K
 have hmf : ∀ (fn : Fn) (first cap : Array Value) (w : World), (Instr.makeFunc fn first cap).run Tryz.prog w = .ok (.func fn first cap) w := fun _ _ _ _ => rfl
 clear h hans hin ha K CR
 go_enter Tryz.func33, Tryz.ntmps33
 go_wp2_with fail
 refine HC.out.mono ?_
 clear HC
 cases ans with
 | error er =>
  rintro e w1 ⟨rfl, G⟩
  go_wp2
  exact ⟨rfl, rfl, (GB.non HK.out).trans G (fun _ _ h => h)⟩
 | ok v =>
  obtain ⟨ms, r⟩ := v
  rintro e w1 ⟨rfl, R⟩
  go_wp2
  go_end0
  exact ⟨rfl, Ret.of (GB.non HK.out) (fun _ _ h => h) R⟩
theorem aP0 (f : Nat) (hin : J0 c 124 (d7 f 3)) : J0 c 86 (d7 (f + 1) 2) := by
 intro w i vt vp ts nest bud ns h hne
 have hans : d7 (f + 1) 2 nest ts = d6 (d7 f 3 nest ts) (fun p => x8 (d7 f 3 nest) 2 p.2.length p.1 p.2) := by
  rw [T4, N0, if_neg (by omega), if_neg (by omega), if_neg (by omega), if_neg (by omega)]
 obtain ⟨ans, ha⟩ : ∃ a, d7 (f + 1) 2 nest ts = a := ⟨_, rfl⟩
 rw [ha] at hans hne ⊢
 have K := World.grownBy_alloc w (.cells (U0 a30).toArray 105) none
 have CR := a1P (h.keep K) 124 #[.pointer (some ⟨c.g, 0, none⟩)] #[] (fun _ _ => by kernel_rfl) (d7 f 3) (fun W i vt vp ts nest bud ns h hne => hin W i vt vp ts nest bud ns h hne) (fun nest ts ns r hr => (a0O f 3 nest ts ns r hr).1) (some ⟨w.heap.size, 0, none⟩) 2 a30 (o4 w _ _) (fun ad had => by cases had; exact h.not_foot (Nat.le_refl _)) (fun ad had => by cases had; simp) a7o (by decide) 2 (by decide) (a1y a7o ai2) ans hans.symm hne
 have HC : Hid (Calls Tryz.prog 85 #[.pointer (some ⟨c.g, 0, none⟩), .func (.func 124) #[.pointer (some ⟨c.g, 0, none⟩)] #[], .slice (some ⟨w.heap.size, 0, none⟩) 2 2] (w.alloc (.cells #[str [97, 110, 100], .int .i64 7, .int .i64 0, str [38, 38], .int .i64 7, .int .i64 0] 105)) (l9 c (w.alloc (.cells #[str [97, 110, 100], .int .i64 7, .int .i64 0, str [38, 38], .int .i64 7, .int .i64 0] 105)) vt vp nest bud ns ans)) := CR
 have HK : Hid (w.grownBy (w.alloc (.cells #[str [97, 110, 100], .int .i64 7, .int .i64 0, str [38, 38], .int .i64 7, .int .i64 0] 105)) none) := K
 have hmf : ∀ (fn : Fn) (first cap : Array Value) (w : World), (Instr.makeFunc fn first cap).run Tryz.prog w = .ok (.func fn first cap) w := fun _ _ _ _ => rfl
 clear h hans hin ha K CR
 go_enter Tryz.func86, Tryz.ntmps86
 go_wp2_with fail
 refine HC.out.mono ?_
 clear HC
 cases ans with
 | error er =>
  rintro e w1 ⟨rfl, G⟩
  go_wp2
  exact ⟨rfl, rfl, (GB.non HK.out).trans G (fun _ _ h => h)⟩
 | ok v =>
  obtain ⟨ms, r⟩ := v
  rintro e w1 ⟨rfl, R⟩
  go_wp2
  go_end0
  exact ⟨rfl, Ret.of (GB.non HK.out) (fun _ _ h => h) R⟩
theorem aP3 (f : Nat) (hin : J0 c 196 (d7 f 6)) : J0 c 175 (d7 (f + 1) 5) := by
 intro w i vt vp ts nest bud ns h hne
 have hans : d7 (f + 1) 5 nest ts = d6 (d7 f 6 nest ts) (fun p => x8 (d7 f 6 nest) 5 p.2.length p.1 p.2) := by
  rw [T4, N0, if_neg (by omega), if_neg (by omega), if_neg (by omega), if_neg (by omega)]
 obtain ⟨ans, ha⟩ : ∃ a, d7 (f + 1) 5 nest ts = a := ⟨_, rfl⟩
 rw [ha] at hans hne ⊢
 have K := World.grownBy_alloc w (.cells (U0 a32).toArray 105) none
 have CR := a1P (h.keep K) 196 #[.pointer (some ⟨c.g, 0, none⟩)] #[] (fun _ _ => by kernel_rfl) (d7 f 6) (fun W i vt vp ts nest bud ns h hne => hin W i vt vp ts nest bud ns h hne) (fun nest ts ns r hr => (a0O f 6 nest ts ns r hr).1) (some ⟨w.heap.size, 0, none⟩) 1 a32 (o4 w _ _) (fun ad had => by cases had; exact h.not_foot (Nat.le_refl _)) (fun ad had => by cases had; simp) a7q (by decide) 5 (by decide) (a1y a7q ai4) ans hans.symm hne
 have HC : Hid (Calls Tryz.prog 85 #[.pointer (some ⟨c.g, 0, none⟩), .func (.func 196) #[.pointer (some ⟨c.g, 0, none⟩)] #[], .slice (some ⟨w.heap.size, 0, none⟩) 1 1] (w.alloc (.cells #[str [124], .int .i64 4, .int .i64 7] 105)) (l9 c (w.alloc (.cells #[str [124], .int .i64 4, .int .i64 7] 105)) vt vp nest bud ns ans)) := CR
 have HK : Hid (w.grownBy (w.alloc (.cells #[str [124], .int .i64 4, .int .i64 7] 105)) none) := K
 have hmf : ∀ (fn : Fn) (first cap : Array Value) (w : World), (Instr.makeFunc fn first cap).run Tryz.prog w = .ok (.func fn first cap) w := fun _ _ _ _ => rfl
 clear h hans hin ha K CR
 go_enter Tryz.func175, Tryz.ntmps175
 go_wp2_with fail
 refine HC.out.mono ?_
 clear HC
 cases ans with
 | error er =>
  rintro e w1 ⟨rfl, G⟩
  go_wp2
  exact ⟨rfl, rfl, (GB.non HK.out).trans G (fun _ _ h => h)⟩
 | ok v =>
  obtain ⟨ms, r⟩ := v
  rintro e w1 ⟨rfl, R⟩
  go_wp2
  go_end0
  exact ⟨rfl, Ret.of (GB.non HK.out) (fun _ _ h => h) R⟩
theorem aP4 (f : Nat) (hin : J0 c 207 (d7 f 7)) : J0 c 196 (d7 (f + 1) 6) := by
 intro w i vt vp ts nest bud ns h hne
 have hans : d7 (f + 1) 6 nest ts = d6 (d7 f 7 nest ts) (fun p => x8 (d7 f 7 nest) 6 p.2.length p.1 p.2) := by
  rw [T4, N0, if_neg (by omega), if_neg (by omega), if_neg (by omega), if_neg (by omega)]
 obtain ⟨ans, ha⟩ : ∃ a, d7 (f + 1) 6 nest ts = a := ⟨_, rfl⟩
 rw [ha] at hans hne ⊢
 have K := World.grownBy_alloc w (.cells (U0 a33).toArray 105) none
 have CR := a1P (h.keep K) 207 #[.pointer (some ⟨c.g, 0, none⟩)] #[] (fun _ _ => by kernel_rfl) (d7 f 7) (fun W i vt vp ts nest bud ns h hne => hin W i vt vp ts nest bud ns h hne) (fun nest ts ns r hr => (a0O f 7 nest ts ns r hr).1) (some ⟨w.heap.size, 0, none⟩) 1 a33 (o4 w _ _) (fun ad had => by cases had; exact h.not_foot (Nat.le_refl _)) (fun ad had => by cases had; simp) a7r (by decide) 6 (by decide) (a1y a7r ai5) ans hans.symm hne
 have HC : Hid (Calls Tryz.prog 85 #[.pointer (some ⟨c.g, 0, none⟩), .func (.func 207) #[.pointer (some ⟨c.g, 0, none⟩)] #[], .slice (some ⟨w.heap.size, 0, none⟩) 1 1] (w.alloc (.cells #[str [94], .int .i64 4, .int .i64 8] 105)) (l9 c (w.alloc (.cells #[str [94], .int .i64 4, .int .i64 8] 105)) vt vp nest bud ns ans)) := CR
 have HK : Hid (w.grownBy (w.alloc (.cells #[str [94], .int .i64 4, .int .i64 8] 105)) none) := K
 have hmf : ∀ (fn : Fn) (first cap : Array Value) (w : World), (Instr.makeFunc fn first cap).run Tryz.prog w = .ok (.func fn first cap) w := fun _ _ _ _ => rfl
 clear h hans hin ha K CR
 go_enter Tryz.func196, Tryz.ntmps196
 go_wp2_with fail
 refine HC.out.mono ?_
 clear HC
 cases ans with
 | error er =>
  rintro e w1 ⟨rfl, G⟩
  go_wp2
  exact ⟨rfl, rfl, (GB.non HK.out).trans G (fun _ _ h => h)⟩
 | ok v =>
  obtain ⟨ms, r⟩ := v
  rintro e w1 ⟨rfl, R⟩
  go_wp2
  go_end0
  exact ⟨rfl, Ret.of (GB.non HK.out) (fun _ _ h => h) R⟩
theorem aP5 (f : Nat) (hin : J0 c 215 (d7 f 8)) : J0 c 207 (d7 (f + 1) 7) := by
 intro w i vt vp ts nest bud ns h hne
 have hans : d7 (f + 1) 7 nest ts = d6 (d7 f 8 nest ts) (fun p => x8 (d7 f 8 nest) 7 p.2.length p.1 p.2) := by
  rw [T4, N0, if_neg (by omega), if_neg (by omega), if_neg (by omega), if_neg (by omega)]
 obtain ⟨ans, ha⟩ : ∃ a, d7 (f + 1) 7 nest ts = a := ⟨_, rfl⟩
 rw [ha] at hans hne ⊢
 have K := World.grownBy_alloc w (.cells (U0 a34).toArray 105) none
 have CR := a1P (h.keep K) 215 #[.pointer (some ⟨c.g, 0, none⟩)] #[] (fun _ _ => by kernel_rfl) (d7 f 8) (fun W i vt vp ts nest bud ns h hne => hin W i vt vp ts nest bud ns h hne) (fun nest ts ns r hr => (a0O f 8 nest ts ns r hr).1) (some ⟨w.heap.size, 0, none⟩) 1 a34 (o4 w _ _) (fun ad had => by cases had; exact h.not_foot (Nat.le_refl _)) (fun ad had => by cases had; simp) a7s (by decide) 7 (by decide) (a1y a7s ai6) ans hans.symm hne
 have HC : Hid (Calls Tryz.prog 85 #[.pointer (some ⟨c.g, 0, none⟩), .func (.func 215) #[.pointer (some ⟨c.g, 0, none⟩)] #[], .slice (some ⟨w.heap.size, 0, none⟩) 1 1] (w.alloc (.cells #[str [38], .int .i64 4, .int .i64 6] 105)) (l9 c (w.alloc (.cells #[str [38], .int .i64 4, .int .i64 6] 105)) vt vp nest bud ns ans)) := CR
 have HK : Hid (w.grownBy (w.alloc (.cells #[str [38], .int .i64 4, .int .i64 6] 105)) none) := K
 have hmf : ∀ (fn : Fn) (first cap : Array Value) (w : World), (Instr.makeFunc fn first cap).run Tryz.prog w = .ok (.func fn first cap) w := fun _ _ _ _ => rfl
 clear h hans hin ha K CR
 go_enter Tryz.func207, Tryz.ntmps207
 go_wp2_with fail
 refine HC.out.mono ?_
 clear HC
 cases ans with
 | error er =>
  rintro e w1 ⟨rfl, G⟩
  go_wp2
  exact ⟨rfl, rfl, (GB.non HK.out).trans G (fun _ _ h => h)⟩
 | ok v =>
  obtain ⟨ms, r⟩ := v
  rintro e w1 ⟨rfl, R⟩
  go_wp2
  go_end0
  exact ⟨rfl, Ret.of (GB.non HK.out) (fun _ _ h => h) R⟩
theorem aP6 (f : Nat) (hin : J0 c 219 (d7 f 9)) : J0 c 215 (d7 (f + 1) 8) := by
 intro w i vt vp ts nest bud ns h hne
 have hans : d7 (f + 1) 8 nest ts = d6 (d7 f 9 nest ts) (fun p => x8 (d7 f 9 nest) 8 p.2.length p.1 p.2) := by
  rw [T4, N0, if_neg (by omega), if_neg (by omega), if_neg (by omega), if_neg (by omega)]
 obtain ⟨ans, ha⟩ : ∃ a, d7 (f + 1) 8 nest ts = a := ⟨_, rfl⟩
 rw [ha] at hans hne ⊢
 have K := World.grownBy_alloc w (.cells (U0 a35).toArray 105) none
 have CR := a1P (h.keep K) 219 #[.pointer (some ⟨c.g, 0, none⟩)] #[] (fun _ _ => by kernel_rfl) (d7 f 9) (fun W i vt vp ts nest bud ns h hne => hin W i vt vp ts nest bud ns h hne) (fun nest ts ns r hr => (a0O f 9 nest ts ns r hr).1) (some ⟨w.heap.size, 0, none⟩) 2 a35 (o4 w _ _) (fun ad had => by cases had; exact h.not_foot (Nat.le_refl _)) (fun ad had => by cases had; simp) a7t (by decide) 8 (by decide) (a1y a7t ai7) ans hans.symm hne
 have HC : Hid (Calls Tryz.prog 85 #[.pointer (some ⟨c.g, 0, none⟩), .func (.func 219) #[.pointer (some ⟨c.g, 0, none⟩)] #[], .slice (some ⟨w.heap.size, 0, none⟩) 2 2] (w.alloc (.cells #[str [60, 60], .int .i64 4, .int .i64 9, str [62, 62], .int .i64 4, .int .i64 10] 105)) (l9 c (w.alloc (.cells #[str [60, 60], .int .i64 4, .int .i64 9, str [62, 62], .int .i64 4, .int .i64 10] 105)) vt vp nest bud ns ans)) := CR
 have HK : Hid (w.grownBy (w.alloc (.cells #[str [60, 60], .int .i64 4, .int .i64 9, str [62, 62], .int .i64 4, .int .i64 10] 105)) none) := K
 have hmf : ∀ (fn : Fn) (first cap : Array Value) (w : World), (Instr.makeFunc fn first cap).run Tryz.prog w = .ok (.func fn first cap) w := fun _ _ _ _ => rfl
 clear h hans hin ha K CR
 go_enter Tryz.func215, Tryz.ntmps215
 go_wp2_with fail
 refine HC.out.mono ?_
 clear HC
 cases ans with
 | error er =>
  rintro e w1 ⟨rfl, G⟩
  go_wp2
  exact ⟨rfl, rfl, (GB.non HK.out).trans G (fun _ _ h => h)⟩
 | ok v =>
  obtain ⟨ms, r⟩ := v
  rintro e w1 ⟨rfl, R⟩
  go_wp2
  go_end0
  exact ⟨rfl, Ret.of (GB.non HK.out) (fun _ _ h => h) R⟩
theorem aP7 (f : Nat) (hin : J0 c 220 (d7 f 10)) : J0 c 219 (d7 (f + 1) 9) := by
 intro w i vt vp ts nest bud ns h hne
 have hans : d7 (f + 1) 9 nest ts = d6 (d7 f 10 nest ts) (fun p => x8 (d7 f 10 nest) 9 p.2.length p.1 p.2) := by
  rw [T4, N0, if_neg (by omega), if_neg (by omega), if_neg (by omega), if_neg (by omega)]
 obtain ⟨ans, ha⟩ : ∃ a, d7 (f + 1) 9 nest ts = a := ⟨_, rfl⟩
 rw [ha] at hans hne ⊢
 have K := World.grownBy_alloc w (.cells (U0 a36).toArray 105) none
 have CR := a1P (h.keep K) 220 #[.pointer (some ⟨c.g, 0, none⟩)] #[] (fun _ _ => by kernel_rfl) (d7 f 10) (fun W i vt vp ts nest bud ns h hne => hin W i vt vp ts nest bud ns h hne) (fun nest ts ns r hr => (a0O f 10 nest ts ns r hr).1) (some ⟨w.heap.size, 0, none⟩) 2 a36 (o4 w _ _) (fun ad had => by cases had; exact h.not_foot (Nat.le_refl _)) (fun ad had => by cases had; simp) a7u (by decide) 9 (by decide) (a1y a7u ai8) ans hans.symm hne
 have HC : Hid (Calls Tryz.prog 85 #[.pointer (some ⟨c.g, 0, none⟩), .func (.func 220) #[.pointer (some ⟨c.g, 0, none⟩)] #[], .slice (some ⟨w.heap.size, 0, none⟩) 2 2] (w.alloc (.cells #[str [43], .int .i64 4, .int .i64 1, str [45], .int .i64 4, .int .i64 2] 105)) (l9 c (w.alloc (.cells #[str [43], .int .i64 4, .int .i64 1, str [45], .int .i64 4, .int .i64 2] 105)) vt vp nest bud ns ans)) := CR
 have HK : Hid (w.grownBy (w.alloc (.cells #[str [43], .int .i64 4, .int .i64 1, str [45], .int .i64 4, .int .i64 2] 105)) none) := K
 have hmf : ∀ (fn : Fn) (first cap : Array Value) (w : World), (Instr.makeFunc fn first cap).run Tryz.prog w = .ok (.func fn first cap) w := fun _ _ _ _ => rfl
 clear h hans hin ha K CR
 go_enter Tryz.func219, Tryz.ntmps219
 go_wp2_with fail
 refine HC.out.mono ?_
 clear HC
 cases ans with
 | error er =>
  rintro e w1 ⟨rfl, G⟩
  go_wp2
  exact ⟨rfl, rfl, (GB.non HK.out).trans G (fun _ _ h => h)⟩
 | ok v =>
  obtain ⟨ms, r⟩ := v
  rintro e w1 ⟨rfl, R⟩
  go_wp2
  go_end0
  exact ⟨rfl, Ret.of (GB.non HK.out) (fun _ _ h => h) R⟩
theorem aO6 (f : Nat) (hin : J0 c 221 (d7 f 11)) : J0 c 220 (d7 (f + 1) 10) := by
 intro w i vt vp ts nest bud ns h hne
 have hans : d7 (f + 1) 10 nest ts = d6 (d7 f 11 nest ts) (fun p => x8 (d7 f 11 nest) 10 p.2.length p.1 p.2) := by
  rw [T4, N0, if_neg (by omega), if_neg (by omega), if_neg (by omega), if_neg (by omega)]
 obtain ⟨ans, ha⟩ : ∃ a, d7 (f + 1) 10 nest ts = a := ⟨_, rfl⟩
 rw [ha] at hans hne ⊢
 have K := World.grownBy_alloc w (.cells (U0 a2Z).toArray 105) none
 have CR := a1P (h.keep K) 221 #[.pointer (some ⟨c.g, 0, none⟩)] #[] (fun _ _ => by kernel_rfl) (d7 f 11) (fun W i vt vp ts nest bud ns h hne => hin W i vt vp ts nest bud ns h hne) (fun nest ts ns r hr => (a0O f 11 nest ts ns r hr).1) (some ⟨w.heap.size, 0, none⟩) 3 a2Z (o4 w _ _) (fun ad had => by cases had; exact h.not_foot (Nat.le_refl _)) (fun ad had => by cases had; simp) a7n (by decide) 10 (by decide) (a1y a7n ai1) ans hans.symm hne
 have HC : Hid (Calls Tryz.prog 85 #[.pointer (some ⟨c.g, 0, none⟩), .func (.func 221) #[.pointer (some ⟨c.g, 0, none⟩)] #[], .slice (some ⟨w.heap.size, 0, none⟩) 3 3] (w.alloc (.cells #[str [42], .int .i64 4, .int .i64 3, str [47], .int .i64 4, .int .i64 4, str [37], .int .i64 4, .int .i64 5] 105)) (l9 c (w.alloc (.cells #[str [42], .int .i64 4, .int .i64 3, str [47], .int .i64 4, .int .i64 4, str [37], .int .i64 4, .int .i64 5] 105)) vt vp nest bud ns ans)) := CR
 have HK : Hid (w.grownBy (w.alloc (.cells #[str [42], .int .i64 4, .int .i64 3, str [47], .int .i64 4, .int .i64 4, str [37], .int .i64 4, .int .i64 5] 105)) none) := K
 have hmf : ∀ (fn : Fn) (first cap : Array Value) (w : World), (Instr.makeFunc fn first cap).run Tryz.prog w = .ok (.func fn first cap) w := fun _ _ _ _ => rfl
 clear h hans hin ha K CR
 go_enter Tryz.func220, Tryz.ntmps220
 go_wp2_with fail
 refine HC.out.mono ?_
 clear HC
 cases ans with
 | error er =>
  rintro e w1 ⟨rfl, G⟩
  go_wp2
  exact ⟨rfl, rfl, (GB.non HK.out).trans G (fun _ _ h => h)⟩
 | ok v =>
  obtain ⟨ms, r⟩ := v
  rintro e w1 ⟨rfl, R⟩
  go_wp2
  go_end0
  exact ⟨rfl, Ret.of (GB.non HK.out) (fun _ _ h => h) R⟩
theorem aP1 (f : Nat) (hin : J0 c 124 (d7 f 3)) (hin2 : J0 c 154 (d7 f 4)) : J0 c 124 (d7 (f + 1) 3) := by
 intro w i vt vp ts nest bud ns h hne
 obtain ⟨ans, ha⟩ : ∃ a, d7 (f + 1) 3 nest ts = a := ⟨_, rfl⟩
 have hG := h.good.hd
 have K := World.grownBy_alloc w (.cells #[str [110, 111, 116], str [33]] 9) none
 have hyes : (hdT ts).text ∈ [[110, 111, 116], [33]] → (hdT ts).kind ≠ 0 ∧ D6 nest ts (d6 (d7 f 3 (nest + 1) ts.tail) fun p => .ok (p.1 ++ [(ndK 9, (hdT ts).pos)], p.2)) = ans := fun hm => by
  have hb : isB ts a0G = true ∨ isB ts [33] = true := by
   rw [a0J hG (a5l (x := a0G) (by decide) (by kernel_rfl)), a0J hG (z8 (x := [33]) (by decide) (by kernel_rfl))]
   simp only [List.mem_cons, List.not_mem_nil, or_false] at hm
   rcases hm with hm | hm
   ·exact .inl (by rw [hm]; rfl)
   ·exact .inr (by rw [hm]; rfl)
  refine ⟨hb.elim M9 M9, ?_⟩
  rw [← ha, T4, N0, if_pos ⟨rfl, hb⟩]
 have hno : (hdT ts).text ∉ [[110, 111, 116], [33]] → d7 f 4 nest ts = ans := fun hm => by
  have hb : ¬ (isB ts a0G = true ∨ isB ts [33] = true) := fun h => hm (by rcases h with h | h <;> rw [a2T h] <;> decide)
  rw [← ha, T4, N0, if_neg (fun h => hb h.2), if_neg (by omega), if_pos (.inl rfl)]
 rw [ha] at hne ⊢
 have CR := a9y (h.keep K) 9 124 #[.pointer (some ⟨c.g, 0, none⟩)] #[] (fun _ _ => by kernel_rfl) 154 #[.pointer (some ⟨c.g, 0, none⟩)] #[] (fun _ _ => by kernel_rfl) (d7 f 3) (d7 f 4) (fun W i vt vp ts nest bud ns h hne => hin W i vt vp ts nest bud ns h hne) (fun W i vt vp ts nest bud ns h hne => hin2 W i vt vp ts nest bud ns h hne) (some ⟨w.heap.size, 0, none⟩) 2 [[110, 111, 116], [33]] (o4 w _ _) (by decide) ans hyes hno hne
 have HC : Hid (Calls Tryz.prog 153 #[.pointer (some ⟨c.g, 0, none⟩), .int .i64 9, .func (.func 124) #[.pointer (some ⟨c.g, 0, none⟩)] #[], .func (.func 154) #[.pointer (some ⟨c.g, 0, none⟩)] #[], .slice (some ⟨w.heap.size, 0, none⟩) 2 2] (w.alloc (.cells #[str [110, 111, 116], str [33]] 9)) (l9 c (w.alloc (.cells #[str [110, 111, 116], str [33]] 9)) vt vp nest bud ns ans)) := CR
 have HK : Hid (w.grownBy (w.alloc (.cells #[str [110, 111, 116], str [33]] 9)) none) := K
 have hmf : ∀ (fn : Fn) (first cap : Array Value) (w : World), (Instr.makeFunc fn first cap).run Tryz.prog w = .ok (.func fn first cap) w := fun _ _ _ _ => rfl
 clear h hyes hno hin hin2 ha K CR hG hne
 go_enter Tryz.func124, Tryz.ntmps124
 go_wp2_with fail
 refine HC.out.mono ?_
 clear HC
 cases ans with
 | error er =>
  rintro e w1 ⟨rfl, G⟩
  go_wp2
  exact ⟨rfl, rfl, (GB.non HK.out).trans G (fun _ _ h => h)⟩
 | ok v =>
  obtain ⟨ms, r⟩ := v
  rintro e w1 ⟨rfl, R⟩
  go_wp2
  go_end0
  exact ⟨rfl, Ret.of (GB.non HK.out) (fun _ _ h => h) R⟩
theorem aO7 (f : Nat) (hin : J0 c 221 (d7 f 11)) (hin2 : J0 c 222 (d7 f 12)) : J0 c 221 (d7 (f + 1) 11) := by
 intro w i vt vp ts nest bud ns h hne
 obtain ⟨ans, ha⟩ : ∃ a, d7 (f + 1) 11 nest ts = a := ⟨_, rfl⟩
 have hG := h.good.hd
 have K := World.grownBy_alloc w (.cells #[str [45]] 9) none
 have hyes : (hdT ts).text ∈ [[45]] → (hdT ts).kind ≠ 0 ∧ D6 nest ts (d6 (d7 f 11 (nest + 1) ts.tail) fun p => .ok (p.1 ++ [(ndK 5, (hdT ts).pos)], p.2)) = ans := fun hm => by
  have hb : isB ts [45] = true := by
   rw [a0J hG (z8 (x := [45]) (by decide) (by kernel_rfl))]
   simpa using hm
  refine ⟨M9 hb, ?_⟩
  rw [← ha, T4, N0, if_neg (by omega), if_pos ⟨rfl, hb⟩]
 have hno : (hdT ts).text ∉ [[45]] → d7 f 12 nest ts = ans := fun hm => by
  have hb : ¬ isB ts [45] = true := fun h => hm (by rw [a2T h]; decide)
  rw [← ha, T4, N0, if_neg (by omega), if_neg (fun h => hb h.2), if_pos (.inr rfl)]
 rw [ha] at hne ⊢
 have CR := a9y (h.keep K) 5 221 #[.pointer (some ⟨c.g, 0, none⟩)] #[] (fun _ _ => by kernel_rfl) 222 #[.pointer (some ⟨c.g, 0, none⟩)] #[] (fun _ _ => by kernel_rfl) (d7 f 11) (d7 f 12) (fun W i vt vp ts nest bud ns h hne => hin W i vt vp ts nest bud ns h hne) (fun W i vt vp ts nest bud ns h hne => hin2 W i vt vp ts nest bud ns h hne) (some ⟨w.heap.size, 0, none⟩) 1 [[45]] (o4 w _ _) (by decide) ans hyes hno hne
 have HC : Hid (Calls Tryz.prog 153 #[.pointer (some ⟨c.g, 0, none⟩), .int .i64 5, .func (.func 221) #[.pointer (some ⟨c.g, 0, none⟩)] #[], .func (.func 222) #[.pointer (some ⟨c.g, 0, none⟩)] #[], .slice (some ⟨w.heap.size, 0, none⟩) 1 1] (w.alloc (.cells #[str [45]] 9)) (l9 c (w.alloc (.cells #[str [45]] 9)) vt vp nest bud ns ans)) := CR
 have HK : Hid (w.grownBy (w.alloc (.cells #[str [45]] 9)) none) := K
 have hmf : ∀ (fn : Fn) (first cap : Array Value) (w : World), (Instr.makeFunc fn first cap).run Tryz.prog w = .ok (.func fn first cap) w := fun _ _ _ _ => rfl
 clear h hyes hno hin hin2 ha K CR hG hne
 go_enter Tryz.func221, Tryz.ntmps221
 go_wp2_with fail
 refine HC.out.mono ?_
 clear HC
 cases ans with
 | error er =>
  rintro e w1 ⟨rfl, G⟩
  go_wp2
  exact ⟨rfl, rfl, (GB.non HK.out).trans G (fun _ _ h => h)⟩
 | ok v =>
  obtain ⟨ms, r⟩ := v
  rintro e w1 ⟨rfl, R⟩
  go_wp2
  go_end0
  exact ⟨rfl, Ret.of (GB.non HK.out) (fun _ _ h => h) R⟩
theorem aB1 {rec : List Tk → Out} {ms : List (Nd × Nat)} {ts : List Tk} (h : ts ≠ []) : x8 rec 4 ts.length ms ts = match opT 4 ts with
  | none => .ok (ms, ts)
  | some nd => d6 (rec ts.tail) fun p => .ok (ms ++ p.1 ++ [(nd, (hdT ts).pos)], p.2) := by
 obtain ⟨n, hn⟩ : ∃ n, ts.length = n + 1 := ⟨ts.length - 1, by have := List.length_pos_iff.2 h; omega⟩
 rw [hn, x8]
 cases opT 4 ts with
 | none => rfl
 | some nd =>
  simp only
  congr 1
theorem aP2 (f : Nat) (hin : J0 c 175 (d7 f 5)) : J0 c 154 (d7 (f + 1) 4) := by
 intro w i vt vp ts nest bud ns h hne
 have hans : d7 (f + 1) 4 nest ts = d6 (d7 f 5 nest ts) (fun p => x8 (d7 f 5 nest) 4 p.2.length p.1 p.2) := by
  rw [T4, N0, if_neg (by omega), if_neg (by omega), if_neg (by omega), if_neg (by omega)]
 obtain ⟨ans, ha⟩ : ∃ a, d7 (f + 1) 4 nest ts = a := ⟨_, rfl⟩
 rw [ha] at hans hne ⊢
 have h1 : d7 f 5 nest ts ≠ .error exP := fun e => by rw [e] at hans; exact hne hans
 have C1 := hin w i vt vp ts nest bud ns h h1
 have HIN : Hid (J0 c 175 (d7 f 5)) := hin
 have HANS : Hid (ans = d6 (d7 f 5 nest ts) (fun p => x8 (d7 f 5 nest) 4 p.2.length p.1 p.2)) := hans
 have HNE : Hid (ans ≠ .error exP) := hne
 have hmf : ∀ (fn : Fn) (first cap : Array Value) (w : World), (Instr.makeFunc fn first cap).run Tryz.prog w = .ok (.func fn first cap) w := fun _ _ _ _ => rfl
 clear h hans hin ha h1 hne
 generalize d7 f 5 nest ts = rr at *
 go_enter Tryz.func154, Tryz.ntmps154
 go_wp2_with fail
 refine C1.mono ?_
 clear C1
 cases rr with
 | error er =>
  have HA3 : Hid (ans = .error er) := HANS.out
  rintro e w1 ⟨rfl, G⟩
  go_wp2
  refine ⟨rfl, ?_⟩
  rw [HA3.out]
  exact ⟨rfl, G⟩
 | ok v =>
  obtain ⟨ms, r1⟩ := v
  rw [M6] at HANS
  simp only at HANS
  rintro e w1 ⟨rfl, i1, vt1, vp1, H1, G1, F1⟩
  rw [aB1 H1.good.ne, a1y a7p ai3 r1 H1.good] at HANS
  have K := World.grownBy_alloc w1 (.cells (U0 a1z).toArray 105) none
  have CF := a5H (H1.keep K) 175 #[.pointer (some ⟨c.g, 0, none⟩)] #[] (fun _ _ => by kernel_rfl) (d7 f 5) (fun W i vt vp ts nest bud ns h hne => HIN.out W i vt vp ts nest bud ns h hne) (some ⟨w1.heap.size, 0, none⟩) 7 a1z (o4 w1 _ _) a7p (by decide) (fun hf e => by
   cases hfo : D8 a1z (hdT r1).text with
   | none => exact hf hfo
   | some nd =>
    have := HANS.out
    rw [hfo] at this
    simp only at this
    rw [e] at this
    exact HNE.out this)
  have HC : Hid (Calls Tryz.prog 123 #[.pointer (some ⟨c.g, 0, none⟩), .func (.func 175) #[.pointer (some ⟨c.g, 0, none⟩)] #[], .slice (some ⟨w1.heap.size, 0, none⟩) 7 7] (w1.alloc (.cells #[str [61], .int .i64 6, .int .i64 1, str [61, 61], .int .i64 6, .int .i64 1, str [33, 61], .int .i64 6, .int .i64 2, str [60], .int .i64 6, .int .i64 3, str [60, 61], .int .i64 6, .int .i64 4, str [62], .int .i64 6, .int .i64 5, str [62, 61], .int .i64 6, .int .i64 6] 105)) (a6X c (w1.alloc (.cells #[str [61], .int .i64 6, .int .i64 1, str [61, 61], .int .i64 6, .int .i64 1, str [33, 61], .int .i64 6, .int .i64 2, str [60], .int .i64 6, .int .i64 3, str [60, 61], .int .i64 6, .int .i64 4, str [62], .int .i64 6, .int .i64 5, str [62, 61], .int .i64 6, .int .i64 6] 105)) vt1 vp1 nest bud (ns ++ ms) (hdT r1).pos (D8 a1z (hdT r1).text) (d7 f 5 nest r1.tail))) := CF
  have HK : Hid (w1.grownBy (w1.alloc (.cells #[str [61], .int .i64 6, .int .i64 1, str [61, 61], .int .i64 6, .int .i64 1, str [33, 61], .int .i64 6, .int .i64 2, str [60], .int .i64 6, .int .i64 3, str [60, 61], .int .i64 6, .int .i64 4, str [62], .int .i64 6, .int .i64 5, str [62, 61], .int .i64 6, .int .i64 6] 105)) none) := K
  have HQ : Hid (PS c w1 i1 vt1 vp1 r1 nest bud (ns ++ ms) ∧ GB w w1 (d4 c.g vt vp) ∧ ∀ x, x < w.heap.size → d4 c.g vt1 vp1 x → d4 c.g vt vp x) := ⟨H1, G1, F1⟩
  clear K CF H1 G1 F1 HIN HNE
  generalize d7 f 5 nest r1.tail = rr at *
  generalize D8 a1z (hdT r1).text = fo at *
  go_wp2_with fail
  refine HC.out.mono ?_
  clear HC
  cases fo with
  | none =>
   have HA3 : Hid (ans = .ok (ms, r1)) := HANS.out
   rintro e w2 ⟨rfl, G2⟩
   go_wp2
   go_end0
   rw [HA3.out]
   have G3 := d3 HK.out G2
   exact ⟨rfl, i1, vt1, vp1, HQ.out.1.keep G3, HQ.out.2.1.trans (GB.non (S := d4 c.g vt vp) G3) (fun _ _ h => h), HQ.out.2.2⟩
  | some nd =>
   cases rr with
   | error er =>
    have HA3 : Hid (ans = .error er) := HANS.out
    rintro e w2 ⟨rfl, G2⟩
    go_wp2
    refine ⟨rfl, ?_⟩
    rw [HA3.out]
    exact ⟨rfl, HQ.out.2.1.trans ((GB.non (S := d4 c.g vt1 vp1) HK.out).trans G2 (fun _ _ h => h)) HQ.out.2.2⟩
   | ok v =>
    obtain ⟨m2, r2⟩ := v
    have HA3 : Hid (ans = .ok (ms ++ m2 ++ [(nd, (hdT r1).pos)], r2)) := HANS.out
    rintro e w2 ⟨rfl, R2⟩
    go_wp2
    go_end0
    rw [HA3.out]
    refine ⟨rfl, ?_⟩
    rw [← List.append_assoc, ← List.append_assoc]
    exact Ret.of HQ.out.2.1 HQ.out.2.2 (Ret.of (GB.non HK.out) (fun _ _ h => h) R2)
theorem aO8 (f : Nat) (hin : J0 c 33 (d7 f 1)) : J0 c 222 (d7 (f + 1) 12) := by
 intro w i vt vp ts nest bud ns h hne
 have HO : a0T c (d7 f 1) := hin
 have hans : d7 (f + 1) 12 nest ts = L3 (d7 f 1) nest ts := by
  rw [T4, N0, if_neg (by omega), if_neg (by omega), if_neg (by omega), if_pos rfl]
 rw [hans] at hne ⊢
 have hG := h.good.hd
 by_cases h1 : (hdT ts).kind = 1
 ·rw [aK8 h1]
  exact aK6 h h1
 by_cases h2 : (hdT ts).text = [40]
 ·have hk : (hdT ts).kind = 5 := a3t hG (by decide) (by kernel_rfl) h2
  have e := aL1 (rec := d7 f 1) (nest := nest) hG h2
  exact aL0 h (d7 f 1) HO h1 (by omega) h2 _ e.symm hne
 by_cases h3 : (hdT ts).text ∈ a1a
 ·have hk : (hdT ts).kind = 2 := a3t hG (a3Q _ h3).1 (a3Q _ h3).2.1 rfl
  have hk0 : (hdT ts).kind ≠ 0 := by omega
  have e := aM3 (rec := d7 f 1) (nest := nest) hG h3
  rw [e] at hne ⊢
  simp only [a1a, List.mem_cons, List.not_mem_nil, or_false] at h3
  have hs : (hdT ts).text ∈ [V7, R0, a0Q, a19, S0, M1] → L7 ts = I7 (hdT ts).pos (E4 (s0 ts) (o9 ts)) := fun hm => by
   have n1 : (hdT ts).text ≠ a3k := fun e => by rw [e] at hm; exact absurd hm (by decide)
   have n2 : (hdT ts).text ≠ a3j := fun e => by rw [e] at hm; exact absurd hm (by decide)
   have n3 : (hdT ts).text ≠ a3l := fun e => by rw [e] at hm; exact absurd hm (by decide)
   have n4 : (hdT ts).text ≠ J2 := fun e => by rw [e] at hm; exact absurd hm (by decide)
   rw [L7, if_neg n1, if_neg n2, if_neg n3, if_neg n4, if_pos hm, a1i, aT4]
  rcases h3 with h3 | h3 | h3 | h3 | h3 | h3 | h3 | h3 | h3 | h3
  ·have e2 : L7 ts = .ok ([(ndK 2, (hdT ts).pos)], ts.tail) := by rw [L7, if_pos h3]
   rw [e2]
   exact aK4 h h1 hk0 h3
  ·have e2 : L7 ts = .ok ([(a1p 1, (hdT ts).pos)], ts.tail) := by rw [L7, if_neg (by rw [h3]; decide), if_pos h3]; rfl
   rw [e2]
   exact aK3 h h1 hk0 h3
  ·have e2 : L7 ts = .ok ([(a1p 2, (hdT ts).pos)], ts.tail) := by rw [L7, if_neg (by rw [h3]; decide), if_neg (by rw [h3]; decide), if_pos h3]; rfl
   rw [e2]
   exact aK9 h h1 hk0 h3
  ·have e2 : L7 ts = d6 (j7 ts.tail) fun p => .ok ([(a2r p.1, (hdT ts).pos)], p.2) := by rw [L7, if_neg (by rw [h3]; decide), if_neg (by rw [h3]; decide), if_neg (by rw [h3]; decide), if_pos h3]; rfl
   rw [e2]
   exact aL2 h h1 hk0 h3 _ rfl
  ·rw [hs (by rw [h3]; decide)]
   exact aL6 h h1 h3 _ rfl
  ·rw [hs (by rw [h3]; decide)]
   exact aL7 h h1 h3 _ rfl
  ·rw [hs (by rw [h3]; decide)]
   exact aL8 h h1 h3 _ rfl
  ·rw [hs (by rw [h3]; decide)]
   exact aL9 h h1 h3 _ rfl
  ·rw [hs (by rw [h3]; decide)]
   exact aM0 h h1 h3 _ rfl
  ·rw [hs (by rw [h3]; decide)]
   exact aL5 h h1 h3 _ rfl
 have e : L3 (d7 f 1) nest ts = (if D5 (hdT ts).text = 0 then .error (W9 ts) else T2 (d7 f 1) nest (D5 (hdT ts).text) (hdT ts).pos ts.tail) := by
  by_cases hn : D5 (hdT ts).text = 0
  ·rw [if_pos hn, aK7 h1 h2 h3 hn]
   rfl
  ·rw [if_neg hn]
   exact (a9q hG hn).1
 exact aK1 h (d7 f 1) HO h1 h2 h3 _ e.symm hne
def a92 : Nat → Nat
 | 1 => 33
 | 2 => 86
 | 3 => 124
 | 4 => 154
 | 5 => 175
 | 6 => 196
 | 7 => 207
 | 8 => 215
 | 9 => 219
 | 10 => 220
 | 11 => 221
 | _ => 222
theorem a9G : ∀ (f k : Nat), 1 ≤ k → k ≤ 12 → J0 c (a92 k) (d7 f k)
 | 0, k, _, _ => fun w i vt vp ts nest bud ns _ hne => absurd rfl hne
 | f + 1, k, h1, h12 => by
  have ih := a9G f
  have hk : k = 1 ∨ k = 2 ∨ k = 3 ∨ k = 4 ∨ k = 5 ∨ k = 6 ∨ k = 7 ∨ k = 8 ∨ k = 9 ∨ k = 10 ∨ k = 11 ∨ k = 12 := by omega
  rcases hk with rfl | rfl | rfl | rfl | rfl | rfl | rfl | rfl | rfl | rfl | rfl | rfl
  ·exact aO9 f (ih 2 (by omega) (by omega))
  ·exact aP0 f (ih 3 (by omega) (by omega))
  ·exact aP1 f (ih 3 (by omega) (by omega)) (ih 4 (by omega) (by omega))
  ·exact aP2 f (ih 5 (by omega) (by omega))
  ·exact aP3 f (ih 6 (by omega) (by omega))
  ·exact aP4 f (ih 7 (by omega) (by omega))
  ·exact aP5 f (ih 8 (by omega) (by omega))
  ·exact aP6 f (ih 9 (by omega) (by omega))
  ·exact aP7 f (ih 10 (by omega) (by omega))
  ·exact aO6 f (ih 11 (by omega) (by omega))
  ·exact aO7 f (ih 11 (by omega) (by omega)) (ih 12 (by omega) (by omega))
  ·exact aO8 f (ih 1 (by omega) (by omega))

end
def H0 : Value := .slice none 0 0
structure Res (w : World) (R : Nat) (a b d e : Value) : Prop where
 t : VAt w R 22 #[a]
 p : VAt w (R + 1) 33 #[b]
 n : VAt w (R + 2) 3 #[d]
 x : VAt w (R + 3) 23 #[e]
theorem Res.keep {w w' : World} {R : Nat} {a b d e : Value} (h : Res w R a b d e) (G : w.grownBy w' none) : Res w' R a b d e := ⟨h.t.kept G, h.p.kept G, h.n.kept G, h.x.kept G⟩
theorem Res.gb {w w' : World} {R : Nat} {a b d e : Value} {S : Nat → Prop} (h : Res w R a b d e) (G : GB w w' S) (hS : ∀ x, S x → x < R ∨ R + 3 < x) : Res w' R a b d e :=
 ⟨G.vat h.t (fun e => by have := hS _ e; omega), G.vat h.p (fun e => by have := hS _ e; omega), G.vat h.n (fun e => by have := hS _ e; omega), G.vat h.x (fun e => by have := hS _ e; omega)⟩
def R4 (R x : Nat) : Prop := R ≤ x ∧ x ≤ R + 3
theorem Res.set {w : World} {R : Nat} {a b d e : Value} (h : Res w R a b d e) (a' b' d' e' : Value) :
  Res ((((w.setCell ⟨R, 0, none⟩ a').setCell ⟨R + 1, 0, none⟩ b').setCell ⟨R + 2, 0, none⟩ d').setCell ⟨R + 3, 0, none⟩ e') R a' b' d' e' ∧ GB w ((((w.setCell ⟨R, 0, none⟩ a').setCell ⟨R + 1, 0, none⟩ b').setCell ⟨R + 2, 0, none⟩ d').setCell ⟨R + 3, 0, none⟩ e') (R4 R) := by
 have t1 := h.t.set 0 a'
 have p2 := (h.p.setOther (k := R) (i := 0) a' (by omega)).set 0 b'
 have t2 := t1.setOther (k := R + 1) (i := 0) b' (by omega)
 have n3 := ((h.n.setOther (k := R) (i := 0) a' (by omega)).setOther (k := R + 1) (i := 0) b' (by omega)).set 0 d'
 have x4 := (((h.x.setOther (k := R) (i := 0) a' (by omega)).setOther (k := R + 1) (i := 0) b' (by omega)).setOther (k := R + 2) (i := 0) d' (by omega)).set 0 e'
 refine ⟨⟨(t2.setOther d' (by omega)).setOther e' (by omega), (p2.setOther d' (by omega)).setOther e' (by omega), n3.setOther e' (by omega), x4⟩, ?_⟩
 have g : ∀ (W : World) (k : Nat) (v : Value), R ≤ k → k ≤ R + 3 → GB W (W.setCell ⟨k, 0, none⟩ v) (R4 R) := fun W k v h1 h2 => GB.of (S8 W k 0 v) (fun x hx => by cases hx; exact ⟨h1, h2⟩)
 exact ((((g w R a' (by omega) (by omega)).trans (g _ (R + 1) b' (by omega) (by omega)) (fun _ _ h => h)).trans (g _ (R + 2) d' (by omega) (by omega)) (fun _ _ h => h)).trans (g _ (R + 3) e' (by omega) (by omega)) (fun _ _ h => h))
theorem a9u (R : Nat) (er : Er) (a b d e0 : Value) (w : World) (h : Res w R a b d e0) :
  CallsD Tryz.prog 32 #[.pointer (some ⟨R, 0, none⟩), .pointer (some ⟨R + 1, 0, none⟩), .pointer (some ⟨R + 2, 0, none⟩), .pointer (some ⟨R + 3, 0, none⟩)] (.panicking (Z2 er)) w fun e u' w' =>
   e = .returned (.tuple #[]) ∧ u' = .panicking [{ v := .iface 65 (.agg #[.int .i64 (er.1 : Int), .int .i64 er.2]), recovered := true }] ∧ Res w' R H0 H0 (.int .i64 (er.1 : Int)) (.int .i64 er.2) ∧ GB w w' (R4 R) := by
 obtain ⟨ep, ex⟩ := er
 have hta : ∀ W : World, (Instr.typeAssert (.iface 65 (.agg #[.int .i64 (ep : Int), .int .i64 ex])) 20 65 true).run Tryz.prog W = .ok (.tuple #[.agg #[.int .i64 (ep : Int), .int .i64 ex], .bool true]) W := fun W => by kernel_rfl
 refine callsD_of_wpS Tryz.func32 rfl fun c₀ cs hu => ?_
 unfold Z2 at hu
 apply wpS_seq
 apply wpS_region
 simp [wpOpsS, go_sem, recoverD, hu, hta, Tryz.ntmps32, Exit.thenS]
 refine wpS_of_wp ?_
 have K1 := World.grownBy_alloc w (.cells #[.int .i64 (ep : Int), .int .i64 ex] 65) none
 have B1 := VAt.alloc w 65 #[.int .i64 (ep : Int), .int .i64 ex]
 have H1 := h.keep K1
 have HL : Hid (R + 3 < w.heap.size) := h.x.lt
 clear hta h
 obtain ⟨T, hT⟩ : ∃ T, Tryz.f32 = T := ⟨_, rfl⟩
 have HT : Hid (T.results = #[]) := by show T.results = #[]; rw [← hT]; rfl
 rw [hT]
 clear hT
 have eT : (#[.pointer (some ⟨R, 0, none⟩), .pointer (some ⟨R + 1, 0, none⟩), .pointer (some ⟨R + 2, 0, none⟩), .pointer (some ⟨R + 3, 0, none⟩)] ++ (((((((Array.replicate 12 undef).setIfInBounds 3 (.iface 65 (.agg #[.int .i64 (ep : Int), .int .i64 ex]))).setIfInBounds 4 (.tuple #[.agg #[.int .i64 (ep : Int), .int .i64 ex], .bool true])).setIfInBounds 2 (.tuple #[.agg #[.int .i64 (ep : Int), .int .i64 ex], .bool true])).setIfInBounds 5 (.agg #[.int .i64 (ep : Int), .int .i64 ex])).setIfInBounds 6 (.bool true)).setIfInBounds 0 (.pointer (some ⟨w.heap.size, 0, none⟩))).setIfInBounds 1 (.bool true) : Array Value) =
  #[.pointer (some ⟨R, 0, none⟩), .pointer (some ⟨R + 1, 0, none⟩), .pointer (some ⟨R + 2, 0, none⟩), .pointer (some ⟨R + 3, 0, none⟩), .pointer (some ⟨w.heap.size, 0, none⟩), .bool true, .tuple #[.agg #[.int .i64 (ep : Int), .int .i64 ex], .bool true], .iface 65 (.agg #[.int .i64 (ep : Int), .int .i64 ex]), .tuple #[.agg #[.int .i64 (ep : Int), .int .i64 ex], .bool true], .agg #[.int .i64 (ep : Int), .int .i64 ex], .bool true, undef, undef, undef, undef, undef] := by kernel_rfl
 rw [eT]
 clear eT
 generalize w.alloc (.cells #[.int .i64 (ep : Int), .int .i64 ex] 65) = w1 at *
 generalize w.heap.size = V at *
 have b0 : w1.cell? ⟨V, 0, none⟩ = some (.int .i64 (ep : Int)) := B1.cell 0
 have b1 : w1.cell? ⟨V, 1, none⟩ = some (.int .i64 ex) := B1.cell 1
 have r0 : w1.cell? ⟨R, 0, none⟩ = some a := H1.t.cell 0
 have r1 : w1.cell? ⟨R + 1, 0, none⟩ = some b := H1.p.cell 0
 have r2 : w1.cell? ⟨R + 2, 0, none⟩ = some d := H1.n.cell 0
 have r3 : w1.cell? ⟨R + 3, 0, none⟩ = some e0 := H1.x.cell 0
 have f0 := H1.t.free 0
 have f1 := H1.p.free 0
 have f2 := H1.n.free 0
 have f3 := H1.x.free 0
 have HQ : Hid (Res w1 R a b d e0 ∧ w.grownBy w1 none) := ⟨H1, K1⟩
 have n0 : ¬ R = V := fun e => by have := HL.out; omega
 have n1 : ¬ R + 1 = V := fun e => by have := HL.out; omega
 have n2 : ¬ R + 2 = V := fun e => by have := HL.out; omega
 have n3 : ¬ R + 3 = V := fun e => by have := HL.out; omega
 clear K1 B1 H1
 go_wp2
 go_region
 go_wp2
 obtain ⟨h1, h2⟩ := HQ.out.1.set H0 H0 (.int .i64 (ep : Int)) (.int .i64 ex)
 exact ⟨rfl, _, rfl, _, results_none HT.out _ _ _, rfl, rfl, h1.keep (f9 _ 1 none), ((GB.non HQ.out.2).trans h2 (fun _ _ h => h)).trans (GB.non (S := R4 R) (f9 _ 1 none)) (fun _ _ h => h)⟩
theorem aM7 (R : Nat) (a b d e0 : Value) (w : World) (h : Res w R a b d e0) :
  CallsD Tryz.prog 32 #[.pointer (some ⟨R, 0, none⟩), .pointer (some ⟨R + 1, 0, none⟩), .pointer (some ⟨R + 2, 0, none⟩), .pointer (some ⟨R + 3, 0, none⟩)] .returning w fun e u' w' => e = .returned (.tuple #[]) ∧ u' = .returning ∧ Res w' R a b d e0 ∧ w.grownBy w' none := by
 have hta : ∀ W : World, (Instr.typeAssert .nilIface 20 65 true).run Tryz.prog W = .ok (.tuple #[.agg #[.int .i64 0, .int .i64 0], .bool false]) W := fun W => by kernel_rfl
 refine callsD_of_wpS Tryz.func32 rfl fun c₀ cs hu => ?_
 apply wpS_seq
 apply wpS_region
 simp [wpOpsS, go_sem, recoverD, hu, hta, Tryz.ntmps32, Exit.thenS]
 refine wpS_of_wp ?_
 have K1 := World.grownBy_alloc w (.cells #[.int .i64 0, .int .i64 0] 65) none
 have HQ : Hid (Res (w.alloc (.cells #[.int .i64 0, .int .i64 0] 65)) R a b d e0 ∧ w.grownBy (w.alloc (.cells #[.int .i64 0, .int .i64 0] 65)) none) := ⟨h.keep K1, K1⟩
 clear hta h K1
 obtain ⟨T, hT⟩ : ∃ T, Tryz.f32 = T := ⟨_, rfl⟩
 have HT : Hid (T.results = #[]) := by show T.results = #[]; rw [← hT]; rfl
 rw [hT]
 clear hT
 have eT : (#[.pointer (some ⟨R, 0, none⟩), .pointer (some ⟨R + 1, 0, none⟩), .pointer (some ⟨R + 2, 0, none⟩), .pointer (some ⟨R + 3, 0, none⟩)] ++ (((((((Array.replicate 12 undef).setIfInBounds 3 .nilIface).setIfInBounds 4 (.tuple #[.agg #[.int .i64 0, .int .i64 0], .bool false])).setIfInBounds 2 (.tuple #[.agg #[.int .i64 0, .int .i64 0], .bool false])).setIfInBounds 5 (.agg #[.int .i64 0, .int .i64 0])).setIfInBounds 6 (.bool false)).setIfInBounds 0 (.pointer (some ⟨w.heap.size, 0, none⟩))).setIfInBounds 1 (.bool false) : Array Value) =
  #[.pointer (some ⟨R, 0, none⟩), .pointer (some ⟨R + 1, 0, none⟩), .pointer (some ⟨R + 2, 0, none⟩), .pointer (some ⟨R + 3, 0, none⟩), .pointer (some ⟨w.heap.size, 0, none⟩), .bool false, .tuple #[.agg #[.int .i64 0, .int .i64 0], .bool false], .nilIface, .tuple #[.agg #[.int .i64 0, .int .i64 0], .bool false], .agg #[.int .i64 0, .int .i64 0], .bool false, undef, undef, undef, undef, undef] := by kernel_rfl
 rw [eT]
 clear eT
 generalize w.alloc (.cells #[.int .i64 0, .int .i64 0] 65) = w1 at *
 generalize w.heap.size = V at *
 go_wp2
 exact ⟨rfl, _, by rw [← hu], _, results_none HT.out _ _ _, rfl, rfl, HQ.out.1, HQ.out.2⟩
def prN (r : Except Er (List (Nd × Nat))) : List (Nd × Nat) := match r with
 | .ok ns => ns
 | .error _ => []
def prP (r : Except Er (List (Nd × Nat))) : Nat := match r with
 | .ok _ => 0
 | .error e => e.1
def prE (r : Except Er (List (Nd × Nat))) : Int := match r with
 | .ok _ => 0
 | .error e => e.2
def a04 (w : World) : Prop := Tab w ∧ j2 w
theorem a04.grown {w w' : World} (T : a04 w) (G : w.grownBy w' none) : a04 w' := ⟨T.1.grown G, T.2.grown G⟩
theorem a4r {P : Program} {t : TypeId} {w : World} {g : Nat} {v : Value} (A : VAt w g t #[v]) (ha : (isAgg t).run P w = .ok false w) : (loadVar t ⟨g, 0, none⟩).run P w = .ok v w := by
 have hc : w.cell? ⟨g, 0, none⟩ = some v := A.cell 0
 simp [loadVar, Sem.run_bind, ha, go_sem, hc]
theorem a4G {fn : Func} {p q r s : Tmp} (h : fn.results = #[.cell p 22, .cell q 33, .cell r 3, .cell s 23]) (tmps : Array Value) (w : World) (R : Nat) (a b d e : Value) (H : Res w R a b d e)
  (hp : tmps.getD p undef = .pointer (some ⟨R, 0, none⟩)) (hq : tmps.getD q undef = .pointer (some ⟨R + 1, 0, none⟩)) (hr : tmps.getD r undef = .pointer (some ⟨R + 2, 0, none⟩)) (hs : tmps.getD s undef = .pointer (some ⟨R + 3, 0, none⟩)) : (results fn tmps).run Tryz.prog w = .ok (.tuple #[a, b, d, e]) w := by
 have hp' : tmps[p]?.getD undef = .pointer (some ⟨R, 0, none⟩) := by simpa using hp
 have hq' : tmps[q]?.getD undef = .pointer (some ⟨R + 1, 0, none⟩) := by simpa using hq
 have hr' : tmps[r]?.getD undef = .pointer (some ⟨R + 2, 0, none⟩) := by simpa using hr
 have hs' : tmps[s]?.getD undef = .pointer (some ⟨R + 3, 0, none⟩) := by simpa using hs
 have h1 := a4r (P := Tryz.prog) H.t (run_isAgg_plain Tryz.underlying22 rfl w)
 have h2 := a4r (P := Tryz.prog) H.p (run_isAgg_plain Tryz.underlying33 rfl w)
 have h3 := a4r (P := Tryz.prog) H.n (run_isAgg_plain Tryz.underlying3 rfl w)
 have h4 := a4r (P := Tryz.prog) H.x (run_isAgg_plain Tryz.underlying23 rfl w)
 simp [results, h, hp', hq', hr', hs', asAddr, h1, h2, h3, h4, Sem.run_bind]
theorem as2 (w : World) : ∀ W, ((((w.alloc (.cells #[H0] 22)).alloc (.cells #[H0] 33)).alloc (.cells #[.int .i64 0] 3)).alloc (.cells #[.int .i64 0] 23)) = W → Res W w.heap.size H0 H0 (.int .i64 0) (.int .i64 0) ∧ w.grownBy W none ∧ W.heap.size = w.heap.size + 4 := by
 rintro W rfl
 have k1 := World.grownBy_alloc w (.cells #[H0] 22) none
 have k2 := World.grownBy_alloc (w.alloc (.cells #[H0] 22)) (.cells #[H0] 33) none
 have k3 := World.grownBy_alloc ((w.alloc (.cells #[H0] 22)).alloc (.cells #[H0] 33)) (.cells #[.int .i64 0] 3) none
 have k4 := World.grownBy_alloc (((w.alloc (.cells #[H0] 22)).alloc (.cells #[H0] 33)).alloc (.cells #[.int .i64 0] 3)) (.cells #[.int .i64 0] 23) none
 have a1 := VAt.alloc w 22 #[H0]
 have a2 := VAt.alloc (w.alloc (.cells #[H0] 22)) 33 #[H0]
 have a3 := VAt.alloc ((w.alloc (.cells #[H0] 22)).alloc (.cells #[H0] 33)) 3 #[.int .i64 0]
 have a4 := VAt.alloc (((w.alloc (.cells #[H0] 22)).alloc (.cells #[H0] 33)).alloc (.cells #[.int .i64 0] 3)) 23 #[.int .i64 0]
 rw [show (w.alloc (.cells #[H0] 22)).heap.size = w.heap.size + 1 by simp] at a2
 rw [show ((w.alloc (.cells #[H0] 22)).alloc (.cells #[H0] 33)).heap.size = w.heap.size + 2 by simp] at a3
 rw [show (((w.alloc (.cells #[H0] 22)).alloc (.cells #[H0] 33)).alloc (.cells #[.int .i64 0] 3)).heap.size = w.heap.size + 3 by simp] at a4
 exact ⟨⟨((a1.kept k2).kept k3).kept k4, (a2.kept k3).kept k4, a3.kept k4, a4⟩, d3 (d3 (d3 k1 k2) k3) k4, by simp⟩
theorem a8p {w1 w2 : World} (G : w1.grownBy w2 none) (g k : Nat) (v : Value) : (w1.setCell ⟨g, k, none⟩ v).grownBy (w2.setCell ⟨g, k, none⟩ v) none := by
 have s1 : (w1.setCell ⟨g, k, none⟩ v).heap.size = w1.heap.size := by simp [World.setCell]
 have s2 : (w2.setCell ⟨g, k, none⟩ v).heap.size = w2.heap.size := by simp [World.setCell]
 refine ⟨G.os, G.tape, G.output, by rw [s1, s2]; exact G.size, fun i hi _ => ?_⟩
 rw [s1] at hi
 have hb := G.block i hi (by simp)
 by_cases e : i = g
 ·subst e
  simp only [World.setCell, Array.getElem?_modify, hb]
 ·rw [a9N _ _ _ _ _ e, a9N _ _ _ _ _ e, hb]
theorem aJ8 (ts : List Tk) : d7 (a0i 1 ts) 1 0 ts ≠ .error exP := a6v _ 1 0 ts (by omega) (Nat.le_refl _)
theorem a9w (s : ByteArray) (hs : s.size ≤ 140737488355328) (w : World) (T : a04 w) :
  Calls Tryz.prog 17 #[.string s] w fun e w' => ∃ vt vp, e = .returned (.tuple #[vt, vp, .int .i64 (prP (U2 (sl s)) : Int), .int .i64 (prE (U2 (sl s)))]) ∧ a5b w' w.heap.size vt ((prN (U2 (sl s))).map Prod.fst) ∧ a5h w' w.heap.size vp ((prN (U2 (sl s))).map plc) ∧ w.grownBy w' none := by
 have HT : Hid (a04 w) := T
 obtain ⟨ans, hans⟩ : ∃ a, U2 (sl s) = a := ⟨_, rfl⟩
 have HA : Hid (d6 (O0 (sl s)) a14 = ans) := hans
 rw [hans]
 clear T hans
 have hF := as2 w _ rfl
 unfold H0 at hF
 have hmf : ∀ (fn : Fn) (first cap : Array Value) (w : World), (Instr.makeFunc fn first cap).run Tryz.prog w = .ok (.func fn first cap) w := fun _ _ _ _ => rfl
 go_enter_defers Tryz.func17, Tryz.ntmps17
 go_upto_region 1 with fail
 generalize (((w.alloc (.cells #[.slice none 0 0] 22)).alloc (.cells #[.slice none 0 0] 33)).alloc (.cells #[.int .i64 0] 3)).alloc (.cells #[.int .i64 0] 23) = w1 at *
 rw [show w.heap.size + 1 + 1 + 1 = w.heap.size + 3 from rfl, show w.heap.size + 1 + 1 = w.heap.size + 2 from rfl]
 obtain ⟨R, hR⟩ : ∃ R, w.heap.size = R := ⟨_, rfl⟩
 obtain ⟨H1, G1, S1⟩ := hF
 rw [hR] at H1 S1 ⊢
 have HR : Hid (w.heap.size = R ∧ w1.heap.size = R + 4) := ⟨hR, S1⟩
 clear hR S1
 have CL := aA0 s hs w1 (HT.out.1.grown G1)
 obtain ⟨lx, hlx⟩ : ∃ l, O0 (sl s) = l := ⟨_, rfl⟩
 have HGD : Hid (∀ ts, lx = .ok ts → Z7 ts ∧ ts.length ≤ 65537) := fun ts hts => a8O (hlx.trans hts)
 have HEE : Hid (∀ x, lx = .error x → (x.2 != 0) = true) := fun x hx => a8M (hlx.trans hx)
 rw [hlx] at CL HA
 clear hlx
 go_wp2_with fail
 refine CL.mono ?_
 rintro e w2 ⟨v, rfl, O2, G2⟩
 have H2 := H1.keep G2
 clear CL
 have r2 : w2.cell? ⟨R + 2, 0, none⟩ = some (.int .i64 0) := H2.n.cell 0
 have r3 : w2.cell? ⟨R + 3, 0, none⟩ = some (.int .i64 0) := H2.x.cell 0
 have f2 := H2.n.free 0
 have f3 := H2.x.free 0
 cases lx with
 | error x =>
  obtain ⟨lp, le⟩ := x
  have hz : (le != 0) = true := HEE.out _ rfl
  have HA3 : Hid (ans = .error (lp, le)) := HA.out.symm
  simp only [a63, a61]
  have H3 : Res ((w2.setCell ⟨R + 2, 0, none⟩ (.int .i64 (lp : Int))).setCell ⟨R + 3, 0, none⟩ (.int .i64 le)) R (.slice none 0 0) (.slice none 0 0) (.int .i64 (lp : Int)) (.int .i64 le) :=
   ⟨(H2.t.setOther _ (by omega)).setOther _ (by omega), (H2.p.setOther _ (by omega)).setOther _ (by omega), (H2.n.set 0 _).setOther _ (by omega), (H2.x.setOther _ (by omega)).set 0 _⟩
  have G3 : w.grownBy ((w2.setCell ⟨R + 2, 0, none⟩ (.int .i64 (lp : Int))).setCell ⟨R + 3, 0, none⟩ (.int .i64 le)) none := N8 (N8 (d3 G1 G2) _ _ (.inr (by show _ ≤ R + 2; have := HR.out; omega))) _ _ (.inr (by show _ ≤ R + 3; have := HR.out; omega))
  go_upto_region 3 with fail
  generalize (w2.setCell ⟨R + 2, 0, none⟩ (.int .i64 (lp : Int))).setCell ⟨R + 3, 0, none⟩ (.int .i64 le) = w3 at *
  clear r2 r3 f2 f3 H1 H2 G1 G2 O2
  have q0 : w3.cell? ⟨R, 0, none⟩ = some (.slice none 0 0) := H3.t.cell 0
  have q1 : w3.cell? ⟨R + 1, 0, none⟩ = some (.slice none 0 0) := H3.p.cell 0
  have q2 : w3.cell? ⟨R + 2, 0, none⟩ = some (.int .i64 (lp : Int)) := H3.n.cell 0
  have q3 : w3.cell? ⟨R + 3, 0, none⟩ = some (.int .i64 le) := H3.x.cell 0
  have g0 := H3.t.free 0
  have g1 := H3.p.free 0
  have g2 := H3.n.free 0
  have g3 := H3.x.free 0
  obtain ⟨h4, h5⟩ := H3.set (.slice none 0 0) (.slice none 0 0) (.int .i64 (lp : Int)) (.int .i64 le)
  have HQ : Hid (_ ∧ _ ∧ w.grownBy w3 none) := ⟨h4, h5, G3⟩
  clear H3 h4 h5 G3
  refine wp_region_noPanic ?_
  go_region
  refine NoPanic.normal ?_
  go_wp2
  have G6 : w.grownBy _ none := ((GB.non (S := R4 R) HQ.out.2.2).trans HQ.out.2.1 (fun _ _ h => h)).grown (fun x hx h => by have := HR.out; have := h.1; omega)
  refine ⟨_, a4G rfl _ _ R _ _ _ _ (HQ.out.1.keep (f9 _ 1 none)) rfl rfl rfl rfl, .slice none 0 0, .slice none 0 0, ?_, ?_, ?_, d3 G6 (f9 _ 1 none)⟩
  ·rw [HA3.out]
   rfl
  ·rw [HA3.out]
   exact World.ownsRow_nil _ _ _ _
  ·rw [HA3.out]
   exact World.ownsRow_nil _ _ _ _
 | ok toks =>
  obtain ⟨hgd, hlen⟩ := HGD.out toks rfl
  rw [M6] at HA
  simp only [a63, a61, a8N] at O2 ⊢
  have H3 : Res ((w2.setCell ⟨R + 2, 0, none⟩ (.int .i64 0)).setCell ⟨R + 3, 0, none⟩ (.int .i64 0)) R (.slice none 0 0) (.slice none 0 0) (.int .i64 0) (.int .i64 0) :=
   ⟨(H2.t.setOther _ (by omega)).setOther _ (by omega), (H2.p.setOther _ (by omega)).setOther _ (by omega), (H2.n.set 0 _).setOther _ (by omega), (H2.x.setOther _ (by omega)).set 0 _⟩
  have GW : ((w1.setCell ⟨R + 2, 0, none⟩ (.int .i64 0)).setCell ⟨R + 3, 0, none⟩ (.int .i64 0)).grownBy ((w2.setCell ⟨R + 2, 0, none⟩ (.int .i64 0)).setCell ⟨R + 3, 0, none⟩ (.int .i64 0)) none := a8p (a8p G2 _ _ _) _ _ _
  have GX : w.grownBy ((w1.setCell ⟨R + 2, 0, none⟩ (.int .i64 0)).setCell ⟨R + 3, 0, none⟩ (.int .i64 0)) none := N8 (N8 G1 _ _ (.inr (by show _ ≤ R + 2; have := HR.out; omega))) _ _ (.inr (by show _ ≤ R + 3; have := HR.out; omega))
  have SX : ((w1.setCell ⟨R + 2, 0, none⟩ (.int .i64 0)).setCell ⟨R + 3, 0, none⟩ (.int .i64 0)).heap.size = R + 4 := by simp [World.setCell]; exact HR.out.2
  have OX : V8 ((w2.setCell ⟨R + 2, 0, none⟩ (.int .i64 0)).setCell ⟨R + 3, 0, none⟩ (.int .i64 0)) (R + 4) v toks := by
   have hv : ∀ k, k < R + 4 → ¬ v.ownBlock = some k := fun k hk e => by
    have := (O2.lt k e).1
    have := HR.out
    omega
   have o1 : V8 w2 (R + 4) v toks := by rw [← HR.out.2]; exact O2
   exact a0j (a0j o1 (S8 w2 (R + 2) 0 _) (hv _ (by omega))) (S8 _ (R + 3) 0 _) (hv _ (by omega))
  clear H1 H2 G1 G2 O2
  go_upto_region 4 with fail
  generalize (w2.setCell ⟨R + 2, 0, none⟩ (.int .i64 0)).setCell ⟨R + 3, 0, none⟩ (.int .i64 0) = w3 at *
  generalize (w1.setCell ⟨R + 2, 0, none⟩ (.int .i64 0)).setCell ⟨R + 3, 0, none⟩ (.int .i64 0) = wX at *
  clear r2 r3 f2 f3
  obtain ⟨va, vl, vc, hv⟩ := a2o OX
  subst hv
  have K4 := World.grownBy_alloc w3 (.cells #[.slice va vl vc, .int .i64 0, .int .i64 0, .slice none 0 0, .slice none 0 0] 70) none
  have A4 := VAt.alloc w3 70 #[.slice va vl vc, .int .i64 0, .int .i64 0, .slice none 0 0, .slice none 0 0]
  have H4 := H3.keep K4
  have P4 : PS ⟨wX, w3.heap.size, .slice va vl vc, toks⟩ (w3.alloc (.cells #[.slice va vl vc, .int .i64 0, .int .i64 0, .slice none 0 0, .slice none 0 0] 70)) 0 (.slice none 0 0) (.slice none 0 0) toks 0 0 [] :=
   { tab := HT.out.2.grown GX, grown := d3 GW K4, blk := A4, new := GW.size, toks := by show V8 _ wX.heap.size _ _; rw [SX]; exact x9 OX K4, drop := rfl, good := hgd, len := hlen, nest_le := by omega, bud_le := by simp; exact hlen, tree := World.ownsRow_nil _ _ _ _, places := World.ownsRow_nil _ _ _ _ }
  have HG0 : Hid (w.grownBy wX none ∧ wX.heap.size = R + 4) := ⟨GX, SX⟩
  have HGD2 : Hid (w3.heap.size ≥ R + 4) := by show _ ≤ _; rw [← SX]; exact GW.size
  clear K4 A4 H3 GW GX SX OX hgd hlen HGD HEE
  go_upto_region 6 with fail
  generalize w3.alloc (.cells #[.slice va vl vc, .int .i64 0, .int .i64 0, .slice none 0 0, .slice none 0 0] 70) = w4 at *
  generalize w3.heap.size = g at *
  have CO := a9G (c := ⟨wX, g, .slice va vl vc, toks⟩) (a0i 1 toks) 1 (by omega) (by omega) w4 0 _ _ toks 0 0 [] P4 (aJ8 toks)
  unfold a92 at CO
  unfold a14 at HA
  have HFT : Hid (∀ x, d4 g (.slice none 0 0) (.slice none 0 0) x → R + 4 ≤ x) := fun x hx => by have := P4.ge hx; have := HG0.out.2; simp only at *; omega
  have HP4 : Hid (PS ⟨wX, g, .slice va vl vc, toks⟩ w4 0 (.slice none 0 0) (.slice none 0 0) toks 0 0 []) := P4
  have HH4 : Hid (Res w4 R (.slice none 0 0) (.slice none 0 0) (.int .i64 0) (.int .i64 0)) := H4
  clear P4 H4
  generalize d7 (a0i 1 toks) 1 0 toks = rr at *
  go_wp2_with fail
  refine CO.mono ?_
  clear CO
  cases rr with
  | error er =>
   have HA3 : Hid (ans = .error er) := HA.out.symm
   rintro e w5 ⟨rfl, G5⟩
   have H5 := HH4.out.gb G5 (fun x hx => .inr (by have := HFT.out x hx; omega))
   have GZ := d3 HG0.out.1 (HP4.out.gb G5)
   go_wp2
   refine leaves_cons (f := 32) (args := #[.pointer (some ⟨R, 0, none⟩), .pointer (some ⟨R + 1, 0, none⟩), .pointer (some ⟨R + 2, 0, none⟩), .pointer (some ⟨R + 3, 0, none⟩)]) (by simp) (by simp [go_sem]) ?_
   refine (a9u R er _ _ _ _ _ H5).mono ?_
   rintro e u' w'' ⟨rfl, rfl, H6, G6⟩
   have G7 : w.grownBy w'' none := ((GB.non (S := R4 R) GZ).trans G6 (fun _ _ h => h)).grown (fun x hx h => by have := HR.out; have := h.1; omega)
   refine ⟨_, a4G rfl _ _ R _ _ _ _ H6 rfl rfl rfl rfl, H0, H0, ?_, ?_, ?_, G7⟩
   ·rw [HA3.out]
    rfl
   ·rw [HA3.out]
    exact World.ownsRow_nil _ _ _ _
   ·rw [HA3.out]
    exact World.ownsRow_nil _ _ _ _
  | ok v =>
   obtain ⟨ms, r5⟩ := v
   rw [M6] at HA
   simp only at HA
   rintro e w5 ⟨rfl, i5, vt5, vp5, P5, G5, F5⟩
   rw [List.nil_append] at P5
   have H5 := HH4.out.gb G5 (fun x hx => .inr (by have := HFT.out x hx; omega))
   have CE := ap3 P5
   have HQ5 : Hid (PS ⟨wX, g, .slice va vl vc, toks⟩ w5 i5 vt5 vp5 r5 0 0 ms) := P5
   clear G5 F5 P5 HH4 HFT HP4
   go_wp2_with fail
   refine CE.mono ?_
   rintro e w6 ⟨G6, hcase⟩
   clear CE
   have H6 := H5.keep G6
   have Q6 := HQ5.out.keep G6
   have GZ := d3 HG0.out.1 Q6.grown
   rcases hcase with ⟨hk, rfl⟩ | ⟨hk, rfl⟩
   ·have HA3 : Hid (ans = .ok ms) := by show ans = _; rw [← HA.out, if_pos hk]
    clear HA hk H5
    obtain ⟨ta, tl, tc, ht⟩ := a2o Q6.tree
    obtain ⟨pa, pl, pc, hp⟩ := a2o Q6.places
    subst ht hp
    have q3 : w6.cell? ⟨g, 3, none⟩ = some (.slice ta tl tc) := Q6.blk.cell 3
    have q4 : w6.cell? ⟨g, 4, none⟩ = some (.slice pa pl pc) := Q6.blk.cell 4
    have a0 : w6.cell? ⟨R, 0, none⟩ = some (.slice none 0 0) := H6.t.cell 0
    have a1 : w6.cell? ⟨R + 1, 0, none⟩ = some (.slice none 0 0) := H6.p.cell 0
    have a2 : w6.cell? ⟨R + 2, 0, none⟩ = some (.int .i64 0) := H6.n.cell 0
    have a3 : w6.cell? ⟨R + 3, 0, none⟩ = some (.int .i64 0) := H6.x.cell 0
    have b0 := H6.t.free 0
    have b1 := H6.p.free 0
    have b2 := H6.n.free 0
    have b3 := H6.x.free 0
    have n0 : ¬ R = g := fun e => by have := HGD2.out; omega
    have n1 : ¬ R + 1 = g := fun e => by have := HGD2.out; omega
    have n2 : ¬ R + 2 = g := fun e => by have := HGD2.out; omega
    have n3 : ¬ R + 3 = g := fun e => by have := HGD2.out; omega
    obtain ⟨h7, g7⟩ := H6.set (.slice ta tl tc) (.slice pa pl pc) (.int .i64 0) (.int .i64 0)
    have hown : ∀ k, R4 R k → k < wX.heap.size := fun k hk => by have := hk.2; have := HG0.out.2; omega
    have HQ : Hid (_ ∧ _ ∧ _ ∧ _ ∧ w.grownBy w6 none) := ⟨h7, g7, g7.owns Q6.tree (fun x hx hr => by have := (Q6.tree.lt x hx).1; have := hown x hr; simp only at *; omega), g7.owns Q6.places (fun x hx hr => by have := (Q6.places.lt x hx).1; have := hown x hr; simp only at *; omega), GZ⟩
    clear H6 Q6 GZ h7 g7 hown HQ5 G6
    go_upto_region 8 with fail
    refine wp_region_noPanic ?_
    go_region
    refine NoPanic.normal ?_
    go_wp2
    refine leaves_cons (f := 32) (args := #[.pointer (some ⟨R, 0, none⟩), .pointer (some ⟨R + 1, 0, none⟩), .pointer (some ⟨R + 2, 0, none⟩), .pointer (some ⟨R + 3, 0, none⟩)]) (by simp) (by simp [go_sem]) ?_
    refine (aM7 R _ _ _ _ _ (HQ.out.1.keep (f9 _ 1 none))).mono ?_
    rintro e u' w'' ⟨rfl, rfl, H8, G8⟩
    have G9 : w.grownBy w'' none := d3 (((GB.non (S := R4 R) HQ.out.2.2.2.2).trans HQ.out.2.1 (fun _ _ h => h)).grown (fun x hx h => by have := HR.out; have := h.1; omega)) (d3 (f9 _ 1 none) G8)
    refine ⟨_, a4G rfl _ _ R _ _ _ _ H8 rfl rfl rfl rfl, .slice ta tl tc, .slice pa pl pc, ?_, ?_, ?_, G9⟩
    ·rw [HA3.out]
     rfl
    ·rw [HA3.out]
     exact a9h (x9 HQ.out.2.2.1 (d3 (f9 _ 1 none) G8)) (by have := HR.out; have := HG0.out.2; omega)
    ·rw [HA3.out]
     exact a9h (x9 HQ.out.2.2.2.1 (d3 (f9 _ 1 none) G8)) (by have := HR.out; have := HG0.out.2; omega)
   ·have HA3 : Hid (ans = .error (W9 r5)) := by show ans = _; rw [← HA.out, if_neg hk]; rfl
    clear HA hk H5 HQ5 Q6 G6
    go_wp2
    refine leaves_cons (f := 32) (args := #[.pointer (some ⟨R, 0, none⟩), .pointer (some ⟨R + 1, 0, none⟩), .pointer (some ⟨R + 2, 0, none⟩), .pointer (some ⟨R + 3, 0, none⟩)]) (by simp) (by simp [go_sem]) ?_
    refine (a9u R (W9 r5) _ _ _ _ _ H6).mono ?_
    rintro e u' w'' ⟨rfl, rfl, H6, G6⟩
    have G7 : w.grownBy w'' none := ((GB.non (S := R4 R) GZ).trans G6 (fun _ _ h => h)).grown (fun x hx h => by have := HR.out; have := h.1; omega)
    refine ⟨_, a4G rfl _ _ R _ _ _ _ H6 rfl rfl rfl rfl, H0, H0, ?_, ?_, ?_, G7⟩
    ·rw [HA3.out]
     rfl
    ·rw [HA3.out]
     exact World.ownsRow_nil _ _ _ _
    ·rw [HA3.out]
     exact World.ownsRow_nil _ _ _ _

end Go.Proofs.YtklipelnjgpnjaaGreatDoor
