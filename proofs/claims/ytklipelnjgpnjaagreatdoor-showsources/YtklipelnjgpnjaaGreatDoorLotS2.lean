import Derived.Test.YtklipelnjgpnjaaGreatDoorLotS1
import Derived.Lib.IndexMore
namespace Go.Proofs.YtklipelnjgpnjaaGreatDoor
open Go.RowKit
set_option maxRecDepth 100000
def a0W (b : UInt8) : List UInt8 → List UInt8 → List (List UInt8)
 | cur, [] => [cur]
 | cur, c :: r => if c = b then cur :: a0W b [] r else a0W b (cur ++ [c]) r
def j0 (b : UInt8) (s : List UInt8) : List (List UInt8) := a0W b [] s
theorem a79 (b : UInt8) (cur s : List UInt8) : (a0W b cur s).length ≤ s.length + 1 := by
 induction s generalizing cur with
 | nil => simp [a0W]
 | cons c r ih =>
  rw [a0W]
  split
  ·have := ih []; simp; omega
  ·have := ih (cur ++ [c]); simp; omega
def k8 (b : UInt8) : List (List UInt8) → List UInt8
 | [] => []
 | x :: r => if r = [] then x else x ++ b :: k8 b r
theorem a3T (b : UInt8) (x : List UInt8) : k8 b [x] = x := by simp [k8]
theorem a3b (b : UInt8) (x y : List UInt8) (r : List (List UInt8)) : k8 b (x :: y :: r) = x ++ b :: k8 b (y :: r) := by
 rw [k8, if_neg (by simp)]
theorem az5 (b : UInt8) (ls : List (List UInt8)) (x : List UInt8) : k8 b (ls ++ [x]) = if ls = [] then x else k8 b ls ++ (b :: x) := by
 induction ls with
 | nil => simp [k8]
 | cons y r ih =>
  rw [if_neg (by simp), List.cons_append, k8, if_neg (by simp), ih]
  split
  ·rename_i h
   subst h
   rw [a3T]
  ·rename_i h
   rw [k8, if_neg h]
   simp
theorem ac8 (b : UInt8) (cur x : List UInt8) (h : b ∉ x) : a0W b cur x = [cur ++ x] := by
 induction x generalizing cur with
 | nil => simp [a0W]
 | cons c r ih =>
  have hc : c ≠ b := fun e => h (by rw [e]; simp)
  rw [a0W, if_neg hc, ih _ (fun e => h (by simp [e]))]
  simp
theorem ac7 (b : UInt8) (cur x r : List UInt8) (h : b ∉ x) : a0W b cur (x ++ b :: r) = (cur ++ x) :: a0W b [] r := by
 induction x generalizing cur with
 | nil => simp [a0W]
 | cons c x ih =>
  have hc : c ≠ b := fun e => h (by rw [e]; simp)
  rw [List.cons_append, a0W, if_neg hc, ih _ (fun e => h (by simp [e]))]
  simp
theorem ac9 (b : UInt8) (x : List UInt8) (ls : List (List UInt8)) (h : ∀ l ∈ x :: ls, b ∉ l) : j0 b (k8 b (x :: ls)) = x :: ls := by
 unfold j0
 induction ls generalizing x with
 | nil => rw [a3T, ac8 b [] x (h x (by simp))]; rfl
 | cons y r ih =>
  rw [a3b, ac7 b [] x _ (h x (by simp)), ih y (fun l hl => h l (by simp only [List.mem_cons] at hl ⊢; exact .inr hl))]
  rfl
def S9 {α β : Type} (f : α → Option β) : List α → Option (List β)
 | [] => some []
 | x :: r => (f x).bind fun v => (S9 f r).map fun vs => v :: vs
theorem a7J {α β : Type} {f : α → Option β} {xs : List α} {vs : List β} (h : S9 f xs = some vs) : vs.length = xs.length := by
 induction xs generalizing vs with
 | nil => simp [S9] at h; subst h; rfl
 | cons x r ih =>
  simp only [S9] at h
  cases hx : f x with
  | none => rw [hx] at h; cases h
  | some v =>
   rw [hx] at h
   cases hr : S9 f r with
   | none => rw [hr] at h; cases h
   | some us =>
    rw [hr] at h
    simp only [Option.bind_some, Option.map_some, Option.some.injEq] at h
    subst h
    simp [ih hr]
theorem a7K {α β γ : Type} {f : α → Option β} {g : γ → α} {k : γ → β} (xs : List γ) (h : ∀ x ∈ xs, f (g x) = some (k x)) : S9 f (xs.map g) = some (xs.map k) := by
 induction xs with
 | nil => rfl
 | cons x r ih => simp only [List.map_cons, S9, h x (by simp), ih (fun y hy => h y (by simp [hy])), Option.bind_some, Option.map_some]
theorem ah7 {α β : Type} {f : α → Option β} {xs : List α} {i : Nat} (hi : i < xs.length) (h : f xs[i] = none) : S9 f xs = none := by
 induction xs generalizing i with
 | nil => simp at hi
 | cons x r ih =>
  simp only [S9]
  cases i with
  | zero => rw [show f x = none from h]; rfl
  | succ i =>
   rw [ih (i := i) (by simpa using hi) (by simpa using h)]
   cases f x <;> rfl
def M2 (s : List UInt8) : Option (List UInt8) := if (j0 46 s).length = 4 then (S9 (A9 255) (j0 46 s)).map fun ns => ns.map UInt8.ofNat else none
def S8 (a : List UInt8) : List UInt8 := k8 46 (a.map fun x => dec x.toNat)
theorem ap8 (b : UInt8) (hb : D3 b = false) (n : Nat) (h : n < 10 ^ 20) : b ∉ dec n := fun hm => by
 have := a3O n h b hm
 rw [hb] at this
 cases this
theorem aL4 (a : List UInt8) (h : a.length = 4) : M2 (S8 a) = some a := by
 have hs : j0 46 (S8 a) = a.map fun x => dec x.toNat := by
  match a, h with
  | x :: r, _ =>
   refine ac9 46 _ _ fun l hl => ?_
   have hl' : l ∈ (x :: r).map fun x => dec x.toNat := hl
   obtain ⟨y, hy, rfl⟩ := List.mem_map.1 hl'
   exact ap8 46 (by decide) _ (by have := y.toNat_lt; omega)
 rw [M2, hs, if_pos (by simpa using h), a7K (k := fun x : UInt8 => x.toNat) a (fun x hx => a9A 255 _ (by have := x.toNat_lt; omega) (by have := x.toNat_lt; omega))]
 have e : (UInt8.ofNat ∘ fun x : UInt8 => x.toNat) = id := by funext x; simp
 simp [e]
def a01 : Nat → List UInt8 → Option Nat
 | v, [] => some v
 | v, c :: r => if J1 c.toNat = true then a01 (16 * v + y9 c.toNat) r else none
def F9 (s : List UInt8) : Option Nat := if s.length < 1 ∨ 4 < s.length then none else a01 0 s
def p9 (s : List UInt8) : Option (List Nat) := if s = [] then some [] else if 8 < (j0 58 s).length then none else S9 F9 (j0 58 s)
def L9 : List UInt8 → Option Nat
 | [] => none
 | a :: r => if a = 58 ∧ r.head? = some 58 then some 0 else (L9 r).map fun k => k + 1
def f9 (gs : List Nat) : List UInt8 := gs.flatMap fun g => [UInt8.ofNat (g / 256), UInt8.ofNat g]
def J7 (s : List UInt8) : Option (List UInt8) := match L9 s with
 | none => (p9 s).bind fun x => if x.length = 8 then some (f9 x) else none
 | some k => (p9 (s.take k)).bind fun x => (p9 (s.drop (k + 2))).bind fun y => if x.length + y.length ≤ 7 then some (f9 (x ++ List.replicate (8 - x.length - y.length) 0 ++ y)) else none
def d8 : List UInt8 → List Nat
 | h :: l :: r => (256 * h.toNat + l.toNat) :: d8 r
 | _ => []
theorem a6K (a : List UInt8) : ∀ g ∈ d8 a, g < 65536 := by
 intro g hg
 induction a using d8.induct with
 | case1 h l r ih =>
  rw [d8] at hg
  rcases List.mem_cons.1 hg with rfl | hg
  ·have := h.toNat_lt; have := l.toNat_lt; omega
  ·exact ih hg
 | case2 a hn =>
  rw [d8] at hg
  ·cases hg
  ·exact hn
theorem a3q : ∀ (n : Nat) (a : List UInt8), a.length = 2 * n → (d8 a).length = n
 | 0, [], _ => rfl
 | n + 1, h :: l :: r, e => by rw [d8, List.length_cons, a3q n r (by simp at e; omega)]
theorem a8c : ∀ (n : Nat) (a : List UInt8), a.length = 2 * n → f9 (d8 a) = a
 | 0, [], _ => rfl
 | n + 1, h :: l :: r, e => by
  have h1 := h.toNat_lt
  have h2 := l.toNat_lt
  have e1 : UInt8.ofNat ((256 * h.toNat + l.toNat) / 256) = h := by
   rw [show (256 * h.toNat + l.toNat) / 256 = h.toNat by omega]; simp
  have e2 : UInt8.ofNat (256 * h.toNat + l.toNat) = l := by
   apply UInt8.toNat_inj.1
   simp
  rw [d8, f9, List.flatMap_cons, e1, e2, ← f9, a8c n r (by simp at e; omega)]
  simp
def a2k (gs : List Nat) : Nat := (gs.takeWhile fun g => g == 0).length
def a4R : Option (Nat × Nat) → Nat
 | none => 1
 | some p => p.2
def V8 : Nat → List Nat → Option (Nat × Nat) → Option (Nat × Nat)
 | _, [], acc => acc
 | i, g :: r, acc => V8 (i + 1) r (if a4R acc < a2k (g :: r) then some (i, a2k (g :: r)) else acc)
def a18 : List UInt8 → List UInt8
 | [] => []
 | a :: r => if a = 48 ∧ r ≠ [] then a18 r else a :: r
def a1g (g : Nat) : List UInt8 := [I0 (g / 4096 % 16), I0 (g / 256 % 16), I0 (g / 16 % 16), I0 (g % 16)]
def f8 (g : Nat) : List UInt8 := a18 (a1g g)
def Z0 (gs : List Nat) : List UInt8 := match V8 0 gs none with
 | none => k8 58 (gs.map f8)
 | some p => k8 58 ((gs.take p.1).map f8) ++ (58 :: 58 :: k8 58 ((gs.drop (p.1 + p.2)).map f8))
theorem a23 {n : Nat} (h : n < 16) : J1 (I0 n).toNat = true ∧ y9 (I0 n).toNat = n ∧ I0 n ≠ 58 ∧ (I0 n = 48 → n = 0) := by
 have key : ∀ j : Fin 16, J1 (I0 j.val).toNat = true ∧ y9 (I0 j.val).toNat = j.val ∧ I0 j.val ≠ 58 ∧ (I0 j.val = 48 → j.val = 0) := by decide +kernel
 exact key ⟨n, h⟩
theorem a4J (v n : Nat) (h : n < 16) (r : List UInt8) : a01 v (I0 n :: r) = a01 (16 * v + n) r := by
 rw [a01, if_pos (a23 h).1, (a23 h).2.1]
theorem av2 (g : Nat) (h : g < 65536) : F9 (a1g g) = some g := by
 rw [F9, if_neg (by simp [a1g]), a1g, a4J _ _ (by omega), a4J _ _ (by omega), a4J _ _ (by omega), a4J _ _ (by omega), a01]
 congr 1
 omega
def a44 (x : List UInt8) : Prop := 58 ∉ x ∧ x ≠ [] ∧ x.length ≤ 4 ∧ (x.head? = some 48 → x.length = 1)
theorem aZ7 (x : List UInt8) (h58 : 58 ∉ x) (hne : x ≠ []) (hl : x.length ≤ 4) : a44 (a18 x) := by
 induction x with
 | nil => exact absurd rfl hne
 | cons a r ih =>
  rw [a18]
  split
  ·rename_i h
   exact ih (fun e => h58 (by simp [e])) h.2 (by simp at hl; omega)
  ·rename_i h
   refine ⟨h58, by simp, hl, fun e => ?_⟩
   simp only [List.head?_cons, Option.some.injEq] at e
   by_cases hr : r = []
   ·rw [hr]; rfl
   ·exact absurd ⟨e, hr⟩ h
theorem at8 (g : Nat) : 58 ∉ a1g g := by
 intro h
 simp only [a1g, List.mem_cons, List.not_mem_nil, or_false] at h
 rcases h with h | h | h | h
 ·exact (a23 (n := g / 4096 % 16) (by omega)).2.2.1 h.symm
 ·exact (a23 (n := g / 256 % 16) (by omega)).2.2.1 h.symm
 ·exact (a23 (n := g / 16 % 16) (by omega)).2.2.1 h.symm
 ·exact (a23 (n := g % 16) (by omega)).2.2.1 h.symm
theorem a2f (g : Nat) : a44 (f8 g) := aZ7 _ (at8 g) (by simp [a1g]) (by simp [a1g])
theorem aw5 (x : List UInt8) : a01 0 (a18 x) = a01 0 x := by
 induction x with
 | nil => rfl
 | cons a r ih =>
  rw [a18]
  split
  ·rename_i h
   rw [ih, h.1, a01, if_pos (by decide)]
   rfl
  ·rfl
theorem av3 (g : Nat) (h : g < 65536) : F9 (f8 g) = some g := by
 obtain ⟨-, h2, h3, -⟩ := a2f g
 have h1 : 1 ≤ (f8 g).length := by
  cases hs : f8 g with
  | nil => exact absurd hs h2
  | cons a r => simp
 rw [F9, if_neg (by omega), f8, aw5]
 have := av2 g h
 rw [F9, if_neg (by simp [a1g])] at this
 exact this
theorem az4 (b : UInt8) (x : List UInt8) (r : List (List UInt8)) (h : x ≠ []) : k8 b (x :: r) ≠ [] := by
 rw [k8]
 split
 ·exact h
 ·simp
theorem av4 (f : Nat → List UInt8) (gs : List Nat) (hl : gs.length ≤ 8) (h58 : ∀ g ∈ gs, 58 ∉ f g) (hne : ∀ g ∈ gs, f g ≠ []) (hg : ∀ g ∈ gs, F9 (f g) = some g) : p9 (k8 58 (gs.map f)) = some gs := by
 cases gs with
 | nil => rfl
 | cons g r =>
  have hs : j0 58 (k8 58 ((g :: r).map f)) = (g :: r).map f := by
   rw [List.map_cons]
   refine ac9 58 _ _ fun l hl => ?_
   rw [← List.map_cons] at hl
   obtain ⟨y, hy, rfl⟩ := List.mem_map.1 hl
   exact h58 y hy
  rw [p9, if_neg (by rw [List.map_cons]; exact az4 _ _ _ (hne g (by simp))), hs, if_neg (by rw [List.length_map]; omega), a7K (k := fun g => g) _ hg]
  simp
theorem a4C (x r : List UInt8) (h : 58 ∉ x) : L9 (x ++ r) = (L9 r).map fun k => k + x.length := by
 induction x with
 | nil => simp
 | cons c x ih =>
  have hc : c ≠ 58 := fun e => h (by rw [e]; simp)
  rw [List.cons_append, L9, if_neg (fun e => hc e.1), ih (fun e => h (by simp [e]))]
  cases L9 r with
  | none => rfl
  | some k => simp only [Option.map_some, List.length_cons]; congr 1
theorem at9 (ls : List (List UInt8)) (h : ∀ l ∈ ls, a44 l) (t : List UInt8) (hn : ls = [] → t = []) :
  L9 (k8 58 ls ++ t) = (L9 t).map fun k => k + (k8 58 ls).length := by
 induction ls with
 | nil => rw [hn rfl]; rfl
 | cons x r ih =>
  obtain ⟨p1, p2, -, -⟩ := h x (by simp)
  cases r with
  | nil => rw [a3T]; exact a4C x t p1
  | cons y r =>
   have hy := h y (by simp)
   have e2 := ih (fun l hl => h l (by simp only [List.mem_cons] at hl ⊢; exact .inr hl)) (fun e => by cases e)
   have hh : (k8 58 (y :: r) ++ t).head? ≠ some 58 := by
    obtain ⟨q1, q2, -, -⟩ := hy
    cases hyy : y with
    | nil => exact absurd hyy q2
    | cons c y' =>
     have hc : c ≠ 58 := fun e => q1 (by rw [hyy, e]; simp)
     rw [k8]
     split <;> simpa using hc
   rw [a3b, List.append_assoc, a4C x _ p1, List.cons_append, L9, if_neg (fun e => hh e.2), e2]
   cases L9 t with
   | none => rfl
   | some k => simp only [Option.map_some, List.length_append, List.length_cons]; congr 1; omega
theorem au0 (ls : List (List UInt8)) (h : ∀ l ∈ ls, a44 l) (t : List UInt8) : L9 (k8 58 ls ++ (58 :: 58 :: t)) = some (k8 58 ls).length := by
 induction ls with
 | nil => rfl
 | cons x r ih =>
  obtain ⟨p1, p2, -, -⟩ := h x (by simp)
  cases r with
  | nil => rw [a3T, a4C x _ p1, L9, if_pos ⟨rfl, rfl⟩]; simp
  | cons y r =>
   have hy := h y (by simp)
   have e2 := ih (fun l hl => h l (by simp only [List.mem_cons] at hl ⊢; exact .inr hl))
   have hh : (k8 58 (y :: r) ++ (58 :: 58 :: t)).head? ≠ some 58 := by
    obtain ⟨q1, q2, -, -⟩ := hy
    cases hyy : y with
    | nil => exact absurd hyy q2
    | cons c y' =>
     have hc : c ≠ 58 := fun e => q1 (by rw [hyy, e]; simp)
     rw [k8]
     split <;> simpa using hc
   rw [a3b, List.append_assoc, a4C x _ p1, List.cons_append, L9, if_neg (fun e => hh e.2), e2]
   simp only [Option.map_some, List.length_append, List.length_cons]; congr 1; omega
theorem b1k (gs : List Nat) : a2k gs ≤ gs.length := (List.takeWhile_sublist _).length_le
theorem b1l (gs : List Nat) : gs.take (a2k gs) = List.replicate (a2k gs) 0 := by
 unfold a2k
 induction gs with
 | nil => rfl
 | cons g r ih =>
  simp only [List.takeWhile_cons]
  split
  ·rename_i h
   simp only [List.length_cons, List.take_succ_cons, List.replicate_succ, ih]
   rw [eq_of_beq h]
  ·rfl
theorem aj7 (gs : List Nat) (i : Nat) (acc : Option (Nat × Nat)) (all : List Nat) (hall : all.drop i = gs) (hi : i ≤ all.length)
  (hacc : ∀ p, acc = some p → 2 ≤ p.2 ∧ p.1 + p.2 ≤ all.length ∧ (all.drop p.1).take p.2 = List.replicate p.2 0) :
  ∀ p, V8 i gs acc = some p → 2 ≤ p.2 ∧ p.1 + p.2 ≤ all.length ∧ (all.drop p.1).take p.2 = List.replicate p.2 0 := by
 induction gs generalizing i acc with
 | nil => exact hacc
 | cons g r ih =>
  rw [V8]
  have hlen : (g :: r).length = all.length - i := by rw [← hall, List.length_drop]
  refine ih (i + 1) _ ?_ (by simp at hlen; omega) ?_
  ·rw [← List.drop_drop, hall]; rfl
  ·intro p hp
   split at hp
   ·rename_i hlt
    simp only [Option.some.injEq] at hp
    subst hp
    have h1 : 1 ≤ a4R acc := by
     cases acc with
     | none => exact Nat.le_refl _
     | some q => have := (hacc q rfl).1; simp only [a4R]; omega
    have h2 := b1k (g :: r)
    refine ⟨by simp only; omega, by simp only; omega, ?_⟩
    simp only
    rw [hall]
    exact b1l _
   ·exact hacc p hp
theorem a5S (gs : List Nat) (p : Nat × Nat) (h : V8 0 gs none = some p) : 2 ≤ p.2 ∧ p.1 + p.2 ≤ gs.length ∧ gs = gs.take p.1 ++ List.replicate p.2 0 ++ gs.drop (p.1 + p.2) := by
 obtain ⟨h1, h2, h3⟩ := aj7 gs 0 none gs rfl (Nat.zero_le _) (fun p hp => by cases hp) p h
 refine ⟨h1, h2, ?_⟩
 rw [← h3, List.append_assoc, ← List.drop_drop, List.take_append_drop, List.take_append_drop]
theorem aL9 (gs : List Nat) (h8 : gs.length = 8) (hg : ∀ g ∈ gs, g < 65536) : J7 (Z0 gs) = some (f9 gs) := by
 have hp : ∀ (zs : List Nat), ∀ l ∈ zs.map f8, a44 l := fun zs l hl => by
  obtain ⟨g, -, rfl⟩ := List.mem_map.1 hl
  exact a2f g
 have hgr : ∀ zs : List Nat, zs.length ≤ 8 → (∀ g ∈ zs, g < 65536) → p9 (k8 58 (zs.map f8)) = some zs := fun zs hz hlt =>
  av4 f8 zs hz (fun g _ => (a2f g).1) (fun g _ => (a2f g).2.1) (fun g hm => av3 g (hlt g hm))
 unfold Z0
 cases hb : V8 0 gs none with
 | none =>
  simp only
  have hgap : L9 (k8 58 (gs.map f8)) = none := by
   have := at9 (gs.map f8) (hp gs) [] (fun _ => rfl)
   simpa [L9] using this
  rw [J7, hgap]
  simp only
  rw [hgr gs (by omega) hg]
  simp [h8]
 | some p =>
  obtain ⟨h1, h2, h3⟩ := a5S gs p hb
  simp only
  rw [J7, au0 _ (hp _)]
  simp only
  rw [List.take_left, show (k8 58 ((gs.take p.1).map f8)).length + 2 = (k8 58 ((gs.take p.1).map f8)).length + 2 from rfl, ← List.drop_drop, List.drop_left]
  simp only [List.drop_succ_cons, List.drop_zero]
  rw [hgr _ (by rw [List.length_take]; omega) (fun g hm => hg g (List.mem_of_mem_take hm)), hgr _ (by rw [List.length_drop]; omega) (fun g hm => hg g (List.mem_of_mem_drop hm))]
  simp only [Option.bind_some, List.length_take, List.length_drop]
  rw [if_pos (by omega), show 8 - min p.1 gs.length - (gs.length - (p.1 + p.2)) = p.2 by omega, ← h3]
theorem a2w (b : UInt8) (ls : List (List UInt8)) (k : Nat) (h : ∀ l ∈ ls, l.length ≤ k) : (k8 b ls).length ≤ (k + 1) * ls.length := by
 induction ls with
 | nil => simp [k8]
 | cons x r ih =>
  have h1 := h x (by simp)
  have h2 := ih (fun l hl => h l (by simp [hl]))
  rw [k8]
  split
  ·simp only [List.length_cons]
   have : (k + 1) * (r.length + 1) = (k + 1) * r.length + (k + 1) := by rw [Nat.mul_succ]
   omega
  ·simp only [List.length_append, List.length_cons]
   have : (k + 1) * (r.length + 1) = (k + 1) * r.length + (k + 1) := by rw [Nat.mul_succ]
   omega
theorem az3 (b : UInt8) (ls : List (List UInt8)) (k : Nat) (h : ∀ l ∈ ls, l.length ≤ k) (hne : ls ≠ []) : (k8 b ls).length + 1 ≤ (k + 1) * ls.length := by
 induction ls with
 | nil => exact absurd rfl hne
 | cons x r ih =>
  have h1 := h x (by simp)
  rw [k8]
  have : (k + 1) * (r.length + 1) = (k + 1) * r.length + (k + 1) := by rw [Nat.mul_succ]
  split
  ·simp only [List.length_cons]
   omega
  ·rename_i hr
   have h2 := ih (fun l hl => h l (by simp [hl])) hr
   simp only [List.length_append, List.length_cons]
   omega
theorem aQ0 (gs : List Nat) (h8 : gs.length = 8) : (Z0 gs).length ≤ 39 := by
 have hp : ∀ (zs : List Nat), ∀ l ∈ zs.map f8, l.length ≤ 4 := fun zs l hl => by
  obtain ⟨g, -, rfl⟩ := List.mem_map.1 hl
  exact (a2f g).2.2.1
 unfold Z0
 cases hb : V8 0 gs none with
 | none =>
  simp only
  have := az3 58 (gs.map f8) 4 (hp gs) (by intro e; have := congrArg List.length e; simp at this; rw [this] at h8; simp at h8)
  rw [List.length_map] at this
  omega
 | some p =>
  obtain ⟨h1, h2, -⟩ := a5S gs p hb
  have e1 := a2w 58 ((gs.take p.1).map f8) 4 (hp _)
  have e2 := a2w 58 ((gs.drop (p.1 + p.2)).map f8) 4 (hp _)
  rw [List.length_map, List.length_take] at e1
  rw [List.length_map, List.length_drop] at e2
  simp only [List.length_append, List.length_cons]
  omega
structure In where
 code : UInt16
 jt : UInt8
 jf : UInt8
 k : UInt32
def In.cells (x : In) : List Value := [.int .u16 (x.code.toNat : Int), .int .u8 (x.jt.toNat : Int), .int .u8 (x.jf.toNat : Int), .int .u32 (x.k.toNat : Int)]
def flat (xs : List In) : List Value := xs.flatMap In.cells
theorem T0 {w : World} {base e size n : Nat} {v : Value} {vs : List Value} (h : w.ownsRow base e size v n vs) :
  ∃ ao cap, v = .slice ao n cap ∧ CV w ao vs ∧ n ≤ cap ∧ cap ≤ maxLen ∧ (ao = none → cap = 0) ∧ (∀ ad, ao = some ad → base ≤ ad.block ∧ ad.block < w.heap.size) ∧ v.ownBlock = ao.map (·.block) := by
 have hl := h.lt
 have h0 := h.1
 rcases h.2 with ⟨rfl, hn⟩ | ⟨g, cap, cur, rfl, hb, hg, hc, hm, hs, ht⟩
 ·subst hn
  refine ⟨none, 0, rfl, ⟨fun _ => List.eq_nil_of_length_eq_zero (by simpa using h0), fun ad had => (by cases had)⟩, by omega, Nat.zero_le _, fun _ => rfl, fun ad had => (by cases had), rfl⟩
 ·refine ⟨some ⟨g, 0, none⟩, cap, rfl, ⟨fun h => (by cases h), fun ad had i hi => ?_⟩, hc, hm, fun h => (by cases h), fun ad had => ?_, rfl⟩
  ·obtain rfl := Option.some.inj had
   exact h.cells (g := g) rfl i _ (by simp [hi])
  ·obtain rfl := Option.some.inj had
   exact hl g rfl
theorem a9E {w : World} {base e size n : Nat} {v : Value} {vs : List Value} (h : w.ownsRow base e size v n vs) (hn : 0 < n) :
  ∃ g cap, v = .slice (some ⟨g, 0, none⟩) n cap ∧ n ≤ cap ∧ cap ≤ maxLen ∧ base ≤ g ∧ g < w.heap.size := by
 have hl := h.lt
 rcases h.2 with ⟨rfl, hn⟩ | ⟨g, cap, cur, rfl, hb, hg, hc, hm, hs, ht⟩
 ·omega
 ·exact ⟨g, cap, rfl, hc, hm, (hl g rfl).1, (hl g rfl).2⟩
theorem a19 {P : Program} {w : World} {ops : Array Oper} {rest : List Oper} {o : Oper} {a : Act} {Q : Exit → Act → World → Prop} (hgd : o.guard = none) (s x : Operand) (t : TypeId)
  (ho : o.op = .call { callee := .builtin .append, args := #[s, x], argTypes := #[t, t] })
  (e : TypeId) (i : TypeInfo) (z : Value) (size bytes : Nat) (ht : P.underlying t = some (.slice e)) (hi : P.info? e = some i) (hz : i.zero = some z) (hsize : i.size = size) (hby : i.bytes = bytes) (hzs : z.cells.size = size) (hsz : 0 < size)
  (base : Nat) (v : Value) (n : Nat) (vs : List Value) (hs : a.eval s = v) (hown : w.ownsRow base e size v n vs)
  (ao : Option Addr) (m c : Nat) (us : List Value) (hx : a.eval x = .slice ao m c) (hl : us.length = m * size) (hc0 : ao = none → c = 0) (hus : CV w ao us) (h1 : ∀ u ∈ us, u.oneCell' = true)
  (h63 : n + m ≤ maxLen) (hbytes : (n + m) * bytes ≤ 140737488355328) (hbase : base ≤ w.heap.size)
  (h : ∀ v' w', w'.ownsRow base e size v' (n + m) (vs ++ us) → w.grownBy w' v.ownBlock → wpList P ops Q rest (a.put o.dst v') w') : wpList P ops Q (o :: rest) a w := by
 cases ao with
 | none =>
  have e0 := hus.1 rfl
  subst e0
  have e1 := hc0 rfl
  subst e1
  have e2 : m = 0 := by
   rcases Nat.mul_eq_zero.1 hl.symm with h | h
   ·exact h
   ·omega
  subst e2
  refine wpList_append_own_none hgd s x t ho base e i size ht hi v n vs hs hown hx (h v w (by simpa using hown) (World.grownBy.refl _ _))
 | some ad =>
  refine wpList_append_own w hgd s x t ho base e i z size bytes ht hi hz hsize hby hzs hsz v n vs hs hown ad m c us hx hl ?_ h1 h63 hbytes hbase fun v' w' h1 h2 _ => h v' w' h1 h2
  intro j u hj
  obtain ⟨hlt, e⟩ := List.getElem?_eq_some_iff.1 hj
  rw [hus.2 ad rfl j hlt, e]
def N7 (w : World) (e : TypeId) (g n : Nat) : Prop := ∃ cur : Array Value, w.heap[g]? = some (.cells cur e (0, 0)) ∧ cur.size = n
theorem N7.cell {w : World} {e : TypeId} {g n : Nat} (h : N7 w e g n) {i : Nat} (hi : i < n) : ∃ u, w.cell? ⟨g, i, none⟩ = some u := by
 obtain ⟨cur, hh, hs⟩ := h
 refine ⟨cur[i], ?_⟩
 rw [cell_of_row w g i cur _ _ hh]
 simp
theorem N7.free {w : World} {e : TypeId} {g n : Nat} (h : N7 w e g n) (i : Nat) : w.frozen? ⟨g, i, none⟩ = false := by
 obtain ⟨cur, hh, hs⟩ := h
 simp [World.frozen?, hh]
theorem N7.lt {w : World} {e : TypeId} {g n : Nat} (h : N7 w e g n) : g < w.heap.size := by
 obtain ⟨cur, hh, hs⟩ := h
 exact (Array.getElem?_eq_some_iff.1 hh).1
theorem N7.setCell {w : World} {e : TypeId} {g n : Nat} (h : N7 w e g n) (a : Addr) (u : Value) : N7 (w.setCell a u) e g n := by
 obtain ⟨cur, hh, hs⟩ := h
 by_cases e : g = a.block
 ·subst e
  by_cases hsp : a.spot.isSome = true
  ·refine ⟨cur, ?_, hs⟩
   simp only [World.setCell, Array.getElem?_modify, hh]
   simp [hsp]
  ·refine ⟨cur.setIfInBounds a.off u, ?_, by simpa using hs⟩
   simp only [World.setCell, Array.getElem?_modify, hh]
   simp [hsp]
 ·exact ⟨cur, by rw [Below.heap_setCell _ _ _ _ e]; exact hh, hs⟩
theorem N7.kept {w w' : World} {e : TypeId} {g n : Nat} {row : Option Nat} (h : N7 w e g n) (hg : w.grownBy w' row) (hne : some g ≠ row) : N7 w' e g n := by
 have hl := h.lt
 obtain ⟨cur, hh, hs⟩ := h
 exact ⟨cur, by rw [hg.block g hl hne]; exact hh, hs⟩
theorem N7.ofRow {w : World} {base e size g n cap : Nat} {xs : List Value} (h : w.ownsRow base e size (.slice (some ⟨g, 0, none⟩) n cap) n xs) : N7 w e g (cap * size) ∧ n ≤ cap ∧ cap ≤ maxLen := by
 rcases h.2 with ⟨h, _⟩ | ⟨g', cap', cur, hv, hb, hg, hc, hm, hs, ht⟩
 ·cases h
 ·simp only [Value.slice.injEq, Option.some.injEq, Addr.mk.injEq] at hv
  obtain ⟨⟨rfl, _⟩, _, rfl⟩ := hv
  exact ⟨⟨cur, hg, hs⟩, hc, hm⟩
theorem N7.row {w : World} {e size g cap : Nat} (h : N7 w e g (cap * size)) (n : Nat) (hn : n ≤ cap) (hm : cap ≤ maxLen) : ∃ xs : List Value, w.ownsRow 0 e size (.slice (some ⟨g, 0, none⟩) n cap) n xs := by
 obtain ⟨cur, hh, hs⟩ := h
 have hle : n * size ≤ cap * size := Nat.mul_le_mul_right _ hn
 exact ⟨cur.toList.take (n * size), by rw [List.length_take, Array.length_toList, hs]; omega, .inr ⟨g, cap, cur, rfl, Nat.zero_le _, hh, hn, hm, hs, rfl⟩⟩
def sl (s : ByteArray) : List UInt8 := s.data.toList
theorem o8 (s : ByteArray) : (sl s).length = s.size := by simp [sl]
theorem a2h (xs : List UInt8) : sl ⟨xs.toArray⟩ = xs := rfl
theorem a0X (s : ByteArray) : Value.string s = str (sl s) := by simp [sl, str]
theorem a0w (s : ByteArray) (k : Nat) (hk : k < s.size) : (sl s).drop k = s[k] :: (sl s).drop (k + 1) := by
 rw [List.drop_eq_getElem_cons (by rw [o8]; exact hk)]
 rfl
theorem a2O (s : ByteArray) (i k : Nat) : sl (s.extract i k) = ((sl s).drop i).take (k - i) := by
 simp [sl, ByteArray.data_extract, Array.toList_extract, List.extract]
theorem a6H {most : Nat} : ∀ (v : Nat) (d : List UInt8) (n : Nat), v ≤ most → J3 most v d = some n → n ≤ most
 | v, [], n, hv, h => by simp [J3] at h; omega
 | v, c :: d, n, hv, h => by
  rw [J3] at h
  split at h
  ·split at h
   ·cases h
   ·exact a6H _ d n (by omega) h
  ·cases h
theorem aJ1 {most n : Nat} {d : List UInt8} (h : A9 most d = some n) : n ≤ most := by
 unfold A9 at h
 split at h
 ·cases h
 ·exact a6H 0 d n (Nat.zero_le _) h
theorem aw0 (s : List UInt8) (v n : Nat) (h : a01 v s = some n) : n < (v + 1) * 16 ^ s.length := by
 induction s generalizing v with
 | nil => simp [a01] at h; subst h; simp
 | cons c r ih =>
  rw [a01] at h
  split at h
  ·have h1 := ih _ h
   have h2 := a65 c.toNat
   have h3 : (16 * v + y9 c.toNat + 1) * 16 ^ r.length ≤ (16 * (v + 1)) * 16 ^ r.length := Nat.mul_le_mul_right _ (by omega)
   rw [List.length_cons, Nat.pow_succ, Nat.mul_comm (16 ^ r.length) 16, ← Nat.mul_assoc, Nat.mul_comm (v + 1) 16]
   omega
  ·cases h
theorem a8N {s : List UInt8} {n : Nat} (h : F9 s = some n) : n < 65536 := by
 unfold F9 at h
 split at h
 ·cases h
 ·have h1 := aw0 s 0 n h
  have h2 : 16 ^ s.length ≤ 16 ^ 4 := Nat.pow_le_pow_right (by decide) (by omega)
  omega
def a6g : Option Nat → Int
 | none => -1
 | some k => k
theorem a91 : (Tryz.prog.info? 3).map (fun i => (i.zero, i.size, i.bytes)) = some (some (.int .i64 0), 1, 8) := by kernel_rfl
theorem ax2 (b : UInt8) (s : List UInt8) (h : b ∉ s) : Lib.index s [b] = -1 := by
 induction s with
 | nil => rfl
 | cons c r ih =>
  have hc : (b == c) = false := by rw [beq_eq_false_iff_ne]; intro e; exact h (by rw [e]; simp)
  rw [Lib.index, show ([b] : List UInt8).isPrefixOf (c :: r) = false by simp [List.isPrefixOf, hc], ih (fun e => h (by simp [e]))]
  rfl
theorem ax1 (b : UInt8) (x y : List UInt8) (h : b ∉ x) : Lib.index (x ++ b :: y) [b] = (x.length : Int) := by
 induction x with
 | nil => simp [Lib.index, List.isPrefixOf]
 | cons c r ih =>
  have hc : (b == c) = false := by rw [beq_eq_false_iff_ne]; intro e; exact h (by rw [e]; simp)
  rw [List.cons_append, Lib.index, show ([b] : List UInt8).isPrefixOf (c :: (r ++ b :: y)) = false by simp [List.isPrefixOf, hc], ih (fun e => h (by simp [e]))]
  have : ((r.length : Int) == -1) = false := by rw [beq_eq_false_iff_ne]; omega
  rw [this]
  simp
theorem ao9 (b : UInt8) (s : List UInt8) : (Lib.cut s [b] = (s, [], false) ∧ j0 b s = [s]) ∨ (∃ x y, Lib.cut s [b] = (x, y, true) ∧ j0 b s = x :: j0 b y ∧ x.length + y.length + 1 = s.length) := by
 by_cases h : b ∈ s
 ·right
  obtain ⟨x, y, rfl, hx⟩ := List.eq_append_cons_of_mem h
  refine ⟨x, y, ?_, ?_, ?_⟩
  ·rw [Lib.cut, ax1 b x y hx, if_pos (by omega)]
   simp only [Int.toNat_natCast, List.take_left, List.length_cons, List.length_nil]
   rw [← List.drop_drop, List.drop_left]
   rfl
  ·unfold j0
   rw [ac7 b [] x y hx]
   rfl
  ·simp
   omega
 ·left
  refine ⟨?_, ?_⟩
  ·rw [Lib.cut, ax2 b s h, if_neg (by decide)]
  ·unfold j0
   rw [ac8 b [] s h]
   rfl
theorem a8Z (s : List UInt8) : Lib.index s [58, 58] = a6g (L9 s) := by
 induction s with
 | nil => rfl
 | cons a r ih =>
  rw [Lib.index, L9, ih]
  by_cases h : a = 58 ∧ r.head? = some 58
  ·rw [if_pos h]
   obtain ⟨rfl, h2⟩ := h
   cases r with
   | nil => cases h2
   | cons c r =>
    simp only [List.head?_cons, Option.some.injEq] at h2
    subst h2
    rw [if_pos (by simp [List.isPrefixOf])]
    rfl
  ·rw [if_neg h]
   have hp : ([58, 58] : List UInt8).isPrefixOf (a :: r) = false := by
    cases r with
    | nil => simp [List.isPrefixOf]
    | cons c r =>
     simp only [List.head?_cons, Option.some.injEq] at h
     by_cases ha : a = 58
     ·have hc : ((58 : UInt8) == c) = false := by rw [beq_eq_false_iff_ne]; intro e; exact h ⟨ha, e.symm⟩
      simp [List.isPrefixOf, hc]
     ·have hc : ((58 : UInt8) == a) = false := by rw [beq_eq_false_iff_ne]; intro e; exact ha e.symm
      simp [List.isPrefixOf, hc]
   rw [hp]
   cases L9 r with
   | none => rfl
   | some k =>
    have : (((k : Nat) : Int) == -1) = false := by rw [beq_eq_false_iff_ne]; omega
    simp only [a6g, Option.map_some, this, Bool.false_eq_true, if_false]
    omega
theorem ao7 (s : List UInt8) (h : L9 s = none) : Lib.cut s [58, 58] = (s, [], false) := by
 rw [Lib.cut, a8Z, h]
 rfl
theorem ao8 (s : List UInt8) (k : Nat) (h : L9 s = some k) : Lib.cut s [58, 58] = (s.take k, s.drop (k + 2), true) := by
 rw [Lib.cut, a8Z, h]
 simp [a6g]
def m7 {α : Type} : Nat → List α → List (Nat × α)
 | _, [] => []
 | i, x :: r => (i, x) :: m7 (i + 1) r
theorem a2C {α : Type} (i : Nat) (l : List α) : (m7 i l).length = l.length := by
 induction l generalizing i with
 | nil => rfl
 | cons x r ih => rw [m7, List.length_cons, List.length_cons, ih]
theorem a4Z {α : Type} (i : Nat) (l : List α) : (m7 i l).map (·.2) = l := by
 induction l generalizing i with
 | nil => rfl
 | cons x r ih => rw [m7, List.map_cons, ih]
theorem a4Y {α : Type} (i : Nat) (a b : List α) : m7 i (a ++ b) = m7 i a ++ m7 (i + a.length) b := by
 induction a generalizing i with
 | nil => simp [m7]
 | cons x r ih => rw [List.cons_append, m7, m7, ih, List.length_cons, List.cons_append, show i + 1 + r.length = i + (r.length + 1) by omega]
theorem a6F {α : Type} (i : Nat) (l : List α) (j : Nat) (h : j < l.length) : (m7 i l)[j]? = some (i + j, l[j]) := by
 induction l generalizing i j with
 | nil => simp at h
 | cons x r ih =>
  cases j with
  | zero => rfl
  | succ j =>
   rw [m7, List.getElem?_cons_succ, ih (i + 1) j (by simpa using h)]
   simp
   omega
end Go.Proofs.YtklipelnjgpnjaaGreatDoor
