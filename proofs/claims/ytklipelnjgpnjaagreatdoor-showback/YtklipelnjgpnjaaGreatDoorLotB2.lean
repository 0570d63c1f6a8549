import Derived.Test.YtklipelnjgpnjaaGreatDoorLotB1
import Derived.Lib.IndexMore
namespace Go.Proofs.YtklipelnjgpnjaaGreatDoor
open Go.RowKit
set_option maxRecDepth 100000
def a0U (b : UInt8) : List UInt8 → List UInt8 → List (List UInt8)
 | cur, [] => [cur]
 | cur, c :: r => if c = b then cur :: a0U b [] r else a0U b (cur ++ [c]) r
def j5 (b : UInt8) (s : List UInt8) : List (List UInt8) := a0U b [] s
theorem a7d (b : UInt8) (cur s : List UInt8) : (a0U b cur s).length ≤ s.length + 1 := by
 induction s generalizing cur with
 | nil => simp [a0U]
 | cons c r ih =>
  rw [a0U]
  split
  ·have := ih []; simp; omega
  ·have := ih (cur ++ [c]); simp; omega
def l9 (b : UInt8) : List (List UInt8) → List UInt8
 | [] => []
 | x :: r => if r = [] then x else x ++ b :: l9 b r
theorem a3T (b : UInt8) (x : List UInt8) : l9 b [x] = x := by simp [l9]
theorem a3d (b : UInt8) (x y : List UInt8) (r : List (List UInt8)) : l9 b (x :: y :: r) = x ++ b :: l9 b (y :: r) := by
 rw [l9, if_neg (by simp)]
theorem az9 (b : UInt8) (ls : List (List UInt8)) (x : List UInt8) : l9 b (ls ++ [x]) = if ls = [] then x else l9 b ls ++ (b :: x) := by
 induction ls with
 | nil => simp [l9]
 | cons y r ih =>
  rw [if_neg (by simp), List.cons_append, l9, if_neg (by simp), ih]
  split
  ·rename_i h
   subst h
   rw [a3T]
  ·rename_i h
   rw [l9, if_neg h]
   simp
theorem ad2 (b : UInt8) (cur x : List UInt8) (h : b ∉ x) : a0U b cur x = [cur ++ x] := by
 induction x generalizing cur with
 | nil => simp [a0U]
 | cons c r ih =>
  have hc : c ≠ b := fun e => h (by rw [e]; simp)
  rw [a0U, if_neg hc, ih _ (fun e => h (by simp [e]))]
  simp
theorem ad1 (b : UInt8) (cur x r : List UInt8) (h : b ∉ x) : a0U b cur (x ++ b :: r) = (cur ++ x) :: a0U b [] r := by
 induction x generalizing cur with
 | nil => simp [a0U]
 | cons c x ih =>
  have hc : c ≠ b := fun e => h (by rw [e]; simp)
  rw [List.cons_append, a0U, if_neg hc, ih _ (fun e => h (by simp [e]))]
  simp
theorem ad3 (b : UInt8) (x : List UInt8) (ls : List (List UInt8)) (h : ∀ l ∈ x :: ls, b ∉ l) : j5 b (l9 b (x :: ls)) = x :: ls := by
 unfold j5
 induction ls generalizing x with
 | nil => rw [a3T, ad2 b [] x (h x (by simp))]; rfl
 | cons y r ih =>
  rw [a3d, ad1 b [] x _ (h x (by simp)), ih y (fun l hl => h l (by simp only [List.mem_cons] at hl ⊢; exact .inr hl))]
  rfl
def S9 {α β : Type} (f : α → Option β) : List α → Option (List β)
 | [] => some []
 | x :: r => (f x).bind fun v => (S9 f r).map fun vs => v :: vs
theorem a7O {α β : Type} {f : α → Option β} {xs : List α} {vs : List β} (h : S9 f xs = some vs) : vs.length = xs.length := by
 induction xs generalizing vs with
 | nil => simp [S9] at h; subst h; rfl
 | cons x r ih =>
  simp only [S9] at h
  cases hx : f x with
  | none => rw [hx] at h; cases h
  | some v =>
   rw [hx] at h
   cases hr : S9 f r with
   | none => rw [hr] at h; cases h
   | some us =>
    rw [hr] at h
    simp only [Option.bind_some, Option.map_some, Option.some.injEq] at h
    subst h
    simp [ih hr]
theorem a7P {α β γ : Type} {f : α → Option β} {g : γ → α} {k : γ → β} (xs : List γ) (h : ∀ x ∈ xs, f (g x) = some (k x)) : S9 f (xs.map g) = some (xs.map k) := by
 induction xs with
 | nil => rfl
 | cons x r ih => simp only [List.map_cons, S9, h x (by simp), ih (fun y hy => h y (by simp [hy])), Option.bind_some, Option.map_some]
theorem ai5 {α β : Type} {f : α → Option β} {xs : List α} {i : Nat} (hi : i < xs.length) (h : f xs[i] = none) : S9 f xs = none := by
 induction xs generalizing i with
 | nil => simp at hi
 | cons x r ih =>
  simp only [S9]
  cases i with
  | zero => rw [show f x = none from h]; rfl
  | succ i =>
   rw [ih (i := i) (by simpa using hi) (by simpa using h)]
   cases f x <;> rfl
def M5 (s : List UInt8) : Option (List UInt8) := if (j5 46 s).length = 4 then (S9 (D2 255) (j5 46 s)).map fun ns => ns.map UInt8.ofNat else none
def S8 (a : List UInt8) : List UInt8 := l9 46 (a.map fun x => dec x.toNat)
theorem aq9 (b : UInt8) (hb : D8 b = false) (n : Nat) (h : n < 10 ^ 20) : b ∉ dec n := fun hm => by
 have := a3P n h b hm
 rw [hb] at this
 cases this
theorem aL9 (a : List UInt8) (h : a.length = 4) : M5 (S8 a) = some a := by
 have hs : j5 46 (S8 a) = a.map fun x => dec x.toNat := by
  match a, h with
  | x :: r, _ =>
   refine ad3 46 _ _ fun l hl => ?_
   have hl' : l ∈ (x :: r).map fun x => dec x.toNat := hl
   obtain ⟨y, hy, rfl⟩ := List.mem_map.1 hl'
   exact aq9 46 (by decide) _ (by have := y.toNat_lt; omega)
 rw [M5, hs, if_pos (by simpa using h), a7P (k := fun x : UInt8 => x.toNat) a (fun x hx => a9A 255 _ (by have := x.toNat_lt; omega) (by have := x.toNat_lt; omega))]
 have e : (UInt8.ofNat ∘ fun x : UInt8 => x.toNat) = id := by funext x; simp
 simp [e]
def Z7 : Nat → List UInt8 → Option Nat
 | v, [] => some v
 | v, c :: r => if J6 c.toNat = true then Z7 (16 * v + z6 c.toNat) r else none
def I1 (s : List UInt8) : Option Nat := if s.length < 1 ∨ 4 < s.length then none else Z7 0 s
def r9 (s : List UInt8) : Option (List Nat) := if s = [] then some [] else if 8 < (j5 58 s).length then none else S9 I1 (j5 58 s)
def M4 : List UInt8 → Option Nat
 | [] => none
 | a :: r => if a = 58 ∧ r.head? = some 58 then some 0 else (M4 r).map fun k => k + 1
def j4 (gs : List Nat) : List UInt8 := gs.flatMap fun g => [UInt8.ofNat (g / 256), UInt8.ofNat g]
def L1 (s : List UInt8) : Option (List UInt8) := match M4 s with
 | none => (r9 s).bind fun x => if x.length = 8 then some (j4 x) else none
 | some k => (r9 (s.take k)).bind fun x => (r9 (s.drop (k + 2))).bind fun y => if x.length + y.length ≤ 7 then some (j4 (x ++ List.replicate (8 - x.length - y.length) 0 ++ y)) else none
def d8 : List UInt8 → List Nat
 | h :: l :: r => (256 * h.toNat + l.toNat) :: d8 r
 | _ => []
theorem a6Q (a : List UInt8) : ∀ g ∈ d8 a, g < 65536 := by
 intro g hg
 induction a using d8.induct with
 | case1 h l r ih =>
  rw [d8] at hg
  rcases List.mem_cons.1 hg with rfl | hg
  ·have := h.toNat_lt; have := l.toNat_lt; omega
  ·exact ih hg
 | case2 a hn =>
  rw [d8] at hg
  ·cases hg
  ·exact hn
theorem a3s : ∀ (n : Nat) (a : List UInt8), a.length = 2 * n → (d8 a).length = n
 | 0, [], _ => rfl
 | n + 1, h :: l :: r, e => by rw [d8, List.length_cons, a3s n r (by simp at e; omega)]
theorem a8h : ∀ (n : Nat) (a : List UInt8), a.length = 2 * n → j4 (d8 a) = a
 | 0, [], _ => rfl
 | n + 1, h :: l :: r, e => by
  have h1 := h.toNat_lt
  have h2 := l.toNat_lt
  have e1 : UInt8.ofNat ((256 * h.toNat + l.toNat) / 256) = h := by
   rw [show (256 * h.toNat + l.toNat) / 256 = h.toNat by omega]; simp
  have e2 : UInt8.ofNat (256 * h.toNat + l.toNat) = l := by
   apply UInt8.toNat_inj.1
   simp
  rw [d8, j4, List.flatMap_cons, e1, e2, ← j4, a8h n r (by simp at e; omega)]
  simp
def a2k (gs : List Nat) : Nat := (gs.takeWhile fun g => g == 0).length
def a4X : Option (Nat × Nat) → Nat
 | none => 1
 | some p => p.2
def V6 : Nat → List Nat → Option (Nat × Nat) → Option (Nat × Nat)
 | _, [], acc => acc
 | i, g :: r, acc => V6 (i + 1) r (if a4X acc < a2k (g :: r) then some (i, a2k (g :: r)) else acc)
def a17 : List UInt8 → List UInt8
 | [] => []
 | a :: r => if a = 48 ∧ r ≠ [] then a17 r else a :: r
def a1f (g : Nat) : List UInt8 := [I5 (g / 4096 % 16), I5 (g / 256 % 16), I5 (g / 16 % 16), I5 (g % 16)]
def j3 (g : Nat) : List UInt8 := a17 (a1f g)
def W8 (gs : List Nat) : List UInt8 := match V6 0 gs none with
 | none => l9 58 (gs.map j3)
 | some p => l9 58 ((gs.take p.1).map j3) ++ (58 :: 58 :: l9 58 ((gs.drop (p.1 + p.2)).map j3))
theorem a22 {n : Nat} (h : n < 16) : J6 (I5 n).toNat = true ∧ z6 (I5 n).toNat = n ∧ I5 n ≠ 58 ∧ (I5 n = 48 → n = 0) := by
 have key : ∀ j : Fin 16, J6 (I5 j.val).toNat = true ∧ z6 (I5 j.val).toNat = j.val ∧ I5 j.val ≠ 58 ∧ (I5 j.val = 48 → j.val = 0) := by decide +kernel
 exact key ⟨n, h⟩
theorem a4O (v n : Nat) (h : n < 16) (r : List UInt8) : Z7 v (I5 n :: r) = Z7 (16 * v + n) r := by
 rw [Z7, if_pos (a22 h).1, (a22 h).2.1]
theorem av6 (g : Nat) (h : g < 65536) : I1 (a1f g) = some g := by
 rw [I1, if_neg (by simp [a1f]), a1f, a4O _ _ (by omega), a4O _ _ (by omega), a4O _ _ (by omega), a4O _ _ (by omega), Z7]
 congr 1
 omega
def a47 (x : List UInt8) : Prop := 58 ∉ x ∧ x ≠ [] ∧ x.length ≤ 4 ∧ (x.head? = some 48 → x.length = 1)
theorem aZ4 (x : List UInt8) (h58 : 58 ∉ x) (hne : x ≠ []) (hl : x.length ≤ 4) : a47 (a17 x) := by
 induction x with
 | nil => exact absurd rfl hne
 | cons a r ih =>
  rw [a17]
  split
  ·rename_i h
   exact ih (fun e => h58 (by simp [e])) h.2 (by simp at hl; omega)
  ·rename_i h
   refine ⟨h58, by simp, hl, fun e => ?_⟩
   simp only [List.head?_cons, Option.some.injEq] at e
   by_cases hr : r = []
   ·rw [hr]; rfl
   ·exact absurd ⟨e, hr⟩ h
theorem au7 (g : Nat) : 58 ∉ a1f g := by
 intro h
 simp only [a1f, List.mem_cons, List.not_mem_nil, or_false] at h
 rcases h with h | h | h | h
 ·exact (a22 (n := g / 4096 % 16) (by omega)).2.2.1 h.symm
 ·exact (a22 (n := g / 256 % 16) (by omega)).2.2.1 h.symm
 ·exact (a22 (n := g / 16 % 16) (by omega)).2.2.1 h.symm
 ·exact (a22 (n := g % 16) (by omega)).2.2.1 h.symm
theorem a2f (g : Nat) : a47 (j3 g) := aZ4 _ (au7 g) (by simp [a1f]) (by simp [a1f])
theorem aw8 (x : List UInt8) : Z7 0 (a17 x) = Z7 0 x := by
 induction x with
 | nil => rfl
 | cons a r ih =>
  rw [a17]
  split
  ·rename_i h
   rw [ih, h.1, Z7, if_pos (by decide)]
   rfl
  ·rfl
theorem av7 (g : Nat) (h : g < 65536) : I1 (j3 g) = some g := by
 obtain ⟨-, h2, h3, -⟩ := a2f g
 have h1 : 1 ≤ (j3 g).length := by
  cases hs : j3 g with
  | nil => exact absurd hs h2
  | cons a r => simp
 rw [I1, if_neg (by omega), j3, aw8]
 have := av6 g h
 rw [I1, if_neg (by simp [a1f])] at this
 exact this
theorem az8 (b : UInt8) (x : List UInt8) (r : List (List UInt8)) (h : x ≠ []) : l9 b (x :: r) ≠ [] := by
 rw [l9]
 split
 ·exact h
 ·simp
theorem av8 (f : Nat → List UInt8) (gs : List Nat) (hl : gs.length ≤ 8) (h58 : ∀ g ∈ gs, 58 ∉ f g) (hne : ∀ g ∈ gs, f g ≠ []) (hg : ∀ g ∈ gs, I1 (f g) = some g) : r9 (l9 58 (gs.map f)) = some gs := by
 cases gs with
 | nil => rfl
 | cons g r =>
  have hs : j5 58 (l9 58 ((g :: r).map f)) = (g :: r).map f := by
   rw [List.map_cons]
   refine ad3 58 _ _ fun l hl => ?_
   rw [← List.map_cons] at hl
   obtain ⟨y, hy, rfl⟩ := List.mem_map.1 hl
   exact h58 y hy
  rw [r9, if_neg (by rw [List.map_cons]; exact az8 _ _ _ (hne g (by simp))), hs, if_neg (by rw [List.length_map]; omega), a7P (k := fun g => g) _ hg]
  simp
theorem a4I (x r : List UInt8) (h : 58 ∉ x) : M4 (x ++ r) = (M4 r).map fun k => k + x.length := by
 induction x with
 | nil => simp
 | cons c x ih =>
  have hc : c ≠ 58 := fun e => h (by rw [e]; simp)
  rw [List.cons_append, M4, if_neg (fun e => hc e.1), ih (fun e => h (by simp [e]))]
  cases M4 r with
  | none => rfl
  | some k => simp only [Option.map_some, List.length_cons]; congr 1
theorem au8 (ls : List (List UInt8)) (h : ∀ l ∈ ls, a47 l) (t : List UInt8) (hn : ls = [] → t = []) :
  M4 (l9 58 ls ++ t) = (M4 t).map fun k => k + (l9 58 ls).length := by
 induction ls with
 | nil => rw [hn rfl]; rfl
 | cons x r ih =>
  obtain ⟨p1, p2, -, -⟩ := h x (by simp)
  cases r with
  | nil => rw [a3T]; exact a4I x t p1
  | cons y r =>
   have hy := h y (by simp)
   have e2 := ih (fun l hl => h l (by simp only [List.mem_cons] at hl ⊢; exact .inr hl)) (fun e => by cases e)
   have hh : (l9 58 (y :: r) ++ t).head? ≠ some 58 := by
    obtain ⟨q1, q2, -, -⟩ := hy
    cases hyy : y with
    | nil => exact absurd hyy q2
    | cons c y' =>
     have hc : c ≠ 58 := fun e => q1 (by rw [hyy, e]; simp)
     rw [l9]
     split <;> simpa using hc
   rw [a3d, List.append_assoc, a4I x _ p1, List.cons_append, M4, if_neg (fun e => hh e.2), e2]
   cases M4 t with
   | none => rfl
   | some k => simp only [Option.map_some, List.length_append, List.length_cons]; congr 1; omega
theorem au9 (ls : List (List UInt8)) (h : ∀ l ∈ ls, a47 l) (t : List UInt8) : M4 (l9 58 ls ++ (58 :: 58 :: t)) = some (l9 58 ls).length := by
 induction ls with
 | nil => rfl
 | cons x r ih =>
  obtain ⟨p1, p2, -, -⟩ := h x (by simp)
  cases r with
  | nil => rw [a3T, a4I x _ p1, M4, if_pos ⟨rfl, rfl⟩]; simp
  | cons y r =>
   have hy := h y (by simp)
   have e2 := ih (fun l hl => h l (by simp only [List.mem_cons] at hl ⊢; exact .inr hl))
   have hh : (l9 58 (y :: r) ++ (58 :: 58 :: t)).head? ≠ some 58 := by
    obtain ⟨q1, q2, -, -⟩ := hy
    cases hyy : y with
    | nil => exact absurd hyy q2
    | cons c y' =>
     have hc : c ≠ 58 := fun e => q1 (by rw [hyy, e]; simp)
     rw [l9]
     split <;> simpa using hc
   rw [a3d, List.append_assoc, a4I x _ p1, List.cons_append, M4, if_neg (fun e => hh e.2), e2]
   simp only [Option.map_some, List.length_append, List.length_cons]; congr 1; omega
theorem b1j (gs : List Nat) : a2k gs ≤ gs.length := (List.takeWhile_sublist _).length_le
theorem b1k (gs : List Nat) : gs.take (a2k gs) = List.replicate (a2k gs) 0 := by
 unfold a2k
 induction gs with
 | nil => rfl
 | cons g r ih =>
  simp only [List.takeWhile_cons]
  split
  ·rename_i h
   simp only [List.length_cons, List.take_succ_cons, List.replicate_succ, ih]
   rw [eq_of_beq h]
  ·rfl
theorem ak5 (gs : List Nat) (i : Nat) (acc : Option (Nat × Nat)) (all : List Nat) (hall : all.drop i = gs) (hi : i ≤ all.length)
  (hacc : ∀ p, acc = some p → 2 ≤ p.2 ∧ p.1 + p.2 ≤ all.length ∧ (all.drop p.1).take p.2 = List.replicate p.2 0) :
  ∀ p, V6 i gs acc = some p → 2 ≤ p.2 ∧ p.1 + p.2 ≤ all.length ∧ (all.drop p.1).take p.2 = List.replicate p.2 0 := by
 induction gs generalizing i acc with
 | nil => exact hacc
 | cons g r ih =>
  rw [V6]
  have hlen : (g :: r).length = all.length - i := by rw [← hall, List.length_drop]
  refine ih (i + 1) _ ?_ (by simp at hlen; omega) ?_
  ·rw [← List.drop_drop, hall]; rfl
  ·intro p hp
   split at hp
   ·rename_i hlt
    simp only [Option.some.injEq] at hp
    subst hp
    have h1 : 1 ≤ a4X acc := by
     cases acc with
     | none => exact Nat.le_refl _
     | some q => have := (hacc q rfl).1; simp only [a4X]; omega
    have h2 := b1j (g :: r)
    refine ⟨by simp only; omega, by simp only; omega, ?_⟩
    simp only
    rw [hall]
    exact b1k _
   ·exact hacc p hp
theorem a5V (gs : List Nat) (p : Nat × Nat) (h : V6 0 gs none = some p) : 2 ≤ p.2 ∧ p.1 + p.2 ≤ gs.length ∧ gs = gs.take p.1 ++ List.replicate p.2 0 ++ gs.drop (p.1 + p.2) := by
 obtain ⟨h1, h2, h3⟩ := ak5 gs 0 none gs rfl (Nat.zero_le _) (fun p hp => by cases hp) p h
 refine ⟨h1, h2, ?_⟩
 rw [← h3, List.append_assoc, ← List.drop_drop, List.take_append_drop, List.take_append_drop]
theorem aM4 (gs : List Nat) (h8 : gs.length = 8) (hg : ∀ g ∈ gs, g < 65536) : L1 (W8 gs) = some (j4 gs) := by
 have hp : ∀ (zs : List Nat), ∀ l ∈ zs.map j3, a47 l := fun zs l hl => by
  obtain ⟨g, -, rfl⟩ := List.mem_map.1 hl
  exact a2f g
 have hgr : ∀ zs : List Nat, zs.length ≤ 8 → (∀ g ∈ zs, g < 65536) → r9 (l9 58 (zs.map j3)) = some zs := fun zs hz hlt =>
  av8 j3 zs hz (fun g _ => (a2f g).1) (fun g _ => (a2f g).2.1) (fun g hm => av7 g (hlt g hm))
 unfold W8
 cases hb : V6 0 gs none with
 | none =>
  simp only
  have hgap : M4 (l9 58 (gs.map j3)) = none := by
   have := au8 (gs.map j3) (hp gs) [] (fun _ => rfl)
   simpa [M4] using this
  rw [L1, hgap]
  simp only
  rw [hgr gs (by omega) hg]
  simp [h8]
 | some p =>
  obtain ⟨h1, h2, h3⟩ := a5V gs p hb
  simp only
  rw [L1, au9 _ (hp _)]
  simp only
  rw [List.take_left, show (l9 58 ((gs.take p.1).map j3)).length + 2 = (l9 58 ((gs.take p.1).map j3)).length + 2 from rfl, ← List.drop_drop, List.drop_left]
  simp only [List.drop_succ_cons, List.drop_zero]
  rw [hgr _ (by rw [List.length_take]; omega) (fun g hm => hg g (List.mem_of_mem_take hm)), hgr _ (by rw [List.length_drop]; omega) (fun g hm => hg g (List.mem_of_mem_drop hm))]
  simp only [Option.bind_some, List.length_take, List.length_drop]
  rw [if_pos (by omega), show 8 - min p.1 gs.length - (gs.length - (p.1 + p.2)) = p.2 by omega, ← h3]
theorem a2v (b : UInt8) (ls : List (List UInt8)) (k : Nat) (h : ∀ l ∈ ls, l.length ≤ k) : (l9 b ls).length ≤ (k + 1) * ls.length := by
 induction ls with
 | nil => simp [l9]
 | cons x r ih =>
  have h1 := h x (by simp)
  have h2 := ih (fun l hl => h l (by simp [hl]))
  rw [l9]
  split
  ·simp only [List.length_cons]
   have : (k + 1) * (r.length + 1) = (k + 1) * r.length + (k + 1) := by rw [Nat.mul_succ]
   omega
  ·simp only [List.length_append, List.length_cons]
   have : (k + 1) * (r.length + 1) = (k + 1) * r.length + (k + 1) := by rw [Nat.mul_succ]
   omega
theorem az7 (b : UInt8) (ls : List (List UInt8)) (k : Nat) (h : ∀ l ∈ ls, l.length ≤ k) (hne : ls ≠ []) : (l9 b ls).length + 1 ≤ (k + 1) * ls.length := by
 induction ls with
 | nil => exact absurd rfl hne
 | cons x r ih =>
  have h1 := h x (by simp)
  rw [l9]
  have : (k + 1) * (r.length + 1) = (k + 1) * r.length + (k + 1) := by rw [Nat.mul_succ]
  split
  ·simp only [List.length_cons]
   omega
  ·rename_i hr
   have h2 := ih (fun l hl => h l (by simp [hl])) hr
   simp only [List.length_append, List.length_cons]
   omega
theorem aQ3 (gs : List Nat) (h8 : gs.length = 8) : (W8 gs).length ≤ 39 := by
 have hp : ∀ (zs : List Nat), ∀ l ∈ zs.map j3, l.length ≤ 4 := fun zs l hl => by
  obtain ⟨g, -, rfl⟩ := List.mem_map.1 hl
  exact (a2f g).2.2.1
 unfold W8
 cases hb : V6 0 gs none with
 | none =>
  simp only
  have := az7 58 (gs.map j3) 4 (hp gs) (by intro e; have := congrArg List.length e; simp at this; rw [this] at h8; simp at h8)
  rw [List.length_map] at this
  omega
 | some p =>
  obtain ⟨h1, h2, -⟩ := a5V gs p hb
  have e1 := a2v 58 ((gs.take p.1).map j3) 4 (hp _)
  have e2 := a2v 58 ((gs.drop (p.1 + p.2)).map j3) 4 (hp _)
  rw [List.length_map, List.length_take] at e1
  rw [List.length_map, List.length_drop] at e2
  simp only [List.length_append, List.length_cons]
  omega
structure In where
 code : UInt16
 jt : UInt8
 jf : UInt8
 k : UInt32
def In.cells (x : In) : List Value := [.int .u16 (x.code.toNat : Int), .int .u8 (x.jt.toNat : Int), .int .u8 (x.jf.toNat : Int), .int .u32 (x.k.toNat : Int)]
def flat (xs : List In) : List Value := xs.flatMap In.cells
theorem T0 {w : World} {base e size n : Nat} {v : Value} {vs : List Value} (h : w.ownsRow base e size v n vs) :
  ∃ ao cap, v = .slice ao n cap ∧ CV w ao vs ∧ n ≤ cap ∧ cap ≤ maxLen ∧ (ao = none → cap = 0) ∧ (∀ ad, ao = some ad → base ≤ ad.block ∧ ad.block < w.heap.size) ∧ v.ownBlock = ao.map (·.block) := by
 have hl := h.lt
 have h0 := h.1
 rcases h.2 with ⟨rfl, hn⟩ | ⟨g, cap, cur, rfl, hb, hg, hc, hm, hs, ht⟩
 ·subst hn
  refine ⟨none, 0, rfl, ⟨fun _ => List.eq_nil_of_length_eq_zero (by simpa using h0), fun ad had => (by cases had)⟩, by omega, Nat.zero_le _, fun _ => rfl, fun ad had => (by cases had), rfl⟩
 ·refine ⟨some ⟨g, 0, none⟩, cap, rfl, ⟨fun h => (by cases h), fun ad had i hi => ?_⟩, hc, hm, fun h => (by cases h), fun ad had => ?_, rfl⟩
  ·obtain rfl := Option.some.inj had
   exact h.cells (g := g) rfl i _ (by simp [hi])
  ·obtain rfl := Option.some.inj had
   exact hl g rfl
theorem a9F {w : World} {base e size n : Nat} {v : Value} {vs : List Value} (h : w.ownsRow base e size v n vs) (hn : 0 < n) :
  ∃ g cap, v = .slice (some ⟨g, 0, none⟩) n cap ∧ n ≤ cap ∧ cap ≤ maxLen ∧ base ≤ g ∧ g < w.heap.size := by
 have hl := h.lt
 rcases h.2 with ⟨rfl, hn⟩ | ⟨g, cap, cur, rfl, hb, hg, hc, hm, hs, ht⟩
 ·omega
 ·exact ⟨g, cap, rfl, hc, hm, (hl g rfl).1, (hl g rfl).2⟩
theorem a18 {P : Program} {w : World} {ops : Array Oper} {rest : List Oper} {o : Oper} {a : Act} {Q : Exit → Act → World → Prop} (hgd : o.guard = none) (s x : Operand) (t : TypeId)
  (ho : o.op = .call { callee := .builtin .append, args := #[s, x], argTypes := #[t, t] })
  (e : TypeId) (i : TypeInfo) (z : Value) (size bytes : Nat) (ht : P.underlying t = some (.slice e)) (hi : P.info? e = some i) (hz : i.zero = some z) (hsize : i.size = size) (hby : i.bytes = bytes) (hzs : z.cells.size = size) (hsz : 0 < size)
  (base : Nat) (v : Value) (n : Nat) (vs : List Value) (hs : a.eval s = v) (hown : w.ownsRow base e size v n vs)
  (ao : Option Addr) (m c : Nat) (us : List Value) (hx : a.eval x = .slice ao m c) (hl : us.length = m * size) (hc0 : ao = none → c = 0) (hus : CV w ao us) (h1 : ∀ u ∈ us, u.oneCell' = true)
  (h63 : n + m ≤ maxLen) (hbytes : (n + m) * bytes ≤ 140737488355328) (hbase : base ≤ w.heap.size)
  (h : ∀ v' w', w'.ownsRow base e size v' (n + m) (vs ++ us) → w.grownBy w' v.ownBlock → wpList P ops Q rest (a.put o.dst v') w') : wpList P ops Q (o :: rest) a w := by
 cases ao with
 | none =>
  have e0 := hus.1 rfl
  subst e0
  have e1 := hc0 rfl
  subst e1
  have e2 : m = 0 := by
   rcases Nat.mul_eq_zero.1 hl.symm with h | h
   ·exact h
   ·omega
  subst e2
  refine wpList_append_own_none hgd s x t ho base e i size ht hi v n vs hs hown hx (h v w (by simpa using hown) (World.grownBy.refl _ _))
 | some ad =>
  refine wpList_append_own w hgd s x t ho base e i z size bytes ht hi hz hsize hby hzs hsz v n vs hs hown ad m c us hx hl ?_ h1 h63 hbytes hbase fun v' w' h1 h2 _ => h v' w' h1 h2
  intro j u hj
  obtain ⟨hlt, e⟩ := List.getElem?_eq_some_iff.1 hj
  rw [hus.2 ad rfl j hlt, e]
def P0 (w : World) (e : TypeId) (g n : Nat) : Prop := ∃ cur : Array Value, w.heap[g]? = some (.cells cur e (0, 0)) ∧ cur.size = n
theorem P0.cell {w : World} {e : TypeId} {g n : Nat} (h : P0 w e g n) {i : Nat} (hi : i < n) : ∃ u, w.cell? ⟨g, i, none⟩ = some u := by
 obtain ⟨cur, hh, hs⟩ := h
 refine ⟨cur[i], ?_⟩
 rw [cell_of_row w g i cur _ _ hh]
 simp
theorem P0.free {w : World} {e : TypeId} {g n : Nat} (h : P0 w e g n) (i : Nat) : w.frozen? ⟨g, i, none⟩ = false := by
 obtain ⟨cur, hh, hs⟩ := h
 simp [World.frozen?, hh]
theorem P0.lt {w : World} {e : TypeId} {g n : Nat} (h : P0 w e g n) : g < w.heap.size := by
 obtain ⟨cur, hh, hs⟩ := h
 exact (Array.getElem?_eq_some_iff.1 hh).1
theorem P0.setCell {w : World} {e : TypeId} {g n : Nat} (h : P0 w e g n) (a : Addr) (u : Value) : P0 (w.setCell a u) e g n := by
 obtain ⟨cur, hh, hs⟩ := h
 by_cases e : g = a.block
 ·subst e
  by_cases hsp : a.spot.isSome = true
  ·refine ⟨cur, ?_, hs⟩
   simp only [World.setCell, Array.getElem?_modify, hh]
   simp [hsp]
  ·refine ⟨cur.setIfInBounds a.off u, ?_, by simpa using hs⟩
   simp only [World.setCell, Array.getElem?_modify, hh]
   simp [hsp]
 ·exact ⟨cur, by rw [Below.heap_setCell _ _ _ _ e]; exact hh, hs⟩
theorem P0.kept {w w' : World} {e : TypeId} {g n : Nat} {row : Option Nat} (h : P0 w e g n) (hg : w.grownBy w' row) (hne : some g ≠ row) : P0 w' e g n := by
 have hl := h.lt
 obtain ⟨cur, hh, hs⟩ := h
 exact ⟨cur, by rw [hg.block g hl hne]; exact hh, hs⟩
theorem P0.ofRow {w : World} {base e size g n cap : Nat} {xs : List Value} (h : w.ownsRow base e size (.slice (some ⟨g, 0, none⟩) n cap) n xs) : P0 w e g (cap * size) ∧ n ≤ cap ∧ cap ≤ maxLen := by
 rcases h.2 with ⟨h, _⟩ | ⟨g', cap', cur, hv, hb, hg, hc, hm, hs, ht⟩
 ·cases h
 ·simp only [Value.slice.injEq, Option.some.injEq, Addr.mk.injEq] at hv
  obtain ⟨⟨rfl, _⟩, _, rfl⟩ := hv
  exact ⟨⟨cur, hg, hs⟩, hc, hm⟩
theorem P0.row {w : World} {e size g cap : Nat} (h : P0 w e g (cap * size)) (n : Nat) (hn : n ≤ cap) (hm : cap ≤ maxLen) : ∃ xs : List Value, w.ownsRow 0 e size (.slice (some ⟨g, 0, none⟩) n cap) n xs := by
 obtain ⟨cur, hh, hs⟩ := h
 have hle : n * size ≤ cap * size := Nat.mul_le_mul_right _ hn
 exact ⟨cur.toList.take (n * size), by rw [List.length_take, Array.length_toList, hs]; omega, .inr ⟨g, cap, cur, rfl, Nat.zero_le _, hh, hn, hm, hs, rfl⟩⟩
def sl (s : ByteArray) : List UInt8 := s.data.toList
theorem q7 (s : ByteArray) : (sl s).length = s.size := by simp [sl]
theorem a2h (xs : List UInt8) : sl ⟨xs.toArray⟩ = xs := rfl
theorem a0W (s : ByteArray) : Value.string s = str (sl s) := by simp [sl, str]
theorem a0v (s : ByteArray) (k : Nat) (hk : k < s.size) : (sl s).drop k = s[k] :: (sl s).drop (k + 1) := by
 rw [List.drop_eq_getElem_cons (by rw [q7]; exact hk)]
 rfl
theorem a2P (s : ByteArray) (i k : Nat) : sl (s.extract i k) = ((sl s).drop i).take (k - i) := by
 simp [sl, ByteArray.data_extract, Array.toList_extract, List.extract]
theorem a6N {most : Nat} : ∀ (v : Nat) (d : List UInt8) (n : Nat), v ≤ most → J8 most v d = some n → n ≤ most
 | v, [], n, hv, h => by simp [J8] at h; omega
 | v, c :: d, n, hv, h => by
  rw [J8] at h
  split at h
  ·split at h
   ·cases h
   ·exact a6N _ d n (by omega) h
  ·cases h
theorem aJ7 {most n : Nat} {d : List UInt8} (h : D2 most d = some n) : n ≤ most := by
 unfold D2 at h
 split at h
 ·cases h
 ·exact a6N 0 d n (Nat.zero_le _) h
theorem aw7 (s : List UInt8) (v n : Nat) (h : Z7 v s = some n) : n < (v + 1) * 16 ^ s.length := by
 induction s generalizing v with
 | nil => simp [Z7] at h; subst h; simp
 | cons c r ih =>
  rw [Z7] at h
  split at h
  ·have h1 := ih _ h
   have h2 := a6a c.toNat
   have h3 : (16 * v + z6 c.toNat + 1) * 16 ^ r.length ≤ (16 * (v + 1)) * 16 ^ r.length := Nat.mul_le_mul_right _ (by omega)
   rw [List.length_cons, Nat.pow_succ, Nat.mul_comm (16 ^ r.length) 16, ← Nat.mul_assoc, Nat.mul_comm (v + 1) 16]
   omega
  ·cases h
theorem a8O {s : List UInt8} {n : Nat} (h : I1 s = some n) : n < 65536 := by
 unfold I1 at h
 split at h
 ·cases h
 ·have h1 := aw7 s 0 n h
  have h2 : 16 ^ s.length ≤ 16 ^ 4 := Nat.pow_le_pow_right (by decide) (by omega)
  omega
def a6l : Option Nat → Int
 | none => -1
 | some k => k
theorem a93 : (Tryz.prog.info? 3).map (fun i => (i.zero, i.size, i.bytes)) = some (some (.int .i64 0), 1, 8) := by kernel_rfl
theorem ax5 (b : UInt8) (s : List UInt8) (h : b ∉ s) : Lib.index s [b] = -1 := by
 induction s with
 | nil => rfl
 | cons c r ih =>
  have hc : (b == c) = false := by rw [beq_eq_false_iff_ne]; intro e; exact h (by rw [e]; simp)
  rw [Lib.index, show ([b] : List UInt8).isPrefixOf (c :: r) = false by simp [List.isPrefixOf, hc], ih (fun e => h (by simp [e]))]
  rfl
theorem ax4 (b : UInt8) (x y : List UInt8) (h : b ∉ x) : Lib.index (x ++ b :: y) [b] = (x.length : Int) := by
 induction x with
 | nil => simp [Lib.index, List.isPrefixOf]
 | cons c r ih =>
  have hc : (b == c) = false := by rw [beq_eq_false_iff_ne]; intro e; exact h (by rw [e]; simp)
  rw [List.cons_append, Lib.index, show ([b] : List UInt8).isPrefixOf (c :: (r ++ b :: y)) = false by simp [List.isPrefixOf, hc], ih (fun e => h (by simp [e]))]
  have : ((r.length : Int) == -1) = false := by rw [beq_eq_false_iff_ne]; omega
  rw [this]
  simp
theorem aq1 (b : UInt8) (s : List UInt8) : (Lib.cut s [b] = (s, [], false) ∧ j5 b s = [s]) ∨ (∃ x y, Lib.cut s [b] = (x, y, true) ∧ j5 b s = x :: j5 b y ∧ x.length + y.length + 1 = s.length) := by
 by_cases h : b ∈ s
 ·right
  obtain ⟨x, y, rfl, hx⟩ := List.eq_append_cons_of_mem h
  refine ⟨x, y, ?_, ?_, ?_⟩
  ·rw [Lib.cut, ax4 b x y hx, if_pos (by omega)]
   simp only [Int.toNat_natCast, List.take_left, List.length_cons, List.length_nil]
   rw [← List.drop_drop, List.drop_left]
   rfl
  ·unfold j5
   rw [ad1 b [] x y hx]
   rfl
  ·simp
   omega
 ·left
  refine ⟨?_, ?_⟩
  ·rw [Lib.cut, ax5 b s h, if_neg (by decide)]
  ·unfold j5
   rw [ad2 b [] s h]
   rfl
theorem a91 (s : List UInt8) : Lib.index s [58, 58] = a6l (M4 s) := by
 induction s with
 | nil => rfl
 | cons a r ih =>
  rw [Lib.index, M4, ih]
  by_cases h : a = 58 ∧ r.head? = some 58
  ·rw [if_pos h]
   obtain ⟨rfl, h2⟩ := h
   cases r with
   | nil => cases h2
   | cons c r =>
    simp only [List.head?_cons, Option.some.injEq] at h2
    subst h2
    rw [if_pos (by simp [List.isPrefixOf])]
    rfl
  ·rw [if_neg h]
   have hp : ([58, 58] : List UInt8).isPrefixOf (a :: r) = false := by
    cases r with
    | nil => simp [List.isPrefixOf]
    | cons c r =>
     simp only [List.head?_cons, Option.some.injEq] at h
     by_cases ha : a = 58
     ·have hc : ((58 : UInt8) == c) = false := by rw [beq_eq_false_iff_ne]; intro e; exact h ⟨ha, e.symm⟩
      simp [List.isPrefixOf, hc]
     ·have hc : ((58 : UInt8) == a) = false := by rw [beq_eq_false_iff_ne]; intro e; exact ha e.symm
      simp [List.isPrefixOf, hc]
   rw [hp]
   cases M4 r with
   | none => rfl
   | some k =>
    have : (((k : Nat) : Int) == -1) = false := by rw [beq_eq_false_iff_ne]; omega
    simp only [a6l, Option.map_some, this, Bool.false_eq_true, if_false]
    omega
theorem ap9 (s : List UInt8) (h : M4 s = none) : Lib.cut s [58, 58] = (s, [], false) := by
 rw [Lib.cut, a91, h]
 rfl
theorem aq0 (s : List UInt8) (k : Nat) (h : M4 s = some k) : Lib.cut s [58, 58] = (s.take k, s.drop (k + 2), true) := by
 rw [Lib.cut, a91, h]
 simp [a6l]
def o5 {α : Type} : Nat → List α → List (Nat × α)
 | _, [] => []
 | i, x :: r => (i, x) :: o5 (i + 1) r
theorem a2A {α : Type} (i : Nat) (l : List α) : (o5 i l).length = l.length := by
 induction l generalizing i with
 | nil => rfl
 | cons x r ih => rw [o5, List.length_cons, List.length_cons, ih]
theorem a55 {α : Type} (i : Nat) (l : List α) : (o5 i l).map (·.2) = l := by
 induction l generalizing i with
 | nil => rfl
 | cons x r ih => rw [o5, List.map_cons, ih]
theorem a54 {α : Type} (i : Nat) (a b : List α) : o5 i (a ++ b) = o5 i a ++ o5 (i + a.length) b := by
 induction a generalizing i with
 | nil => simp [o5]
 | cons x r ih => rw [List.cons_append, o5, o5, ih, List.length_cons, List.cons_append, show i + 1 + r.length = i + (r.length + 1) by omega]
theorem a6L {α : Type} (i : Nat) (l : List α) (j : Nat) (h : j < l.length) : (o5 i l)[j]? = some (i + j, l[j]) := by
 induction l generalizing i j with
 | nil => simp at h
 | cons x r ih =>
  cases j with
  | zero => rfl
  | succ j =>
   rw [o5, List.getElem?_cons_succ, ih (i + 1) j (by simpa using h)]
   simp
   omega
end Go.Proofs.YtklipelnjgpnjaaGreatDoor
