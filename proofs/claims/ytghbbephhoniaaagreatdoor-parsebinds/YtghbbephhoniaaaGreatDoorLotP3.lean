import Derived.Test.YtghbbephhoniaaaGreatDoorLotP1
import Derived.Test.YtghbbephhoniaaaGreatDoorLotP2
import Derived.Laws.Rows
import Derived.Laws.ResultCell
import Derived.Deep.DeepCutAuto
import Derived.ChangeKeysEq
namespace Go.Proofs.YtghbbephhoniaaaGreatDoor
open Go.RowKit
set_option maxRecDepth 100000
def splitG (b : UInt8) : List UInt8 → List UInt8 → List (List UInt8)
 | cur, [] => [cur]
 | cur, c :: r => if c = b then cur :: splitG b [] r else splitG b (cur ++ [c]) r
def splitV (b : UInt8) (s : List UInt8) : List (List UInt8) := splitG b [] s
theorem splitG_many (b : UInt8) (cur s : List UInt8) : (splitG b cur s).length ≤ s.length + 1 := by
 induction s generalizing cur with
 | nil => simp [splitG]
 | cons c r ih =>
  rw [splitG]
  split
  ·have := ih []; simp; omega
  ·have := ih (cur ++ [c]); simp; omega
def joinV (b : UInt8) : List (List UInt8) → List UInt8
 | [] => []
 | x :: r => if r = [] then x else x ++ b :: joinV b r
theorem joinV_one (b : UInt8) (x : List UInt8) : joinV b [x] = x := by simp [joinV]
theorem joinV_cons (b : UInt8) (x y : List UInt8) (r : List (List UInt8)) : joinV b (x :: y :: r) = x ++ b :: joinV b (y :: r) := by
 rw [joinV, if_neg (by simp)]
theorem join_snoc (b : UInt8) (ls : List (List UInt8)) (x : List UInt8) : joinV b (ls ++ [x]) = if ls = [] then x else joinV b ls ++ (b :: x) := by
 induction ls with
 | nil => simp [joinV]
 | cons y r ih =>
  rw [if_neg (by simp), List.cons_append, joinV, if_neg (by simp), ih]
  split
  ·rename_i h
   subst h
   rw [joinV_one]
  ·rename_i h
   rw [joinV, if_neg h]
   simp
theorem splitG_plain (b : UInt8) (cur x : List UInt8) (h : b ∉ x) : splitG b cur x = [cur ++ x] := by
 induction x generalizing cur with
 | nil => simp [splitG]
 | cons c r ih =>
  have hc : c ≠ b := fun e => h (by rw [e]; simp)
  rw [splitG, if_neg hc, ih _ (fun e => h (by simp [e]))]
  simp
theorem splitG_piece (b : UInt8) (cur x r : List UInt8) (h : b ∉ x) : splitG b cur (x ++ b :: r) = (cur ++ x) :: splitG b [] r := by
 induction x generalizing cur with
 | nil => simp [splitG]
 | cons c x ih =>
  have hc : c ≠ b := fun e => h (by rw [e]; simp)
  rw [List.cons_append, splitG, if_neg hc, ih _ (fun e => h (by simp [e]))]
  simp
theorem split_join (b : UInt8) (x : List UInt8) (ls : List (List UInt8)) (h : ∀ l ∈ x :: ls, b ∉ l) : splitV b (joinV b (x :: ls)) = x :: ls := by
 unfold splitV
 induction ls generalizing x with
 | nil => rw [joinV_one, splitG_plain b [] x (h x (by simp))]; rfl
 | cons y r ih =>
  rw [joinV_cons, splitG_piece b [] x _ (h x (by simp)), ih y (fun l hl => h l (by simp only [List.mem_cons] at hl ⊢; exact .inr hl))]
  rfl
def allV {α β : Type} (f : α → Option β) : List α → Option (List β)
 | [] => some []
 | x :: r => (f x).bind fun v => (allV f r).map fun vs => v :: vs
theorem allV_len {α β : Type} {f : α → Option β} {xs : List α} {vs : List β} (h : allV f xs = some vs) : vs.length = xs.length := by
 induction xs generalizing vs with
 | nil => simp [allV] at h; subst h; rfl
 | cons x r ih =>
  simp only [allV] at h
  cases hx : f x with
  | none => rw [hx] at h; cases h
  | some v =>
   rw [hx] at h
   cases hr : allV f r with
   | none => rw [hr] at h; cases h
   | some us =>
    rw [hr] at h
    simp only [Option.bind_some, Option.map_some, Option.some.injEq] at h
    subst h
    simp [ih hr]
theorem allV_map {α β γ : Type} {f : α → Option β} {g : γ → α} {k : γ → β} (xs : List γ) (h : ∀ x ∈ xs, f (g x) = some (k x)) : allV f (xs.map g) = some (xs.map k) := by
 induction xs with
 | nil => rfl
 | cons x r ih => simp only [List.map_cons, allV, h x (by simp), ih (fun y hy => h y (by simp [hy])), Option.bind_some, Option.map_some]
theorem allV_none_take {α β : Type} {f : α → Option β} {xs : List α} {i : Nat} (hi : i < xs.length) (h : f xs[i] = none) : allV f xs = none := by
 induction xs generalizing i with
 | nil => simp at hi
 | cons x r ih =>
  simp only [allV]
  cases i with
  | zero => rw [show f x = none from h]; rfl
  | succ i =>
   rw [ih (i := i) (by simpa using hi) (by simpa using h)]
   cases f x <;> rfl
def parse4V (s : List UInt8) : Option (List UInt8) := if (splitV 46 s).length = 4 then (allV (numberV 255) (splitV 46 s)).map fun ns => ns.map UInt8.ofNat else none
def print4V (a : List UInt8) : List UInt8 := joinV 46 (a.map fun x => dec x.toNat)
theorem dec_no (b : UInt8) (hb : isDig b = false) (n : Nat) (h : n < 10 ^ 20) : b ∉ dec n := fun hm => by
 have := dec_dig n h b hm
 rw [hb] at this
 cases this
theorem parse4_print4 (a : List UInt8) (h : a.length = 4) : parse4V (print4V a) = some a := by
 have hs : splitV 46 (print4V a) = a.map fun x => dec x.toNat := by
  match a, h with
  | x :: r, _ =>
   refine split_join 46 _ _ fun l hl => ?_
   have hl' : l ∈ (x :: r).map fun x => dec x.toNat := hl
   obtain ⟨y, hy, rfl⟩ := List.mem_map.1 hl'
   exact dec_no 46 (by decide) _ (by have := y.toNat_lt; omega)
 rw [parse4V, hs, if_pos (by simpa using h), allV_map (k := fun x : UInt8 => x.toNat) a (fun x hx => numberV_dec 255 _ (by have := x.toNat_lt; omega) (by have := x.toNat_lt; omega))]
 have e : (UInt8.ofNat ∘ fun x : UInt8 => x.toNat) = id := by funext x; simp
 simp [e]
def hexFrom : Nat → List UInt8 → Option Nat
 | v, [] => some v
 | v, c :: r => if digOk c.toNat = true then hexFrom (16 * v + digV c.toNat) r else none
def groupV (s : List UInt8) : Option Nat := if s.length < 1 ∨ 4 < s.length then none else hexFrom 0 s
def groupsV (s : List UInt8) : Option (List Nat) := if s = [] then some [] else if 8 < (splitV 58 s).length then none else allV groupV (splitV 58 s)
def gapV : List UInt8 → Option Nat
 | [] => none
 | a :: r => if a = 58 ∧ r.head? = some 58 then some 0 else (gapV r).map fun k => k + 1
def bytesG (gs : List Nat) : List UInt8 := gs.flatMap fun g => [UInt8.ofNat (g / 256), UInt8.ofNat g]
def parse6V (s : List UInt8) : Option (List UInt8) := match gapV s with
 | none => (groupsV s).bind fun x => if x.length = 8 then some (bytesG x) else none
 | some k => (groupsV (s.take k)).bind fun x => (groupsV (s.drop (k + 2))).bind fun y => if x.length + y.length ≤ 7 then some (bytesG (x ++ List.replicate (8 - x.length - y.length) 0 ++ y)) else none
def pairsG : List UInt8 → List Nat
 | h :: l :: r => (256 * h.toNat + l.toNat) :: pairsG r
 | _ => []
theorem pairs_lt (a : List UInt8) : ∀ g ∈ pairsG a, g < 65536 := by
 intro g hg
 induction a using pairsG.induct with
 | case1 h l r ih =>
  rw [pairsG] at hg
  rcases List.mem_cons.1 hg with rfl | hg
  ·have := h.toNat_lt; have := l.toNat_lt; omega
  ·exact ih hg
 | case2 a hn =>
  rw [pairsG] at hg
  ·cases hg
  ·exact hn
theorem pairs_len : ∀ (n : Nat) (a : List UInt8), a.length = 2 * n → (pairsG a).length = n
 | 0, [], _ => rfl
 | n + 1, h :: l :: r, e => by rw [pairsG, List.length_cons, pairs_len n r (by simp at e; omega)]
theorem bytes_pairs : ∀ (n : Nat) (a : List UInt8), a.length = 2 * n → bytesG (pairsG a) = a
 | 0, [], _ => rfl
 | n + 1, h :: l :: r, e => by
  have h1 := h.toNat_lt
  have h2 := l.toNat_lt
  have e1 : UInt8.ofNat ((256 * h.toNat + l.toNat) / 256) = h := by
   rw [show (256 * h.toNat + l.toNat) / 256 = h.toNat by omega]; simp
  have e2 : UInt8.ofNat (256 * h.toNat + l.toNat) = l := by
   apply UInt8.toNat_inj.1
   simp
  rw [pairsG, bytesG, List.flatMap_cons, e1, e2, ← bytesG, bytes_pairs n r (by simp at e; omega)]
  simp
def zrow (gs : List Nat) : Nat := (gs.takeWhile fun g => g == 0).length
def longOf : Option (Nat × Nat) → Nat
 | none => 1
 | some p => p.2
def bestF : Nat → List Nat → Option (Nat × Nat) → Option (Nat × Nat)
 | _, [], acc => acc
 | i, g :: r, acc => bestF (i + 1) r (if longOf acc < zrow (g :: r) then some (i, zrow (g :: r)) else acc)
def stripV : List UInt8 → List UInt8
 | [] => []
 | a :: r => if a = 48 ∧ r ≠ [] then stripV r else a :: r
def fullV (g : Nat) : List UInt8 := [hexD (g / 4096 % 16), hexD (g / 256 % 16), hexD (g / 16 % 16), hexD (g % 16)]
def shortV (g : Nat) : List UInt8 := stripV (fullV g)
def print6V (gs : List Nat) : List UInt8 := match bestF 0 gs none with
 | none => joinV 58 (gs.map shortV)
 | some p => joinV 58 ((gs.take p.1).map shortV) ++ (58 :: 58 :: joinV 58 ((gs.drop (p.1 + p.2)).map shortV))
theorem hexD_dig {n : Nat} (h : n < 16) : digOk (hexD n).toNat = true ∧ digV (hexD n).toNat = n ∧ hexD n ≠ 58 ∧ (hexD n = 48 → n = 0) := by
 have key : ∀ j : Fin 16, digOk (hexD j.val).toNat = true ∧ digV (hexD j.val).toNat = j.val ∧ hexD j.val ≠ 58 ∧ (hexD j.val = 48 → j.val = 0) := by decide +kernel
 exact key ⟨n, h⟩
theorem hexFrom_step (v n : Nat) (h : n < 16) (r : List UInt8) : hexFrom v (hexD n :: r) = hexFrom (16 * v + n) r := by
 rw [hexFrom, if_pos (hexD_dig h).1, (hexD_dig h).2.1]
theorem group_full (g : Nat) (h : g < 65536) : groupV (fullV g) = some g := by
 rw [groupV, if_neg (by simp [fullV]), fullV, hexFrom_step _ _ (by omega), hexFrom_step _ _ (by omega), hexFrom_step _ _ (by omega), hexFrom_step _ _ (by omega), hexFrom]
 congr 1
 omega
def piece (x : List UInt8) : Prop := 58 ∉ x ∧ x ≠ [] ∧ x.length ≤ 4 ∧ (x.head? = some 48 → x.length = 1)
theorem strip_piece (x : List UInt8) (h58 : 58 ∉ x) (hne : x ≠ []) (hl : x.length ≤ 4) : piece (stripV x) := by
 induction x with
 | nil => exact absurd rfl hne
 | cons a r ih =>
  rw [stripV]
  split
  ·rename_i h
   exact ih (fun e => h58 (by simp [e])) h.2 (by simp at hl; omega)
  ·rename_i h
   refine ⟨h58, by simp, hl, fun e => ?_⟩
   simp only [List.head?_cons, Option.some.injEq] at e
   by_cases hr : r = []
   ·rw [hr]; rfl
   ·exact absurd ⟨e, hr⟩ h
theorem full_no (g : Nat) : 58 ∉ fullV g := by
 intro h
 simp only [fullV, List.mem_cons, List.not_mem_nil, or_false] at h
 rcases h with h | h | h | h
 ·exact (hexD_dig (n := g / 4096 % 16) (by omega)).2.2.1 h.symm
 ·exact (hexD_dig (n := g / 256 % 16) (by omega)).2.2.1 h.symm
 ·exact (hexD_dig (n := g / 16 % 16) (by omega)).2.2.1 h.symm
 ·exact (hexD_dig (n := g % 16) (by omega)).2.2.1 h.symm
theorem short_piece (g : Nat) : piece (shortV g) := strip_piece _ (full_no g) (by simp [fullV]) (by simp [fullV])
theorem hexFrom_strip (x : List UInt8) : hexFrom 0 (stripV x) = hexFrom 0 x := by
 induction x with
 | nil => rfl
 | cons a r ih =>
  rw [stripV]
  split
  ·rename_i h
   rw [ih, h.1, hexFrom, if_pos (by decide)]
   rfl
  ·rfl
theorem group_short (g : Nat) (h : g < 65536) : groupV (shortV g) = some g := by
 obtain ⟨-, h2, h3, -⟩ := short_piece g
 have h1 : 1 ≤ (shortV g).length := by
  cases hs : shortV g with
  | nil => exact absurd hs h2
  | cons a r => simp
 rw [groupV, if_neg (by omega), shortV, hexFrom_strip]
 have := group_full g h
 rw [groupV, if_neg (by simp [fullV])] at this
 exact this
theorem join_ne (b : UInt8) (x : List UInt8) (r : List (List UInt8)) (h : x ≠ []) : joinV b (x :: r) ≠ [] := by
 rw [joinV]
 split
 ·exact h
 ·simp
theorem groups_join (f : Nat → List UInt8) (gs : List Nat) (hl : gs.length ≤ 8) (h58 : ∀ g ∈ gs, 58 ∉ f g) (hne : ∀ g ∈ gs, f g ≠ []) (hg : ∀ g ∈ gs, groupV (f g) = some g) : groupsV (joinV 58 (gs.map f)) = some gs := by
 cases gs with
 | nil => rfl
 | cons g r =>
  have hs : splitV 58 (joinV 58 ((g :: r).map f)) = (g :: r).map f := by
   rw [List.map_cons]
   refine split_join 58 _ _ fun l hl => ?_
   rw [← List.map_cons] at hl
   obtain ⟨y, hy, rfl⟩ := List.mem_map.1 hl
   exact h58 y hy
  rw [groupsV, if_neg (by rw [List.map_cons]; exact join_ne _ _ _ (hne g (by simp))), hs, if_neg (by rw [List.length_map]; omega), allV_map (k := fun g => g) _ hg]
  simp
theorem gap_piece (x r : List UInt8) (h : 58 ∉ x) : gapV (x ++ r) = (gapV r).map fun k => k + x.length := by
 induction x with
 | nil => simp
 | cons c x ih =>
  have hc : c ≠ 58 := fun e => h (by rw [e]; simp)
  rw [List.cons_append, gapV, if_neg (fun e => hc e.1), ih (fun e => h (by simp [e]))]
  cases gapV r with
  | none => rfl
  | some k => simp only [Option.map_some, List.length_cons]; congr 1
theorem gap_join (ls : List (List UInt8)) (h : ∀ l ∈ ls, piece l) (t : List UInt8) (hn : ls = [] → t = []) :
  gapV (joinV 58 ls ++ t) = (gapV t).map fun k => k + (joinV 58 ls).length := by
 induction ls with
 | nil => rw [hn rfl]; rfl
 | cons x r ih =>
  obtain ⟨p1, p2, -, -⟩ := h x (by simp)
  cases r with
  | nil => rw [joinV_one]; exact gap_piece x t p1
  | cons y r =>
   have hy := h y (by simp)
   have e2 := ih (fun l hl => h l (by simp only [List.mem_cons] at hl ⊢; exact .inr hl)) (fun e => by cases e)
   have hh : (joinV 58 (y :: r) ++ t).head? ≠ some 58 := by
    obtain ⟨q1, q2, -, -⟩ := hy
    cases hyy : y with
    | nil => exact absurd hyy q2
    | cons c y' =>
     have hc : c ≠ 58 := fun e => q1 (by rw [hyy, e]; simp)
     rw [joinV]
     split <;> simpa using hc
   rw [joinV_cons, List.append_assoc, gap_piece x _ p1, List.cons_append, gapV, if_neg (fun e => hh e.2), e2]
   cases gapV t with
   | none => rfl
   | some k => simp only [Option.map_some, List.length_append, List.length_cons]; congr 1; omega
theorem gap_join_gap (ls : List (List UInt8)) (h : ∀ l ∈ ls, piece l) (t : List UInt8) : gapV (joinV 58 ls ++ (58 :: 58 :: t)) = some (joinV 58 ls).length := by
 induction ls with
 | nil => rfl
 | cons x r ih =>
  obtain ⟨p1, p2, -, -⟩ := h x (by simp)
  cases r with
  | nil => rw [joinV_one, gap_piece x _ p1, gapV, if_pos ⟨rfl, rfl⟩]; simp
  | cons y r =>
   have hy := h y (by simp)
   have e2 := ih (fun l hl => h l (by simp only [List.mem_cons] at hl ⊢; exact .inr hl))
   have hh : (joinV 58 (y :: r) ++ (58 :: 58 :: t)).head? ≠ some 58 := by
    obtain ⟨q1, q2, -, -⟩ := hy
    cases hyy : y with
    | nil => exact absurd hyy q2
    | cons c y' =>
     have hc : c ≠ 58 := fun e => q1 (by rw [hyy, e]; simp)
     rw [joinV]
     split <;> simpa using hc
   rw [joinV_cons, List.append_assoc, gap_piece x _ p1, List.cons_append, gapV, if_neg (fun e => hh e.2), e2]
   simp only [Option.map_some, List.length_append, List.length_cons]; congr 1; omega
theorem zrow_le (gs : List Nat) : zrow gs ≤ gs.length := (List.takeWhile_sublist _).length_le
theorem zrow_take (gs : List Nat) : gs.take (zrow gs) = List.replicate (zrow gs) 0 := by
 unfold zrow
 induction gs with
 | nil => rfl
 | cons g r ih =>
  simp only [List.takeWhile_cons]
  split
  ·rename_i h
   simp only [List.length_cons, List.take_succ_cons, List.replicate_succ, ih]
   rw [eq_of_beq h]
  ·rfl
theorem best_ok (gs : List Nat) (i : Nat) (acc : Option (Nat × Nat)) (all : List Nat) (hall : all.drop i = gs) (hi : i ≤ all.length)
  (hacc : ∀ p, acc = some p → 2 ≤ p.2 ∧ p.1 + p.2 ≤ all.length ∧ (all.drop p.1).take p.2 = List.replicate p.2 0) :
  ∀ p, bestF i gs acc = some p → 2 ≤ p.2 ∧ p.1 + p.2 ≤ all.length ∧ (all.drop p.1).take p.2 = List.replicate p.2 0 := by
 induction gs generalizing i acc with
 | nil => exact hacc
 | cons g r ih =>
  rw [bestF]
  have hlen : (g :: r).length = all.length - i := by rw [← hall, List.length_drop]
  refine ih (i + 1) _ ?_ (by simp at hlen; omega) ?_
  ·rw [← List.drop_drop, hall]; rfl
  ·intro p hp
   split at hp
   ·rename_i hlt
    simp only [Option.some.injEq] at hp
    subst hp
    have h1 : 1 ≤ longOf acc := by
     cases acc with
     | none => exact Nat.le_refl _
     | some q => have := (hacc q rfl).1; simp only [longOf]; omega
    have h2 := zrow_le (g :: r)
    refine ⟨by simp only; omega, by simp only; omega, ?_⟩
    simp only
    rw [hall]
    exact zrow_take _
   ·exact hacc p hp
theorem best_row (gs : List Nat) (p : Nat × Nat) (h : bestF 0 gs none = some p) : 2 ≤ p.2 ∧ p.1 + p.2 ≤ gs.length ∧ gs = gs.take p.1 ++ List.replicate p.2 0 ++ gs.drop (p.1 + p.2) := by
 obtain ⟨h1, h2, h3⟩ := best_ok gs 0 none gs rfl (Nat.zero_le _) (fun p hp => by cases hp) p h
 refine ⟨h1, h2, ?_⟩
 rw [← h3, List.append_assoc, ← List.drop_drop, List.take_append_drop, List.take_append_drop]
theorem parse6_print6 (gs : List Nat) (h8 : gs.length = 8) (hg : ∀ g ∈ gs, g < 65536) : parse6V (print6V gs) = some (bytesG gs) := by
 have hp : ∀ (zs : List Nat), ∀ l ∈ zs.map shortV, piece l := fun zs l hl => by
  obtain ⟨g, -, rfl⟩ := List.mem_map.1 hl
  exact short_piece g
 have hgr : ∀ zs : List Nat, zs.length ≤ 8 → (∀ g ∈ zs, g < 65536) → groupsV (joinV 58 (zs.map shortV)) = some zs := fun zs hz hlt =>
  groups_join shortV zs hz (fun g _ => (short_piece g).1) (fun g _ => (short_piece g).2.1) (fun g hm => group_short g (hlt g hm))
 unfold print6V
 cases hb : bestF 0 gs none with
 | none =>
  simp only
  have hgap : gapV (joinV 58 (gs.map shortV)) = none := by
   have := gap_join (gs.map shortV) (hp gs) [] (fun _ => rfl)
   simpa [gapV] using this
  rw [parse6V, hgap]
  simp only
  rw [hgr gs (by omega) hg]
  simp [h8]
 | some p =>
  obtain ⟨h1, h2, h3⟩ := best_row gs p hb
  simp only
  rw [parse6V, gap_join_gap _ (hp _)]
  simp only
  rw [List.take_left, show (joinV 58 ((gs.take p.1).map shortV)).length + 2 = (joinV 58 ((gs.take p.1).map shortV)).length + 2 from rfl, ← List.drop_drop, List.drop_left]
  simp only [List.drop_succ_cons, List.drop_zero]
  rw [hgr _ (by rw [List.length_take]; omega) (fun g hm => hg g (List.mem_of_mem_take hm)), hgr _ (by rw [List.length_drop]; omega) (fun g hm => hg g (List.mem_of_mem_drop hm))]
  simp only [Option.bind_some, List.length_take, List.length_drop]
  rw [if_pos (by omega), show 8 - min p.1 gs.length - (gs.length - (p.1 + p.2)) = p.2 by omega, ← h3]
theorem join_len (b : UInt8) (ls : List (List UInt8)) (k : Nat) (h : ∀ l ∈ ls, l.length ≤ k) : (joinV b ls).length ≤ (k + 1) * ls.length := by
 induction ls with
 | nil => simp [joinV]
 | cons x r ih =>
  have h1 := h x (by simp)
  have h2 := ih (fun l hl => h l (by simp [hl]))
  rw [joinV]
  split
  ·simp only [List.length_cons]
   have : (k + 1) * (r.length + 1) = (k + 1) * r.length + (k + 1) := by rw [Nat.mul_succ]
   omega
  ·simp only [List.length_append, List.length_cons]
   have : (k + 1) * (r.length + 1) = (k + 1) * r.length + (k + 1) := by rw [Nat.mul_succ]
   omega
structure Nd where
 kind : Nat
 op : Nat
 n : Nat
 m : Nat
 size : Nat
 of : Nat
 side : Nat
 addr : List UInt8
 bits : Nat
def nd0 : Nd := ⟨0, 0, 0, 0, 0, 0, 0, List.replicate 16 0, 0⟩
def ndK (k : Nat) : Nd := { nd0 with kind := k }
abbrev Er := Nat × Int
abbrev Out := Except Er (List (Nd × Nat) × List Tk)
def thenE {α β : Type} (x : Except Er α) (f : α → Except Er β) : Except Er β := match x with
 | .error e => .error e
 | .ok y => f y
theorem thenE_ok {α β : Type} (y : α) (f : α → Except Er β) : thenE (.ok y) f = f y := rfl
theorem thenE_er {α β : Type} (e : Er) (f : α → Except Er β) : thenE (.error e : Except Er α) f = .error e := rfl
def hdT (ts : List Tk) : Tk := ts.headD ⟨0, 0, [], 0⟩
def isB (ts : List Tk) (x : List UInt8) : Bool := ((hdT ts).kind == 5 || (hdT ts).kind == 2) && (hdT ts).text == x
def failV {α : Type} (ts : List Tk) (e : Int) : Except Er α := .error ((hdT ts).pos, if (hdT ts).kind = 0 then 110 else e)
def mustV (x : List UInt8) (ts : List Tk) : Except Er (List Tk) := if isB ts x = true then .ok ts.tail else failV ts 111
def numT (ts : List Tk) : Except Er (Nat × List Tk) := if (hdT ts).kind = 1 then .ok ((hdT ts).num, ts.tail) else failV ts 111
def opnV {α : Type} (nest : Nat) (ts : List Tk) (x : Except Er α) : Except Er α := if nest = 200 then .error ((hdT ts).pos, 113) else x
def wNot : List UInt8 := [110, 111, 116]
def wAnd : List UInt8 := [97, 110, 100]
def wOr : List UInt8 := [111, 114]
def wSrc : List UInt8 := [115, 114, 99]
def wDst : List UInt8 := [100, 115, 116]
def wHost : List UInt8 := [104, 111, 115, 116]
def wNet : List UInt8 := [110, 101, 116]
def wPort : List UInt8 := [112, 111, 114, 116]
def wPortrange : List UInt8 := [112, 111, 114, 116, 114, 97, 110, 103, 101]
def wProto : List UInt8 := [112, 114, 111, 116, 111]
def wLen : List UInt8 := [108, 101, 110]
def wInbound : List UInt8 := [105, 110, 98, 111, 117, 110, 100]
def wOutbound : List UInt8 := [111, 117, 116, 98, 111, 117, 110, 100]
def relV (x : List UInt8) : Option Nat :=
 if x = [61] ∨ x = [61, 61] then some 1 else if x = [33, 61] then some 2 else if x = [60] then some 3 else if x = [60, 61] then some 4 else if x = [62] then some 5 else if x = [62, 61] then some 6 else none
def binV (k : Nat) (x : List UInt8) : Option Nd :=
 if k = 1 then (if x = wOr ∨ x = [124, 124] then some (ndK 8) else none)
 else if k = 2 then (if x = wAnd ∨ x = [38, 38] then some (ndK 7) else none)
 else if k = 4 then (relV x).map fun o => { ndK 6 with op := o }
 else if k = 5 then (if x = [124] then some { ndK 4 with op := 7 } else none)
 else if k = 6 then (if x = [94] then some { ndK 4 with op := 8 } else none)
 else if k = 7 then (if x = [38] then some { ndK 4 with op := 6 } else none)
 else if k = 8 then (if x = [60, 60] then some { ndK 4 with op := 9 } else if x = [62, 62] then some { ndK 4 with op := 10 } else none)
 else if k = 9 then (if x = [43] then some { ndK 4 with op := 1 } else if x = [45] then some { ndK 4 with op := 2 } else none)
 else if k = 10 then (if x = [42] then some { ndK 4 with op := 3 } else if x = [47] then some { ndK 4 with op := 4 } else if x = [37] then some { ndK 4 with op := 5 } else none)
 else none
def nameN (x : List UInt8) : Nat :=
 if x = [112, 112, 112] then 1 else if x = [105, 112] then 2 else if x = [105, 112, 54] then 3 else if x = [116, 99, 112] then 4 else if x = [117, 100, 112] then 5
 else if x = [105, 99, 109, 112] then 6 else if x = [105, 99, 109, 112, 54] then 7 else if x = [108, 99, 112] then 8 else if x = [112, 97, 112] then 9 else if x = [99, 104, 97, 112] then 10
 else if x = [105, 112, 99, 112] then 11 else if x = [105, 112, 54, 99, 112] then 12 else if x = [109, 112] then 13 else 0
def addrT (kind : Nat) (ts : List Tk) : Except Er (Nd × List Tk) :=
 if (hdT ts).kind = 3 then (match parse4V (hdT ts).text with
  | some a => .ok ({ ndK kind with of := 2, addr := a ++ List.replicate 12 0 }, ts.tail)
  | none => failV ts 112)
 else if (hdT ts).kind = 4 then (match parse6V (hdT ts).text with
  | some a => .ok ({ ndK kind with of := 3, addr := a }, ts.tail)
  | none => failV ts 112)
 else failV ts 111
def sideN (ts : List Tk) : Nat := if isB ts wSrc = true then 1 else if isB ts wDst = true then 2 else 0
def sideR (ts : List Tk) : List Tk := if sideN ts = 0 then ts else ts.tail
def sidedB (of at' side : Nat) (ts : List Tk) : Out :=
 if isB ts wPort = true then thenE (numT ts.tail) fun p => .ok ([({ ndK 16 with of := of, side := side, n := p.1, m := p.1 }, at')], p.2)
 else if isB ts wPortrange = true then thenE (numT ts.tail) fun p => thenE (mustV [45] p.2) fun r => thenE (numT r) fun q => .ok ([({ ndK 16 with of := of, side := side, n := p.1, m := q.1 }, at')], q.2)
 else if of = 0 ∧ isB ts wHost = true then thenE (addrT 14 ts.tail) fun p => .ok ([({ p.1 with side := side }, at')], p.2)
 else if of = 0 ∧ isB ts wNet = true then thenE (addrT 15 ts.tail) fun p => thenE (mustV [47] p.2) fun r => thenE (numT r) fun q => .ok ([({ p.1 with bits := q.1, side := side }, at')], q.2)
 else failV ts 111
def sidedV (of at' : Nat) (ts : List Tk) : Out := sidedB of at' (sideN ts) (sideR ts)
def wordF (ts : List Tk) : Out :=
 if (hdT ts).text = wLen then .ok ([(ndK 2, (hdT ts).pos)], ts.tail)
 else if (hdT ts).text = wInbound then .ok ([({ ndK 10 with side := 1 }, (hdT ts).pos)], ts.tail)
 else if (hdT ts).text = wOutbound then .ok ([({ ndK 10 with side := 2 }, (hdT ts).pos)], ts.tail)
 else if (hdT ts).text = wProto then thenE (numT ts.tail) fun p => .ok ([({ ndK 12 with n := p.1 }, (hdT ts).pos)], p.2)
 else if (hdT ts).text ∈ [wSrc, wDst, wHost, wNet, wPort, wPortrange] then sidedV 0 (hdT ts).pos ts
 else failV ts 111
def sizeF (ts : List Tk) : Except Er (Nat × List Tk) :=
 if isB ts [58] = true then thenE (numT ts.tail) fun p => thenE (mustV [93] p.2) fun r => .ok (p.1, r)
 else thenE (mustV [93] ts) fun r => .ok (1, r)
def nameF (rec : Nat → List Tk → Out) (nest of at' : Nat) (ts : List Tk) : Out :=
 if isB ts [91] = true ∧ of ≠ 13 then opnV nest ts (thenE (rec (nest + 1) ts.tail) fun p => thenE (sizeF p.2) fun q => .ok (p.1 ++ [({ ndK 3 with of := of, size := q.1 }, at')], q.2))
 else if of = 1 then failV ts 111
 else if (of = 2 ∨ of = 3) ∧ isB ts wProto = true then thenE (numT ts.tail) fun p => .ok ([({ ndK 13 with of := of, n := p.1 }, at')], p.2)
 else if (of = 4 ∨ of = 5) ∧ (isB ts wSrc = true ∨ isB ts wDst = true ∨ isB ts wPort = true ∨ isB ts wPortrange = true) then sidedV of at' ts
 else .ok ([({ ndK 11 with of := of }, at')], ts)
def partF (rec : Nat → List Tk → Out) (nest : Nat) (ts : List Tk) : Out :=
 if (hdT ts).kind = 1 then .ok ([({ ndK 1 with n := (hdT ts).num }, (hdT ts).pos)], ts.tail)
 else if isB ts [40] = true then opnV nest ts (thenE (rec (nest + 1) ts.tail) fun p => thenE (mustV [41] p.2) fun r => .ok (p.1, r))
 else if (hdT ts).kind ≠ 2 then failV ts 111
 else if nameN (hdT ts).text ≠ 0 then nameF rec nest (nameN (hdT ts).text) (hdT ts).pos ts.tail
 else wordF ts
def opT (k : Nat) (ts : List Tk) : Option Nd := if (hdT ts).kind = 5 ∨ (hdT ts).kind = 2 then binV k (hdT ts).text else none
def loopG (rec : List Tk → Out) (k : Nat) : Nat → List (Nd × Nat) → List Tk → Out
 | 0, ns, ts => .ok (ns, ts)
 | f + 1, ns, ts => match opT k ts with
  | none => .ok (ns, ts)
  | some nd => thenE (rec ts.tail) fun p => if k = 4 then .ok (ns ++ p.1 ++ [(nd, (hdT ts).pos)], p.2) else loopG rec k f (ns ++ p.1 ++ [(nd, (hdT ts).pos)]) p.2
def stepR (rec : Nat → Nat → List Tk → Out) (k nest : Nat) (ts : List Tk) : Out :=
 if k = 3 ∧ (isB ts wNot = true ∨ isB ts [33] = true) then opnV nest ts (thenE (rec 3 (nest + 1) ts.tail) fun p => .ok (p.1 ++ [(ndK 9, (hdT ts).pos)], p.2))
 else if k = 11 ∧ isB ts [45] = true then opnV nest ts (thenE (rec 11 (nest + 1) ts.tail) fun p => .ok (p.1 ++ [(ndK 5, (hdT ts).pos)], p.2))
 else if k = 3 ∨ k = 11 then rec (k + 1) nest ts
 else if k = 12 then partF (rec 1) nest ts
 else thenE (rec (k + 1) nest ts) fun p => loopG (rec (k + 1) nest) k p.2.length p.1 p.2
def rowF : Nat → Nat → Nat → List Tk → Out
 | 0 => fun _ _ _ => .error (0, 0)
 | f + 1 => stepR (rowF f)
theorem row_succ (f k nest : Nat) (ts : List Tk) : rowF (f + 1) k nest ts = stepR (rowF f) k nest ts := rfl
def needF (k : Nat) (ts : List Tk) : Nat := 13 * ts.length + (13 - k)
def parseT (ts : List Tk) : Except Er (List (Nd × Nat)) := thenE (rowF (needF 1 ts) 1 0 ts) fun p => if (hdT p.2).kind = 0 then .ok p.1 else failV p.2 111
def parseV (s : List UInt8) : Except Er (List (Nd × Nat)) := thenE (lexV s) parseT
theorem hexFrom_lt (s : List UInt8) (v n : Nat) (h : hexFrom v s = some n) : n < (v + 1) * 16 ^ s.length := by
 induction s generalizing v with
 | nil => simp [hexFrom] at h; subst h; simp
 | cons c r ih =>
  rw [hexFrom] at h
  split at h
  ·have h1 := ih _ h
   have h2 := digV_lt c.toNat
   have h3 : (16 * v + digV c.toNat + 1) * 16 ^ r.length ≤ (16 * (v + 1)) * 16 ^ r.length := Nat.mul_le_mul_right _ (by omega)
   rw [List.length_cons, Nat.pow_succ, Nat.mul_comm (16 ^ r.length) 16, ← Nat.mul_assoc, Nat.mul_comm (v + 1) 16]
   omega
  ·cases h
theorem group_lt {s : List UInt8} {n : Nat} (h : groupV s = some n) : n < 65536 := by
 unfold groupV at h
 split at h
 ·cases h
 ·have h1 := hexFrom_lt s 0 n h
  have h2 : 16 ^ s.length ≤ 16 ^ 4 := Nat.pow_le_pow_right (by decide) (by omega)
  omega
def gapI : Option Nat → Int
 | none => -1
 | some k => k
theorem info3 : (Tryz.prog.info? 3).map (fun i => (i.zero, i.size, i.bytes)) = some (some (.int .i64 0), 1, 8) := by kernel_rfl
def AAt (w : World) (g t : Nat) (xs : List UInt8) : Prop := w.heap[g]? = some (.cells (xs.map bv).toArray t (0, 0))
theorem AAt.cell {w : World} {g t : Nat} {xs : List UInt8} (h : AAt w g t xs) {i : Nat} (hi : i < xs.length) : w.cell? ⟨g, i, none⟩ = some (.int .u8 (xs[i].toNat : Int)) := by
 unfold AAt at h
 rw [cell_of_row w g i _ t (0, 0) h]
 simp [hi, bv]
theorem AAt.free {w : World} {g t : Nat} {xs : List UInt8} (h : AAt w g t xs) (i : Nat) : w.frozen? ⟨g, i, none⟩ = false := by
 unfold AAt at h
 simp [World.frozen?, h]
theorem AAt.lt {w : World} {g t : Nat} {xs : List UInt8} (h : AAt w g t xs) : g < w.heap.size := by
 unfold AAt at h
 by_cases hb : g < w.heap.size
 ·exact hb
 ·rw [Array.getElem?_eq_none (by omega)] at h; cases h
theorem AAt.grown {w w' : World} {g t : Nat} {xs : List UInt8} {row : Option Nat} (h : AAt w g t xs) (G : w.grownBy w' row) (hr : row ≠ some g) : AAt w' g t xs := by
 have := G.block g h.lt (Ne.symm hr)
 unfold AAt at *
 rw [this, h]
theorem AAt.set {w : World} {g t : Nat} {xs : List UInt8} (h : AAt w g t xs) (i n : Nat) (hn : n < 256) : AAt (w.setCell ⟨g, i, none⟩ (.int .u8 (n : Int))) g t (xs.set i (UInt8.ofNat n)) := by
 unfold AAt at *
 have e : bv (UInt8.ofNat n) = .int .u8 (n : Int) := by
  unfold bv
  rw [UInt8.toNat_ofNat_of_lt' (by simpa using hn)]
 simp only [World.setCell, Array.getElem?_modify, h, if_true, Option.map_some]
 rw [List.map_set, e]
 simp
theorem AAt.alloc (w : World) (t : Nat) (xs : List UInt8) : AAt (w.alloc (.cells (xs.map bv).toArray t)) w.heap.size t xs := heap_alloc_new w _
theorem AAt.drew {w : World} {g t : Nat} {xs : List UInt8} (h : AAt w g t xs) : AAt w.drew g t xs := h
theorem AAt.setRow {w : World} {g t : Nat} {xs : List UInt8} (h : AAt w g t xs) (ys : List UInt8) : AAt (w.setRow g (ys.map bv).toArray) g t ys := by
 unfold AAt at *
 exact setRow_heap w g _ _ t _ h
theorem heap_setRow_ne (w : World) (g k : Nat) (cs : Array Value) (h : k ≠ g) : (w.setRow g cs).heap[k]? = w.heap[k]? := by
 simp [World.setRow, Array.getElem?_modify, Ne.symm h]
theorem grown_setRow {w W : World} {row : Option Nat} (G : w.grownBy W row) (g : Nat) (cs : Array Value) (hg : row = some g ∨ w.heap.size ≤ g) : w.grownBy (W.setRow g cs) row := by
 refine ⟨G.os, G.tape, G.output, by rw [setRow_size]; exact G.size, fun i hi hr => ?_⟩
 have : i ≠ g := by
  rintro rfl
  rcases hg with hg | hg
  ·exact hr hg.symm
  ·omega
 rw [heap_setRow_ne _ _ _ _ this]
 exact G.block i hi hr
theorem AAt.other {w : World} {g t k : Nat} {xs : List UInt8} (h : AAt w g t xs) (cs : Array Value) (hk : g ≠ k) : AAt (w.setRow k cs) g t xs := by
 unfold AAt at *
 rw [heap_setRow_ne _ _ _ _ hk]
 exact h
theorem AAt.setOther {w : World} {g t k i : Nat} {xs : List UInt8} (h : AAt w g t xs) (u : Value) (hk : g ≠ k) : AAt (w.setCell ⟨k, i, none⟩ u) g t xs := by
 unfold AAt at *
 simp only [World.setCell, Array.getElem?_modify, if_neg (Ne.symm hk)]
 exact h
theorem bv_all (xs : List UInt8) : (xs.map bv).toArray.all (·.oneCell') = true := by
 rw [Array.all_eq_true_iff_forall_mem]
 intro v hv
 exact bv_one xs v (by simpa using hv)
theorem bv_size (xs : List UInt8) : (xs.map bv).toArray.size = xs.length := by simp
def strLen : Value → Nat
 | .string s => s.size
 | _ => 0
def arrV (n : Nat) (r : Option (List UInt8)) : Value := .agg ((r.getD (List.replicate n 0)).map bv).toArray
def errV (r : Option (List UInt8)) : Int := if r.isSome = true then 0 else 60
theorem ret_arr {P : Program} {fn : Func} {p u : Tmp} {ty : TypeId} (h : fn.results = #[.cell p ty, .tmp u]) (tmps : Array Value) (w : World) (g : Nat) (xs : List UInt8) (n : Nat) (e : TypeId) (hp : tmps.getD p undef = .pointer (some ⟨g, 0, none⟩)) (A : AAt w g ty xs)
  (hu : P.underlying ty = some (.array n e)) (hi : (P.info? ty).map (·.size) = some xs.length) : (results fn tmps).run P w = .ok (.tuple #[.agg (xs.map bv).toArray, tmps.getD u undef]) w := by
 rw [results_cell_tmp h, hp]
 have := run_loadVar_row (P := P) w g ty ty (xs.map bv).toArray (0, 0) _ A hu rfl (by rw [bv_size]; exact hi)
 simp only [asAddr, Sem.run_pure, Result.andThen, this]
theorem size87 : (Tryz.prog.info? 87).map (·.size) = some 4 := by kernel_rfl
theorem size26 : (Tryz.prog.info? 26).map (·.size) = some 16 := by kernel_rfl
theorem items_bytes {P : Program} (d : Nat) (e : TypeId) (he : P.underlying e = some (.int .u8)) (hk : P.plainKey e = true) (xs ys : List UInt8) (w : World) (hl : xs.length = ys.length) :
  ∀ (m k : Nat), k + m = xs.length → (Op.eqItems (d + 1) e 1 (xs.map bv).toArray (ys.map bv).toArray (List.range' k m)).run P w = .ok (decide (xs.drop k = ys.drop k)) w
 | 0, k, h => by
  have e1 : xs.drop k = ys.drop k := by rw [List.drop_eq_nil_of_le (by omega), List.drop_eq_nil_of_le (by omega)]
  simp only [List.range'_zero, Op.eqItems, Sem.run_pure]
  rw [decide_eq_true e1]
 | m + 1, k, h => by
  have hx : k < xs.length := by omega
  have hy : k < ys.length := by omega
  have p1 := run_part_plain (P := P) w hk (xs := (xs.map bv).toArray) (off := k * 1) (v := bv xs[k]) (by simp [hx])
  have p2 := run_part_plain (P := P) w hk (xs := (ys.map bv).toArray) (off := k * 1) (v := bv ys[k]) (by simp [hy])
  have p3 : (Op.equalIn (d + 1) e (bv xs[k]) (bv ys[k])).run P w = .ok ((xs[k].toNat : Int) == (ys[k].toNat : Int)) w := run_equalIn_int w d e .u8 .u8 _ _ he
  have ih := items_bytes d e he hk xs ys w hl m (k + 1) (by omega)
  rw [List.range'_succ]
  simp only [Op.eqItems, Sem.run_bind, p1, p2, p3, Result.andThen_ok]
  rw [List.drop_eq_getElem_cons hx, List.drop_eq_getElem_cons hy]
  by_cases hq : xs[k] = ys[k]
  ·rw [hq, show ((ys[k].toNat : Int) == (ys[k].toNat : Int)) = true by simp]
   simp only [Bool.not_true, Bool.false_eq_true, if_false]
   rw [ih]
   simp only [List.cons.injEq, true_and]
  ·have : ((xs[k].toNat : Int) == (ys[k].toNat : Int)) = false := by
    rw [beq_eq_false_iff_ne]
    intro e
    exact hq (UInt8.toNat_inj.1 (by omega))
   rw [this]
   simp only [Bool.not_false, if_true, Sem.run_pure]
   rw [decide_eq_false (fun e => hq (List.cons.inj e).1)]

end Go.Proofs.YtghbbephhoniaaaGreatDoor
