import Derived.Test.YtklipelnjgpnjaaGreatDoorLotA1
namespace Go.Proofs.YtklipelnjgpnjaaGreatDoor
open Go.RowKit
set_option maxRecDepth 100000
def digOk (c : Nat) : Bool := decide ((48 ≤ c ∧ c ≤ 57) ∨ (97 ≤ c ∧ c ≤ 102))
def digV (c : Nat) : Nat := if 48 ≤ c ∧ c ≤ 57 then c - 48 else if 97 ≤ c ∧ c ≤ 102 then c - 87 else 0
def splitG (b : UInt8) : List UInt8 → List UInt8 → List (List UInt8)
 | cur, [] => [cur]
 | cur, c :: r => if c = b then cur :: splitG b [] r else splitG b (cur ++ [c]) r
def splitV (b : UInt8) (s : List UInt8) : List (List UInt8) := splitG b [] s
def joinV (b : UInt8) : List (List UInt8) → List UInt8
 | [] => []
 | x :: r => if r = [] then x else x ++ b :: joinV b r
theorem joinV_one (b : UInt8) (x : List UInt8) : joinV b [x] = x := by simp [joinV]
theorem joinV_cons (b : UInt8) (x y : List UInt8) (r : List (List UInt8)) : joinV b (x :: y :: r) = x ++ b :: joinV b (y :: r) := by
 rw [joinV, if_neg (by simp)]
theorem join_snoc (b : UInt8) (ls : List (List UInt8)) (x : List UInt8) : joinV b (ls ++ [x]) = if ls = [] then x else joinV b ls ++ (b :: x) := by
 induction ls with
 | nil => simp [joinV]
 | cons y r ih =>
  rw [if_neg (by simp), List.cons_append, joinV, if_neg (by simp), ih]
  split
  ·rename_i h
   subst h
   rw [joinV_one]
  ·rename_i h
   rw [joinV, if_neg h]
   simp
theorem splitG_plain (b : UInt8) (cur x : List UInt8) (h : b ∉ x) : splitG b cur x = [cur ++ x] := by
 induction x generalizing cur with
 | nil => simp [splitG]
 | cons c r ih =>
  have hc : c ≠ b := fun e => h (by rw [e]; simp)
  rw [splitG, if_neg hc, ih _ (fun e => h (by simp [e]))]
  simp
theorem splitG_piece (b : UInt8) (cur x r : List UInt8) (h : b ∉ x) : splitG b cur (x ++ b :: r) = (cur ++ x) :: splitG b [] r := by
 induction x generalizing cur with
 | nil => simp [splitG]
 | cons c x ih =>
  have hc : c ≠ b := fun e => h (by rw [e]; simp)
  rw [List.cons_append, splitG, if_neg hc, ih _ (fun e => h (by simp [e]))]
  simp
theorem split_join (b : UInt8) (x : List UInt8) (ls : List (List UInt8)) (h : ∀ l ∈ x :: ls, b ∉ l) : splitV b (joinV b (x :: ls)) = x :: ls := by
 unfold splitV
 induction ls generalizing x with
 | nil => rw [joinV_one, splitG_plain b [] x (h x (by simp))]; rfl
 | cons y r ih =>
  rw [joinV_cons, splitG_piece b [] x _ (h x (by simp)), ih y (fun l hl => h l (by simp only [List.mem_cons] at hl ⊢; exact .inr hl))]
  rfl
def allV {α β : Type} (f : α → Option β) : List α → Option (List β)
 | [] => some []
 | x :: r => (f x).bind fun v => (allV f r).map fun vs => v :: vs
theorem allV_map {α β γ : Type} {f : α → Option β} {g : γ → α} {k : γ → β} (xs : List γ) (h : ∀ x ∈ xs, f (g x) = some (k x)) : allV f (xs.map g) = some (xs.map k) := by
 induction xs with
 | nil => rfl
 | cons x r ih => simp only [List.map_cons, allV, h x (by simp), ih (fun y hy => h y (by simp [hy])), Option.bind_some, Option.map_some]
def parse4V (s : List UInt8) : Option (List UInt8) := if (splitV 46 s).length = 4 then (allV (numberV 255) (splitV 46 s)).map fun ns => ns.map UInt8.ofNat else none
def print4V (a : List UInt8) : List UInt8 := joinV 46 (a.map fun x => dec x.toNat)
theorem dec_no (b : UInt8) (hb : isDig b = false) (n : Nat) (h : n < 10 ^ 20) : b ∉ dec n := fun hm => by
 have := dec_dig n h b hm
 rw [hb] at this
 cases this
theorem parse4_print4 (a : List UInt8) (h : a.length = 4) : parse4V (print4V a) = some a := by
 have hs : splitV 46 (print4V a) = a.map fun x => dec x.toNat := by
  match a, h with
  | x :: r, _ =>
   refine split_join 46 _ _ fun l hl => ?_
   have hl' : l ∈ (x :: r).map fun x => dec x.toNat := hl
   obtain ⟨y, hy, rfl⟩ := List.mem_map.1 hl'
   exact dec_no 46 (by decide) _ (by have := y.toNat_lt; omega)
 rw [parse4V, hs, if_pos (by simpa using h), allV_map (k := fun x : UInt8 => x.toNat) a (fun x hx => numberV_dec 255 _ (by have := x.toNat_lt; omega) (by have := x.toNat_lt; omega))]
 have e : (UInt8.ofNat ∘ fun x : UInt8 => x.toNat) = id := by funext x; simp
 simp [e]
def hexFrom : Nat → List UInt8 → Option Nat
 | v, [] => some v
 | v, c :: r => if digOk c.toNat = true then hexFrom (16 * v + digV c.toNat) r else none
def groupV (s : List UInt8) : Option Nat := if s.length < 1 ∨ 4 < s.length then none else hexFrom 0 s
def groupsV (s : List UInt8) : Option (List Nat) := if s = [] then some [] else if 8 < (splitV 58 s).length then none else allV groupV (splitV 58 s)
def gapV : List UInt8 → Option Nat
 | [] => none
 | a :: r => if a = 58 ∧ r.head? = some 58 then some 0 else (gapV r).map fun k => k + 1
def bytesG (gs : List Nat) : List UInt8 := gs.flatMap fun g => [UInt8.ofNat (g / 256), UInt8.ofNat g]
def parse6V (s : List UInt8) : Option (List UInt8) := match gapV s with
 | none => (groupsV s).bind fun x => if x.length = 8 then some (bytesG x) else none
 | some k => (groupsV (s.take k)).bind fun x => (groupsV (s.drop (k + 2))).bind fun y => if x.length + y.length ≤ 7 then some (bytesG (x ++ List.replicate (8 - x.length - y.length) 0 ++ y)) else none
def pairsG : List UInt8 → List Nat
 | h :: l :: r => (256 * h.toNat + l.toNat) :: pairsG r
 | _ => []
theorem pairs_lt (a : List UInt8) : ∀ g ∈ pairsG a, g < 65536 := by
 intro g hg
 induction a using pairsG.induct with
 | case1 h l r ih =>
  rw [pairsG] at hg
  rcases List.mem_cons.1 hg with rfl | hg
  ·have := h.toNat_lt; have := l.toNat_lt; omega
  ·exact ih hg
 | case2 a hn =>
  rw [pairsG] at hg
  ·cases hg
  ·exact hn
theorem pairs_len : ∀ (n : Nat) (a : List UInt8), a.length = 2 * n → (pairsG a).length = n
 | 0, [], _ => rfl
 | n + 1, h :: l :: r, e => by rw [pairsG, List.length_cons, pairs_len n r (by simp at e; omega)]
theorem bytes_pairs : ∀ (n : Nat) (a : List UInt8), a.length = 2 * n → bytesG (pairsG a) = a
 | 0, [], _ => rfl
 | n + 1, h :: l :: r, e => by
  have h1 := h.toNat_lt
  have h2 := l.toNat_lt
  have e1 : UInt8.ofNat ((256 * h.toNat + l.toNat) / 256) = h := by
   rw [show (256 * h.toNat + l.toNat) / 256 = h.toNat by omega]; simp
  have e2 : UInt8.ofNat (256 * h.toNat + l.toNat) = l := by
   apply UInt8.toNat_inj.1
   simp
  rw [pairsG, bytesG, List.flatMap_cons, e1, e2, ← bytesG, bytes_pairs n r (by simp at e; omega)]
  simp
def zrow (gs : List Nat) : Nat := (gs.takeWhile fun g => g == 0).length
def longOf : Option (Nat × Nat) → Nat
 | none => 1
 | some p => p.2
def bestF : Nat → List Nat → Option (Nat × Nat) → Option (Nat × Nat)
 | _, [], acc => acc
 | i, g :: r, acc => bestF (i + 1) r (if longOf acc < zrow (g :: r) then some (i, zrow (g :: r)) else acc)
def stripV : List UInt8 → List UInt8
 | [] => []
 | a :: r => if a = 48 ∧ r ≠ [] then stripV r else a :: r
def fullV (g : Nat) : List UInt8 := [hexD (g / 4096 % 16), hexD (g / 256 % 16), hexD (g / 16 % 16), hexD (g % 16)]
def shortV (g : Nat) : List UInt8 := stripV (fullV g)
def print6V (gs : List Nat) : List UInt8 := match bestF 0 gs none with
 | none => joinV 58 (gs.map shortV)
 | some p => joinV 58 ((gs.take p.1).map shortV) ++ (58 :: 58 :: joinV 58 ((gs.drop (p.1 + p.2)).map shortV))
theorem hexD_dig {n : Nat} (h : n < 16) : digOk (hexD n).toNat = true ∧ digV (hexD n).toNat = n ∧ hexD n ≠ 58 ∧ (hexD n = 48 → n = 0) := by
 have key : ∀ j : Fin 16, digOk (hexD j.val).toNat = true ∧ digV (hexD j.val).toNat = j.val ∧ hexD j.val ≠ 58 ∧ (hexD j.val = 48 → j.val = 0) := by decide +kernel
 exact key ⟨n, h⟩
theorem hexFrom_step (v n : Nat) (h : n < 16) (r : List UInt8) : hexFrom v (hexD n :: r) = hexFrom (16 * v + n) r := by
 rw [hexFrom, if_pos (hexD_dig h).1, (hexD_dig h).2.1]
theorem group_full (g : Nat) (h : g < 65536) : groupV (fullV g) = some g := by
 rw [groupV, if_neg (by simp [fullV]), fullV, hexFrom_step _ _ (by omega), hexFrom_step _ _ (by omega), hexFrom_step _ _ (by omega), hexFrom_step _ _ (by omega), hexFrom]
 congr 1
 omega
def piece (x : List UInt8) : Prop := 58 ∉ x ∧ x ≠ [] ∧ x.length ≤ 4 ∧ (x.head? = some 48 → x.length = 1)
theorem strip_piece (x : List UInt8) (h58 : 58 ∉ x) (hne : x ≠ []) (hl : x.length ≤ 4) : piece (stripV x) := by
 induction x with
 | nil => exact absurd rfl hne
 | cons a r ih =>
  rw [stripV]
  split
  ·rename_i h
   exact ih (fun e => h58 (by simp [e])) h.2 (by simp at hl; omega)
  ·rename_i h
   refine ⟨h58, by simp, hl, fun e => ?_⟩
   simp only [List.head?_cons, Option.some.injEq] at e
   by_cases hr : r = []
   ·rw [hr]; rfl
   ·exact absurd ⟨e, hr⟩ h
theorem full_no (g : Nat) : 58 ∉ fullV g := by
 intro h
 simp only [fullV, List.mem_cons, List.not_mem_nil, or_false] at h
 rcases h with h | h | h | h
 ·exact (hexD_dig (n := g / 4096 % 16) (by omega)).2.2.1 h.symm
 ·exact (hexD_dig (n := g / 256 % 16) (by omega)).2.2.1 h.symm
 ·exact (hexD_dig (n := g / 16 % 16) (by omega)).2.2.1 h.symm
 ·exact (hexD_dig (n := g % 16) (by omega)).2.2.1 h.symm
theorem short_piece (g : Nat) : piece (shortV g) := strip_piece _ (full_no g) (by simp [fullV]) (by simp [fullV])
theorem hexFrom_strip (x : List UInt8) : hexFrom 0 (stripV x) = hexFrom 0 x := by
 induction x with
 | nil => rfl
 | cons a r ih =>
  rw [stripV]
  split
  ·rename_i h
   rw [ih, h.1, hexFrom, if_pos (by decide)]
   rfl
  ·rfl
theorem group_short (g : Nat) (h : g < 65536) : groupV (shortV g) = some g := by
 obtain ⟨-, h2, h3, -⟩ := short_piece g
 have h1 : 1 ≤ (shortV g).length := by
  cases hs : shortV g with
  | nil => exact absurd hs h2
  | cons a r => simp
 rw [groupV, if_neg (by omega), shortV, hexFrom_strip]
 have := group_full g h
 rw [groupV, if_neg (by simp [fullV])] at this
 exact this
theorem join_ne (b : UInt8) (x : List UInt8) (r : List (List UInt8)) (h : x ≠ []) : joinV b (x :: r) ≠ [] := by
 rw [joinV]
 split
 ·exact h
 ·simp
theorem groups_join (f : Nat → List UInt8) (gs : List Nat) (hl : gs.length ≤ 8) (h58 : ∀ g ∈ gs, 58 ∉ f g) (hne : ∀ g ∈ gs, f g ≠ []) (hg : ∀ g ∈ gs, groupV (f g) = some g) : groupsV (joinV 58 (gs.map f)) = some gs := by
 cases gs with
 | nil => rfl
 | cons g r =>
  have hs : splitV 58 (joinV 58 ((g :: r).map f)) = (g :: r).map f := by
   rw [List.map_cons]
   refine split_join 58 _ _ fun l hl => ?_
   rw [← List.map_cons] at hl
   obtain ⟨y, hy, rfl⟩ := List.mem_map.1 hl
   exact h58 y hy
  rw [groupsV, if_neg (by rw [List.map_cons]; exact join_ne _ _ _ (hne g (by simp))), hs, if_neg (by rw [List.length_map]; omega), allV_map (k := fun g => g) _ hg]
  simp
theorem gap_piece (x r : List UInt8) (h : 58 ∉ x) : gapV (x ++ r) = (gapV r).map fun k => k + x.length := by
 induction x with
 | nil => simp
 | cons c x ih =>
  have hc : c ≠ 58 := fun e => h (by rw [e]; simp)
  rw [List.cons_append, gapV, if_neg (fun e => hc e.1), ih (fun e => h (by simp [e]))]
  cases gapV r with
  | none => rfl
  | some k => simp only [Option.map_some, List.length_cons]; congr 1
theorem gap_join (ls : List (List UInt8)) (h : ∀ l ∈ ls, piece l) (t : List UInt8) (hn : ls = [] → t = []) :
  gapV (joinV 58 ls ++ t) = (gapV t).map fun k => k + (joinV 58 ls).length := by
 induction ls with
 | nil => rw [hn rfl]; rfl
 | cons x r ih =>
  obtain ⟨p1, p2, -, -⟩ := h x (by simp)
  cases r with
  | nil => rw [joinV_one]; exact gap_piece x t p1
  | cons y r =>
   have hy := h y (by simp)
   have e2 := ih (fun l hl => h l (by simp only [List.mem_cons] at hl ⊢; exact .inr hl)) (fun e => by cases e)
   have hh : (joinV 58 (y :: r) ++ t).head? ≠ some 58 := by
    obtain ⟨q1, q2, -, -⟩ := hy
    cases hyy : y with
    | nil => exact absurd hyy q2
    | cons c y' =>
     have hc : c ≠ 58 := fun e => q1 (by rw [hyy, e]; simp)
     rw [joinV]
     split <;> simpa using hc
   rw [joinV_cons, List.append_assoc, gap_piece x _ p1, List.cons_append, gapV, if_neg (fun e => hh e.2), e2]
   cases gapV t with
   | none => rfl
   | some k => simp only [Option.map_some, List.length_append, List.length_cons]; congr 1; omega
theorem gap_join_gap (ls : List (List UInt8)) (h : ∀ l ∈ ls, piece l) (t : List UInt8) : gapV (joinV 58 ls ++ (58 :: 58 :: t)) = some (joinV 58 ls).length := by
 induction ls with
 | nil => rfl
 | cons x r ih =>
  obtain ⟨p1, p2, -, -⟩ := h x (by simp)
  cases r with
  | nil => rw [joinV_one, gap_piece x _ p1, gapV, if_pos ⟨rfl, rfl⟩]; simp
  | cons y r =>
   have hy := h y (by simp)
   have e2 := ih (fun l hl => h l (by simp only [List.mem_cons] at hl ⊢; exact .inr hl))
   have hh : (joinV 58 (y :: r) ++ (58 :: 58 :: t)).head? ≠ some 58 := by
    obtain ⟨q1, q2, -, -⟩ := hy
    cases hyy : y with
    | nil => exact absurd hyy q2
    | cons c y' =>
     have hc : c ≠ 58 := fun e => q1 (by rw [hyy, e]; simp)
     rw [joinV]
     split <;> simpa using hc
   rw [joinV_cons, List.append_assoc, gap_piece x _ p1, List.cons_append, gapV, if_neg (fun e => hh e.2), e2]
   simp only [Option.map_some, List.length_append, List.length_cons]; congr 1; omega
theorem zrow_le (gs : List Nat) : zrow gs ≤ gs.length := (List.takeWhile_sublist _).length_le
theorem zrow_take (gs : List Nat) : gs.take (zrow gs) = List.replicate (zrow gs) 0 := by
 unfold zrow
 induction gs with
 | nil => rfl
 | cons g r ih =>
  simp only [List.takeWhile_cons]
  split
  ·rename_i h
   simp only [List.length_cons, List.take_succ_cons, List.replicate_succ, ih]
   rw [eq_of_beq h]
  ·rfl
theorem best_ok (gs : List Nat) (i : Nat) (acc : Option (Nat × Nat)) (all : List Nat) (hall : all.drop i = gs) (hi : i ≤ all.length)
  (hacc : ∀ p, acc = some p → 2 ≤ p.2 ∧ p.1 + p.2 ≤ all.length ∧ (all.drop p.1).take p.2 = List.replicate p.2 0) :
  ∀ p, bestF i gs acc = some p → 2 ≤ p.2 ∧ p.1 + p.2 ≤ all.length ∧ (all.drop p.1).take p.2 = List.replicate p.2 0 := by
 induction gs generalizing i acc with
 | nil => exact hacc
 | cons g r ih =>
  rw [bestF]
  have hlen : (g :: r).length = all.length - i := by rw [← hall, List.length_drop]
  refine ih (i + 1) _ ?_ (by simp at hlen; omega) ?_
  ·rw [← List.drop_drop, hall]; rfl
  ·intro p hp
   split at hp
   ·rename_i hlt
    simp only [Option.some.injEq] at hp
    subst hp
    have h1 : 1 ≤ longOf acc := by
     cases acc with
     | none => exact Nat.le_refl _
     | some q => have := (hacc q rfl).1; simp only [longOf]; omega
    have h2 := zrow_le (g :: r)
    refine ⟨by simp only; omega, by simp only; omega, ?_⟩
    simp only
    rw [hall]
    exact zrow_take _
   ·exact hacc p hp
theorem best_row (gs : List Nat) (p : Nat × Nat) (h : bestF 0 gs none = some p) : 2 ≤ p.2 ∧ p.1 + p.2 ≤ gs.length ∧ gs = gs.take p.1 ++ List.replicate p.2 0 ++ gs.drop (p.1 + p.2) := by
 obtain ⟨h1, h2, h3⟩ := best_ok gs 0 none gs rfl (Nat.zero_le _) (fun p hp => by cases hp) p h
 refine ⟨h1, h2, ?_⟩
 rw [← h3, List.append_assoc, ← List.drop_drop, List.take_append_drop, List.take_append_drop]
theorem parse6_print6 (gs : List Nat) (h8 : gs.length = 8) (hg : ∀ g ∈ gs, g < 65536) : parse6V (print6V gs) = some (bytesG gs) := by
 have hp : ∀ (zs : List Nat), ∀ l ∈ zs.map shortV, piece l := fun zs l hl => by
  obtain ⟨g, -, rfl⟩ := List.mem_map.1 hl
  exact short_piece g
 have hgr : ∀ zs : List Nat, zs.length ≤ 8 → (∀ g ∈ zs, g < 65536) → groupsV (joinV 58 (zs.map shortV)) = some zs := fun zs hz hlt =>
  groups_join shortV zs hz (fun g _ => (short_piece g).1) (fun g _ => (short_piece g).2.1) (fun g hm => group_short g (hlt g hm))
 unfold print6V
 cases hb : bestF 0 gs none with
 | none =>
  simp only
  have hgap : gapV (joinV 58 (gs.map shortV)) = none := by
   have := gap_join (gs.map shortV) (hp gs) [] (fun _ => rfl)
   simpa [gapV] using this
  rw [parse6V, hgap]
  simp only
  rw [hgr gs (by omega) hg]
  simp [h8]
 | some p =>
  obtain ⟨h1, h2, h3⟩ := best_row gs p hb
  simp only
  rw [parse6V, gap_join_gap _ (hp _)]
  simp only
  rw [List.take_left, show (joinV 58 ((gs.take p.1).map shortV)).length + 2 = (joinV 58 ((gs.take p.1).map shortV)).length + 2 from rfl, ← List.drop_drop, List.drop_left]
  simp only [List.drop_succ_cons, List.drop_zero]
  rw [hgr _ (by rw [List.length_take]; omega) (fun g hm => hg g (List.mem_of_mem_take hm)), hgr _ (by rw [List.length_drop]; omega) (fun g hm => hg g (List.mem_of_mem_drop hm))]
  simp only [Option.bind_some, List.length_take, List.length_drop]
  rw [if_pos (by omega), show 8 - min p.1 gs.length - (gs.length - (p.1 + p.2)) = p.2 by omega, ← h3]
theorem join_len (b : UInt8) (ls : List (List UInt8)) (k : Nat) (h : ∀ l ∈ ls, l.length ≤ k) : (joinV b ls).length ≤ (k + 1) * ls.length := by
 induction ls with
 | nil => simp [joinV]
 | cons x r ih =>
  have h1 := h x (by simp)
  have h2 := ih (fun l hl => h l (by simp [hl]))
  rw [joinV]
  split
  ·simp only [List.length_cons]
   have : (k + 1) * (r.length + 1) = (k + 1) * r.length + (k + 1) := by rw [Nat.mul_succ]
   omega
  ·simp only [List.length_append, List.length_cons]
   have : (k + 1) * (r.length + 1) = (k + 1) * r.length + (k + 1) := by rw [Nat.mul_succ]
   omega
theorem join_len1 (b : UInt8) (ls : List (List UInt8)) (k : Nat) (h : ∀ l ∈ ls, l.length ≤ k) (hne : ls ≠ []) : (joinV b ls).length + 1 ≤ (k + 1) * ls.length := by
 induction ls with
 | nil => exact absurd rfl hne
 | cons x r ih =>
  have h1 := h x (by simp)
  rw [joinV]
  have : (k + 1) * (r.length + 1) = (k + 1) * r.length + (k + 1) := by rw [Nat.mul_succ]
  split
  ·simp only [List.length_cons]
   omega
  ·rename_i hr
   have h2 := ih (fun l hl => h l (by simp [hl])) hr
   simp only [List.length_append, List.length_cons]
   omega
theorem print6_len (gs : List Nat) (h8 : gs.length = 8) : (print6V gs).length ≤ 39 := by
 have hp : ∀ (zs : List Nat), ∀ l ∈ zs.map shortV, l.length ≤ 4 := fun zs l hl => by
  obtain ⟨g, -, rfl⟩ := List.mem_map.1 hl
  exact (short_piece g).2.2.1
 unfold print6V
 cases hb : bestF 0 gs none with
 | none =>
  simp only
  have := join_len1 58 (gs.map shortV) 4 (hp gs) (by intro e; have := congrArg List.length e; simp at this; rw [this] at h8; simp at h8)
  rw [List.length_map] at this
  omega
 | some p =>
  obtain ⟨h1, h2, -⟩ := best_row gs p hb
  have e1 := join_len 58 ((gs.take p.1).map shortV) 4 (hp _)
  have e2 := join_len 58 ((gs.drop (p.1 + p.2)).map shortV) 4 (hp _)
  rw [List.length_map, List.length_take] at e1
  rw [List.length_map, List.length_drop] at e2
  simp only [List.length_append, List.length_cons]
  omega
structure In where
 code : UInt16
 jt : UInt8
 jf : UInt8
 k : UInt32
def In.cells (x : In) : List Value := [.int .u16 (x.code.toNat : Int), .int .u8 (x.jt.toNat : Int), .int .u8 (x.jf.toNat : Int), .int .u32 (x.k.toNat : Int)]
def flat (xs : List In) : List Value := xs.flatMap In.cells
theorem cv_of_row {w : World} {base e size n : Nat} {v : Value} {vs : List Value} (h : w.ownsRow base e size v n vs) :
  ∃ ao cap, v = .slice ao n cap ∧ CV w ao vs ∧ n ≤ cap ∧ cap ≤ maxLen ∧ (ao = none → cap = 0) ∧ (∀ ad, ao = some ad → base ≤ ad.block ∧ ad.block < w.heap.size) ∧ v.ownBlock = ao.map (·.block) := by
 have hl := h.lt
 have h0 := h.1
 rcases h.2 with ⟨rfl, hn⟩ | ⟨g, cap, cur, rfl, hb, hg, hc, hm, hs, ht⟩
 ·subst hn
  refine ⟨none, 0, rfl, ⟨fun _ => List.eq_nil_of_length_eq_zero (by simpa using h0), fun ad had => (by cases had)⟩, by omega, Nat.zero_le _, fun _ => rfl, fun ad had => (by cases had), rfl⟩
 ·refine ⟨some ⟨g, 0, none⟩, cap, rfl, ⟨fun h => (by cases h), fun ad had i hi => ?_⟩, hc, hm, fun h => (by cases h), fun ad had => ?_, rfl⟩
  ·obtain rfl := Option.some.inj had
   exact h.cells (g := g) rfl i _ (by simp [hi])
  ·obtain rfl := Option.some.inj had
   exact hl g rfl
theorem owns_head {w : World} {base e size n : Nat} {v : Value} {vs : List Value} (h : w.ownsRow base e size v n vs) (hn : 0 < n) :
  ∃ g cap, v = .slice (some ⟨g, 0, none⟩) n cap ∧ n ≤ cap ∧ cap ≤ maxLen ∧ base ≤ g ∧ g < w.heap.size := by
 have hl := h.lt
 rcases h.2 with ⟨rfl, hn⟩ | ⟨g, cap, cur, rfl, hb, hg, hc, hm, hs, ht⟩
 ·omega
 ·exact ⟨g, cap, rfl, hc, hm, (hl g rfl).1, (hl g rfl).2⟩
theorem wpList_append_cv {P : Program} {w : World} {ops : Array Oper} {rest : List Oper} {o : Oper} {a : Act} {Q : Exit → Act → World → Prop} (hgd : o.guard = none) (s x : Operand) (t : TypeId)
  (ho : o.op = .call { callee := .builtin .append, args := #[s, x], argTypes := #[t, t] })
  (e : TypeId) (i : TypeInfo) (z : Value) (size bytes : Nat) (ht : P.underlying t = some (.slice e)) (hi : P.info? e = some i) (hz : i.zero = some z) (hsize : i.size = size) (hby : i.bytes = bytes) (hzs : z.cells.size = size) (hsz : 0 < size)
  (base : Nat) (v : Value) (n : Nat) (vs : List Value) (hs : a.eval s = v) (hown : w.ownsRow base e size v n vs)
  (ao : Option Addr) (m c : Nat) (us : List Value) (hx : a.eval x = .slice ao m c) (hl : us.length = m * size) (hc0 : ao = none → c = 0) (hus : CV w ao us) (h1 : ∀ u ∈ us, u.oneCell' = true)
  (h63 : n + m ≤ maxLen) (hbytes : (n + m) * bytes ≤ 140737488355328) (hbase : base ≤ w.heap.size)
  (h : ∀ v' w', w'.ownsRow base e size v' (n + m) (vs ++ us) → w.grownBy w' v.ownBlock → wpList P ops Q rest (a.put o.dst v') w') : wpList P ops Q (o :: rest) a w := by
 cases ao with
 | none =>
  have e0 := hus.1 rfl
  subst e0
  have e1 := hc0 rfl
  subst e1
  have e2 : m = 0 := by
   rcases Nat.mul_eq_zero.1 hl.symm with h | h
   ·exact h
   ·omega
  subst e2
  refine wpList_append_own_none hgd s x t ho base e i size ht hi v n vs hs hown hx (h v w (by simpa using hown) (World.grownBy.refl _ _))
 | some ad =>
  refine wpList_append_own w hgd s x t ho base e i z size bytes ht hi hz hsize hby hzs hsz v n vs hs hown ad m c us hx hl ?_ h1 h63 hbytes hbase fun v' w' h1 h2 _ => h v' w' h1 h2
  intro j u hj
  obtain ⟨hlt, e⟩ := List.getElem?_eq_some_iff.1 hj
  rw [hus.2 ad rfl j hlt, e]
def BlkN (w : World) (e : TypeId) (g n : Nat) : Prop := ∃ cur : Array Value, w.heap[g]? = some (.cells cur e (0, 0)) ∧ cur.size = n
theorem BlkN.cell {w : World} {e : TypeId} {g n : Nat} (h : BlkN w e g n) {i : Nat} (hi : i < n) : ∃ u, w.cell? ⟨g, i, none⟩ = some u := by
 obtain ⟨cur, hh, hs⟩ := h
 refine ⟨cur[i], ?_⟩
 rw [cell_of_row w g i cur _ _ hh]
 simp
theorem BlkN.free {w : World} {e : TypeId} {g n : Nat} (h : BlkN w e g n) (i : Nat) : w.frozen? ⟨g, i, none⟩ = false := by
 obtain ⟨cur, hh, hs⟩ := h
 simp [World.frozen?, hh]
theorem BlkN.lt {w : World} {e : TypeId} {g n : Nat} (h : BlkN w e g n) : g < w.heap.size := by
 obtain ⟨cur, hh, hs⟩ := h
 exact (Array.getElem?_eq_some_iff.1 hh).1
theorem BlkN.setCell {w : World} {e : TypeId} {g n : Nat} (h : BlkN w e g n) (a : Addr) (u : Value) : BlkN (w.setCell a u) e g n := by
 obtain ⟨cur, hh, hs⟩ := h
 by_cases e : g = a.block
 ·subst e
  by_cases hsp : a.spot.isSome = true
  ·refine ⟨cur, ?_, hs⟩
   simp only [World.setCell, Array.getElem?_modify, hh]
   simp [hsp]
  ·refine ⟨cur.setIfInBounds a.off u, ?_, by simpa using hs⟩
   simp only [World.setCell, Array.getElem?_modify, hh]
   simp [hsp]
 ·exact ⟨cur, by rw [Below.heap_setCell _ _ _ _ e]; exact hh, hs⟩
theorem BlkN.kept {w w' : World} {e : TypeId} {g n : Nat} {row : Option Nat} (h : BlkN w e g n) (hg : w.grownBy w' row) (hne : some g ≠ row) : BlkN w' e g n := by
 have hl := h.lt
 obtain ⟨cur, hh, hs⟩ := h
 exact ⟨cur, by rw [hg.block g hl hne]; exact hh, hs⟩
theorem BlkN.ofRow {w : World} {base e size g n cap : Nat} {xs : List Value} (h : w.ownsRow base e size (.slice (some ⟨g, 0, none⟩) n cap) n xs) : BlkN w e g (cap * size) ∧ n ≤ cap ∧ cap ≤ maxLen := by
 rcases h.2 with ⟨h, _⟩ | ⟨g', cap', cur, hv, hb, hg, hc, hm, hs, ht⟩
 ·cases h
 ·simp only [Value.slice.injEq, Option.some.injEq, Addr.mk.injEq] at hv
  obtain ⟨⟨rfl, _⟩, _, rfl⟩ := hv
  exact ⟨⟨cur, hg, hs⟩, hc, hm⟩
theorem BlkN.row {w : World} {e size g cap : Nat} (h : BlkN w e g (cap * size)) (n : Nat) (hn : n ≤ cap) (hm : cap ≤ maxLen) : ∃ xs : List Value, w.ownsRow 0 e size (.slice (some ⟨g, 0, none⟩) n cap) n xs := by
 obtain ⟨cur, hh, hs⟩ := h
 have hle : n * size ≤ cap * size := Nat.mul_le_mul_right _ hn
 exact ⟨cur.toList.take (n * size), by rw [List.length_take, Array.length_toList, hs]; omega, .inr ⟨g, cap, cur, rfl, Nat.zero_le _, hh, hn, hm, hs, rfl⟩⟩
def sl (s : ByteArray) : List UInt8 := s.data.toList
theorem numFrom_le {most : Nat} : ∀ (v : Nat) (d : List UInt8) (n : Nat), v ≤ most → numFrom most v d = some n → n ≤ most
 | v, [], n, hv, h => by simp [numFrom] at h; omega
 | v, c :: d, n, hv, h => by
  rw [numFrom] at h
  split at h
  ·split at h
   ·cases h
   ·exact numFrom_le _ d n (by omega) h
  ·cases h

end Go.Proofs.YtklipelnjgpnjaaGreatDoor
