/-
  What chapter 6 says of texts of addresses: no Go text here.
-/
import Derived.Test.YtblpmgkagbiogaaGreatLotP2
import Derived.Test.YtblpmgkagbiogaaGreatLotP3
namespace Go.Proofs.YtblpmgkagbiogaaGreat
open Go.RowKit
set_option maxRecDepth 100000

/-- The parts of a text between a letter, cur the letters of the one that is under way. -/
def splitG (b : UInt8) : List UInt8 → List UInt8 → List (List UInt8)
  | cur, [] => [cur]
  | cur, c :: r => if c = b then cur :: splitG b [] r else splitG b (cur ++ [c]) r
def splitV (b : UInt8) (s : List UInt8) : List (List UInt8) := splitG b [] s

theorem splitG_many (b : UInt8) (cur s : List UInt8) : (splitG b cur s).length ≤ s.length + 1 := by
  induction s generalizing cur with
  | nil => simp [splitG]
  | cons c r ih =>
    rw [splitG]
    split
    · have := ih []; simp; omega
    · have := ih (cur ++ [c]); simp; omega

theorem splitG_each (b : UInt8) (cur s : List UInt8) : ∀ l ∈ splitG b cur s, l.length ≤ cur.length + s.length := by
  induction s generalizing cur with
  | nil => intro l hl; simp [splitG] at hl; subst hl; simp
  | cons c r ih =>
    intro l hl
    rw [splitG] at hl
    split at hl
    · rcases List.mem_cons.1 hl with rfl | hl
      · simp
      · have := ih [] l hl; simp at *; omega
    · have := ih (cur ++ [c]) l hl; simp at *; omega

/-- Texts with a letter between each two. -/
def joinV (b : UInt8) : List (List UInt8) → List UInt8
  | [] => []
  | x :: r => if r = [] then x else x ++ b :: joinV b r

theorem joinV_one (b : UInt8) (x : List UInt8) : joinV b [x] = x := by simp [joinV]
theorem joinV_cons (b : UInt8) (x y : List UInt8) (r : List (List UInt8)) : joinV b (x :: y :: r) = x ++ b :: joinV b (y :: r) := by
  rw [joinV, if_neg (by simp)]

theorem join_snoc (b : UInt8) (ls : List (List UInt8)) (x : List UInt8) : joinV b (ls ++ [x]) = if ls = [] then x else joinV b ls ++ (b :: x) := by
  induction ls with
  | nil => simp [joinV]
  | cons y r ih =>
    rw [if_neg (by simp), List.cons_append, joinV, if_neg (by simp), ih]
    split
    · rename_i h
      subst h
      rw [joinV_one]
    · rename_i h
      rw [joinV, if_neg h]
      simp

theorem splitG_plain (b : UInt8) (cur x : List UInt8) (h : b ∉ x) : splitG b cur x = [cur ++ x] := by
  induction x generalizing cur with
  | nil => simp [splitG]
  | cons c r ih =>
    have hc : c ≠ b := fun e => h (by rw [e]; simp)
    rw [splitG, if_neg hc, ih _ (fun e => h (by simp [e]))]
    simp
theorem splitG_piece (b : UInt8) (cur x r : List UInt8) (h : b ∉ x) : splitG b cur (x ++ b :: r) = (cur ++ x) :: splitG b [] r := by
  induction x generalizing cur with
  | nil => simp [splitG]
  | cons c x ih =>
    have hc : c ≠ b := fun e => h (by rw [e]; simp)
    rw [List.cons_append, splitG, if_neg hc, ih _ (fun e => h (by simp [e]))]
    simp

theorem split_join (b : UInt8) (x : List UInt8) (ls : List (List UInt8)) (h : ∀ l ∈ x :: ls, b ∉ l) : splitV b (joinV b (x :: ls)) = x :: ls := by
  unfold splitV
  induction ls generalizing x with
  | nil => rw [joinV_one, splitG_plain b [] x (h x (by simp))]; rfl
  | cons y r ih =>
    rw [joinV_cons, splitG_piece b [] x _ (h x (by simp)), ih y (fun l hl => h l (by simp only [List.mem_cons] at hl ⊢; exact .inr hl))]
    rfl

/-- All of a list, or none. -/
def allV {α β : Type} (f : α → Option β) : List α → Option (List β)
  | [] => some []
  | x :: r => (f x).bind fun v => (allV f r).map fun vs => v :: vs

theorem allV_snoc {α β : Type} (f : α → Option β) (xs : List α) (y : α) : allV f (xs ++ [y]) = (allV f xs).bind fun vs => (f y).map fun v => vs ++ [v] := by
  induction xs with
  | nil => simp only [List.nil_append, allV]; cases f y <;> rfl
  | cons x r ih =>
    simp only [List.cons_append, allV, ih]
    cases f x with
    | none => rfl
    | some v =>
      cases allV f r with
      | none => rfl
      | some vs => cases f y <;> rfl
theorem allV_len {α β : Type} {f : α → Option β} {xs : List α} {vs : List β} (h : allV f xs = some vs) : vs.length = xs.length := by
  induction xs generalizing vs with
  | nil => simp [allV] at h; subst h; rfl
  | cons x r ih =>
    simp only [allV] at h
    cases hx : f x with
    | none => rw [hx] at h; cases h
    | some v =>
      rw [hx] at h
      cases hr : allV f r with
      | none => rw [hr] at h; cases h
      | some us =>
        rw [hr] at h
        simp only [Option.bind_some, Option.map_some, Option.some.injEq] at h
        subst h
        simp [ih hr]
theorem allV_map {α β γ : Type} {f : α → Option β} {g : γ → α} {k : γ → β} (xs : List γ) (h : ∀ x ∈ xs, f (g x) = some (k x)) : allV f (xs.map g) = some (xs.map k) := by
  induction xs with
  | nil => rfl
  | cons x r ih => simp only [List.map_cons, allV, h x (by simp), ih (fun y hy => h y (by simp [hy])), Option.bind_some, Option.map_some]
theorem allV_none_take {α β : Type} {f : α → Option β} {xs : List α} {i : Nat} (hi : i < xs.length) (h : f xs[i] = none) : allV f xs = none := by
  induction xs generalizing i with
  | nil => simp at hi
  | cons x r ih =>
    simp only [allV]
    cases i with
    | zero => rw [show f x = none from h]; rfl
    | succ i =>
      rw [ih (i := i) (by simpa using hi) (by simpa using h)]
      cases f x <;> rfl

/-- P6.1. -/
def parse4V (s : List UInt8) : Option (List UInt8) := if (splitV 46 s).length = 4 then (allV (numberV 255) (splitV 46 s)).map fun ns => ns.map UInt8.ofNat else none
def print4V (a : List UInt8) : List UInt8 := joinV 46 (a.map fun x => dec x.toNat)

theorem dec_no (b : UInt8) (hb : isDig b = false) (n : Nat) (h : n < 10 ^ 20) : b ∉ dec n := fun hm => by
  have := dec_dig n h b hm
  rw [hb] at this
  cases this

theorem parse4_print4 (a : List UInt8) (h : a.length = 4) : parse4V (print4V a) = some a := by
  have hs : splitV 46 (print4V a) = a.map fun x => dec x.toNat := by
    match a, h with
    | x :: r, _ =>
      refine split_join 46 _ _ fun l hl => ?_
      have hl' : l ∈ (x :: r).map fun x => dec x.toNat := hl
      obtain ⟨y, hy, rfl⟩ := List.mem_map.1 hl'
      exact dec_no 46 (by decide) _ (by have := y.toNat_lt; omega)
  rw [parse4V, hs, if_pos (by simpa using h), allV_map (k := fun x : UInt8 => x.toNat) a (fun x hx => numberV_dec 255 _ (by have := x.toNat_lt; omega) (by have := x.toNat_lt; omega))]
  have e : (UInt8.ofNat ∘ fun x : UInt8 => x.toNat) = id := by funext x; simp
  simp [e]

/-- A group's number. -/
def hexFrom : Nat → List UInt8 → Option Nat
  | v, [] => some v
  | v, c :: r => if digOk c.toNat = true then hexFrom (16 * v + digV c.toNat) r else none
def groupV (s : List UInt8) : Option Nat := if s.length < 1 ∨ 4 < s.length then none else hexFrom 0 s
/-- Some groups. -/
def groupsV (s : List UInt8) : Option (List Nat) := if s = [] then some [] else if 8 < (splitV 58 s).length then none else allV groupV (splitV 58 s)
/-- Where the first '::' is. -/
def gapV : List UInt8 → Option Nat
  | [] => none
  | a :: r => if a = 58 ∧ r.head? = some 58 then some 0 else (gapV r).map fun k => k + 1
def bytesG (gs : List Nat) : List UInt8 := gs.flatMap fun g => [UInt8.ofNat (g / 256), UInt8.ofNat g]
/-- P6.2. -/
def parse6V (s : List UInt8) : Option (List UInt8) := match gapV s with
  | none => (groupsV s).bind fun x => if x.length = 8 then some (bytesG x) else none
  | some k => (groupsV (s.take k)).bind fun x => (groupsV (s.drop (k + 2))).bind fun y => if x.length + y.length ≤ 7 then some (bytesG (x ++ List.replicate (8 - x.length - y.length) 0 ++ y)) else none

/-- The groups of bytes. -/
def pairsG : List UInt8 → List Nat
  | h :: l :: r => (256 * h.toNat + l.toNat) :: pairsG r
  | _ => []

theorem pairs_lt (a : List UInt8) : ∀ g ∈ pairsG a, g < 65536 := by
  intro g hg
  induction a using pairsG.induct with
  | case1 h l r ih =>
    rw [pairsG] at hg
    rcases List.mem_cons.1 hg with rfl | hg
    · have := h.toNat_lt; have := l.toNat_lt; omega
    · exact ih hg
  | case2 a hn => rw [pairsG] at hg; · cases hg
                  · exact hn
theorem pairs_len : ∀ (n : Nat) (a : List UInt8), a.length = 2 * n → (pairsG a).length = n
  | 0, [], _ => rfl
  | n + 1, h :: l :: r, e => by rw [pairsG, List.length_cons, pairs_len n r (by simp at e; omega)]
theorem bytes_pairs : ∀ (n : Nat) (a : List UInt8), a.length = 2 * n → bytesG (pairsG a) = a
  | 0, [], _ => rfl
  | n + 1, h :: l :: r, e => by
    have h1 := h.toNat_lt
    have h2 := l.toNat_lt
    have e1 : UInt8.ofNat ((256 * h.toNat + l.toNat) / 256) = h := by
      rw [show (256 * h.toNat + l.toNat) / 256 = h.toNat by omega]; simp
    have e2 : UInt8.ofNat (256 * h.toNat + l.toNat) = l := by
      apply UInt8.toNat_inj.1
      simp
    rw [pairsG, bytesG, List.flatMap_cons, e1, e2, ← bytesG, bytes_pairs n r (by simp at e; omega)]
    simp

/-- How many groups are 0 at a row's head. -/
def zrow (gs : List Nat) : Nat := (gs.takeWhile fun g => g == 0).length
def longOf : Option (Nat × Nat) → Nat
  | none => 1
  | some p => p.2
/-- The first one of the longest rows of two and more. -/
def bestF : Nat → List Nat → Option (Nat × Nat) → Option (Nat × Nat)
  | _, [], acc => acc
  | i, g :: r, acc => bestF (i + 1) r (if longOf acc < zrow (g :: r) then some (i, zrow (g :: r)) else acc)
def stripV : List UInt8 → List UInt8
  | [] => []
  | a :: r => if a = 48 ∧ r ≠ [] then stripV r else a :: r
/-- A group's text. -/
def fullV (g : Nat) : List UInt8 := [hexD (g / 4096 % 16), hexD (g / 256 % 16), hexD (g / 16 % 16), hexD (g % 16)]
def shortV (g : Nat) : List UInt8 := stripV (fullV g)
def print6V (gs : List Nat) : List UInt8 := match bestF 0 gs none with
  | none => joinV 58 (gs.map shortV)
  | some p => joinV 58 ((gs.take p.1).map shortV) ++ (58 :: 58 :: joinV 58 ((gs.drop (p.1 + p.2)).map shortV))

theorem hexD_dig {n : Nat} (h : n < 16) : digOk (hexD n).toNat = true ∧ digV (hexD n).toNat = n ∧ hexD n ≠ 58 ∧ (hexD n = 48 → n = 0) := by
  have key : ∀ j : Fin 16, digOk (hexD j.val).toNat = true ∧ digV (hexD j.val).toNat = j.val ∧ hexD j.val ≠ 58 ∧ (hexD j.val = 48 → j.val = 0) := by decide +kernel
  exact key ⟨n, h⟩

theorem hexFrom_step (v n : Nat) (h : n < 16) (r : List UInt8) : hexFrom v (hexD n :: r) = hexFrom (16 * v + n) r := by
  rw [hexFrom, if_pos (hexD_dig h).1, (hexD_dig h).2.1]

theorem group_full (g : Nat) (h : g < 65536) : groupV (fullV g) = some g := by
  rw [groupV, if_neg (by simp [fullV]), fullV, hexFrom_step _ _ (by omega), hexFrom_step _ _ (by omega), hexFrom_step _ _ (by omega), hexFrom_step _ _ (by omega), hexFrom]
  congr 1
  omega

/-- A piece of a text: no ':' in it, not empty, no needless nought ahead. -/
def piece (x : List UInt8) : Prop := 58 ∉ x ∧ x ≠ [] ∧ x.length ≤ 4 ∧ (x.head? = some 48 → x.length = 1)

theorem strip_piece (x : List UInt8) (h58 : 58 ∉ x) (hne : x ≠ []) (hl : x.length ≤ 4) : piece (stripV x) := by
  induction x with
  | nil => exact absurd rfl hne
  | cons a r ih =>
    rw [stripV]
    split
    · rename_i h
      exact ih (fun e => h58 (by simp [e])) h.2 (by simp at hl; omega)
    · rename_i h
      refine ⟨h58, by simp, hl, fun e => ?_⟩
      simp only [List.head?_cons, Option.some.injEq] at e
      by_cases hr : r = []
      · rw [hr]; rfl
      · exact absurd ⟨e, hr⟩ h

theorem full_no (g : Nat) : 58 ∉ fullV g := by
  intro h
  simp only [fullV, List.mem_cons, List.not_mem_nil, or_false] at h
  rcases h with h | h | h | h
  · exact (hexD_dig (n := g / 4096 % 16) (by omega)).2.2.1 h.symm
  · exact (hexD_dig (n := g / 256 % 16) (by omega)).2.2.1 h.symm
  · exact (hexD_dig (n := g / 16 % 16) (by omega)).2.2.1 h.symm
  · exact (hexD_dig (n := g % 16) (by omega)).2.2.1 h.symm

theorem short_piece (g : Nat) : piece (shortV g) := strip_piece _ (full_no g) (by simp [fullV]) (by simp [fullV])

theorem hexFrom_strip (x : List UInt8) : hexFrom 0 (stripV x) = hexFrom 0 x := by
  induction x with
  | nil => rfl
  | cons a r ih =>
    rw [stripV]
    split
    · rename_i h
      rw [ih, h.1, hexFrom, if_pos (by decide)]
      rfl
    · rfl

theorem group_short (g : Nat) (h : g < 65536) : groupV (shortV g) = some g := by
  obtain ⟨-, h2, h3, -⟩ := short_piece g
  have h1 : 1 ≤ (shortV g).length := by
    cases hs : shortV g with
    | nil => exact absurd hs h2
    | cons a r => simp
  rw [groupV, if_neg (by omega), shortV, hexFrom_strip]
  have := group_full g h
  rw [groupV, if_neg (by simp [fullV])] at this
  exact this

theorem join_ne (b : UInt8) (x : List UInt8) (r : List (List UInt8)) (h : x ≠ []) : joinV b (x :: r) ≠ [] := by
  rw [joinV]
  split
  · exact h
  · simp

theorem groups_join (f : Nat → List UInt8) (gs : List Nat) (hl : gs.length ≤ 8) (h58 : ∀ g ∈ gs, 58 ∉ f g) (hne : ∀ g ∈ gs, f g ≠ []) (hg : ∀ g ∈ gs, groupV (f g) = some g) : groupsV (joinV 58 (gs.map f)) = some gs := by
  cases gs with
  | nil => rfl
  | cons g r =>
    have hs : splitV 58 (joinV 58 ((g :: r).map f)) = (g :: r).map f := by
      rw [List.map_cons]
      refine split_join 58 _ _ fun l hl => ?_
      rw [← List.map_cons] at hl
      obtain ⟨y, hy, rfl⟩ := List.mem_map.1 hl
      exact h58 y hy
    rw [groupsV, if_neg (by rw [List.map_cons]; exact join_ne _ _ _ (hne g (by simp))), hs, if_neg (by rw [List.length_map]; omega), allV_map (k := fun g => g) _ hg]
    simp

theorem gap_piece (x r : List UInt8) (h : 58 ∉ x) : gapV (x ++ r) = (gapV r).map fun k => k + x.length := by
  induction x with
  | nil => simp
  | cons c x ih =>
    have hc : c ≠ 58 := fun e => h (by rw [e]; simp)
    rw [List.cons_append, gapV, if_neg (fun e => hc e.1), ih (fun e => h (by simp [e]))]
    cases gapV r with
    | none => rfl
    | some k => simp only [Option.map_some, List.length_cons]; congr 1

theorem gap_join (ls : List (List UInt8)) (h : ∀ l ∈ ls, piece l) (t : List UInt8) (hn : ls = [] → t = []) :
    gapV (joinV 58 ls ++ t) = (gapV t).map fun k => k + (joinV 58 ls).length := by
  induction ls with
  | nil => rw [hn rfl]; rfl
  | cons x r ih =>
    obtain ⟨p1, p2, -, -⟩ := h x (by simp)
    cases r with
    | nil => rw [joinV_one]; exact gap_piece x t p1
    | cons y r =>
      have hy := h y (by simp)
      have e2 := ih (fun l hl => h l (by simp only [List.mem_cons] at hl ⊢; exact .inr hl)) (fun e => by cases e)
      have hh : (joinV 58 (y :: r) ++ t).head? ≠ some 58 := by
        obtain ⟨q1, q2, -, -⟩ := hy
        cases hyy : y with
        | nil => exact absurd hyy q2
        | cons c y' =>
          have hc : c ≠ 58 := fun e => q1 (by rw [hyy, e]; simp)
          rw [joinV]
          split <;> simpa using hc
      rw [joinV_cons, List.append_assoc, gap_piece x _ p1, List.cons_append, gapV, if_neg (fun e => hh e.2), e2]
      cases gapV t with
      | none => rfl
      | some k => simp only [Option.map_some, List.length_append, List.length_cons]; congr 1; omega

theorem gap_join_gap (ls : List (List UInt8)) (h : ∀ l ∈ ls, piece l) (t : List UInt8) : gapV (joinV 58 ls ++ (58 :: 58 :: t)) = some (joinV 58 ls).length := by
  induction ls with
  | nil => rfl
  | cons x r ih =>
    obtain ⟨p1, p2, -, -⟩ := h x (by simp)
    cases r with
    | nil => rw [joinV_one, gap_piece x _ p1, gapV, if_pos ⟨rfl, rfl⟩]; simp
    | cons y r =>
      have hy := h y (by simp)
      have e2 := ih (fun l hl => h l (by simp only [List.mem_cons] at hl ⊢; exact .inr hl))
      have hh : (joinV 58 (y :: r) ++ (58 :: 58 :: t)).head? ≠ some 58 := by
        obtain ⟨q1, q2, -, -⟩ := hy
        cases hyy : y with
        | nil => exact absurd hyy q2
        | cons c y' =>
          have hc : c ≠ 58 := fun e => q1 (by rw [hyy, e]; simp)
          rw [joinV]
          split <;> simpa using hc
      rw [joinV_cons, List.append_assoc, gap_piece x _ p1, List.cons_append, gapV, if_neg (fun e => hh e.2), e2]
      simp only [Option.map_some, List.length_append, List.length_cons]; congr 1; omega

theorem gap_le (s : List UInt8) (k : Nat) (h : gapV s = some k) : k + 2 ≤ s.length := by
  induction s generalizing k with
  | nil => cases h
  | cons a r ih =>
    rw [gapV] at h
    split at h
    · rename_i hc
      simp only [Option.some.injEq] at h
      subst h
      cases r with
      | nil => simp at hc
      | cons b r => simp
    · cases hg : gapV r with
      | none => rw [hg] at h; cases h
      | some m =>
        rw [hg] at h
        simp only [Option.map_some, Option.some.injEq] at h
        subst h
        have := ih m hg
        simp only [List.length_cons]
        omega

theorem zrow_le (gs : List Nat) : zrow gs ≤ gs.length := (List.takeWhile_sublist _).length_le
theorem zrow_take (gs : List Nat) : gs.take (zrow gs) = List.replicate (zrow gs) 0 := by
  unfold zrow
  induction gs with
  | nil => rfl
  | cons g r ih =>
    simp only [List.takeWhile_cons]
    split
    · rename_i h
      simp only [List.length_cons, List.take_succ_cons, List.replicate_succ, ih]
      rw [eq_of_beq h]
    · rfl

/-- What the search finds. -/
theorem best_ok (gs : List Nat) (i : Nat) (acc : Option (Nat × Nat)) (all : List Nat) (hall : all.drop i = gs) (hi : i ≤ all.length)
    (hacc : ∀ p, acc = some p → 2 ≤ p.2 ∧ p.1 + p.2 ≤ all.length ∧ (all.drop p.1).take p.2 = List.replicate p.2 0) :
    ∀ p, bestF i gs acc = some p → 2 ≤ p.2 ∧ p.1 + p.2 ≤ all.length ∧ (all.drop p.1).take p.2 = List.replicate p.2 0 := by
  induction gs generalizing i acc with
  | nil => exact hacc
  | cons g r ih =>
    rw [bestF]
    have hlen : (g :: r).length = all.length - i := by rw [← hall, List.length_drop]
    refine ih (i + 1) _ ?_ (by simp at hlen; omega) ?_
    · rw [← List.drop_drop, hall]; rfl
    · intro p hp
      split at hp
      · rename_i hlt
        simp only [Option.some.injEq] at hp
        subst hp
        have h1 : 1 ≤ longOf acc := by
          cases acc with
          | none => exact Nat.le_refl _
          | some q => have := (hacc q rfl).1; simp only [longOf]; omega
        have h2 := zrow_le (g :: r)
        refine ⟨by simp only; omega, by simp only; omega, ?_⟩
        simp only
        rw [hall]
        exact zrow_take _
      · exact hacc p hp

theorem best_row (gs : List Nat) (p : Nat × Nat) (h : bestF 0 gs none = some p) : 2 ≤ p.2 ∧ p.1 + p.2 ≤ gs.length ∧ gs = gs.take p.1 ++ List.replicate p.2 0 ++ gs.drop (p.1 + p.2) := by
  obtain ⟨h1, h2, h3⟩ := best_ok gs 0 none gs rfl (Nat.zero_le _) (fun p hp => by cases hp) p h
  refine ⟨h1, h2, ?_⟩
  rw [← h3, List.append_assoc, ← List.drop_drop, List.take_append_drop, List.take_append_drop]

theorem parse6_print6 (gs : List Nat) (h8 : gs.length = 8) (hg : ∀ g ∈ gs, g < 65536) : parse6V (print6V gs) = some (bytesG gs) := by
  have hp : ∀ (zs : List Nat), ∀ l ∈ zs.map shortV, piece l := fun zs l hl => by
    obtain ⟨g, -, rfl⟩ := List.mem_map.1 hl
    exact short_piece g
  have hgr : ∀ zs : List Nat, zs.length ≤ 8 → (∀ g ∈ zs, g < 65536) → groupsV (joinV 58 (zs.map shortV)) = some zs := fun zs hz hlt =>
    groups_join shortV zs hz (fun g _ => (short_piece g).1) (fun g _ => (short_piece g).2.1) (fun g hm => group_short g (hlt g hm))
  unfold print6V
  cases hb : bestF 0 gs none with
  | none =>
    simp only
    have hgap : gapV (joinV 58 (gs.map shortV)) = none := by
      have := gap_join (gs.map shortV) (hp gs) [] (fun _ => rfl)
      simpa [gapV] using this
    rw [parse6V, hgap]
    simp only
    rw [hgr gs (by omega) hg]
    simp [h8]
  | some p =>
    obtain ⟨h1, h2, h3⟩ := best_row gs p hb
    simp only
    rw [parse6V, gap_join_gap _ (hp _)]
    simp only
    rw [List.take_left, show (joinV 58 ((gs.take p.1).map shortV)).length + 2 = (joinV 58 ((gs.take p.1).map shortV)).length + 2 from rfl, ← List.drop_drop, List.drop_left]
    simp only [List.drop_succ_cons, List.drop_zero]
    rw [hgr _ (by rw [List.length_take]; omega) (fun g hm => hg g (List.mem_of_mem_take hm)), hgr _ (by rw [List.length_drop]; omega) (fun g hm => hg g (List.mem_of_mem_drop hm))]
    simp only [Option.bind_some, List.length_take, List.length_drop]
    rw [if_pos (by omega), show 8 - min p.1 gs.length - (gs.length - (p.1 + p.2)) = p.2 by omega, ← h3]

theorem join_len (b : UInt8) (ls : List (List UInt8)) (k : Nat) (h : ∀ l ∈ ls, l.length ≤ k) : (joinV b ls).length ≤ (k + 1) * ls.length := by
  induction ls with
  | nil => simp [joinV]
  | cons x r ih =>
    have h1 := h x (by simp)
    have h2 := ih (fun l hl => h l (by simp [hl]))
    rw [joinV]
    split
    · simp only [List.length_cons]
      have : (k + 1) * (r.length + 1) = (k + 1) * r.length + (k + 1) := by rw [Nat.mul_succ]
      omega
    · simp only [List.length_append, List.length_cons]
      have : (k + 1) * (r.length + 1) = (k + 1) * r.length + (k + 1) := by rw [Nat.mul_succ]
      omega
theorem join_len1 (b : UInt8) (ls : List (List UInt8)) (k : Nat) (h : ∀ l ∈ ls, l.length ≤ k) (hne : ls ≠ []) : (joinV b ls).length + 1 ≤ (k + 1) * ls.length := by
  induction ls with
  | nil => exact absurd rfl hne
  | cons x r ih =>
    have h1 := h x (by simp)
    rw [joinV]
    have : (k + 1) * (r.length + 1) = (k + 1) * r.length + (k + 1) := by rw [Nat.mul_succ]
    split
    · simp only [List.length_cons]
      omega
    · rename_i hr
      have h2 := ih (fun l hl => h l (by simp [hl])) hr
      simp only [List.length_append, List.length_cons]
      omega

theorem print6_len (gs : List Nat) (h8 : gs.length = 8) : (print6V gs).length ≤ 39 := by
  have hp : ∀ (zs : List Nat), ∀ l ∈ zs.map shortV, l.length ≤ 4 := fun zs l hl => by
    obtain ⟨g, -, rfl⟩ := List.mem_map.1 hl
    exact (short_piece g).2.2.1
  unfold print6V
  cases hb : bestF 0 gs none with
  | none =>
    simp only
    have := join_len1 58 (gs.map shortV) 4 (hp gs) (by intro e; have := congrArg List.length e; simp at this; rw [this] at h8; simp at h8)
    rw [List.length_map] at this
    omega
  | some p =>
    obtain ⟨h1, h2, -⟩ := best_row gs p hb
    have e1 := join_len 58 ((gs.take p.1).map shortV) 4 (hp _)
    have e2 := join_len 58 ((gs.drop (p.1 + p.2)).map shortV) 4 (hp _)
    rw [List.length_map, List.length_take] at e1
    rw [List.length_map, List.length_drop] at e2
    simp only [List.length_append, List.length_cons]
    omega

end Go.Proofs.YtblpmgkagbiogaaGreat
