/-
  The document's own row, short, Print6. The document's own Parse6.
-/
import Derived.Test.YtbdmpjnlgdahmabGreatDoorLotP34
import Derived.Deep.RegionHeld3
namespace Go.Proofs.YtbdmpjnlgdahmabGreatDoor
open Go.RowKit
set_option maxRecDepth 100000

theorem full_hex (hi lo : UInt8) : fullV (256 * hi.toNat + lo.toNat) = hexS [hi, lo] := by
  have h1 := hi.toNat_lt
  have h2 := lo.toNat_lt
  simp only [fullV, hexS, List.flatMap_cons, List.flatMap_nil, List.cons_append, List.nil_append]
  rw [show (256 * hi.toNat + lo.toNat) / 4096 % 16 = hi.toNat / 16 by omega, show (256 * hi.toNat + lo.toNat) / 256 % 16 = hi.toNat % 16 by omega, show (256 * hi.toNat + lo.toNat) / 16 % 16 = lo.toNat / 16 by omega, show (256 * hi.toNat + lo.toNat) % 16 = lo.toNat % 16 by omega]

theorem strip_step (S : ByteArray) (h1 : 1 < S.size) (h : S[0] = 48) : stripV (sl S) = stripV ((sl S).drop 1) := by
  have e := sl_drop S 0 (by omega)
  rw [List.drop_zero] at e
  rw [e, stripV, if_pos ⟨h, fun e2 => by have := congrArg List.length e2; simp [sl_len] at this; omega⟩]
  rfl
theorem strip_stop (S : ByteArray) (h1 : ¬ (1 < S.size) ∨ ∃ h : 0 < S.size, S[0] ≠ 48) : stripV (sl S) = sl S := by
  cases hs : sl S with
  | nil => rfl
  | cons a r =>
    have hl : (sl S).length = S.size := sl_len S
    rw [hs] at hl
    rw [stripV, if_neg]
    rintro ⟨rfl, hr⟩
    rcases h1 with h1 | ⟨h0, h1⟩
    · cases r with
      | nil => exact hr rfl
      | cons b r => simp at hl; omega
    · have e := sl_drop S 0 h0
      rw [List.drop_zero, hs] at e
      exact h1 (List.cons.inj e).1.symm

theorem pairs_get : ∀ (n : Nat) (a : List UInt8) (ha : a.length = 2 * n) (k : Nat) (hk : k < n), (pairsG a)[k]? = some (256 * (a[2 * k]'(by omega)).toNat + (a[2 * k + 1]'(by omega)).toNat)
  | n + 1, h :: l :: r, e, 0, _ => by rw [pairsG]; rfl
  | n + 1, h :: l :: r, e, k + 1, hk => by
    rw [pairsG, List.getElem?_cons_succ, pairs_get n r (by simp at e; omega) k (by omega)]
    rfl

theorem zrow_cons (g : Nat) (r : List Nat) : zrow (g :: r) = if g = 0 then zrow r + 1 else 0 := by
  unfold zrow
  rw [List.takeWhile_cons]
  by_cases h : g = 0
  · subst h; simp
  · rw [if_neg (by simpa using h), if_neg h]; rfl

/-- The group at a place. -/
theorem pairs_drop {xs : List UInt8} (h16 : xs.length = 16) {k : Nat} (hk : k < 8) : (pairsG xs).drop k = (256 * (xs[2 * k]'(by omega)).toNat + (xs[2 * k + 1]'(by omega)).toNat) :: (pairsG xs).drop (k + 1) := by
  have hl := pairs_len 8 xs (by omega)
  have hg := pairs_get 8 xs (by omega) k hk
  rw [List.drop_eq_getElem_cons (by omega)]
  rw [List.getElem?_eq_getElem (by omega)] at hg
  rw [Option.some.inj hg]

/-- Two cells that are read through calls. -/
abbrev Box2 (w0 : World) (a i k : Nat) (u v : Value) (W : World) : Prop := W.cell? ⟨a, i, none⟩ = some u ∧ W.cell? ⟨a, k, none⟩ = some v ∧ w0.grownBy W none
theorem box2_call {w0 W W' : World} {a i k : Nat} {u v : Value} (K : W.grownBy W' none) (h : Box2 w0 a i k u v W) : Box2 w0 a i k u v W' := ⟨K.cell h.1 (by simp), K.cell h.2.1 (by simp), grown_trans h.2.2 K⟩
theorem box2_drew {w0 : World} {a i k : Nat} {u v : Value} (h : Box2 w0 a i k u v w0) : Box2 w0 a i k u v w0.drew := ⟨h.1, h.2.1, grown_drewN w0 1 none⟩

/-- Where the row begins; -1: nowhere. -/
def fromI : Option (Nat × Nat) → Int
  | none => -1
  | some p => p.1

/-- The text up to a place. -/
def textTo (gs : List Nat) (acc : Option (Nat × Nat)) (j : Nat) : List UInt8 := match acc with
  | none => joinV 58 ((gs.take j).map shortV)
  | some p => if j ≤ p.1 then joinV 58 ((gs.take j).map shortV) else joinV 58 ((gs.take p.1).map shortV) ++ (58 :: 58 :: joinV 58 (((gs.drop (p.1 + p.2)).take (j - (p.1 + p.2))).map shortV))

theorem textTo_end (gs : List Nat) (hp : ∀ p, bestF 0 gs none = some p → 2 ≤ p.2 ∧ p.1 + p.2 ≤ gs.length) : textTo gs (bestF 0 gs none) gs.length = print6V gs := by
  unfold textTo print6V
  cases hb : bestF 0 gs none with
  | none => simp
  | some p =>
    have := hp p hb
    simp only
    rw [if_neg (by omega), List.take_of_length_le (i := gs.length - (p.1 + p.2)) (by rw [List.length_drop]; omega)]

theorem join_take (gs : List Nat) (j : Nat) (hj : j < gs.length) : joinV 58 ((gs.take (j + 1)).map shortV) = if j = 0 then shortV gs[j] else joinV 58 ((gs.take j).map shortV) ++ (58 :: shortV gs[j]) := by
  rw [List.take_succ_eq_append_getElem hj, List.map_append, List.map_cons, List.map_nil, join_snoc]
  by_cases h : j = 0
  · subst h; simp
  · rw [if_neg h, if_neg]
    rw [List.map_eq_nil_iff, List.take_eq_nil_iff]
    rintro (h' | h')
    · exact h h'
    · rw [h'] at hj; simp at hj

theorem textTo_len (gs : List Nat) (acc : Option (Nat × Nat)) (j : Nat) : (textTo gs acc j).length ≤ 10 * gs.length + 2 := by
  have hl : ∀ zs : List Nat, zs.length ≤ gs.length → (joinV 58 (zs.map shortV)).length ≤ 5 * gs.length := fun zs hz => by
    have := join_len 58 (zs.map shortV) 4 (fun l hl => by
      obtain ⟨g, -, rfl⟩ := List.mem_map.1 hl
      exact (short_piece g).2.2.1)
    rw [List.length_map] at this
    omega
  unfold textTo
  cases acc with
  | none =>
    simp only
    have := hl (gs.take j) (by rw [List.length_take]; omega)
    omega
  | some p =>
    simp only
    split
    · have := hl (gs.take j) (by rw [List.length_take]; omega)
      omega
    · have h1 := hl (gs.take p.1) (by rw [List.length_take]; omega)
      have h2 := hl ((gs.drop (p.1 + p.2)).take (j - (p.1 + p.2))) (by rw [List.length_take, List.length_drop]; omega)
      simp only [List.length_append, List.length_cons]
      omega

/-- Stands there a ':' ahead of a group? -/
def sepB (acc : Option (Nat × Nat)) (j : Nat) : Bool := decide (0 < j) && decide ((j : Int) ≠ fromI acc + (longOf acc : Int))
/-- A group more. -/
theorem textTo_next (gs : List Nat) (acc : Option (Nat × Nat)) (j : Nat) (hj : j < gs.length) (hin : ∀ p, acc = some p → 2 ≤ p.2 ∧ (j < p.1 ∨ p.1 + p.2 ≤ j)) :
    textTo gs acc (j + 1) = textTo gs acc j ++ ((if sepB acc j = true then [58] else []) ++ shortV gs[j]) := by
  cases acc with
  | none =>
    have hs : sepB none j = decide (0 < j) := by
      show (decide (0 < j) && decide ((j : Int) ≠ -1 + 1)) = _
      by_cases h : 0 < j
      · rw [decide_eq_true h, decide_eq_true (by omega)]; rfl
      · rw [decide_eq_false h]; rfl
    rw [hs]
    simp only [textTo]
    rw [join_take gs j hj]
    by_cases h : j = 0
    · subst h; simp [joinV]
    · rw [if_neg h, if_pos (decide_eq_true (by omega))]; rfl
  | some p =>
    obtain ⟨h2, hc⟩ := hin p rfl
    rcases hc with hc | hc
    · have hs : sepB (some p) j = decide (0 < j) := by
        show (decide (0 < j) && decide ((j : Int) ≠ (p.1 : Int) + (p.2 : Int))) = _
        rw [decide_eq_true (p := (j : Int) ≠ (p.1 : Int) + (p.2 : Int)) (by omega), Bool.and_true]
      rw [hs]
      simp only [textTo]
      rw [if_pos (by omega), if_pos (by omega), join_take gs j hj]
      by_cases h : j = 0
      · subst h; simp [joinV]
      · rw [if_neg h, if_pos (decide_eq_true (by omega))]; rfl
    · have hj' : j - (p.1 + p.2) < (gs.drop (p.1 + p.2)).length := by rw [List.length_drop]; omega
      have e : (gs.drop (p.1 + p.2))[j - (p.1 + p.2)] = gs[j] := by
        rw [List.getElem_drop]
        congr 1
        omega
      have hs : sepB (some p) j = decide (j ≠ p.1 + p.2) := by
        show (decide (0 < j) && decide ((j : Int) ≠ (p.1 : Int) + (p.2 : Int))) = _
        rw [decide_eq_true (p := 0 < j) (by omega), Bool.true_and, decide_eq_decide]
        omega
      rw [hs]
      simp only [textTo]
      rw [if_neg (by omega), if_neg (by omega), show j + 1 - (p.1 + p.2) = (j - (p.1 + p.2)) + 1 by omega, join_take _ _ hj', e]
      by_cases h : j = p.1 + p.2
      · rw [if_pos (by omega), if_neg (by simpa using h)]
        subst h
        simp [joinV]
      · rw [if_neg (by omega), if_pos (decide_eq_true h)]
        simp

theorem textTo_gap (gs : List Nat) (p : Nat × Nat) (h : 2 ≤ p.2) : textTo gs (some p) (p.1 + p.2) = textTo gs (some p) p.1 ++ [58, 58] := by
  simp only [textTo]
  rw [if_neg (by omega), if_pos (Nat.le_refl _), Nat.sub_self, List.take_zero]
  rfl

end Go.Proofs.YtbdmpjnlgdahmabGreatDoor

namespace Go.Proofs.YtbdmpjnlgdahmabGreatDoor
open Go.RowKit
set_option maxRecDepth 100000

/-- Do so many groups fit? -/
def fitB (gp : Option Nat) (nx ny : Nat) : Bool := match gp with
  | none => nx == 8
  | some _ => decide (nx + ny ≤ 7)
/-- The two halves of a text. -/
def halves (s H T : List UInt8) (gp : Option Nat) : Prop := match gp with
  | none => H = s ∧ T = []
  | some k => H = s.take k ∧ T = s.drop (k + 2)

theorem parse6_halves (s H T : List UInt8) (h : halves s H T (gapV s)) :
    parse6V s = (groupsV H).bind fun x => (groupsV T).bind fun y => if fitB (gapV s) x.length y.length = true then some (bytesG (x ++ List.replicate (8 - x.length - y.length) 0 ++ y)) else none := by
  unfold parse6V
  cases hg : gapV s with
  | none =>
    rw [hg] at h
    obtain ⟨rfl, rfl⟩ := h
    simp only
    have e : groupsV [] = some [] := rfl
    cases groupsV H with
    | none => rfl
    | some x =>
      rw [e]
      simp only [Option.bind_some, fitB, List.length_nil, List.append_nil, Nat.sub_zero, beq_iff_eq]
      by_cases h8 : x.length = 8
      · rw [if_pos h8, if_pos h8, h8]; simp
      · rw [if_neg h8, if_neg h8]
  | some k =>
    rw [hg] at h
    obtain ⟨rfl, rfl⟩ := h
    simp only [fitB, decide_eq_true_eq]

theorem allV_mem {α β : Type} {f : α → Option β} {xs : List α} {vs : List β} (h : allV f xs = some vs) : ∀ v ∈ vs, ∃ x ∈ xs, f x = some v := by
  induction xs generalizing vs with
  | nil => simp [allV] at h; subst h; intro v hv; cases hv
  | cons x r ih =>
    simp only [allV] at h
    cases hx : f x with
    | none => rw [hx] at h; cases h
    | some u =>
      rw [hx] at h
      cases hr : allV f r with
      | none => rw [hr] at h; cases h
      | some us =>
        rw [hr] at h
        simp only [Option.bind_some, Option.map_some, Option.some.injEq] at h
        subst h
        intro v hv
        rcases List.mem_cons.1 hv with rfl | hv
        · exact ⟨x, by simp, hx⟩
        · obtain ⟨y, hy, e⟩ := ih hr v hv
          exact ⟨y, by simp [hy], e⟩
theorem groups_lt {s : List UInt8} {gs : List Nat} (h : groupsV s = some gs) : ∀ g ∈ gs, g < 65536 := by
  unfold groupsV at h
  split at h
  · simp at h; subst h; intro g hg; cases hg
  · split at h
    · cases h
    · intro g hg
      obtain ⟨x, -, e⟩ := allV_mem h g hg
      exact group_lt e
theorem groups_len {s : List UInt8} {gs : List Nat} (h : groupsV s = some gs) : gs.length ≤ 8 := by
  unfold groupsV at h
  split at h
  · simp at h; subst h; simp
  · split at h
    · cases h
    · rw [allV_len h]; omega

/-- Groups laid into bytes from a place on. -/
def layG : List UInt8 → Nat → List Nat → List UInt8
  | a, _, [] => a
  | a, k, g :: r => layG ((a.set k (UInt8.ofNat (g / 256))).set (k + 1) (UInt8.ofNat g)) (k + 2) r

theorem lay_at (gs : List Nat) (a b : List UInt8) (h : 2 * gs.length ≤ b.length) : layG (a ++ b) a.length gs = a ++ (bytesG gs ++ b.drop (2 * gs.length)) := by
  induction gs generalizing a b with
  | nil => simp [layG, bytesG]
  | cons g r ih =>
    match b, h with
    | p :: q :: b, h =>
      have e : ((a ++ p :: q :: b).set a.length (UInt8.ofNat (g / 256))).set (a.length + 1) (UInt8.ofNat g) = (a ++ [UInt8.ofNat (g / 256), UInt8.ofNat g]) ++ b := by
        rw [List.set_append_right _ _ (Nat.le_refl _), List.set_append_right _ _ (by omega)]
        simp
      rw [layG, e, show a.length + 2 = (a ++ [UInt8.ofNat (g / 256), UInt8.ofNat g]).length by simp, ih _ _ (by simp at h; omega)]
      simp [bytesG, Nat.mul_add]
    | [_], h => simp at h; omega
    | [], h => simp at h

theorem bytes_len (gs : List Nat) : (bytesG gs).length = 2 * gs.length := by
  induction gs with
  | nil => rfl
  | cons g r ih => simp only [bytesG, List.flatMap_cons, List.length_append, List.length_cons, List.length_nil] at *; omega
theorem bytes_app (a b : List Nat) : bytesG (a ++ b) = bytesG a ++ bytesG b := by simp [bytesG]
theorem bytes_zero (n : Nat) : bytesG (List.replicate n 0) = List.replicate (2 * n) 0 := by
  induction n with
  | zero => rfl
  | succ n ih =>
    rw [List.replicate_succ, bytesG, List.flatMap_cons, ← bytesG, ih, show 2 * (n + 1) = 2 * n + 1 + 1 by omega, List.replicate_succ, List.replicate_succ]
    rfl

theorem lay_two (x y : List Nat) (h : x.length + y.length ≤ 8) : layG (layG (List.replicate 16 0) 0 x) (16 - 2 * y.length) y = bytesG (x ++ List.replicate (8 - x.length - y.length) 0 ++ y) := by
  have e1 : layG (List.replicate 16 0) 0 x = bytesG x ++ List.replicate (16 - 2 * x.length) 0 := by
    have := lay_at x [] (List.replicate 16 0) (by rw [List.length_replicate]; omega)
    rw [List.nil_append, List.length_nil, List.nil_append, List.drop_replicate] at this
    exact this
  rw [e1, bytes_app, bytes_app, bytes_zero]
  have e2 : List.replicate (16 - 2 * x.length) (0 : UInt8) = List.replicate (2 * (8 - x.length - y.length)) 0 ++ List.replicate (2 * y.length) 0 := by
    rw [List.replicate_append_replicate]
    congr 1
    omega
  have e3 : 16 - 2 * y.length = (bytesG x ++ List.replicate (2 * (8 - x.length - y.length)) (0 : UInt8)).length := by
    rw [List.length_append, bytes_len, List.length_replicate]
    omega
  rw [e2, ← List.append_assoc, e3, lay_at y _ _ (by simp)]
  simp
theorem lay_len (gs : List Nat) (a : List UInt8) (k : Nat) : (layG a k gs).length = a.length := by
  induction gs generalizing a k with
  | nil => rfl
  | cons g r ih => rw [layG, ih]; simp

end Go.Proofs.YtbdmpjnlgdahmabGreatDoor
