import Derived.Test.YtklipelnjgpnjaaGreatDoorLotA21
namespace Go.Proofs.YtklipelnjgpnjaaGreatDoor
open Go.RowKit
set_option maxRecDepth 100000

section
variable {A B : List Tk}
theorem end_is (hB : (hdT B).kind = 0) (x : List UInt8) : isB B x = false := by
 unfold isB
 rw [hB]
 rfl
end

section
variable {A B : List Tk}
end
def StopB (B : List Tk) : Prop := (∀ x ∈ [[91], wProto, wSrc, wDst, wPort, wPortrange], isB B x = false) ∧ ∀ k, opT k B = none
theorem stop_paren {t : Tk} (ht : t.kind = 5) (hx : t.text = [41]) (r : List Tk) : StopB (t :: r) := by
 refine ⟨fun x hm => ?_, fun k => ?_⟩
 ·show ((t.kind == 5 || t.kind == 2) && t.text == x) = false
  rw [hx]
  simp only [List.mem_cons, List.not_mem_nil, or_false] at hm
  rcases hm with rfl | rfl | rfl | rfl | rfl | rfl <;> simp [wProto, wSrc, wDst, wPort, wPortrange]
 ·unfold opT
  show (if t.kind = 5 ∨ t.kind = 2 then binV k t.text else none) = none
  rw [if_pos (.inl ht), hx]
  unfold binV relV
  simp [wOr, wAnd]
theorem stop_end {t : Tk} (ht : t.kind = 0) (r : List Tk) : StopB (t :: r) := by
 refine ⟨fun x _ => end_is (B := t :: r) ht x, fun k => ?_⟩
 unfold opT
 rw [if_neg (by show ¬ (t.kind = 5 ∨ t.kind = 2); omega)]

section
variable {A B : List Tk}
end
def Al {α β : Type} (R : α → β → Prop) : List α → List β → Prop
 | [], [] => True
 | a :: l, b :: m => R a b ∧ Al R l m
 | _, _ => False
theorem Al.app {α β : Type} {R : α → β → Prop} : ∀ {l l' : List α} {m m' : List β}, Al R l m → Al R l' m' → Al R (l ++ l') (m ++ m')
 | [], _, [], _, _, h => h
 | _ :: _, _, _ :: _, _, h, k => ⟨h.1, Al.app h.2 k⟩
 | [], _, _ :: _, _, h, _ => h.elim
 | _ :: _, _, [], _, h, _ => h.elim
def cls (t : Tk) : Nat × List UInt8 :=
 if t.kind = 5 ∨ t.kind = 2 then
  (if t.text = wAnd ∨ t.text = [38, 38] then (9, wAnd) else if t.text = wOr ∨ t.text = [124, 124] then (9, wOr) else if t.text = wNot ∨ t.text = [33] then (9, wNot) else if t.text = [61] ∨ t.text = [61, 61] then (9, [61]) else (t.kind, t.text))
 else (t.kind, t.text)
def spcL : List (List UInt8) := [wAnd, [38, 38], wOr, [124, 124], wNot, [33], [61], [61, 61]]
theorem cls_or (t : Tk) : cls t = (t.kind, t.text) ∧ ((t.kind ≠ 5 ∧ t.kind ≠ 2) ∨ t.text ∉ spcL) ∨ (t.kind = 5 ∨ t.kind = 2) ∧ (cls t).1 = 9 ∧ t.text ∈ spcL := by
 unfold cls
 by_cases hk : t.kind = 5 ∨ t.kind = 2
 ·rw [if_pos hk]
  by_cases h1 : t.text = wAnd ∨ t.text = [38, 38]
  ·rw [if_pos h1]; exact .inr ⟨hk, rfl, by rcases h1 with h | h <;> simp [spcL, h]⟩
  rw [if_neg h1]
  by_cases h2 : t.text = wOr ∨ t.text = [124, 124]
  ·rw [if_pos h2]; exact .inr ⟨hk, rfl, by rcases h2 with h | h <;> simp [spcL, h]⟩
  rw [if_neg h2]
  by_cases h3 : t.text = wNot ∨ t.text = [33]
  ·rw [if_pos h3]; exact .inr ⟨hk, rfl, by rcases h3 with h | h <;> simp [spcL, h]⟩
  rw [if_neg h3]
  by_cases h4 : t.text = [61] ∨ t.text = [61, 61]
  ·rw [if_pos h4]; exact .inr ⟨hk, rfl, by rcases h4 with h | h <;> simp [spcL, h]⟩
  rw [if_neg h4]
  refine .inl ⟨rfl, .inr ?_⟩
  simp only [spcL, List.mem_cons, List.not_mem_nil, or_false]
  rintro (h | h | h | h | h | h | h | h)
  ·exact h1 (.inl h)
  ·exact h1 (.inr h)
  ·exact h2 (.inl h)
  ·exact h2 (.inr h)
  ·exact h3 (.inl h)
  ·exact h3 (.inr h)
  ·exact h4 (.inl h)
  ·exact h4 (.inr h)
 ·rw [if_neg hk]
  exact .inl ⟨rfl, .inl ⟨fun h => hk (.inl h), fun h => hk (.inr h)⟩⟩
def ClE (t t' : Tk) : Prop := cls t = cls t' ∧ t.num = t'.num ∧ t.kind ≤ 5 ∧ t'.kind ≤ 5
theorem ClE.symm {t t' : Tk} (h : ClE t t') : ClE t' t := ⟨h.1.symm, h.2.1.symm, h.2.2.2, h.2.2.1⟩
theorem ClE.plain {t t' : Tk} (h : ClE t t') (hp : (t.kind ≠ 5 ∧ t.kind ≠ 2) ∨ t.text ∉ spcL) : t'.kind = t.kind ∧ t'.text = t.text := by
 rcases cls_or t with ⟨h1, -⟩ | ⟨h1, -, h3⟩
 ·rcases cls_or t' with ⟨h4, -⟩ | ⟨-, h4, -⟩
  ·have := h.1
   rw [h1, h4] at this
   exact ⟨(congrArg Prod.fst this).symm, (congrArg Prod.snd this).symm⟩
  ·have := h.1
   rw [h1] at this
   rw [← this] at h4
   have := h.2.2.1
   simp only at h4
   omega
 ·exfalso
  rcases hp with hp | hp
  ·rcases h1 with h1 | h1
   ·exact hp.1 h1
   ·exact hp.2 h1
  ·exact hp h3
theorem ClE.kind {t t' : Tk} (h : ClE t t') {n : Nat} (hn : n ≠ 5 ∧ n ≠ 2) : t.kind = n ↔ t'.kind = n :=
 ⟨fun e => by rw [(h.plain (.inl (by rw [e]; exact hn))).1]; exact e, fun e => by rw [(h.symm.plain (.inl (by rw [e]; exact hn))).1]; exact e⟩
theorem bin_and (k : Nat) : binV k [38, 38] = binV k wAnd := by
 unfold binV relV
 simp [wAnd, wOr]
theorem bin_or (k : Nat) : binV k [124, 124] = binV k wOr := by
 unfold binV relV
 simp [wAnd, wOr]
theorem bin_not (k : Nat) : binV k [33] = none ∧ binV k wNot = none := by
 unfold binV relV
 simp [wAnd, wOr, wNot]
theorem bin_eq (k : Nat) : binV k [61, 61] = binV k [61] := by
 unfold binV relV
 simp [wAnd, wOr]
def opK (k : Nat) (t : Tk) : Option Nd := if t.kind = 5 ∨ t.kind = 2 then binV k t.text else none
theorem cls_op (k : Nat) (t : Tk) (h5 : t.kind ≤ 5) : (cls t).1 = 9 → opK k t = binV k (cls t).2 := by
 intro h9
 rcases cls_or t with ⟨h1, hh⟩ | ⟨hk, -, -⟩
 ·rw [h1] at h9
  simp only at h9
  omega
 ·unfold opK
  rw [if_pos hk]
  unfold cls
  rw [if_pos hk]
  by_cases h1 : t.text = wAnd ∨ t.text = [38, 38]
  ·rw [if_pos h1]
   rcases h1 with h | h <;> rw [h]
   exact bin_and k
  rw [if_neg h1]
  by_cases h2 : t.text = wOr ∨ t.text = [124, 124]
  ·rw [if_pos h2]
   rcases h2 with h | h <;> rw [h]
   exact bin_or k
  rw [if_neg h2]
  by_cases h3 : t.text = wNot ∨ t.text = [33]
  ·rw [if_pos h3]
   rcases h3 with h | h <;> rw [h]
   show binV k [33] = binV k wNot
   rw [(bin_not k).1, (bin_not k).2]
  rw [if_neg h3]
  by_cases h4 : t.text = [61] ∨ t.text = [61, 61]
  ·rw [if_pos h4]
   rcases h4 with h | h <;> rw [h]
   exact bin_eq k
  rw [if_neg h4]
theorem ClE.op {t t' : Tk} (h : ClE t t') (k : Nat) : opK k t = opK k t' := by
 by_cases h9 : (cls t).1 = 9
 ·rw [cls_op k t h.2.2.1 h9, h.1, cls_op k t' h.2.2.2 (by rw [← h.1]; exact h9)]
 ·rcases cls_or t with ⟨h1, hp⟩ | ⟨-, h2, -⟩
  ·obtain ⟨e1, e2⟩ := h.plain hp
   unfold opK
   rw [e1, e2]
  ·exact absurd h2 h9
def TkL (Q : Nat → Nat → Prop) : List Tk → List Tk → Prop := Al fun t t' => ClE t t' ∧ Q t.pos t'.pos
theorem TkL.tail {Q : Nat → Nat → Prop} {ts ts' : List Tk} (h : TkL Q ts ts') : TkL Q ts.tail ts'.tail := by
 cases ts with
 | nil => cases ts' with
  | nil => exact trivial
  | cons b m => exact h.elim
 | cons a l => cases ts' with
  | nil => exact h.elim
  | cons b m => exact h.2
theorem TkL.pos {Q : Nat → Nat → Prop} {ts ts' : List Tk} (h : TkL Q ts ts') (hk : (hdT ts).kind ≠ 0) : Q (hdT ts).pos (hdT ts').pos := by
 cases ts with
 | nil => exact absurd rfl hk
 | cons a l => cases ts' with
  | nil => exact h.elim
  | cons b m => exact h.1.2
end Go.Proofs.YtklipelnjgpnjaaGreatDoor
