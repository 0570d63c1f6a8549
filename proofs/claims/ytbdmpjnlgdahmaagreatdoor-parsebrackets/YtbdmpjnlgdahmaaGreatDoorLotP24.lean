/-
  Tokens changed one by one: other places, words for signs. No Go text here. What is read of tokens is read of tokens that are alike. No Go text here.
-/
import Derived.Test.YtbdmpjnlgdahmaaGreatDoorLotP23
namespace Go.Proofs.YtbdmpjnlgdahmaaGreatDoor
open Go.RowKit
set_option maxRecDepth 100000

/-- Alike, one by one. -/
def Al {α β : Type} (R : α → β → Prop) : List α → List β → Prop
  | [], [] => True
  | a :: l, b :: m => R a b ∧ Al R l m
  | _, _ => False
theorem Al.len {α β : Type} {R : α → β → Prop} : ∀ {l : List α} {m : List β}, Al R l m → l.length = m.length
  | [], [], _ => rfl
  | a :: l, b :: m, h => by simp only [List.length_cons]; rw [Al.len h.2]
  | [], b :: m, h => h.elim
  | a :: l, [], h => h.elim
theorem Al.app {α β : Type} {R : α → β → Prop} : ∀ {l l' : List α} {m m' : List β}, Al R l m → Al R l' m' → Al R (l ++ l') (m ++ m')
  | [], _, [], _, _, h => h
  | _ :: _, _, _ :: _, _, h, k => ⟨h.1, Al.app h.2 k⟩
  | [], _, _ :: _, _, h, _ => h.elim
  | _ :: _, _, [], _, h, _ => h.elim

/-- A token's kind and text, words and signs that say the same being one. -/
def cls (t : Tk) : Nat × List UInt8 :=
  if t.kind = 5 ∨ t.kind = 2 then
    (if t.text = wAnd ∨ t.text = [38, 38] then (9, wAnd) else if t.text = wOr ∨ t.text = [124, 124] then (9, wOr) else if t.text = wNot ∨ t.text = [33] then (9, wNot) else if t.text = [61] ∨ t.text = [61, 61] then (9, [61]) else (t.kind, t.text))
  else (t.kind, t.text)
def spcL : List (List UInt8) := [wAnd, [38, 38], wOr, [124, 124], wNot, [33], [61], [61, 61]]
theorem cls_or (t : Tk) : cls t = (t.kind, t.text) ∧ ((t.kind ≠ 5 ∧ t.kind ≠ 2) ∨ t.text ∉ spcL) ∨ (t.kind = 5 ∨ t.kind = 2) ∧ (cls t).1 = 9 ∧ t.text ∈ spcL := by
  unfold cls
  by_cases hk : t.kind = 5 ∨ t.kind = 2
  · rw [if_pos hk]
    by_cases h1 : t.text = wAnd ∨ t.text = [38, 38]
    · rw [if_pos h1]; exact .inr ⟨hk, rfl, by rcases h1 with h | h <;> simp [spcL, h]⟩
    rw [if_neg h1]
    by_cases h2 : t.text = wOr ∨ t.text = [124, 124]
    · rw [if_pos h2]; exact .inr ⟨hk, rfl, by rcases h2 with h | h <;> simp [spcL, h]⟩
    rw [if_neg h2]
    by_cases h3 : t.text = wNot ∨ t.text = [33]
    · rw [if_pos h3]; exact .inr ⟨hk, rfl, by rcases h3 with h | h <;> simp [spcL, h]⟩
    rw [if_neg h3]
    by_cases h4 : t.text = [61] ∨ t.text = [61, 61]
    · rw [if_pos h4]; exact .inr ⟨hk, rfl, by rcases h4 with h | h <;> simp [spcL, h]⟩
    rw [if_neg h4]
    refine .inl ⟨rfl, .inr ?_⟩
    simp only [spcL, List.mem_cons, List.not_mem_nil, or_false]
    rintro (h | h | h | h | h | h | h | h)
    · exact h1 (.inl h)
    · exact h1 (.inr h)
    · exact h2 (.inl h)
    · exact h2 (.inr h)
    · exact h3 (.inl h)
    · exact h3 (.inr h)
    · exact h4 (.inl h)
    · exact h4 (.inr h)
  · rw [if_neg hk]
    exact .inl ⟨rfl, .inl ⟨fun h => hk (.inl h), fun h => hk (.inr h)⟩⟩
/-- Tokens that are read alike. -/
def ClE (t t' : Tk) : Prop := cls t = cls t' ∧ t.num = t'.num ∧ t.kind ≤ 5 ∧ t'.kind ≤ 5
theorem ClE.symm {t t' : Tk} (h : ClE t t') : ClE t' t := ⟨h.1.symm, h.2.1.symm, h.2.2.2, h.2.2.1⟩
theorem ClE.plain {t t' : Tk} (h : ClE t t') (hp : (t.kind ≠ 5 ∧ t.kind ≠ 2) ∨ t.text ∉ spcL) : t'.kind = t.kind ∧ t'.text = t.text := by
  rcases cls_or t with ⟨h1, -⟩ | ⟨h1, -, h3⟩
  · rcases cls_or t' with ⟨h4, -⟩ | ⟨-, h4, -⟩
    · have := h.1
      rw [h1, h4] at this
      exact ⟨(congrArg Prod.fst this).symm, (congrArg Prod.snd this).symm⟩
    · have := h.1
      rw [h1] at this
      rw [← this] at h4
      have := h.2.2.1
      simp only at h4
      omega
  · exfalso
    rcases hp with hp | hp
    · rcases h1 with h1 | h1
      · exact hp.1 h1
      · exact hp.2 h1
    · exact hp h3
theorem ClE.kind {t t' : Tk} (h : ClE t t') {n : Nat} (hn : n ≠ 5 ∧ n ≠ 2) : t.kind = n ↔ t'.kind = n :=
  ⟨fun e => by rw [(h.plain (.inl (by rw [e]; exact hn))).1]; exact e, fun e => by rw [(h.symm.plain (.inl (by rw [e]; exact hn))).1]; exact e⟩
theorem bin_and (k : Nat) : binV k [38, 38] = binV k wAnd := by
  unfold binV relV
  simp [wAnd, wOr]
theorem bin_or (k : Nat) : binV k [124, 124] = binV k wOr := by
  unfold binV relV
  simp [wAnd, wOr]
theorem bin_not (k : Nat) : binV k [33] = none ∧ binV k wNot = none := by
  unfold binV relV
  simp [wAnd, wOr, wNot]
theorem bin_eq (k : Nat) : binV k [61, 61] = binV k [61] := by
  unfold binV relV
  simp [wAnd, wOr]
def opK (k : Nat) (t : Tk) : Option Nd := if t.kind = 5 ∨ t.kind = 2 then binV k t.text else none
theorem cls_op (k : Nat) (t : Tk) (h5 : t.kind ≤ 5) : (cls t).1 = 9 → opK k t = binV k (cls t).2 := by
  intro h9
  rcases cls_or t with ⟨h1, hh⟩ | ⟨hk, -, -⟩
  · rw [h1] at h9
    simp only at h9
    omega
  · unfold opK
    rw [if_pos hk]
    unfold cls
    rw [if_pos hk]
    by_cases h1 : t.text = wAnd ∨ t.text = [38, 38]
    · rw [if_pos h1]
      rcases h1 with h | h <;> rw [h]
      exact bin_and k
    rw [if_neg h1]
    by_cases h2 : t.text = wOr ∨ t.text = [124, 124]
    · rw [if_pos h2]
      rcases h2 with h | h <;> rw [h]
      exact bin_or k
    rw [if_neg h2]
    by_cases h3 : t.text = wNot ∨ t.text = [33]
    · rw [if_pos h3]
      rcases h3 with h | h <;> rw [h]
      show binV k [33] = binV k wNot
      rw [(bin_not k).1, (bin_not k).2]
    rw [if_neg h3]
    by_cases h4 : t.text = [61] ∨ t.text = [61, 61]
    · rw [if_pos h4]
      rcases h4 with h | h <;> rw [h]
      exact bin_eq k
    rw [if_neg h4]

theorem ClE.op {t t' : Tk} (h : ClE t t') (k : Nat) : opK k t = opK k t' := by
  by_cases h9 : (cls t).1 = 9
  · rw [cls_op k t h.2.2.1 h9, h.1, cls_op k t' h.2.2.2 (by rw [← h.1]; exact h9)]
  · rcases cls_or t with ⟨h1, hp⟩ | ⟨-, h2, -⟩
    · obtain ⟨e1, e2⟩ := h.plain hp
      unfold opK
      rw [e1, e2]
    · exact absurd h2 h9
def isK (t : Tk) (x : List UInt8) : Bool := (t.kind == 5 || t.kind == 2) && t.text == x
theorem isK_iff {t : Tk} {x : List UInt8} : isK t x = true ↔ (t.kind = 5 ∨ t.kind = 2) ∧ t.text = x := by
  unfold isK
  simp only [Bool.and_eq_true, Bool.or_eq_true, beq_iff_eq]
theorem ClE.is1 {t t' : Tk} (h : ClE t t') {x : List UInt8} (hx : x ∉ spcL) (hi : isK t x = true) : isK t' x = true := by
  rw [isK_iff] at hi ⊢
  obtain ⟨e1, e2⟩ := h.plain (.inr (by rw [hi.2]; exact hx))
  rw [e1, e2]
  exact hi
theorem ClE.is {t t' : Tk} (h : ClE t t') {x : List UInt8} (hx : x ∉ spcL) : isK t x = isK t' x := by
  cases h1 : isK t x with
  | true => rw [h.is1 hx h1]
  | false =>
    cases h2 : isK t' x with
    | false => rfl
    | true => rw [h.symm.is1 hx h2] at h1; cases h1
theorem cls_not {t : Tk} (h5 : t.kind ≤ 5) : (isK t wNot = true ∨ isK t [33] = true) ↔ cls t = (9, wNot) := by
  rw [isK_iff, isK_iff]
  constructor
  · rintro (⟨hk, ht⟩ | ⟨hk, ht⟩)
    · unfold cls
      rw [if_pos hk, ht]
      simp [wNot, wAnd, wOr]
    · unfold cls
      rw [if_pos hk, ht]
      simp [wNot, wAnd, wOr]
  · intro h
    unfold cls at h
    split at h
    · rename_i hk
      split at h
      · cases h
      · split at h
        · cases h
        · split at h
          · rename_i h3
            rcases h3 with h3 | h3
            · exact .inl ⟨hk, h3⟩
            · exact .inr ⟨hk, h3⟩
          · split at h
            · cases h
            · have := congrArg Prod.fst h
              simp only at this
              omega
    · have := congrArg Prod.fst h
      simp only at this
      omega
theorem ClE.nots {t t' : Tk} (h : ClE t t') : (isK t wNot = true ∨ isK t [33] = true) ↔ (isK t' wNot = true ∨ isK t' [33] = true) := by
  rw [cls_not h.2.2.1, cls_not h.2.2.2, h.1]

/-- Two lists of tokens, alike one by one, their places so related. -/
def TkL (Q : Nat → Nat → Prop) : List Tk → List Tk → Prop := Al fun t t' => ClE t t' ∧ Q t.pos t'.pos
theorem cl_zero : ClE ⟨0, 0, [], 0⟩ ⟨0, 0, [], 0⟩ := ⟨rfl, rfl, by decide, by decide⟩
theorem TkL.hd {Q : Nat → Nat → Prop} {ts ts' : List Tk} (h : TkL Q ts ts') : ClE (hdT ts) (hdT ts') := by
  cases ts with
  | nil => cases ts' with
    | nil => exact cl_zero
    | cons b m => exact h.elim
  | cons a l => cases ts' with
    | nil => exact h.elim
    | cons b m => exact h.1.1
theorem TkL.tail {Q : Nat → Nat → Prop} {ts ts' : List Tk} (h : TkL Q ts ts') : TkL Q ts.tail ts'.tail := by
  cases ts with
  | nil => cases ts' with
    | nil => exact trivial
    | cons b m => exact h.elim
  | cons a l => cases ts' with
    | nil => exact h.elim
    | cons b m => exact h.2
theorem TkL.pos {Q : Nat → Nat → Prop} {ts ts' : List Tk} (h : TkL Q ts ts') (hk : (hdT ts).kind ≠ 0) : Q (hdT ts).pos (hdT ts').pos := by
  cases ts with
  | nil => exact absurd rfl hk
  | cons a l => cases ts' with
    | nil => exact h.elim
    | cons b m => exact h.1.2
theorem isB_isK (ts : List Tk) (x : List UInt8) : isB ts x = isK (hdT ts) x := rfl
theorem opT_opK (k : Nat) (ts : List Tk) : opT k ts = opK k (hdT ts) := rfl

end Go.Proofs.YtbdmpjnlgdahmaaGreatDoor

namespace Go.Proofs.YtbdmpjnlgdahmaaGreatDoor
open Go.RowKit
set_option maxRecDepth 100000

section
variable {Q : Nat → Nat → Prop}
/-- Where the one is read, the other is, alike. -/
def Pk {α β : Type} (Q : Nat → Nat → Prop) (V : α → β → Prop) (x : Except Er (α × List Tk)) (y : Except Er (β × List Tk)) : Prop := ∀ v r, x = .ok (v, r) → ∃ v' r', y = .ok (v', r') ∧ V v v' ∧ TkL Q r r'
theorem pk_then {α β γ δ : Type} {V : α → β → Prop} {W : γ → δ → Prop} {x : Except Er (α × List Tk)} {y : Except Er (β × List Tk)} {F : α × List Tk → Except Er (γ × List Tk)} {G : β × List Tk → Except Er (δ × List Tk)}
    (h : Pk Q V x y) (hF : ∀ v v' r r', V v v' → TkL Q r r' → Pk Q W (F (v, r)) (G (v', r'))) : Pk Q W (thenE x F) (thenE y G) := by
  intro v r hq
  obtain ⟨⟨u, s⟩, h1, h2⟩ := thenE_inv hq
  obtain ⟨u', s', h3, h4, h5⟩ := h u s h1
  rw [h3]
  exact hF u u' s s' h4 h5 v r h2
theorem pk_ite {α β : Type} {V : α → β → Prop} {c d : Prop} [Decidable c] [Decidable d] {x1 x2 : Except Er (α × List Tk)} {y1 y2 : Except Er (β × List Tk)} (hcd : c ↔ d) (h1 : c → Pk Q V x1 y1) (h2 : ¬ c → Pk Q V x2 y2) : Pk Q V (if c then x1 else x2) (if d then y1 else y2) := by
  by_cases h : c
  · rw [if_pos h, if_pos (hcd.1 h)]; exact h1 h
  · rw [if_neg h, if_neg (fun hd => h (hcd.2 hd))]; exact h2 h
theorem pk_ok {α β : Type} {V : α → β → Prop} {v : α} {v' : β} {r r' : List Tk} (h : V v v') (k : TkL Q r r') : Pk Q V (.ok (v, r)) (.ok (v', r')) := fun u s hq => by
  cases hq
  exact ⟨v', r', rfl, h, k⟩
theorem pk_er {α β : Type} {V : α → β → Prop} (e : Er) (y : Except Er (β × List Tk)) : Pk (α := α) Q V (.error e) y := fun u r h => by cases h
theorem pk_opn {α β : Type} {V : α → β → Prop} {nest : Nat} {ts ts' : List Tk} {x : Except Er (α × List Tk)} {y : Except Er (β × List Tk)} (h : Pk Q V x y) : Pk Q V (opnV nest ts x) (opnV nest ts' y) :=
  pk_ite Iff.rfl (fun _ => pk_er _ _) (fun _ => h)
theorem is_iff {ts ts' : List Tk} (h : TkL Q ts ts') {x : List UInt8} (hx : x ∉ spcL) : isB ts x = true ↔ isB ts' x = true := by
  rw [isB_isK, isB_isK, h.hd.is hx]
theorem kind_iff {ts ts' : List Tk} (h : TkL Q ts ts') {n : Nat} (hn : n ≠ 5 ∧ n ≠ 2) : (hdT ts).kind = n ↔ (hdT ts').kind = n := h.hd.kind hn
theorem pk_must {ts ts' : List Tk} (h : TkL Q ts ts') {x : List UInt8} (hx : x ∉ spcL) : Pk Q Eq (mustU x ts) (mustU x ts') := by
  unfold mustU mustV
  by_cases hb : isB ts x = true
  · rw [if_pos hb, if_pos ((is_iff h hx).1 hb)]; exact pk_ok rfl h.tail
  · rw [if_neg hb]; exact pk_er _ _
theorem pk_num {ts ts' : List Tk} (h : TkL Q ts ts') : Pk Q Eq (numT ts) (numT ts') := by
  unfold numT
  exact pk_ite (kind_iff h (by decide)) (fun _ => pk_ok h.hd.2.1 h.tail) (fun _ => pk_er _ _)
theorem pk_addr (k : Nat) {ts ts' : List Tk} (h : TkL Q ts ts') : Pk Q Eq (addrT k ts) (addrT k ts') := by
  unfold addrT
  refine pk_ite (kind_iff h (by decide)) (fun hk => ?_) (fun _ => pk_ite (kind_iff h (by decide)) (fun hk => ?_) (fun _ => pk_er _ _))
  · rw [(h.hd.plain (.inl (by rw [hk]; decide))).2]
    cases parse4V (hdT ts).text with
    | none => exact pk_er _ _
    | some a => exact pk_ok rfl h.tail
  · rw [(h.hd.plain (.inl (by rw [hk]; decide))).2]
    cases parse6V (hdT ts).text with
    | none => exact pk_er _ _
    | some a => exact pk_ok rfl h.tail
/-- The same nodes, their places so related. -/
def NdL (Q : Nat → Nat → Prop) : List (Nd × Nat) → List (Nd × Nat) → Prop := Al fun a b => a.1 = b.1 ∧ Q a.2 b.2
theorem nd_one {d : Nd} {p p' : Nat} (h : Q p p') : NdL Q [(d, p)] [(d, p')] := ⟨⟨rfl, h⟩, trivial⟩
theorem pk_sidedB {of side p p' : Nat} (hp : Q p p') {ts ts' : List Tk} (h : TkL Q ts ts') : Pk Q (NdL Q) (sidedB of p side ts) (sidedB of p' side ts') := by
  unfold sidedB
  simp only [must_u]
  refine pk_ite (is_iff h (by decide)) (fun _ => ?_) (fun _ => pk_ite (is_iff h (by decide)) (fun _ => ?_) (fun _ => pk_ite (and_congr Iff.rfl (is_iff h (by decide))) (fun _ => ?_) (fun _ => pk_ite (and_congr Iff.rfl (is_iff h (by decide))) (fun _ => ?_) (fun _ => pk_er _ _))))
  · exact pk_then (pk_num h.tail) (fun v v' r r' hv hr => by subst hv; exact pk_ok (nd_one hp) hr)
  · exact pk_then (pk_num h.tail) (fun v v' r r' hv hr => by subst hv; exact pk_then (pk_must hr (by decide)) (fun _ _ r r' _ hr => pk_then (pk_num hr) (fun u u' r r' hu hr => by subst hu; exact pk_ok (nd_one hp) hr)))
  · exact pk_then (pk_addr 14 h.tail) (fun v v' r r' hv hr => by subst hv; exact pk_ok (nd_one hp) hr)
  · exact pk_then (pk_addr 15 h.tail) (fun v v' r r' hv hr => by subst hv; exact pk_then (pk_must hr (by decide)) (fun _ _ r r' _ hr => pk_then (pk_num hr) (fun u u' r r' hu hr => by subst hu; exact pk_ok (nd_one hp) hr)))
theorem side_eq {ts ts' : List Tk} (h : TkL Q ts ts') : sideN ts = sideN ts' ∧ TkL Q (sideR ts) (sideR ts') := by
  have e : sideN ts = sideN ts' := by
    unfold sideN
    rw [isB_isK, isB_isK, isB_isK, isB_isK, h.hd.is (x := wSrc) (by decide), h.hd.is (x := wDst) (by decide)]
  refine ⟨e, ?_⟩
  unfold sideR
  rw [e]
  split
  · exact h
  · exact h.tail
theorem pk_sided {of p p' : Nat} (hp : Q p p') {ts ts' : List Tk} (h : TkL Q ts ts') : Pk Q (NdL Q) (sidedV of p ts) (sidedV of p' ts') := by
  unfold sidedV
  rw [(side_eq h).1]
  exact pk_sidedB hp (side_eq h).2
theorem pk_size {ts ts' : List Tk} (h : TkL Q ts ts') : Pk Q Eq (sizeF ts) (sizeF ts') := by
  unfold sizeF
  simp only [must_u]
  refine pk_ite (is_iff h (by decide)) (fun _ => ?_) (fun _ => ?_)
  · exact pk_then (pk_num h.tail) (fun v v' r r' hv hr => by subst hv; exact pk_then (pk_must hr (by decide)) (fun _ _ r r' _ hr => pk_ok rfl hr))
  · exact pk_then (pk_must h (by decide)) (fun _ _ r r' _ hr => pk_ok rfl hr)
def PkR (Q : Nat → Nat → Prop) (rec : Nat → List Tk → Out) : Prop := ∀ nest ts ts', TkL Q ts ts' → Pk Q (NdL Q) (rec nest ts) (rec nest ts')
theorem pk_name {rec : Nat → List Tk → Out} (hr : PkR Q rec) {nest of p p' : Nat} (hp : Q p p') {ts ts' : List Tk} (h : TkL Q ts ts') : Pk Q (NdL Q) (nameF rec nest of p ts) (nameF rec nest of p' ts') := by
  unfold nameF
  refine pk_ite (and_congr (is_iff h (by decide)) Iff.rfl) (fun _ => pk_opn ?_) (fun _ => pk_ite Iff.rfl (fun _ => pk_er _ _) (fun _ => pk_ite (and_congr Iff.rfl (is_iff h (by decide))) (fun _ => ?_)
    (fun _ => pk_ite (and_congr Iff.rfl (or_congr (is_iff h (by decide)) (or_congr (is_iff h (by decide)) (or_congr (is_iff h (by decide)) (is_iff h (by decide)))))) (fun _ => ?_) (fun _ => pk_ok (nd_one hp) h))))
  · exact pk_then (hr _ _ _ h.tail) (fun v v' r r' hv hr => pk_then (pk_size hr) (fun u u' r r' hu hr => by subst hu; exact pk_ok (Al.app hv (nd_one hp)) hr))
  · exact pk_then (pk_num h.tail) (fun v v' r r' hv hr => by subst hv; exact pk_ok (nd_one hp) hr)
  · exact pk_sided hp h
theorem pk_word {ts ts' : List Tk} (h : TkL Q ts ts') (e : (hdT ts').text = (hdT ts).text) (hk : (hdT ts).kind ≠ 0) : Pk Q (NdL Q) (wordF ts) (wordF ts') := by
  have hp := h.pos hk
  unfold wordF
  rw [e]
  refine pk_ite Iff.rfl (fun _ => pk_ok (nd_one hp) h.tail) (fun _ => pk_ite Iff.rfl (fun _ => pk_ok (nd_one hp) h.tail) (fun _ => pk_ite Iff.rfl (fun _ => pk_ok (nd_one hp) h.tail) (fun _ => pk_ite Iff.rfl (fun _ => ?_) (fun _ => pk_ite Iff.rfl (fun _ => ?_) (fun _ => pk_er _ _)))))
  · exact pk_then (pk_num h.tail) (fun v v' r r' hv hr => by subst hv; exact pk_ok (nd_one hp) hr)
  · exact pk_sided hp h
theorem spc_word {ts : List Tk} (h : (hdT ts).text ∈ spcL) : nameN (hdT ts).text = 0 ∧ wordF ts = failV ts 111 := by
  simp only [spcL, List.mem_cons, List.not_mem_nil, or_false] at h
  rcases h with h | h | h | h | h | h | h | h <;>
  · refine ⟨by rw [h]; decide, ?_⟩
    unfold wordF
    rw [h, if_neg (by decide), if_neg (by decide), if_neg (by decide), if_neg (by decide), if_neg (by decide)]
theorem pk_part {rec : Nat → List Tk → Out} (hr : PkR Q rec) : PkR Q (partF rec) := by
  intro nest ts ts' h
  unfold partF
  simp only [must_u]
  refine pk_ite (kind_iff h (by decide)) (fun hk => pk_ok ?_ h.tail) (fun _ => pk_ite (is_iff h (by decide)) (fun _ => pk_opn ?_) (fun _ => ?_))
  · rw [h.hd.2.1]
    exact nd_one (h.pos (by omega))
  · exact pk_then (hr _ _ _ h.tail) (fun v v' r r' hv hr => pk_then (pk_must hr (by decide)) (fun _ _ r r' _ hr => pk_ok hv hr))
  · by_cases hk : (hdT ts).kind = 2
    · by_cases hs : (hdT ts).text ∈ spcL
      · have n1 : ¬ (hdT ts).kind ≠ 2 := by omega
        rw [if_neg n1, if_neg (by rw [(spc_word hs).1]; simp), (spc_word hs).2]
        exact pk_er _ _
      · obtain ⟨e1, e2⟩ := h.hd.plain (.inr hs)
        have hk0 : (hdT ts).kind ≠ 0 := by omega
        have n1 : ¬ (hdT ts).kind ≠ 2 := by omega
        have n2 : ¬ (hdT ts').kind ≠ 2 := by omega
        rw [if_neg n1, if_neg n2, e2]
        exact pk_ite Iff.rfl (fun _ => pk_name hr (h.pos hk0) h.tail) (fun _ => pk_word h e2 hk0)
    · rw [if_pos hk]
      exact pk_er _ _
theorem pk_loop {rec : List Tk → Out} (hr : ∀ ts ts', TkL Q ts ts' → Pk Q (NdL Q) (rec ts) (rec ts')) (k : Nat) : ∀ (f : Nat) (ns ns' : List (Nd × Nat)) (ts ts' : List Tk), NdL Q ns ns' → TkL Q ts ts' → Pk Q (NdL Q) (loopG rec k f ns ts) (loopG rec k f ns' ts')
  | 0, ns, ns', ts, ts', hn, h => pk_ok hn h
  | f + 1, ns, ns', ts, ts', hn, h => by
    unfold loopG
    have ho : opT k ts' = opT k ts := by rw [opT_opK, opT_opK, h.hd.op k]
    rw [ho]
    cases hx : opT k ts with
    | none => exact pk_ok hn h
    | some nd =>
      have hk : (hdT ts).kind ≠ 0 := by
        unfold opT at hx
        split at hx
        · omega
        · cases hx
      refine pk_then (hr _ _ h.tail) (fun v v' r r' hv hr' => ?_)
      have hA := Al.app (Al.app hn hv) (nd_one (d := nd) (h.pos hk))
      exact pk_ite Iff.rfl (fun _ => pk_ok hA hr') (fun _ => pk_loop hr k f _ _ _ _ hA hr')
/-- Rows of tokens that are alike. -/
theorem pk_row : ∀ (f k : Nat), PkR Q (rowF f k)
  | 0, k => fun _ _ _ _ => pk_er _ _
  | f + 1, k => fun nest ts ts' h => by
    have ih := pk_row f
    rw [row_succ, row_succ]
    unfold stepR
    refine pk_ite (and_congr Iff.rfl (by rw [isB_isK, isB_isK, isB_isK, isB_isK]; exact h.hd.nots)) (fun hb => pk_opn ?_) (fun _ => pk_ite (and_congr Iff.rfl (is_iff h (by decide))) (fun hb => pk_opn ?_) (fun _ => pk_ite Iff.rfl (fun _ => ih _ _ _ _ h) (fun _ => pk_ite Iff.rfl (fun _ => pk_part (ih 1) _ _ _ h) (fun _ => ?_))))
    · have hk : (hdT ts).kind ≠ 0 := by rcases hb.2 with hb | hb <;> exact isB_k0 hb
      exact pk_then (ih 3 _ _ _ h.tail) (fun v v' r r' hv hr => pk_ok (Al.app hv (nd_one (h.pos hk))) hr)
    · exact pk_then (ih 11 _ _ _ h.tail) (fun v v' r r' hv hr => pk_ok (Al.app hv (nd_one (h.pos (isB_k0 hb.2)))) hr)
    · refine pk_then (ih (k + 1) _ _ _ h) (fun v v' r r' hv hr => ?_)
      show Pk Q (NdL Q) (loopG _ k r.length v r) (loopG _ k r'.length v' r')
      rw [← Al.len hr]
      exact pk_loop (fun ts ts' h => ih (k + 1) nest ts ts' h) k _ _ _ _ _ hv hr
end

end Go.Proofs.YtbdmpjnlgdahmaaGreatDoor
