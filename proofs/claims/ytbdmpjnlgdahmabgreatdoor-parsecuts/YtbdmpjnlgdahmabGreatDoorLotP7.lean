/-
  Fuel enough is enough. No Go text here. Errors and nodes lie at tokens. No Go text here.
-/
import Derived.Test.YtbdmpjnlgdahmabGreatDoorLotP6
namespace Go.Proofs.YtbdmpjnlgdahmabGreatDoor
open Go.RowKit
set_option maxRecDepth 100000

/-- The one answer that tells of too little fuel. -/
def exP : Er := (0, 0)
theorem then_mono {α β : Type} {x y : Except Er α} {F G : α → Except Er β} (h1 : x ≠ .error exP → y = x) (h2 : ∀ v, x = .ok v → F v ≠ .error exP → G v = F v) (h : thenE x F ≠ .error exP) : thenE y G = thenE x F := by
  cases hx : x with
  | error e =>
    rw [hx] at h h1
    rw [h1 (fun e' => h (by rw [Except.error.inj e']; rfl))]
    rfl
  | ok v =>
    rw [hx] at h h1
    rw [h1 (by simp)]
    exact h2 v hx h
theorem opn_mono {α : Type} {nest : Nat} {ts : List Tk} {x y : Except Er α} (h1 : x ≠ .error exP → y = x) (h : opnV nest ts x ≠ .error exP) : opnV nest ts y = opnV nest ts x := by
  unfold opnV at *
  split
  · rfl
  · rename_i hn
    rw [if_neg hn] at h
    exact h1 h
/-- One reading tells as much as another, wherever that has fuel enough. -/
def MonO (a b : Nat → List Tk → Out) : Prop := ∀ nest ts, a nest ts ≠ .error exP → b nest ts = a nest ts
theorem name_mono {a b : Nat → List Tk → Out} (hm : MonO a b) {nest of at' : Nat} {ts : List Tk} (h : nameF a nest of at' ts ≠ .error exP) : nameF b nest of at' ts = nameF a nest of at' ts := by
  unfold nameF at *
  split
  · rename_i hb
    rw [if_pos hb] at h
    exact opn_mono (fun h => then_mono (fun h => hm _ _ h) (fun v _ _ => rfl) h) h
  · rfl
theorem part_mono {a b : Nat → List Tk → Out} (hm : MonO a b) : MonO (partF a) (partF b) := by
  intro nest ts h
  unfold partF at *
  split
  · rfl
  · rename_i h1
    rw [if_neg h1] at h
    split
    · rename_i hb
      rw [if_pos hb] at h
      exact opn_mono (fun h => then_mono (fun h => hm _ _ h) (fun v _ _ => rfl) h) h
    · rename_i h2
      rw [if_neg h2] at h
      split
      · rfl
      · rename_i h3
        rw [if_neg h3] at h
        split
        · rename_i h4
          rw [if_pos h4] at h
          exact name_mono hm h
        · rfl
theorem loop_mono {a b : List Tk → Out} (hm : ∀ ts, a ts ≠ .error exP → b ts = a ts) (k : Nat) : ∀ (f : Nat) (ns : List (Nd × Nat)) (ts : List Tk), loopG a k f ns ts ≠ .error exP → loopG b k f ns ts = loopG a k f ns ts
  | 0, ns, ts, _ => rfl
  | f + 1, ns, ts, h => by
    unfold loopG at *
    split
    · rfl
    · rename_i nd hnd
      rw [hnd] at h
      refine then_mono (fun h => hm _ h) (fun v _ h2 => ?_) h
      split
      · rfl
      · rename_i hk
        rw [if_neg hk] at h2
        exact loop_mono hm k f _ _ h2
theorem row_mono : ∀ (f k : Nat), MonO (rowF f k) (rowF (f + 1) k)
  | 0, k => fun nest ts h => absurd rfl h
  | f + 1, k => fun nest ts h => by
    have ih := row_mono f
    rw [row_succ] at h
    rw [row_succ (f + 1), row_succ f]
    unfold stepR at *
    split
    · rename_i h1
      rw [if_pos h1] at h
      exact opn_mono (fun h => then_mono (fun h => ih 3 _ _ h) (fun v _ _ => rfl) h) h
    · rename_i h1
      rw [if_neg h1] at h
      split
      · rename_i h2
        rw [if_pos h2] at h
        exact opn_mono (fun h => then_mono (fun h => ih 11 _ _ h) (fun v _ _ => rfl) h) h
      · rename_i h2
        rw [if_neg h2] at h
        split
        · rename_i h3
          rw [if_pos h3] at h
          exact ih (k + 1) _ _ h
        · rename_i h3
          rw [if_neg h3] at h
          split
          · rename_i h4
            rw [if_pos h4] at h
            exact part_mono (ih 1) _ _ h
          · rename_i h4
            rw [if_neg h4] at h
            exact then_mono (fun h => ih (k + 1) _ _ h) (fun v _ h2 => loop_mono (fun ts h => ih (k + 1) nest ts h) k _ _ _ h2) h
theorem row_more {f g k nest : Nat} {ts : List Tk} (hfg : f ≤ g) (h : rowF f k nest ts ≠ .error exP) : rowF g k nest ts = rowF f k nest ts := by
  induction g with
  | zero =>
    obtain rfl : f = 0 := by omega
    rfl
  | succ g ih =>
    by_cases hg : f ≤ g
    · rw [row_mono g k nest ts (by rw [ih hg]; exact h), ih hg]
    · obtain rfl : f = g + 1 := by omega
      rfl

/-- Errors that are told. -/
theorem fail_told {α : Type} (ts : List Tk) (e : Int) (he : e ≠ 0) : (failV ts e : Except Er α) ≠ .error exP := by
  intro h
  have := congrArg Prod.snd (Except.error.inj h)
  simp only [exP] at this
  split at this
  · cases this
  · exact he this
theorem then_told {α β : Type} {x : Except Er α} {F : α → Except Er β} (h1 : x ≠ .error exP) (h2 : ∀ v, x = .ok v → F v ≠ .error exP) : thenE x F ≠ .error exP := by
  cases hx : x with
  | error e => rw [hx] at h1; exact fun h => h1 (by rw [Except.error.inj h])
  | ok v => exact h2 v hx
theorem opn_told {α : Type} {nest : Nat} {ts : List Tk} {x : Except Er α} (h : x ≠ .error exP) : opnV nest ts x ≠ .error exP := by
  unfold opnV
  split
  · intro e
    have := congrArg Prod.snd (Except.error.inj e)
    cases this
  · exact h
theorem must_told (x : List UInt8) (ts : List Tk) : mustV x ts ≠ .error exP := by
  unfold mustV
  split
  · simp
  · exact fail_told _ _ (by decide)
theorem num_told (ts : List Tk) : numT ts ≠ .error exP := by
  unfold numT
  split
  · simp
  · exact fail_told _ _ (by decide)
theorem addr_told (k : Nat) (ts : List Tk) : addrT k ts ≠ .error exP := by
  unfold addrT
  split
  · split
    · simp
    · exact fail_told _ _ (by decide)
  · split
    · split
      · simp
      · exact fail_told _ _ (by decide)
    · exact fail_told _ _ (by decide)
theorem sided_told (of at' : Nat) (ts : List Tk) : sidedV of at' ts ≠ .error exP := by
  unfold sidedV sidedB
  split
  · exact then_told (num_told _) (fun v _ => by simp)
  · split
    · exact then_told (num_told _) (fun v _ => then_told (must_told _ _) (fun v _ => then_told (num_told _) (fun v _ => by simp)))
    · split
      · exact then_told (addr_told _ _) (fun v _ => by simp)
      · split
        · exact then_told (addr_told _ _) (fun v _ => then_told (must_told _ _) (fun v _ => then_told (num_told _) (fun v _ => by simp)))
        · exact fail_told _ _ (by decide)
theorem word_told (ts : List Tk) : wordF ts ≠ .error exP := by
  unfold wordF
  split
  · simp
  · split
    · simp
    · split
      · simp
      · split
        · exact then_told (num_told _) (fun v _ => by simp)
        · split
          · exact sided_told _ _ _
          · exact fail_told _ _ (by decide)
theorem size_told (ts : List Tk) : sizeF ts ≠ .error exP := by
  unfold sizeF
  split
  · exact then_told (num_told _) (fun v _ => then_told (must_told _ _) (fun v _ => by simp))
  · exact then_told (must_told _ _) (fun v _ => by simp)
theorem part_told {rec : Nat → List Tk → Out} {ts : List Tk} (h : ∀ nest r, Fr ts r → rec nest r ≠ .error exP) (nest : Nat) : partF rec nest ts ≠ .error exP := by
  unfold partF
  split
  · simp
  · split
    · rename_i hb
      exact opn_told (then_told (h _ _ (fr_tail (isB_ne hb))) (fun v _ => then_told (must_told _ _) (fun v _ => by simp)))
    · split
      · exact fail_told _ _ (by decide)
      · rename_i hk
        have hne := hd_ne (ts := ts) (by omega)
        split
        · unfold nameF
          split
          · rename_i hb
            exact opn_told (then_told (h _ _ ((fr_tail hne).trans (fr_tail (isB_ne hb.1)))) (fun v _ => then_told (size_told _) (fun v _ => by simp)))
          · split
            · exact fail_told _ _ (by decide)
            · split
              · exact then_told (num_told _) (fun v _ => by simp)
              · split
                · exact sided_told _ _ _
                · simp
        · exact word_told _
theorem loop_told {rec : List Tk → Out} {top : List Tk} (hf : ∀ ts ns r, rec ts = .ok (ns, r) → Fr ts r ∧ ns ≠ []) (h : ∀ r, Fr top r → rec r ≠ .error exP) (k : Nat) : ∀ (f : Nat) (ns : List (Nd × Nat)) (ts : List Tk), Fr top ts → loopG rec k f ns ts ≠ .error exP
  | 0, ns, ts, _ => by
    unfold loopG
    simp
  | f + 1, ns, ts, ht => by
    unfold loopG
    split
    · simp
    · rename_i nd hnd
      have hne : ts ≠ [] := by
        rintro rfl
        unfold opT at hnd
        rw [if_neg (by decide)] at hnd
        cases hnd
      refine then_told (h _ (ht.trans (fr_tail hne))) (fun v hv => ?_)
      split
      · simp
      · exact loop_told hf h k f _ _ (ht.trans ((fr_tail hne).trans (hf _ v.1 v.2 hv).1))
/-- Fuel enough. -/
theorem row_told : ∀ (f k nest : Nat) (ts : List Tk), k ≤ 12 → needF k ts ≤ f → rowF f k nest ts ≠ .error exP
  | 0, k, nest, ts, hk, hn => by unfold needF at hn; omega
  | f + 1, k, nest, ts, hk, hn => by
    have ih := row_told f
    unfold needF at hn
    have below : ∀ k' nest' r, k' ≤ 12 → 1 ≤ k' → Fr ts r → rowF f k' nest' r ≠ .error exP := fun k' nest' r h1 h2 h3 => ih k' nest' r h1 (by have := h3.2; unfold needF; omega)
    rw [row_succ]
    unfold stepR
    split
    · rename_i hb
      have hne : ts ≠ [] := by rcases hb.2 with hb | hb <;> exact isB_ne hb
      exact opn_told (then_told (below 3 _ _ (by omega) (by omega) (fr_tail hne)) (fun v _ => by simp))
    · split
      · rename_i hb
        exact opn_told (then_told (below 11 _ _ (by omega) (by omega) (fr_tail (isB_ne hb.2))) (fun v _ => by simp))
      · split
        · exact ih (k + 1) _ _ (by omega) (by unfold needF; omega)
        · split
          · exact part_told (fun nest' r hr => below 1 nest' r (by omega) (by omega) hr) nest
          · have h1 : rowF f (k + 1) nest ts ≠ .error exP := ih (k + 1) _ _ (by omega) (by unfold needF; omega)
            refine then_told h1 (fun v hv => ?_)
            exact loop_told (top := ts) (fun ts ns r h => row_fr f (k + 1) nest ts ns r h) (fun r hr => below (k + 1) nest r (by omega) (by omega) hr) k _ _ _ (row_fr f (k + 1) nest ts v.1 v.2 hv).1
theorem row_same {f g k nest : Nat} {ts : List Tk} (hk : k ≤ 12) (hf : needF k ts ≤ f) (hg : needF k ts ≤ g) : rowF f k nest ts = rowF g k nest ts := by
  rcases Nat.le_total f g with h | h
  · exact (row_more h (row_told f k nest ts hk hf)).symm
  · exact row_more h (row_told g k nest ts hk hg)

end Go.Proofs.YtbdmpjnlgdahmabGreatDoor

namespace Go.Proofs.YtbdmpjnlgdahmabGreatDoor
open Go.RowKit
set_option maxRecDepth 100000

/-- Tokens, the end behind them. -/
def EndsOk (ts : List Tk) : Prop := ∃ us e, ts = us ++ [e] ∧ e.kind = 0 ∧ ∀ t ∈ us, t.kind ≠ 0
def TokAt (ts : List Tk) (p : Nat) : Prop := ∃ t ∈ ts, t.kind ≠ 0 ∧ t.pos = p
def ErAt (ts : List Tk) (e : Er) : Prop := ∃ t ∈ ts, t.pos = e.1 ∧ ((e.2 = 110 ∧ t.kind = 0) ∨ (t.kind ≠ 0 ∧ (e.2 = 111 ∨ e.2 = 112 ∨ e.2 = 113)))
theorem EndsOk.mem {ts : List Tk} (h : EndsOk ts) : hdT ts ∈ ts := by
  obtain ⟨us, e, rfl, -, -⟩ := h
  cases us with
  | nil => exact List.mem_cons_self ..
  | cons a us => exact List.mem_cons_self ..
theorem EndsOk.tail {ts : List Tk} (h : EndsOk ts) (hk : (hdT ts).kind ≠ 0) : EndsOk ts.tail := by
  obtain ⟨us, e, rfl, he, hu⟩ := h
  cases us with
  | nil => exact absurd he hk
  | cons a us => exact ⟨us, e, rfl, he, fun t ht => hu t (List.mem_cons_of_mem _ ht)⟩
theorem TokAt.up {ts r : List Tk} {p : Nat} (h : TokAt r p) (hs : r <:+ ts) : TokAt ts p := by
  obtain ⟨t, ht, h⟩ := h
  exact ⟨t, hs.subset ht, h⟩
theorem ErAt.up {ts r : List Tk} {e : Er} (h : ErAt r e) (hs : r <:+ ts) : ErAt ts e := by
  obtain ⟨t, ht, h⟩ := h
  exact ⟨t, hs.subset ht, h⟩
theorem hd_at {ts : List Tk} (h : EndsOk ts) (hk : (hdT ts).kind ≠ 0) : TokAt ts (hdT ts).pos := ⟨_, h.mem, hk, rfl⟩

/-- What a reading may come to. -/
def GdP {α : Type} (ts : List Tk) (x : Except Er (α × List Tk)) : Prop := (∀ v r, x = .ok (v, r) → EndsOk r ∧ r <:+ ts) ∧ ∀ e, x = .error e → e ≠ exP → ErAt ts e
theorem GdP.up {α : Type} {ts r : List Tk} {x : Except Er (α × List Tk)} (h : GdP r x) (hs : r <:+ ts) : GdP ts x :=
  ⟨fun v q hq => ⟨(h.1 v q hq).1, (h.1 v q hq).2.trans hs⟩, fun e he hn => (h.2 e he hn).up hs⟩
theorem gd_then {α β : Type} {ts : List Tk} {x : Except Er (α × List Tk)} {F : α × List Tk → Except Er (β × List Tk)} (h : GdP ts x) (hF : ∀ v r, x = .ok (v, r) → EndsOk r → GdP r (F (v, r))) : GdP ts (thenE x F) := by
  cases hx : x with
  | error e => exact ⟨fun v r hq => (by cases hq), fun e' he hn => (by cases he; exact h.2 e hx hn)⟩
  | ok v =>
    obtain ⟨v, r⟩ := v
    exact (hF v r hx (h.1 v r hx).1).up (h.1 v r hx).2
theorem gd_ok {α : Type} {ts r : List Tk} (v : α) (h : EndsOk r) (hs : r <:+ ts) : GdP ts (.ok (v, r)) :=
  ⟨fun _ _ hq => by cases hq; exact ⟨h, hs⟩, fun _ he => by cases he⟩
theorem gd_fail {α : Type} {ts : List Tk} (h : EndsOk ts) {e : Int} (he : e = 111 ∨ e = 112) : GdP (α := α) ts (failV ts e) := by
  refine ⟨fun _ _ hq => (by cases hq), fun x hx _ => ?_⟩
  cases hx
  refine ⟨_, h.mem, rfl, ?_⟩
  by_cases hk : (hdT ts).kind = 0
  · exact .inl ⟨if_pos hk, hk⟩
  · refine .inr ⟨hk, ?_⟩
    show (if _ then _ else _) = _ ∨ _
    rw [if_neg hk]
    rcases he with he | he
    · exact .inl he
    · exact .inr (.inl he)
theorem gd_opn {α : Type} {nest : Nat} {ts : List Tk} (h : EndsOk ts) (hk : (hdT ts).kind ≠ 0) {x : Except Er (α × List Tk)} (hx : GdP ts x) : GdP ts (opnV nest ts x) := by
  unfold opnV
  split
  · refine ⟨fun _ _ hq => (by cases hq), fun e he _ => ?_⟩
    cases he
    exact ⟨_, h.mem, rfl, .inr ⟨hk, .inr (.inr rfl)⟩⟩
  · exact hx
theorem isB_k0 {ts : List Tk} {x : List UInt8} (h : isB ts x = true) : (hdT ts).kind ≠ 0 := by have := isB_kind h; omega
/-- A sign or word that must be reached. -/
def mustU (x : List UInt8) (ts : List Tk) : Except Er (Unit × List Tk) := thenE (mustV x ts) fun r => .ok ((), r)
theorem must_u {β : Type} (x : List UInt8) (ts : List Tk) (F : List Tk → Except Er β) : thenE (mustV x ts) F = thenE (mustU x ts) fun q => F q.2 := by
  unfold mustU
  cases mustV x ts <;> rfl
theorem gd_must (x : List UInt8) {ts : List Tk} (h : EndsOk ts) : GdP ts (mustU x ts) := by
  unfold mustU mustV
  split
  · rename_i hb
    exact gd_ok _ (h.tail (isB_k0 hb)) (List.tail_suffix _)
  · exact gd_fail h (.inl rfl)
theorem gd_num {ts : List Tk} (h : EndsOk ts) : GdP ts (numT ts) := by
  unfold numT
  split
  · exact gd_ok _ (h.tail (by omega)) (List.tail_suffix _)
  · exact gd_fail h (.inl rfl)
theorem gd_addr (k : Nat) {ts : List Tk} (h : EndsOk ts) : GdP ts (addrT k ts) := by
  unfold addrT
  split
  · split
    · exact gd_ok _ (h.tail (by omega)) (List.tail_suffix _)
    · exact gd_fail h (.inr rfl)
  · split
    · split
      · exact gd_ok _ (h.tail (by omega)) (List.tail_suffix _)
      · exact gd_fail h (.inr rfl)
    · exact gd_fail h (.inl rfl)
theorem gd_tail {α : Type} {ts : List Tk} {x : Except Er (α × List Tk)} (h : GdP ts.tail x) : GdP ts x := h.up (List.tail_suffix _)
theorem gd_sidedB (of at' side : Nat) {ts : List Tk} (h : EndsOk ts) : GdP ts (sidedB of at' side ts) := by
  unfold sidedB
  split
  · rename_i hb
    exact gd_tail (gd_then (gd_num (h.tail (isB_k0 hb))) (fun v r _ hr => gd_ok _ hr (List.suffix_refl _)))
  · split
    · rename_i hb
      refine gd_tail (gd_then (gd_num (h.tail (isB_k0 hb))) (fun v r _ hr => ?_))
      simp only [must_u]
      exact gd_then (gd_must _ hr) (fun v r _ hr => gd_then (gd_num hr) (fun v r _ hr => gd_ok _ hr (List.suffix_refl _)))
    · split
      · rename_i hb
        exact gd_tail (gd_then (gd_addr _ (h.tail (isB_k0 hb.2))) (fun v r _ hr => gd_ok _ hr (List.suffix_refl _)))
      · split
        · rename_i hb
          refine gd_tail (gd_then (gd_addr _ (h.tail (isB_k0 hb.2))) (fun v r _ hr => ?_))
          simp only [must_u]
          exact gd_then (gd_must _ hr) (fun v r _ hr => gd_then (gd_num hr) (fun v r _ hr => gd_ok _ hr (List.suffix_refl _)))
        · exact gd_fail h (.inl rfl)
theorem side_ends {ts : List Tk} (h : EndsOk ts) : EndsOk (sideR ts) := by
  unfold sideR
  split
  · exact h
  · rename_i hs
    refine h.tail ?_
    unfold sideN at hs
    split at hs
    · rename_i hb; exact isB_k0 hb
    · split at hs
      · rename_i hb; exact isB_k0 hb
      · exact absurd rfl hs
theorem gd_sided (of at' : Nat) {ts : List Tk} (h : EndsOk ts) : GdP ts (sidedV of at' ts) := (gd_sidedB _ _ _ (side_ends h)).up (sideR_sfx ts)
theorem gd_word {ts : List Tk} (h : EndsOk ts) (hk : (hdT ts).kind ≠ 0) : GdP ts (wordF ts) := by
  have ht := h.tail hk
  unfold wordF
  split
  · exact gd_ok _ ht (List.tail_suffix _)
  · split
    · exact gd_ok _ ht (List.tail_suffix _)
    · split
      · exact gd_ok _ ht (List.tail_suffix _)
      · split
        · exact gd_tail (gd_then (gd_num ht) (fun v r _ hr => gd_ok _ hr (List.suffix_refl _)))
        · split
          · exact gd_sided _ _ h
          · exact gd_fail h (.inl rfl)
theorem gd_size {ts : List Tk} (h : EndsOk ts) : GdP ts (sizeF ts) := by
  unfold sizeF
  simp only [must_u]
  split
  · rename_i hb
    exact gd_tail (gd_then (gd_num (h.tail (isB_k0 hb))) (fun v r _ hr => gd_then (gd_must _ hr) (fun v r _ hr => gd_ok _ hr (List.suffix_refl _))))
  · exact gd_then (gd_must _ h) (fun v r _ hr => gd_ok _ hr (List.suffix_refl _))
def GdR (rec : Nat → List Tk → Out) : Prop := ∀ nest ts, EndsOk ts → GdP ts (rec nest ts)
theorem gd_name {rec : Nat → List Tk → Out} (hr : GdR rec) (nest of at' : Nat) {ts : List Tk} (h : EndsOk ts) : GdP ts (nameF rec nest of at' ts) := by
  unfold nameF
  split
  · rename_i hb
    exact gd_opn h (isB_k0 hb.1) (gd_tail (gd_then (hr _ _ (h.tail (isB_k0 hb.1))) (fun v r _ hq => gd_then (gd_size hq) (fun v r _ hr => gd_ok _ hr (List.suffix_refl _)))))
  · split
    · exact gd_fail h (.inl rfl)
    · split
      · rename_i hb
        exact gd_tail (gd_then (gd_num (h.tail (isB_k0 hb.2))) (fun v r _ hr => gd_ok _ hr (List.suffix_refl _)))
      · split
        · exact gd_sided _ _ h
        · exact gd_ok _ h (List.suffix_refl _)
theorem gd_part {rec : Nat → List Tk → Out} (hr : GdR rec) : GdR (partF rec) := by
  intro nest ts h
  unfold partF
  split
  · exact gd_ok _ (h.tail (by omega)) (List.tail_suffix _)
  · split
    · rename_i hb
      refine gd_opn h (isB_k0 hb) (gd_tail (gd_then (hr _ _ (h.tail (isB_k0 hb))) (fun v r _ hq => ?_)))
      simp only [must_u]
      exact gd_then (gd_must _ hq) (fun v r _ hr => gd_ok _ hr (List.suffix_refl _))
    · split
      · exact gd_fail h (.inl rfl)
      · rename_i hk
        have hk' : (hdT ts).kind ≠ 0 := by omega
        split
        · exact gd_tail (gd_name hr _ _ _ (h.tail hk'))
        · exact gd_word h hk'
theorem gd_loop {rec : List Tk → Out} (hr : ∀ ts, EndsOk ts → GdP ts (rec ts)) (k : Nat) : ∀ (f : Nat) (ns : List (Nd × Nat)) (ts : List Tk), EndsOk ts → GdP ts (loopG rec k f ns ts)
  | 0, ns, ts, h => gd_ok _ h (List.suffix_refl _)
  | f + 1, ns, ts, h => by
    unfold loopG
    split
    · exact gd_ok _ h (List.suffix_refl _)
    · rename_i nd hnd
      have hk : (hdT ts).kind ≠ 0 := by
        unfold opT at hnd
        split at hnd
        · omega
        · cases hnd
      refine gd_tail (gd_then (hr _ (h.tail hk)) (fun v r _ hq => ?_))
      split
      · exact gd_ok _ hq (List.suffix_refl _)
      · exact gd_loop hr k f _ _ hq
theorem gd_row : ∀ (f k : Nat), GdR (rowF f k)
  | 0, k => fun nest ts h => ⟨fun _ _ hq => (by cases hq), fun e he hn => (by cases he; exact absurd rfl hn)⟩
  | f + 1, k => fun nest ts h => by
    have ih := gd_row f
    rw [row_succ]
    unfold stepR
    split
    · rename_i hb
      have hk : (hdT ts).kind ≠ 0 := by rcases hb.2 with hb | hb <;> exact isB_k0 hb
      exact gd_opn h hk (gd_tail (gd_then (ih 3 _ _ (h.tail hk)) (fun v r _ hr => gd_ok _ hr (List.suffix_refl _))))
    · split
      · rename_i hb
        exact gd_opn h (isB_k0 hb.2) (gd_tail (gd_then (ih 11 _ _ (h.tail (isB_k0 hb.2))) (fun v r _ hr => gd_ok _ hr (List.suffix_refl _))))
      · split
        · exact ih (k + 1) _ _ h
        · split
          · exact gd_part (ih 1) _ _ h
          · exact gd_then (ih (k + 1) _ _ h) (fun v r _ hr => gd_loop (fun ts h => ih (k + 1) nest ts h) k _ _ _ hr)

end Go.Proofs.YtbdmpjnlgdahmabGreatDoor
