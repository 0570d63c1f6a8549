/-
  A source's beginnings; errors that stand whatever follows. No Go text here. Reading deeper, and reading with something behind that does not go on. No Go text here. A whole source in brackets. No Go text here.
-/
import Derived.Test.YtbdmpjnlgdahmaaGreatDoorLotP22
namespace Go.Proofs.YtbdmpjnlgdahmaaGreatDoor
open Go.RowKit
set_option maxRecDepth 100000

def finV (p : List (Nd × Nat) × List Tk) : Except Er (List (Nd × Nat)) := if (hdT p.2).kind = 0 then .ok p.1 else failV p.2 111
theorem parse_fuel {f : Nat} {ts : List Tk} (h : needF 1 ts ≤ f) : parseT ts = thenE (rowF f 1 0 ts) finV := by
  unfold parseT
  rw [row_same (by decide) h (Nat.le_refl _)]
  rfl
theorem ends_one {e : Tk} (he : e.kind = 0) : EndsOk [e] := ⟨[], e, rfl, he, fun _ h => by cases h⟩
theorem ends_app {p A : List Tk} (hp : ∀ t ∈ p, t.kind ≠ 0) (hA : EndsOk A) : EndsOk (p ++ A) := by
  obtain ⟨us, e, rfl, he, hu⟩ := hA
  refine ⟨p ++ us, e, by rw [List.append_assoc], he, fun t ht => ?_⟩
  rcases List.mem_append.1 ht with ht | ht
  · exact hp t ht
  · exact hu t ht
/-- What Parse of tokens may come to. -/
theorem parse_out {ts : List Tk} (h : EndsOk ts) : (∃ ns, parseT ts = .ok ns ∧ ns ≠ []) ∨ ∃ e, parseT ts = .error e ∧ ErAt ts e := by
  have ht := row_told (needF 1 ts) 1 0 ts (by decide) (Nat.le_refl _)
  have hg := gd_row (needF 1 ts) 1 0 ts h
  have hf := row_fr (needF 1 ts) 1 0 ts
  unfold parseT
  cases hx : rowF (needF 1 ts) 1 0 ts with
  | error e => exact .inr ⟨e, rfl, hg.2 e hx (fun h => ht (by rw [hx, h]))⟩
  | ok v =>
    obtain ⟨ns, r⟩ := v
    obtain ⟨h1, h2⟩ := hg.1 ns r hx
    show (∃ ms, (if (hdT r).kind = 0 then Except.ok ns else failV r _) = .ok ms ∧ _) ∨ ∃ e, (if (hdT r).kind = 0 then Except.ok ns else failV r _) = .error e ∧ _
    by_cases hk : (hdT r).kind = 0
    · rw [if_pos hk]; exact .inl ⟨ns, rfl, (hf ns r hx).2⟩
    · rw [if_neg hk]
      refine .inr ⟨_, rfl, _, h2.subset h1.mem, rfl, .inr ⟨hk, .inl ?_⟩⟩
      exact if_neg hk

/-- Two runs, of which one ends where the other may go on. -/
theorem two_runs {pre A : List Tk} {e : Tk} (hp : ∀ t ∈ pre, t.kind ≠ 0) (hA : EndsOk A) (he : e.kind = 0) :
    (∃ ns, parseT (pre ++ [e]) = .ok ns ∧ ns ≠ []) ∨ parseT (pre ++ [e]) = .error (e.pos, 110) ∧ ((∃ ns, parseT (pre ++ A) = .ok ns) ∨ ∃ x, parseT (pre ++ A) = .error x ∧ ErAt A x) ∨
      ∃ x, parseT (pre ++ [e]) = .error x ∧ parseT (pre ++ A) = .error x ∧ x.2 ≠ 110 := by
  have hB := ends_one he
  have hpB := ends_app hp hB
  obtain ⟨f, hf⟩ : ∃ f, needF 1 (pre ++ A) + needF 1 (pre ++ [e]) = f := ⟨_, rfl⟩
  have f1 : needF 1 (pre ++ A) ≤ f := by omega
  have f2 : needF 1 (pre ++ [e]) ≤ f := by omega
  have t1 := row_told f 1 0 (pre ++ A) (by decide) f1
  have t2 := row_told f 1 0 (pre ++ [e]) (by decide) f2
  have hS := sm_row (A := A) (B := [e]) hA he (by simp) f 1 0 pre
  rcases parse_out hpB with h | ⟨x, hx, hat⟩
  · exact .inl h
  right
  rw [parse_fuel f2] at hx
  rw [parse_fuel f1, parse_fuel f2]
  rcases hS with ⟨v, p, h1, h2⟩ | ⟨er, h1, h2⟩ | ⟨h2, h1⟩
  · rw [h2] at hx
    have hx' : (if (hdT (p ++ [e])).kind = 0 then Except.ok v else failV (p ++ [e]) 111) = .error x := hx
    cases p with
    | nil =>
      rw [if_pos (by exact he)] at hx'
      cases hx'
    | cons t p =>
      by_cases hk : t.kind = 0
      · rw [if_pos (by exact hk)] at hx'
        cases hx'
      · right
        refine ⟨x, by rw [h2]; exact hx, ?_, ?_⟩
        · rw [h1]
          show (if (hdT (t :: p ++ A)).kind = 0 then Except.ok v else failV (t :: p ++ A) 111) = .error x
          rw [if_neg (by exact hk)]
          rw [if_neg (by exact hk)] at hx'
          exact hx'
        · rw [if_neg (by exact hk)] at hx'
          cases hx'
          show (if t.kind = 0 then (110 : Int) else 111) ≠ 110
          rw [if_neg hk]
          decide
  · by_cases hc : er.2 = 110
    · have hxe : er = x := by
        rw [h2] at hx
        exact Except.error.inj hx
      subst hxe
      obtain ⟨t, ht, hpos, hcase⟩ := hat
      left
      have hte : t = e := by
        rcases hcase with ⟨-, hk⟩ | ⟨hk, hh⟩
        · rcases List.mem_append.1 ht with ht | ht
          · exact absurd hk (hp t ht)
          · simpa using ht
        · rw [hc] at hh
          rcases hh with hh | hh | hh <;> cases hh
      subst hte
      have g1 := gd_row f 1 0 (pre ++ A) (ends_app hp hA)
      obtain ⟨t', ht', hpos', hcase'⟩ := g1.2 er h1 (fun h => t1 (by rw [h1, h]))
      refine ⟨by rw [h2]; show Except.error er = _; rw [← hc, hpos], .inr ⟨er, by rw [h1]; rfl, t', ?_, hpos', hcase'⟩⟩
      rcases List.mem_append.1 ht' with ht' | ht'
      · rcases hcase' with ⟨-, hk⟩ | ⟨-, hh⟩
        · exact absurd hk (hp t' ht')
        · rw [hc] at hh
          rcases hh with hh | hh | hh <;> cases hh
      · exact ht'
    · right
      exact ⟨er, by rw [h2]; rfl, by rw [h1]; rfl, hc⟩
  · rcases h2 with h2 | h2 | ⟨v, h2⟩
    · left
      refine ⟨by rw [h2]; rfl, ?_⟩
      cases hxa : rowF f 1 0 (pre ++ A) with
      | error er => exact .inr ⟨er, rfl, h1.2 er hxa (fun h => t1 (by rw [hxa, h]))⟩
      | ok v =>
        obtain ⟨ns, r⟩ := v
        obtain ⟨g1, g2⟩ := h1.1 ns r hxa
        show (∃ ms, (if (hdT r).kind = 0 then Except.ok ns else failV r _) = .ok ms) ∨ ∃ e, (if (hdT r).kind = 0 then Except.ok ns else failV r _) = .error e ∧ _
        by_cases hk : (hdT r).kind = 0
        · rw [if_pos hk]; exact .inl ⟨ns, rfl⟩
        · rw [if_neg hk]
          exact .inr ⟨_, rfl, _, g2.subset g1.mem, rfl, .inr ⟨hk, .inl (if_neg hk)⟩⟩
    · exact absurd h2 t2
    · rw [h2] at hx
      have hx' : (if (hdT [e]).kind = 0 then Except.ok v else failV [e] 111) = .error x := hx
      rw [if_pos (by exact he)] at hx'
      cases hx'

end Go.Proofs.YtbdmpjnlgdahmaaGreatDoor

namespace Go.Proofs.YtbdmpjnlgdahmaaGreatDoor
open Go.RowKit
set_option maxRecDepth 100000

/-- The same, or too deep. -/
def Ns {α : Type} (x y : Except Er α) : Prop := y = x ∨ ∃ p, y = .error (p, 113)
theorem ns_then {α β : Type} {x y : Except Er α} {F G : α → Except Er β} (h : Ns x y) (hF : ∀ v, Ns (F v) (G v)) : Ns (thenE x F) (thenE y G) := by
  rcases h with rfl | ⟨p, rfl⟩
  · cases y with
    | error e => exact .inl rfl
    | ok v => exact hF v
  · exact .inr ⟨p, rfl⟩
theorem ns_opn {α : Type} {nest d : Nat} {ts : List Tk} {x y : Except Er α} (hn : nest + d ≤ 200) (h : nest + 1 + d ≤ 200 → Ns x y) : Ns (opnV nest ts x) (opnV (nest + d) ts y) := by
  unfold opnV
  by_cases h2 : nest + d = 200
  · rw [if_pos h2]; exact .inr ⟨_, rfl⟩
  · rw [if_neg h2, if_neg (by omega)]; exact h (by omega)
theorem ns_ite {α : Type} {c : Prop} [Decidable c] {x1 x2 y1 y2 : Except Er α} (h1 : c → Ns x1 y1) (h2 : ¬ c → Ns x2 y2) : Ns (if c then x1 else x2) (if c then y1 else y2) := by
  by_cases h : c
  · rw [if_pos h, if_pos h]; exact h1 h
  · rw [if_neg h, if_neg h]; exact h2 h
def NsR (d : Nat) (rec : Nat → List Tk → Out) : Prop := ∀ nest ts, nest + d ≤ 200 → Ns (rec nest ts) (rec (nest + d) ts)
theorem ns_part {d : Nat} {rec : Nat → List Tk → Out} (hr : NsR d rec) : NsR d (partF rec) := by
  intro nest ts hn
  have e : nest + d + 1 = nest + 1 + d := by omega
  unfold partF nameF
  refine ns_ite (fun _ => .inl rfl) (fun _ => ns_ite (fun _ => ns_opn hn (fun h => ?_)) (fun _ => ns_ite (fun _ => .inl rfl) (fun _ => ns_ite (fun _ => ns_ite (fun _ => ns_opn hn (fun h => ?_)) (fun _ => .inl rfl)) (fun _ => .inl rfl))))
  · rw [e]; exact ns_then (hr _ _ h) (fun _ => .inl rfl)
  · rw [e]; exact ns_then (hr _ _ h) (fun _ => .inl rfl)
theorem ns_loop {a b : List Tk → Out} (h : ∀ ts, Ns (a ts) (b ts)) (k : Nat) : ∀ (f : Nat) (ns : List (Nd × Nat)) (ts : List Tk), Ns (loopG a k f ns ts) (loopG b k f ns ts)
  | 0, ns, ts => .inl rfl
  | f + 1, ns, ts => by
    unfold loopG
    cases opT k ts with
    | none => exact .inl rfl
    | some nd => exact ns_then (h _) (fun v => ns_ite (fun _ => .inl rfl) (fun _ => ns_loop h k f _ _))
/-- Deeper, a row is the same, or too deep. -/
theorem ns_row (d : Nat) : ∀ (f k : Nat), NsR d (rowF f k)
  | 0, k => fun _ _ _ => .inl rfl
  | f + 1, k => fun nest ts hn => by
    have ih := ns_row d f
    have e : nest + d + 1 = nest + 1 + d := by omega
    rw [row_succ, row_succ]
    unfold stepR
    refine ns_ite (fun _ => ns_opn hn (fun h => ?_)) (fun _ => ns_ite (fun _ => ns_opn hn (fun h => ?_)) (fun _ => ns_ite (fun _ => ih _ _ _ hn) (fun _ => ns_ite (fun _ => ns_part (ih 1) _ _ hn) (fun _ => ?_))))
    · rw [e]; exact ns_then (ih 3 _ _ h) (fun _ => .inl rfl)
    · rw [e]; exact ns_then (ih 11 _ _ h) (fun _ => .inl rfl)
    · exact ns_then (ih (k + 1) _ _ hn) (fun v => ns_loop (fun ts => ih (k + 1) nest ts hn) k _ _ _)

/-- What is read with an end behind is read with that behind, too. -/
def Sk {α : Type} (A B : List Tk) (x y : Except Er (α × List Tk)) : Prop := ∀ v r, x = .ok (v, r) → ∃ p, r = p ++ A ∧ y = .ok (v, p ++ B)
theorem sk_then {α β : Type} {A B : List Tk} {x y : Except Er (α × List Tk)} {F : α × List Tk → Except Er (β × List Tk)} (h : Sk A B x y) (hF : ∀ v p, x = .ok (v, p ++ A) → y = .ok (v, p ++ B) → Sk A B (F (v, p ++ A)) (F (v, p ++ B))) : Sk A B (thenE x F) (thenE y F) := by
  intro v r hq
  obtain ⟨⟨u, s⟩, h1, h2⟩ := thenE_inv hq
  obtain ⟨p, rfl, h3⟩ := h u s h1
  rw [h3]
  exact hF u p h1 h3 v r h2
theorem sk_ite {α : Type} {A B : List Tk} {c : Prop} [Decidable c] {x1 x2 y1 y2 : Except Er (α × List Tk)} (h1 : c → Sk A B x1 y1) (h2 : ¬ c → Sk A B x2 y2) : Sk A B (if c then x1 else x2) (if c then y1 else y2) := by
  by_cases h : c
  · rw [if_pos h, if_pos h]; exact h1 h
  · rw [if_neg h, if_neg h]; exact h2 h
theorem sk_ok {α : Type} {A B : List Tk} (v : α) (p : List Tk) : Sk A B (.ok (v, p ++ A)) (.ok (v, p ++ B)) := fun u r h => by
  cases h
  exact ⟨p, rfl, rfl⟩
theorem sk_er {α : Type} {A B : List Tk} (e : Er) (y : Except Er (α × List Tk)) : Sk A B (.error e) y := fun u r h => by cases h
theorem sk_opn {α : Type} {A B : List Tk} {nest : Nat} {t : Tk} {p : List Tk} {x y : Except Er (α × List Tk)} (h : Sk A B x y) : Sk A B (opnV nest (t :: (p ++ A)) x) (opnV nest (t :: (p ++ B)) y) :=
  sk_ite (fun _ => sk_er _ _) (fun _ => h)
def SkP {α : Type} (A B : List Tk) (G : List Tk → Except Er (α × List Tk)) : Prop := ∀ p, Sk A B (G (p ++ A)) (G (p ++ B))
theorem skp_of {α : Type} {A B : List Tk} {G : List Tk → Except Er (α × List Tk)} (h1 : ∀ t p, Sk A B (G (t :: (p ++ A))) (G (t :: (p ++ B)))) (h2 : Sk A B (G A) (G B)) : SkP A B G := by
  intro p
  cases p with
  | nil => exact h2
  | cons t p => exact h1 t p
/-- At an end a reading is none, or ends. -/
theorem sk_end {α : Type} {A B : List Tk} {x y : Except Er (α × List Tk)} (h : ∀ v r, x ≠ .ok (v, r)) : Sk A B x y := fun v r hq => absurd hq (h v r)

section
variable {A B : List Tk}
theorem sk_must (hA : (hdT A).kind = 0) (x : List UInt8) : SkP A B (mustU x) := skp_of (fun t p => by
  show Sk A B (thenE (if isB (t :: (p ++ A)) x = true then .ok (p ++ A) else failV (t :: (p ++ A)) _) _) (thenE (if isB (t :: (p ++ A)) x = true then .ok (p ++ B) else failV (t :: (p ++ B)) _) _)
  by_cases h : isB (t :: (p ++ A)) x = true
  · rw [if_pos h, if_pos h]; exact sk_ok _ _
  · rw [if_neg h, if_neg h]; exact sk_er _ _) (sk_end (fun v r h => by
    unfold mustU mustV at h
    rw [if_neg (by rw [end_is hA]; simp)] at h
    cases h))
theorem sk_num (hA : (hdT A).kind = 0) : SkP A B numT := skp_of (fun _ _ => sk_ite (fun _ => sk_ok _ _) (fun _ => sk_er _ _)) (sk_end (fun v r h => by
    unfold numT at h
    rw [if_neg (by omega)] at h
    cases h))
theorem sk_addr (hA : (hdT A).kind = 0) (k : Nat) : SkP A B (addrT k) := skp_of (fun t p => by
  refine sk_ite (fun _ => ?_) (fun _ => sk_ite (fun _ => ?_) (fun _ => sk_er _ _))
  · show Sk A B (match parse4V t.text with | some a => _ | none => _) (match parse4V t.text with | some a => _ | none => _)
    cases parse4V t.text with
    | none => exact sk_er _ _
    | some a => exact sk_ok _ _
  · show Sk A B (match parse6V t.text with | some a => _ | none => _) (match parse6V t.text with | some a => _ | none => _)
    cases parse6V t.text with
    | none => exact sk_er _ _
    | some a => exact sk_ok _ _) (sk_end (fun v r h => by
    unfold addrT at h
    rw [if_neg (by omega), if_neg (by omega)] at h
    cases h))
theorem sk_two {α : Type} (hA : (hdT A).kind = 0) (x : List UInt8) (F : Nat → α) (p : List Tk) :
    Sk A B (thenE (mustU x (p ++ A)) fun q => thenE (numT q.2) fun u => .ok (F u.1, u.2)) (thenE (mustU x (p ++ B)) fun q => thenE (numT q.2) fun u => .ok (F u.1, u.2)) :=
  sk_then (sk_must hA x p) (fun _ p _ _ => sk_then (sk_num hA p) (fun _ p _ _ => sk_ok _ p))
theorem sk_sidedB (hA : (hdT A).kind = 0) (of at' side : Nat) : SkP A B (sidedB of at' side) := skp_of (fun t p => by
  unfold sidedB
  simp only [must_u]
  refine sk_ite (fun _ => ?_) (fun _ => sk_ite (fun _ => ?_) (fun _ => sk_ite (fun _ => ?_) (fun _ => sk_ite (fun _ => ?_) (fun _ => sk_er _ _))))
  · exact sk_then (sk_num hA p) (fun _ p _ _ => sk_ok _ p)
  · exact sk_then (sk_num hA p) (fun v p _ _ => sk_two hA _ (fun m => [({ ndK 16 with of := of, side := side, n := v, m := m }, at')]) p)
  · exact sk_then (sk_addr hA 14 p) (fun _ p _ _ => sk_ok _ p)
  · exact sk_then (sk_addr hA 15 p) (fun v p _ _ => sk_two hA _ (fun b => [({ v with bits := b, side := side }, at')]) p)) (sk_end (fun v r h => by
    unfold sidedB at h
    rw [if_neg (by rw [end_is hA]; simp), if_neg (by rw [end_is hA]; simp), if_neg (by rw [end_is hA]; simp), if_neg (by rw [end_is hA]; simp)] at h
    cases h))
theorem sk_sided (hA : (hdT A).kind = 0) (of at' : Nat) : SkP A B (sidedV of at') := skp_of (fun t p => by
  unfold sidedV
  have hn : sideN (t :: (p ++ B)) = sideN (t :: (p ++ A)) := rfl
  rw [hn]
  unfold sideR
  rw [hn]
  by_cases h : sideN (t :: (p ++ A)) = 0
  · rw [if_pos h, if_pos h]; exact sk_sidedB hA _ _ _ (t :: p)
  · rw [if_neg h, if_neg h]; exact sk_sidedB hA _ _ _ p) (sk_end (fun v r h => by
    unfold sidedV at h
    rw [(end_side hA).1, (end_side hA).2] at h
    unfold sidedB at h
    rw [if_neg (by rw [end_is hA]; simp), if_neg (by rw [end_is hA]; simp), if_neg (by rw [end_is hA]; simp), if_neg (by rw [end_is hA]; simp)] at h
    cases h))
theorem sk_word (hA : (hdT A).kind = 0) (t : Tk) (p : List Tk) : Sk A B (wordF (t :: (p ++ A))) (wordF (t :: (p ++ B))) := by
  unfold wordF
  refine sk_ite (fun _ => sk_ok _ p) (fun _ => sk_ite (fun _ => sk_ok _ p) (fun _ => sk_ite (fun _ => sk_ok _ p) (fun _ => sk_ite (fun _ => ?_) (fun _ => sk_ite (fun _ => ?_) (fun _ => sk_er _ _)))))
  · exact sk_then (sk_num hA p) (fun _ p _ _ => sk_ok _ p)
  · exact sk_sided hA _ _ (t :: p)
theorem sk_size (hA : (hdT A).kind = 0) : SkP A B sizeF := skp_of (fun t p => by
  unfold sizeF
  simp only [must_u]
  refine sk_ite (fun _ => ?_) (fun _ => ?_)
  · exact sk_then (sk_num hA p) (fun _ p _ _ => sk_then (sk_must hA _ p) (fun _ p _ _ => sk_ok _ p))
  · exact sk_then (sk_must hA _ (t :: p)) (fun _ p _ _ => sk_ok _ p)) (sk_end (fun v r h => by
    unfold sizeF at h
    rw [if_neg (by rw [end_is hA]; simp)] at h
    unfold mustV at h
    rw [if_neg (by rw [end_is hA]; simp)] at h
    cases h))
end

end Go.Proofs.YtbdmpjnlgdahmaaGreatDoor

namespace Go.Proofs.YtbdmpjnlgdahmaaGreatDoor
open Go.RowKit
set_option maxRecDepth 100000

/-- What does not go on. -/
def StopB (B : List Tk) : Prop := (∀ x ∈ [[91], wProto, wSrc, wDst, wPort, wPortrange], isB B x = false) ∧ ∀ k, opT k B = none
theorem stop_paren {t : Tk} (ht : t.kind = 5) (hx : t.text = [41]) (r : List Tk) : StopB (t :: r) := by
  refine ⟨fun x hm => ?_, fun k => ?_⟩
  · show ((t.kind == 5 || t.kind == 2) && t.text == x) = false
    rw [hx]
    simp only [List.mem_cons, List.not_mem_nil, or_false] at hm
    rcases hm with rfl | rfl | rfl | rfl | rfl | rfl <;> simp [wProto, wSrc, wDst, wPort, wPortrange]
  · unfold opT
    show (if t.kind = 5 ∨ t.kind = 2 then binV k t.text else none) = none
    rw [if_pos (.inl ht), hx]
    unfold binV relV
    simp [wOr, wAnd]
theorem stop_end {t : Tk} (ht : t.kind = 0) (r : List Tk) : StopB (t :: r) := by
  refine ⟨fun x _ => end_is (B := t :: r) ht x, fun k => ?_⟩
  unfold opT
  rw [if_neg (by show ¬ (t.kind = 5 ∨ t.kind = 2); omega)]

theorem loop_stop {B : List Tk} (h : StopB B) (rec : List Tk → Out) (k f : Nat) (ns : List (Nd × Nat)) : loopG rec k f ns B = .ok (ns, B) := by
  cases f with
  | zero => rfl
  | succ f => unfold loopG; rw [h.2 k]
theorem part_no {A : List Tk} (hA : (hdT A).kind = 0) (rec : Nat → List Tk → Out) (nest : Nat) (v : List (Nd × Nat)) (r : List Tk) : partF rec nest A ≠ .ok (v, r) := by
  intro h
  unfold partF at h
  rw [if_neg (by omega), if_neg (by rw [end_is hA]; simp), if_pos (by omega)] at h
  cases h
theorem row_no {A : List Tk} (hA : (hdT A).kind = 0) (f k nest : Nat) (v : List (Nd × Nat)) (r : List Tk) : rowF f k nest A ≠ .ok (v, r) := by
  intro h
  have h1 := (row_fr f k nest A v r h).1
  rcases end_row hA f k nest with h2 | h2 | ⟨u, h2⟩
  · rw [h2] at h; cases h
  · rw [h2] at h; cases h
  · rw [h2] at h
    cases h
    exact absurd h1.2 (Nat.lt_irrefl _)
section
variable {A B : List Tk}
theorem sk_name (hA : (hdT A).kind = 0) (hB : StopB B) {rec : Nat → List Tk → Out} (hr : ∀ nest, SkP A B (rec nest)) (nest of at' : Nat) : SkP A B (nameF rec nest of at') := skp_of (fun t p => by
  unfold nameF
  refine sk_ite (fun _ => sk_opn ?_) (fun _ => sk_ite (fun _ => sk_er _ _) (fun _ => sk_ite (fun _ => ?_) (fun _ => sk_ite (fun _ => ?_) (fun _ => sk_ok _ (t :: p)))))
  · exact sk_then (hr _ p) (fun _ p _ _ => sk_then (sk_size hA p) (fun _ p _ _ => sk_ok _ p))
  · exact sk_then (sk_num hA p) (fun _ p _ _ => sk_ok _ p)
  · exact sk_sided hA _ _ (t :: p)) (by
    have b1 := hB.1 [91] (by simp)
    have b2 := hB.1 wProto (by simp)
    have b3 := hB.1 wSrc (by simp)
    have b4 := hB.1 wDst (by simp)
    have b5 := hB.1 wPort (by simp)
    have b6 := hB.1 wPortrange (by simp)
    unfold nameF
    rw [b1, b2, b3, b4, b5, b6, end_is hA, end_is hA, end_is hA, end_is hA, end_is hA, end_is hA]
    refine sk_ite (fun h => absurd h.1 (by simp)) (fun _ => sk_ite (fun _ => sk_er _ _) (fun _ => sk_ite (fun h => absurd h.2 (by simp)) (fun _ => sk_ite (fun h => absurd h.2 (by simp)) (fun _ => sk_ok _ []))))) 
theorem sk_part (hA : (hdT A).kind = 0) (hB : StopB B) {rec : Nat → List Tk → Out} (hr : ∀ nest, SkP A B (rec nest)) (nest : Nat) : SkP A B (partF rec nest) := skp_of (fun t p => by
  unfold partF
  simp only [must_u]
  refine sk_ite (fun _ => sk_ok _ p) (fun _ => sk_ite (fun _ => sk_opn ?_) (fun _ => sk_ite (fun _ => sk_er _ _) (fun _ => sk_ite (fun _ => ?_) (fun _ => ?_))))
  · exact sk_then (hr _ p) (fun _ p _ _ => sk_then (sk_must hA _ p) (fun _ p _ _ => sk_ok _ p))
  · exact sk_name hA hB hr _ _ _ p
  · exact sk_word hA t p) (sk_end (fun v r => part_no hA _ _ v r))
theorem sk_loop (hA : (hdT A).kind = 0) (hB : StopB B) (hne : A ≠ []) {rec : List Tk → Out} (hf : ∀ ts ns r, rec ts = .ok (ns, r) → Fr ts r ∧ ns ≠ []) (hr : SkP A B rec) (k : Nat) :
    ∀ (f : Nat) (ns : List (Nd × Nat)) (p : List Tk), (p ++ A).length ≤ f → (p ++ B).length ≤ f → Sk A B (loopG rec k f ns (p ++ A)) (loopG rec k f ns (p ++ B))
  | 0, ns, p, h, _ => by
    have : 0 < A.length := List.length_pos_iff.2 hne
    rw [List.length_append] at h
    omega
  | f + 1, ns, [], _, _ => by
    rw [List.nil_append, List.nil_append, end_loop hA, loop_stop hB]
    exact sk_ok _ []
  | f + 1, ns, t :: p, h1, h2 => by
    unfold loopG
    have ho : opT k (t :: p ++ B) = opT k (t :: p ++ A) := rfl
    rw [ho]
    cases opT k (t :: p ++ A) with
    | none => exact sk_ok _ (t :: p)
    | some nd =>
      refine sk_then (hr p) (fun v q hx hy => ?_)
      refine sk_ite (fun _ => sk_ok _ q) (fun _ => ?_)
      have l1 : (q ++ A).length < (p ++ A).length := (hf _ _ _ hx).1.2
      have l2 : (q ++ B).length < (p ++ B).length := (hf _ _ _ hy).1.2
      simp only [List.cons_append, List.length_cons] at h1 h2
      exact sk_loop hA hB hne hf hr k f _ q (by omega) (by omega)
/-- What is read up to an end is read up to what does not go on. -/
theorem sk_row (hA : (hdT A).kind = 0) (hB : StopB B) (hne : A ≠ []) : ∀ (f k nest : Nat), SkP A B (rowF f k nest)
  | 0, k, nest => fun _ => sk_er _ _
  | f + 1, k, nest => skp_of (fun t p => by
    have ih := sk_row hA hB hne f
    rw [row_succ, row_succ]
    unfold stepR
    refine sk_ite (fun _ => sk_opn ?_) (fun _ => sk_ite (fun _ => sk_opn ?_) (fun _ => sk_ite (fun _ => ih _ _ (t :: p)) (fun _ => sk_ite (fun _ => ?_) (fun _ => ?_))))
    · exact sk_then (ih _ _ p) (fun _ p _ _ => sk_ok _ p)
    · exact sk_then (ih _ _ p) (fun _ p _ _ => sk_ok _ p)
    · exact sk_part hA hB (fun nest => ih 1 nest) nest (t :: p)
    · refine sk_then (ih _ _ (t :: p)) (fun v q _ _ => ?_)
      have hf := fun ts ns r h => row_fr f (k + 1) nest ts ns r h
      show Sk A B (loopG _ k (q ++ A).length v (q ++ A)) (loopG _ k (q ++ B).length v (q ++ B))
      rw [loop_same hf k (q ++ A).length ((q ++ A).length + (q ++ B).length) v (q ++ A) (by omega) (by omega), loop_same hf k (q ++ B).length ((q ++ A).length + (q ++ B).length) v (q ++ B) (by omega) (by omega)]
      exact sk_loop hA hB hne hf (ih (k + 1) nest) k _ _ _ (by omega) (by omega)) (sk_end (fun v r => row_no hA _ _ _ v r))
end

end Go.Proofs.YtbdmpjnlgdahmaaGreatDoor
