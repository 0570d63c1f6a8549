/-
  Where tokens lie; sources in brackets. No Go text here. Tokens laid in a row with blanks ahead of each: no Go text here. Words in the place of signs, signs in the place of words. No Go text here. What is read of an argument that is a list of bytes; how much the second form counts.
-/
import Derived.Test.YtbdmpjnlgdahmaaGreatDoorLotP48
import Derived.Test.YtbdmpjnlgdahmaaGreatDoorLotP25
import Derived.Test.YtbdmpjnlgdahmaaGreatDoorLotP19
import Derived.Test.YtbdmpjnlgdahmaaGreatDoorLotP2
import Derived.Test.YtbdmpjnlgdahmaaGreatDoorRows
import Derived.ProofKit
import Derived.OpenShut
import Derived.ShutString
import Derived.ChangeOld
import Derived.SizedLaws
import Derived.JoinedCond
namespace Go.Proofs.YtbdmpjnlgdahmaaGreatDoor
open Go.RowKit
set_option maxRecDepth 100000

/-- A token that is not the end lies ahead of the end. -/
theorem lexR_lt : ∀ (k p : Nat) (s : List UInt8) (ts : List Tk), s.length ≤ k → lexR p s = .ok ts → ∀ t ∈ ts, t.kind ≠ 0 → t.pos < p + s.length
  | k, p, [], ts, _, h, t, ht, hk => by
    rw [lexR_nil] at h
    cases h
    simp only [List.mem_singleton] at ht
    subst ht
    exact absurd rfl hk
  | 0, p, c :: r, ts, hk, h, t, ht, _ => by simp at hk
  | k + 1, p, c :: r, ts, hk, h, t, ht, h0 => by
    simp only [List.length_cons] at hk
    cases hb : blankB c with
    | true =>
      rw [lexR_blank p r hb] at h
      have := lexR_lt k (p + 1) r ts (by omega) h t ht h0
      simp only [List.length_cons]
      omega
    | false =>
      cases hx : tokV (c :: r) with
      | error e => rw [lexR_err p hb hx] at h; cases h
      | ok x =>
        obtain ⟨q, u, n⟩ := x
        rw [lexR_tok p hb hx] at h
        have hl := List.length_pos_iff.2 (tok_ok hx).1
        have hle := (tok_ok hx).2.2.1
        split at h
        · cases h
        · rename_i ts' h'
          cases h
          rcases List.mem_cons.1 ht with rfl | ht
          · simp only [List.length_cons]; omega
          · have := lexR_lt k (p + u.length) ((c :: r).drop u.length) ts' (by rw [List.length_drop, List.length_cons]; omega) h' t ht h0
            rw [List.length_drop] at this
            omega
theorem tok_lt {s : List UInt8} {ts : List Tk} (h : lexV s = .ok ts) : ∀ t ∈ ts, (t.kind = 0 → t.pos = s.length) ∧ (t.kind ≠ 0 → t.pos < s.length) := by
  obtain ⟨hl, us, e, -, hu⟩ := lexV_toks h
  have e1 : lexV s = lexR 0 s := by rw [lexV, if_neg (by omega)]
  refine fun t ht => ⟨fun h0 => ?_, fun h0 => ?_⟩
  · rw [e] at ht
    rcases List.mem_append.1 ht with h1 | h1
    · have := (tok_ok (hu t h1).2.1).2.2.2.1
      omega
    · simp only [List.mem_singleton] at h1
      subst h1
      rfl
  · have := lexR_lt _ 0 s ts (Nat.le_refl _) (by rw [← e1]; exact h) t ht h0
    omega
theorem er_of {s : List UInt8} {ts : List Tk} {p : Nat} {e : Int} (h : lexV s = .ok ts) (hp : parseV s = .error (p, e)) :
    (∃ t ∈ ts, t.pos = p) ∧ ((e = 110 ∧ p = s.length) ∨ (p ≠ s.length ∧ (e = 111 ∨ e = 112 ∨ e = 113))) := by
  obtain ⟨t, h1, h2, h3⟩ := parse_er h hp
  obtain ⟨h4, h5⟩ := tok_lt h t h1
  refine ⟨⟨t, h1, h2⟩, ?_⟩
  rcases h3 with ⟨h3, h6⟩ | ⟨h3, h6⟩
  · exact .inl ⟨h3, by rw [← h4 h6]; exact h2.symm⟩
  · have := h5 h3
    exact .inr ⟨by simp only at h2; omega, h6⟩
theorem ok_of {s : List UInt8} {ts : List Tk} {ns : List (Nd × Nat)} (h : lexV s = .ok ts) (hp : parseV s = .ok ns) : treeF 0 (ns.map Prod.fst) = some 1 ∧ ∀ q ∈ ns, (∃ t ∈ ts, t.pos = q.2) ∧ q.2 < s.length := by
  unfold parseV at hp
  rw [h, thenE_ok] at hp
  obtain ⟨h1, h2⟩ := parse_tree hp
  refine ⟨h1 0, fun q hq => ?_⟩
  obtain ⟨t, h3, h4, h5⟩ := h2 q hq
  exact ⟨⟨t, h3, h5⟩, by rw [← h5]; exact (tok_lt h t h3).2 h4⟩


/-- A source in some brackets. -/
def wrapS : Nat → List UInt8 → List UInt8
  | 0, s => s
  | n + 1, s => 40 :: (wrapS n s ++ [41])
theorem wrapS_len (n : Nat) (s : List UInt8) : (wrapS n s).length = s.length + 2 * n := by
  induction n with
  | zero => rfl
  | succ n ih => simp only [wrapS, List.length_cons, List.length_append, ih, List.length_nil]; omega
theorem lex_wrapS (s : List UInt8) (pre : List Tk) : ∀ (n p : Nat) (e : Tk), lexR (p + n) s = .ok (pre ++ [e]) → ∃ ls rs, ls.length = n ∧ rs.length = n ∧ (∀ t ∈ ls, lpB t) ∧ (∀ t ∈ rs, rpB t) ∧ (∀ i (hi : i < ls.length), ls[i].pos = p + i) ∧
    ∃ e', e'.kind = 0 ∧ lexR p (wrapS n s) = .ok (ls ++ (pre ++ (rs ++ [e'])))
  | 0, p, e, h => by
    refine ⟨[], [], rfl, rfl, (fun _ h => by cases h), (fun _ h => by cases h), (fun i hi => by simp at hi), e, ?_, by simpa [wrapS] using h⟩
    obtain ⟨vs, e1, -⟩ := lexR_end _ _ _ _ (Nat.le_refl _) h
    have := congrArg List.getLast? e1
    simp only [List.getLast?_concat, Option.some.injEq] at this
    rw [this]
  | n + 1, p, e, h => by
    obtain ⟨ls, rs, h1, h2, h3, h4, h5, e', h6, h7⟩ := lex_wrapS s pre n (p + 1) e (by rw [show p + 1 + n = p + (n + 1) by omega]; exact h)
    have hm : lexR (p + 1 + (wrapS n s).length + 1) [] = .ok [⟨0, p + 1 + (wrapS n s).length + 1, [], 0⟩] := lexR_nil _
    have hw := lexR_wrap h7 [] hm
    refine ⟨⟨5, p, [40], 0⟩ :: ls, rs ++ [⟨5, p + 1 + (wrapS n s).length, [41], 0⟩], by simp [h1], by simp [h2], fun t ht => ?_, fun t ht => ?_, fun i hi => ?_, ⟨0, p + 1 + (wrapS n s).length + 1, [], 0⟩, rfl, ?_⟩
    · rcases List.mem_cons.1 ht with rfl | ht
      · exact ⟨rfl, rfl⟩
      · exact h3 t ht
    · rcases List.mem_append.1 ht with ht | ht
      · exact h4 t ht
      · simp only [List.mem_singleton] at ht
        subst ht
        exact ⟨rfl, rfl⟩
    · cases i with
      | zero => rfl
      | succ i =>
        have := h5 i (by simpa using hi)
        simp only [List.getElem_cons_succ]
        omega
    · have hd : (ls ++ (pre ++ (rs ++ [e']))).dropLast = ls ++ (pre ++ rs) := by rw [← List.append_assoc, ← List.append_assoc, List.dropLast_concat, List.append_assoc]
      rw [hd] at hw
      simpa [wrapS] using hw

/-- What is left behind a whole source. -/
theorem whole_row {pre : List Tk} {e : Tk} {ns : List (Nd × Nat)} (hp : ∀ t ∈ pre, t.kind ≠ 0) (he : e.kind = 0) (h : parseT (pre ++ [e]) = .ok ns) : rowF (needF 1 (pre ++ [e])) 1 0 (pre ++ [e]) = .ok (ns, [e]) := by
  have hE : EndsOk (pre ++ [e]) := ⟨pre, e, rfl, he, hp⟩
  have hg := gd_row (needF 1 (pre ++ [e])) 1 0 (pre ++ [e]) hE
  unfold parseT at h
  obtain ⟨⟨v, r⟩, h1, h2⟩ := thenE_inv h
  obtain ⟨h3, h4⟩ := hg.1 v r h1
  simp only at h2
  split at h2
  · rename_i hk
    cases h2
    obtain ⟨us, e2, rfl, he2, hu⟩ := h3
    cases us with
    | nil =>
      obtain ⟨q, hq⟩ := h4
      have := congrArg List.getLast? hq
      simp only [List.nil_append, List.getLast?_concat, Option.some.injEq] at this
      rw [h1, this]
      rfl
    | cons a us => exact absurd hk (hu a (by simp))
  · cases h2
theorem al_map {n : Nat} : ∀ {ns ns' : List (Nd × Nat)}, NdL (fun a b => b = a + n) ns ns' → ns' = ns.map fun q => (q.1, q.2 + n)
  | [], [], _ => rfl
  | a :: ns, b :: ns', h => by
    obtain ⟨⟨h1, h2⟩, h3⟩ := h
    rw [al_map h3, List.map_cons]
    congr 1
    rw [h1, ← h2]
  | [], _ :: _, h => h.elim
  | _ :: _, [], h => h.elim
theorem al_shift (n : Nat) : ∀ (ts : List Tk), (∀ t ∈ ts, t.kind ≤ 5) → TkL (fun a b => b = a + n) ts (ts.map fun t => { t with pos := t.pos + n })
  | [], _ => trivial
  | t :: ts, h => ⟨⟨⟨rfl, rfl, h t (by simp), h t (by simp)⟩, rfl⟩, al_shift n ts (fun x hx => h x (by simp [hx]))⟩

/-- In brackets. -/
theorem wrap_parse (n : Nat) {s : List UInt8} {ns : List (Nd × Nat)} (hl : s.length + 2 * n ≤ 65536) (hp : parseV s = .ok ns) :
    parseV (wrapS n s) = .ok (ns.map fun q => (q.1, q.2 + n)) ∨ ∃ p, parseV (wrapS n s) = .error (p, 113) := by
  have hp0 := hp
  unfold parseV at hp
  obtain ⟨ts, h, hp⟩ := thenE_inv hp
  obtain ⟨-, us, e, -, hu⟩ := lexV_toks h
  have e1 : lexV s = lexR 0 s := by rw [lexV, if_neg (by omega)]
  have hk : ∀ x ∈ us, x.kind ≠ 0 := fun x hx => by
    have := (tok_ok (hu x hx).2.1).2.2.2.1
    omega
  have h5 : ∀ t ∈ ts, t.kind ≤ 5 := fun t ht => by
    rw [e] at ht
    rcases List.mem_append.1 ht with ht | ht
    · exact (hu t ht).2.2.2.2.1
    · simp only [List.mem_singleton] at ht
      subst ht
      exact Nat.zero_le _
  obtain ⟨ns', hp', hn⟩ := pk_parse (al_shift n ts h5) hp
  have hn' := al_map hn
  have hs : lexR (0 + n) s = .ok (ts.map fun t => { t with pos := t.pos + n }) := by rw [lexR_shift _ 0 n s (Nat.le_refl _), ← e1, h]
  rw [e, List.map_append] at hs hp'
  have hvk : ∀ t ∈ us.map (fun t => ({ t with pos := t.pos + n } : Tk)), t.kind ≠ 0 := fun t ht => by
    obtain ⟨x, hx, rfl⟩ := List.mem_map.1 ht
    exact hk x hx
  generalize (us.map fun t => ({ t with pos := t.pos + n } : Tk)) = vs at *
  have hs' : lexR (0 + n) s = .ok (vs ++ [⟨0, s.length + n, [], 0⟩]) := hs
  have hp2 : parseT (vs ++ [⟨0, s.length + n, [], 0⟩]) = .ok ns' := hp'
  obtain ⟨ls, rs, h1, h2, h3, h4, -, e', h6, h7⟩ := lex_wrapS s _ n 0 _ hs'
  have hr := whole_row hvk rfl hp2
  have e2 : parseV (wrapS n s) = parseT (ls ++ (vs ++ (rs ++ [e']))) := by
    rw [parseV, lexV, if_neg (by rw [wrapS_len]; omega), h7, thenE_ok]
  rw [e2]
  obtain ⟨F, hF⟩ : ∃ F, needF 1 (vs ++ [(⟨0, s.length + n, [], 0⟩ : Tk)]) + needF 1 (ls ++ (vs ++ (rs ++ [e']))) = F := ⟨_, rfl⟩
  have hr2 := row_more (g := F) (by omega) (show rowF (needF 1 (vs ++ [(⟨0, s.length + n, [], 0⟩ : Tk)])) 1 0 (vs ++ [⟨0, s.length + n, [], 0⟩]) ≠ .error exP by rw [hr]; intro h; cases h)
  rw [hr] at hr2
  rw [parse_fuel (f := F + 12 * n) (by omega)]
  rcases deep_row rfl hr2 n ls rs h1 h2 h3 h4 0 [e'] (by decide) (stop_end h6 []) with h8 | ⟨p, h8⟩
  · left
    rw [h8, thenE_ok, ← hn']
    show (if e'.kind = 0 then _ else _) = _
    rw [if_pos h6]
  · right
    exact ⟨p, by rw [h8]; rfl⟩
theorem wrap_zero {s : List UInt8} : wrapS 0 s = s := rfl
/-- One too many. -/
theorem wrap_deepV {s : List UInt8} {ns : List (Nd × Nat)} (hl : s.length ≤ 60000) (hp : parseV s = .ok ns) : parseV (wrapS 201 s) = .error (200, 113) := by
  unfold parseV at hp
  obtain ⟨ts, h, -⟩ := thenE_inv hp
  obtain ⟨-, us, e, -, -⟩ := lexV_toks h
  have e1 : lexV s = lexR 0 s := by rw [lexV, if_neg (by omega)]
  have hs : lexR (0 + 201) s = .ok (ts.map fun t => { t with pos := t.pos + 201 }) := by rw [lexR_shift _ 0 201 s (Nat.le_refl _), ← e1, h]
  rw [e, List.map_append] at hs
  obtain ⟨ls, rs, h1, h2, h3, h4, h5, e', h6, h7⟩ := lex_wrapS s _ 201 0 _ hs
  generalize (us.map fun t => ({ t with pos := t.pos + 201 } : Tk)) = vs at *
  have e2 : parseV (wrapS 201 s) = parseT (ls ++ (vs ++ (rs ++ [e']))) := by
    rw [parseV, lexV, if_neg (by rw [wrapS_len]; omega), h7, thenE_ok]
  rw [e2, parse_fuel (f := needF 1 (ls ++ (vs ++ (rs ++ [e']))) + 12 * (200 + 1)) (by omega), too_deep 200 ls _ 0 rfl (by omega) h3, thenE_er, h5 200 (by omega)]

end Go.Proofs.YtbdmpjnlgdahmaaGreatDoor

namespace Go.Proofs.YtbdmpjnlgdahmaaGreatDoor
open Go.RowKit
set_option maxRecDepth 100000

def layT (l : List (List UInt8 × Tk)) : List UInt8 := l.flatMap fun x => x.1 ++ x.2.text
def layP : Nat → List (List UInt8 × Tk) → List Tk
  | _, [] => []
  | p, x :: r => ⟨x.2.kind, p + x.1.length, x.2.text, x.2.num⟩ :: layP (p + x.1.length + x.2.text.length) r
theorem layP_app (l : List (List UInt8 × Tk)) (x : List UInt8 × Tk) : ∀ p, layP p (l ++ [x]) = layP p l ++ [⟨x.2.kind, p + (layT l).length + x.1.length, x.2.text, x.2.num⟩] := by
  induction l with
  | nil => intro p; simp [layP, layT]
  | cons y l ih =>
    intro p
    simp only [List.cons_append, layP]
    rw [ih]
    simp only [layT, List.flatMap_cons, List.length_append, List.cons.injEq, true_and]
    congr 3
    omega
theorem layT_app (l : List (List UInt8 × Tk)) (x : List UInt8 × Tk) : layT (l ++ [x]) = layT l ++ x.1 ++ x.2.text := by simp [layT]

def LayOk (x : List UInt8 × Tk) : Prop := x.1 ≠ [] ∧ (∀ b ∈ x.1, blankB b = true) ∧ tokV x.2.text = .ok (x.2.kind, x.2.text, x.2.num)
theorem lay_ends {l : List (List UInt8 × Tk)} {be : List UInt8} (h : ∀ x ∈ l, LayOk x) (hb : ∀ b ∈ be, blankB b = true) : endsB (layT l ++ be) := by
  cases l with
  | nil =>
    cases be with
    | nil => exact .inl rfl
    | cons b be => exact .inr ⟨b, be, rfl, hb b (by simp)⟩
  | cons x l =>
    obtain ⟨h1, h2, -⟩ := h x (by simp)
    cases hx : x.1 with
    | nil => exact absurd hx h1
    | cons b r =>
      rw [hx] at h2
      exact .inr ⟨b, r ++ x.2.text ++ layT l ++ be, by simp [layT, hx], h2 b (by simp)⟩
theorem lay_lex {be : List UInt8} (hb : ∀ b ∈ be, blankB b = true) : ∀ (l : List (List UInt8 × Tk)) (p : Nat), (∀ x ∈ l, LayOk x) →
    lexR p (layT l ++ be) = .ok (layP p l ++ [⟨0, p + (layT l).length + be.length, [], 0⟩]) := by
  intro l
  induction l with
  | nil =>
    intro p _
    show lexR p be = _
    rw [show be = be ++ [] by simp, lexR_skip p be [] hb, lexR_nil]
    simp [layP, layT]
  | cons x l ih =>
    intro p h
    obtain ⟨h1, h2, h3⟩ := h x (by simp)
    have hl : ∀ y ∈ l, LayOk y := fun y hy => h y (by simp [hy])
    have e : layT (x :: l) ++ be = x.1 ++ (x.2.text ++ (layT l ++ be)) := by simp [layT]
    have ht := tok_ok h3
    have he := tok_end ht.1 (lay_ends hl hb)
    rw [h3] at he
    rw [e, lexR_skip _ _ _ h2]
    have ih' := ih (p + x.1.length + x.2.text.length) hl
    generalize hR : layT l ++ be = R at *
    cases hx : x.2.text with
    | nil => exact absurd hx ht.1
    | cons c r =>
      have hc : blankB c = false := by
        rw [hx] at h3
        exact tok_head h3
      rw [hx] at he
      rw [List.cons_append] at he ⊢
      rw [lexR_tok _ hc he]
      have e1 : (c :: (r ++ R)).drop (c :: r).length = R := by rw [← List.cons_append, List.drop_left]
      rw [e1, ← hx, ih']
      simp [layP, layT]
      omega

end Go.Proofs.YtbdmpjnlgdahmaaGreatDoor

namespace Go.Proofs.YtbdmpjnlgdahmaaGreatDoor
open Go.RowKit
set_option maxRecDepth 100000

/-- The other way to say it. -/
def swp (x : List UInt8) : List UInt8 :=
  if x = [97, 110, 100] then [38, 38] else if x = [38, 38] then [97, 110, 100] else if x = [111, 114] then [124, 124] else if x = [124, 124] then [111, 114]
  else if x = [110, 111, 116] then [33] else if x = [33] then [110, 111, 116] else if x = [61] then [61, 61] else if x = [61, 61] then [61] else x
/-- A token so turned. -/
def sw (t : Tk) : Tk := match tokV (swp t.text) with
  | .ok x => ⟨x.1, t.pos, swp t.text, x.2.2⟩
  | .error _ => t
def SwOk (t : Tk) : Prop := (sw t).text = swp t.text ∧ tokV (sw t).text = .ok ((sw t).kind, (sw t).text, (sw t).num) ∧ ClE t (sw t) ∧ (sw t).text.length ≤ t.text.length + 2
theorem sw_lit {t : Tk} (x y : List UInt8) (k k' : Nat) (hx : t.text = x) (hy : swp x = y) (h1 : tokV x = .ok (k, x, 0)) (h2 : tokV y = .ok (k', y, 0)) (h : tokV t.text = .ok (t.kind, t.text, t.num))
    (hc : cls ⟨k, 0, x, 0⟩ = cls ⟨k', 0, y, 0⟩) (h5 : k ≤ 5) (h6 : k' ≤ 5) (hl : y.length ≤ x.length + 2) : SwOk t := by
  obtain ⟨tk, tp, tt, tn⟩ := t
  simp only at hx h
  subst hx
  rw [h1] at h
  simp only [Except.ok.injEq, Prod.mk.injEq] at h
  obtain ⟨rfl, -, rfl⟩ := h
  have e : sw ⟨k, tp, tt, 0⟩ = ⟨k', tp, y, 0⟩ := by unfold sw; simp only; rw [hy, h2]
  refine ⟨by rw [e]; exact hy.symm, by rw [e]; exact h2, ?_, by rw [e]; exact hl⟩
  rw [e]
  exact ⟨hc, rfl, h5, h6⟩
theorem sw_ok {t : Tk} (h : tokV t.text = .ok (t.kind, t.text, t.num)) (h5 : t.kind ≤ 5) : SwOk t := by
  by_cases a1 : t.text = [97, 110, 100]
  · exact sw_lit _ [38, 38] 2 5 a1 rfl (by kernel_rfl) (by kernel_rfl) h rfl (by decide) (by decide) (by decide)
  by_cases a2 : t.text = [38, 38]
  · exact sw_lit _ [97, 110, 100] 5 2 a2 rfl (by kernel_rfl) (by kernel_rfl) h rfl (by decide) (by decide) (by decide)
  by_cases a3 : t.text = [111, 114]
  · exact sw_lit _ [124, 124] 2 5 a3 rfl (by kernel_rfl) (by kernel_rfl) h rfl (by decide) (by decide) (by decide)
  by_cases a4 : t.text = [124, 124]
  · exact sw_lit _ [111, 114] 5 2 a4 rfl (by kernel_rfl) (by kernel_rfl) h rfl (by decide) (by decide) (by decide)
  by_cases a5 : t.text = [110, 111, 116]
  · exact sw_lit _ [33] 2 5 a5 rfl (by kernel_rfl) (by kernel_rfl) h rfl (by decide) (by decide) (by decide)
  by_cases a6 : t.text = [33]
  · exact sw_lit _ [110, 111, 116] 5 2 a6 rfl (by kernel_rfl) (by kernel_rfl) h rfl (by decide) (by decide) (by decide)
  by_cases a7 : t.text = [61]
  · exact sw_lit _ [61, 61] 5 5 a7 rfl (by kernel_rfl) (by kernel_rfl) h rfl (by decide) (by decide) (by decide)
  by_cases a8 : t.text = [61, 61]
  · exact sw_lit _ [61] 5 5 a8 rfl (by kernel_rfl) (by kernel_rfl) h rfl (by decide) (by decide) (by decide)
  have e : swp t.text = t.text := by unfold swp; rw [if_neg a1, if_neg a2, if_neg a3, if_neg a4, if_neg a5, if_neg a6, if_neg a7, if_neg a8]
  have e2 : sw t = t := by unfold sw; rw [e, h]
  refine ⟨by rw [e2, e], by rw [e2]; exact h, ?_, by rw [e2]; omega⟩
  rw [e2]
  exact ⟨rfl, rfl, h5, h5⟩

/-- The tokens' texts lie in the source, apart. -/
theorem text_sum : ∀ (k p : Nat) (s : List UInt8) (ts : List Tk), s.length ≤ k → lexR p s = .ok ts → (ts.map fun t => t.text.length).sum ≤ s.length
  | k, p, [], ts, _, h => by
    rw [lexR_nil] at h
    cases h
    exact Nat.le_refl _
  | 0, p, c :: r, ts, hk, h => by simp at hk
  | k + 1, p, c :: r, ts, hk, h => by
    simp only [List.length_cons] at hk
    cases hb : blankB c with
    | true =>
      rw [lexR_blank p r hb] at h
      have := text_sum k (p + 1) r ts (by omega) h
      simp only [List.length_cons]
      omega
    | false =>
      cases hx : tokV (c :: r) with
      | error e => rw [lexR_err p hb hx] at h; cases h
      | ok x =>
        obtain ⟨q, u, n⟩ := x
        rw [lexR_tok p hb hx] at h
        have hl := List.length_pos_iff.2 (tok_ok hx).1
        have hle := (tok_ok hx).2.2.1
        split at h
        · cases h
        · rename_i ts' h'
          cases h
          have := text_sum k (p + u.length) ((c :: r).drop u.length) ts' (by rw [List.length_drop, List.length_cons]; omega) h'
          rw [List.length_drop] at this
          simp only [List.map_cons, List.sum_cons]
          omega
/-- A source written anew. -/
def wordS (ts : List Tk) : List UInt8 := ts.flatMap fun t => 32 :: swp t.text
theorem wordS_take (ts : List Tk) (i : Nat) : (wordS (ts.take i)).length ≤ (wordS ts).length := by
  have h : wordS ts = wordS (ts.take i) ++ wordS (ts.drop i) := by
    unfold wordS
    rw [← List.flatMap_append, List.take_append_drop]
  rw [h, List.length_append]
  omega
theorem wordS_succ {ts : List Tk} {i : Nat} (hi : i < ts.length) : wordS (ts.take (i + 1)) = wordS (ts.take i) ++ [32] ++ swp ts[i].text := by
  unfold wordS
  rw [List.take_succ_eq_append_getElem hi, List.flatMap_append]
  simp
theorem al_words : ∀ (us : List Tk) (p : Nat), (∀ t ∈ us, SwOk t) → TkL (fun _ _ => True) us (layP p (us.map fun t => ([32], sw t)))
  | [], _, _ => trivial
  | t :: us, p, h => ⟨⟨(h t (by simp)).2.2.1, trivial⟩, al_words us _ (fun x hx => h x (by simp [hx]))⟩
theorem words_lay : ∀ (us : List Tk), (∀ t ∈ us, SwOk t) → layT (us.map fun t => ([32], sw t)) = wordS us
  | [], _ => rfl
  | t :: us, h => by
    have ih := words_lay us (fun x hx => h x (by simp [hx]))
    unfold layT wordS at *
    rw [List.map_cons, List.flatMap_cons, List.flatMap_cons, ih, (h t (by simp)).1]
    rfl
theorem words_len : ∀ (us : List Tk), (∀ t ∈ us, SwOk t ∧ t.text ≠ []) → (wordS us).length ≤ 4 * (us.map fun t => t.text.length).sum
  | [], _ => Nat.le_refl _
  | t :: us, h => by
    have ih := words_len us (fun x hx => h x (by simp [hx]))
    obtain ⟨⟨h1, -, -, h2⟩, h3⟩ := h t (by simp)
    have := List.length_pos_iff.2 h3
    unfold wordS at *
    rw [List.flatMap_cons, List.length_append, List.map_cons, List.sum_cons, List.length_cons, ← h1]
    omega
theorem al_fst : ∀ {ns ns' : List (Nd × Nat)}, NdL (fun _ _ => True) ns ns' → ns'.map Prod.fst = ns.map Prod.fst
  | [], [], _ => rfl
  | a :: ns, b :: ns', h => by
    obtain ⟨⟨h1, -⟩, h3⟩ := h
    rw [List.map_cons, List.map_cons, al_fst h3, h1]
  | [], _ :: _, h => h.elim
  | _ :: _, [], h => h.elim

/-- It is the same tree. -/
theorem words_parse {s : List UInt8} {ts : List Tk} {ns : List (Nd × Nat)} (hl : s.length ≤ 5000) (h : lexV s = .ok ts) (hp : parseV s = .ok ns) :
    (wordS ts).length ≤ 20001 ∧ ∃ ns', parseV (wordS ts) = .ok ns' ∧ ns'.map Prod.fst = ns.map Prod.fst := by
  unfold parseV at hp
  rw [h, thenE_ok] at hp
  obtain ⟨-, us, e, -, hu⟩ := lexV_toks h
  have e1 : lexV s = lexR 0 s := by rw [lexV, if_neg (by omega)]
  have hsum := text_sum _ 0 s ts (Nat.le_refl _) (by rw [← e1]; exact h)
  have hok : ∀ t ∈ us, SwOk t ∧ t.text ≠ [] := fun t ht => ⟨sw_ok (hu t ht).2.1 (hu t ht).2.2.2.2.1, (hu t ht).1⟩
  have hok1 : ∀ t ∈ us, SwOk t := fun t ht => (hok t ht).1
  have hlen := words_len us hok
  have hw : wordS ts = wordS us ++ [32] := by rw [e]; unfold wordS; rw [List.flatMap_append]; rfl
  have hs2 : (us.map fun t => t.text.length).sum ≤ s.length := by
    rw [e, List.map_append, List.sum_append] at hsum
    omega
  have hll : (wordS ts).length ≤ 20001 := by rw [hw, List.length_append, List.length_singleton]; omega
  refine ⟨hll, ?_⟩
  have hlay : ∀ x ∈ us.map (fun t => (([32], sw t) : List UInt8 × Tk)), LayOk x := fun x hx => by
    obtain ⟨t, ht, rfl⟩ := List.mem_map.1 hx
    exact ⟨by simp, by simp [blankB], (hok1 t ht).2.1⟩
  have hlx := lay_lex (be := [32]) (by simp [blankB]) _ 0 hlay
  rw [words_lay us hok1, ← hw] at hlx
  have hT : TkL (fun _ _ => True) ts (layP 0 (us.map fun t => ([32], sw t)) ++ [⟨0, 0 + (wordS us).length + 1, [], 0⟩]) := by
    rw [e]
    exact Al.app (al_words us 0 hok1) ⟨⟨⟨rfl, rfl, Nat.zero_le _, Nat.zero_le _⟩, trivial⟩, trivial⟩
  obtain ⟨ns', hp', hn⟩ := pk_parse hT hp
  refine ⟨ns', ?_, al_fst hn⟩
  rw [parseV, lexV, if_neg (by omega), hlx, thenE_ok]
  exact hp'

end Go.Proofs.YtbdmpjnlgdahmaaGreatDoor

namespace Go.Proofs.YtbdmpjnlgdahmaaGreatDoor
open Go.ChangeShapes Go.WideShapes Go.ChangeAt Go.RowKit
set_option maxRecDepth 100000

theorem own : ownKnob Tryz.prog.godebug = none := by kernel_rfl
theorem laidOut : laidOutB Tryz.prog = true := by kernel_rfl
theorem bytes5 : Tryz.prog.bytesOf 5 = 1 := by kernel_rfl

theorem open_bytes {H : Type} {enc : TypeId × Value → H} {P : Program} {W : World} {t e : TypeId} {d : DataW H} {ps : List MemPlace} {a : Option Addr} {len cap : Nat}
    (ht : P.underlying t = some (.slice e)) (he : P.underlying e = some (.int .u8)) (hc : P.cellsOf e = 1)
    (h : DataW.Trod enc P W 0 (fun _ => true) true t (.slice a len cap) d ps) :
    ∃ xs : List UInt8, len = xs.length ∧ Cells W a xs ∧ (a = none → cap = 0) ∧ ((d = .nil ∧ xs = []) ∨ ∃ elems spare, d = .slice elems spare ∧ xs.length ≤ elems.length + spare.length) := by
  obtain ⟨fuel, hf⟩ := h
  rcases open_ints ht he hc hf with ⟨hcs, hx⟩ | ⟨x, l, c, zs, hcs, _, hl, hm, hz, hx, hcell, hwz⟩
  · simp [Value.cells] at hcs
    obtain ⟨rfl, rfl, rfl⟩ := hcs
    simp only [Prod.mk.injEq] at hx
    exact ⟨[], rfl, ⟨fun _ => rfl, fun ad had => (by cases had)⟩, fun _ => rfl, .inl ⟨hx.1, rfl⟩⟩
  · simp [Value.cells] at hcs
    obtain ⟨rfl, rfl, rfl⟩ := hcs
    simp only [Prod.mk.injEq] at hx
    have hz' : zs.length = cap := by simpa using hz
    have hlen : ((zs.take len).map fun z => UInt8.ofNat z.toNat).length = len := by simp; omega
    refine ⟨(zs.take len).map fun z => UInt8.ofNat z.toNat, hlen.symm, ⟨fun h => (by cases h), fun ad had i hi => ?_⟩, fun h => (by cases h), .inr ⟨_, _, hx.1, ?_⟩⟩
    · obtain rfl := Option.some.inj had
      rw [hlen] at hi
      have hiz : i < zs.length := by omega
      rw [hcell i hiz]
      have hw := bounds_u8 (hwz (zs[i]) (List.getElem_mem hiz))
      simp only [List.getD_eq_getElem?_getD, List.getElem?_eq_getElem hiz, Option.getD_some, List.getElem_map, List.getElem_take, bv]
      congr 2
      simp
      omega
    · rw [hlen]
      simp [lits]
      omega

theorem bulk_one {H : Type} (d : DataW H) : 1 ≤ Rows.uptoBulk d := by
  unfold Rows.uptoBulk
  split <;> omega

theorem bulk_all {H : Type} (l : List (DataW H)) : l.length ≤ Rows.uptoBulkAll l := by
  induction l with
  | nil => exact Nat.zero_le _
  | cons x r ih =>
    have := bulk_one x
    rw [Rows.uptoBulkAll, List.length_cons]
    omega

/-- A list's places count. -/
theorem bulk_slice {H : Type} (elems spare : List (DataW H)) : elems.length + spare.length + 1 ≤ Rows.uptoBulk (.slice elems spare) := by
  have h1 := bulk_all elems
  have h2 := bulk_all spare
  rw [Rows.uptoBulk]
  omega

/-- A text's letters count. -/
theorem bulk_string {H : Type} (s : ByteArray) : Rows.uptoBulk (DataW.lit (H := H) (.string s.data.toList)) = s.size + 1 := by
  rw [Rows.uptoBulk, Array.length_toList]
  rfl

end Go.Proofs.YtbdmpjnlgdahmaaGreatDoor
