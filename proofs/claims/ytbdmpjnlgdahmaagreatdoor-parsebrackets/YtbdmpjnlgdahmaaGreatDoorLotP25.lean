/-
  Brackets around a whole source; how deep. No Go text here. What is read is a tree; its nodes lie at tokens. No Go text here. The document's own Tree, and whether a place is a token's.
-/
import Derived.Test.YtbdmpjnlgdahmaaGreatDoorLotP24
import Derived.Test.YtbdmpjnlgdahmaaGreatDoorLotP8
import Derived.Test.YtbdmpjnlgdahmaaGreatDoorLotP13
import Derived.Test.YtbdmpjnlgdahmaaGreatDoorLotP21
import Derived.BigQuiet
namespace Go.Proofs.YtbdmpjnlgdahmaaGreatDoor
open Go.RowKit
set_option maxRecDepth 100000

/-- Parse of tokens that are alike. -/
theorem pk_parse {Q : Nat → Nat → Prop} {ts ts' : List Tk} (h : TkL Q ts ts') {ns : List (Nd × Nat)} (hp : parseT ts = .ok ns) : ∃ ns', parseT ts' = .ok ns' ∧ NdL Q ns ns' := by
  unfold parseT at *
  obtain ⟨⟨v, r⟩, h1, h2⟩ := thenE_inv hp
  have hn : needF 1 ts' = needF 1 ts := by unfold needF; rw [Al.len h]
  obtain ⟨v', r', h3, h4, h5⟩ := pk_row (Q := Q) _ _ _ _ _ h v r h1
  rw [hn, h3]
  simp only at h2
  split at h2
  · rename_i hk
    cases h2
    refine ⟨v', ?_, h4⟩
    show (if (hdT r').kind = 0 then Except.ok v' else _) = _
    rw [if_pos ((kind_iff h5 (by decide)).1 hk)]
  · cases h2

theorem up_ok {f k nest : Nat} {ts r : List Tk} {ns : List (Nd × Nat)} (hk : k ≠ 3 ∧ k ≠ 11 ∧ k ≠ 12) (hs : StopB r) (h : rowF f (k + 1) nest ts = .ok (ns, r)) : rowF (f + 1) k nest ts = .ok (ns, r) := by
  rw [row_succ]
  unfold stepR
  rw [if_neg (by omega), if_neg (by omega), if_neg (by omega), if_neg hk.2.2, h]
  exact loop_stop hs _ _ _ _
theorem up_er {f k nest : Nat} {ts : List Tk} {e : Er} (hk : k ≠ 3 ∧ k ≠ 11 ∧ k ≠ 12) (h : rowF f (k + 1) nest ts = .error e) : rowF (f + 1) k nest ts = .error e := by
  rw [row_succ]
  unfold stepR
  rw [if_neg (by omega), if_neg (by omega), if_neg (by omega), if_neg hk.2.2, h]
  rfl
theorem up_not {f k nest : Nat} {ts : List Tk} (hk : k = 3 ∨ k = 11) (h1 : isB ts wNot = false) (h2 : isB ts [33] = false) (h3 : isB ts [45] = false) : rowF (f + 1) k nest ts = rowF f (k + 1) nest ts := by
  rw [row_succ]
  unfold stepR
  rw [if_neg (by rw [h1, h2]; simp), if_neg (by rw [h3]; simp), if_pos hk]
/-- From a part up to the first row. -/
theorem down_ok {f nest : Nat} {ts r : List Tk} {ns : List (Nd × Nat)} (h1 : isB ts wNot = false) (h2 : isB ts [33] = false) (h3 : isB ts [45] = false) (hs : StopB r) (h : partF (rowF f 1) nest ts = .ok (ns, r)) : rowF (f + 12) 1 nest ts = .ok (ns, r) := by
  have a12 : rowF (f + 1) 12 nest ts = .ok (ns, r) := by
    rw [row_succ]
    unfold stepR
    rw [if_neg (by omega), if_neg (by omega), if_neg (by omega), if_pos rfl]
    exact h
  have a11 : rowF (f + 2) 11 nest ts = .ok (ns, r) := by rw [up_not (.inr rfl) h1 h2 h3]; exact a12
  have a10 := up_ok (k := 10) (by decide) hs a11
  have a9 := up_ok (k := 9) (by decide) hs a10
  have a8 := up_ok (k := 8) (by decide) hs a9
  have a7 := up_ok (k := 7) (by decide) hs a8
  have a6 := up_ok (k := 6) (by decide) hs a7
  have a5 := up_ok (k := 5) (by decide) hs a6
  have a4 := up_ok (k := 4) (by decide) hs a5
  have a3 : rowF (f + 10) 3 nest ts = .ok (ns, r) := by rw [up_not (.inl rfl) h1 h2 h3]; exact a4
  have a2 := up_ok (k := 2) (by decide) hs a3
  exact up_ok (k := 1) (by decide) hs a2
theorem down_er {f nest : Nat} {ts : List Tk} {e : Er} (h1 : isB ts wNot = false) (h2 : isB ts [33] = false) (h3 : isB ts [45] = false) (h : partF (rowF f 1) nest ts = .error e) : rowF (f + 12) 1 nest ts = .error e := by
  have a12 : rowF (f + 1) 12 nest ts = .error e := by
    rw [row_succ]
    unfold stepR
    rw [if_neg (by omega), if_neg (by omega), if_neg (by omega), if_pos rfl]
    exact h
  have a11 : rowF (f + 2) 11 nest ts = .error e := by rw [up_not (.inr rfl) h1 h2 h3]; exact a12
  have a10 := up_er (k := 10) (by decide) a11
  have a9 := up_er (k := 9) (by decide) a10
  have a8 := up_er (k := 8) (by decide) a9
  have a7 := up_er (k := 7) (by decide) a8
  have a6 := up_er (k := 6) (by decide) a7
  have a5 := up_er (k := 5) (by decide) a6
  have a4 := up_er (k := 4) (by decide) a5
  have a3 : rowF (f + 10) 3 nest ts = .error e := by rw [up_not (.inl rfl) h1 h2 h3]; exact a4
  have a2 := up_er (k := 2) (by decide) a3
  exact up_er (k := 1) (by decide) a2

def lpB (t : Tk) : Prop := t.kind = 5 ∧ t.text = [40]
def rpB (t : Tk) : Prop := t.kind = 5 ∧ t.text = [41]
theorem lp_is {t : Tk} (h : lpB t) (r : List Tk) (x : List UInt8) : isB (t :: r) x = decide (x = [40]) := by
  show ((t.kind == 5 || t.kind == 2) && t.text == x) = _
  rw [h.1, h.2]
  by_cases hx : x = [40]
  · subst hx; rfl
  · rw [decide_eq_false hx]
    simp only [BEq.rfl, Bool.true_or, Bool.true_and, beq_eq_false_iff_ne, ne_eq]
    exact fun e => hx e.symm
theorem lp_part {t : Tk} (h : lpB t) (rec : Nat → List Tk → Out) (nest : Nat) (r : List Tk) : partF rec nest (t :: r) = opnV nest (t :: r) (thenE (rec (nest + 1) r) fun p => thenE (mustV [41] p.2) fun q => .ok (p.1, q)) := by
  unfold partF
  rw [if_neg (by show ¬ t.kind = 1; rw [h.1]; decide), if_pos (by rw [lp_is h]; rfl)]
  rfl
/-- One more pair. -/
theorem wrap_row {f nest : Nat} {l rp : Tk} {X rest : List Tk} {ns : List (Nd × Nat)} (hl : lpB l) (hr : rpB rp) (hs : StopB rest) (hn : nest ≠ 200) (h : rowF f 1 (nest + 1) X = .ok (ns, rp :: rest)) : rowF (f + 12) 1 nest (l :: X) = .ok (ns, rest) := by
  refine down_ok (by rw [lp_is hl]; rfl) (by rw [lp_is hl]; rfl) (by rw [lp_is hl]; rfl) hs ?_
  rw [lp_part hl]
  unfold opnV
  rw [if_neg hn, h]
  show thenE (mustV [41] (rp :: rest)) _ = _
  unfold mustV
  rw [if_pos (by show ((rp.kind == 5 || rp.kind == 2) && rp.text == [41]) = true; rw [hr.1, hr.2]; rfl)]
  rfl
theorem wrap_er {f nest : Nat} {l : Tk} {X : List Tk} {e : Er} (hl : lpB l) (hn : nest ≠ 200) (h : rowF f 1 (nest + 1) X = .error e) : rowF (f + 12) 1 nest (l :: X) = .error e := by
  refine down_er (by rw [lp_is hl]; rfl) (by rw [lp_is hl]; rfl) (by rw [lp_is hl]; rfl) ?_
  rw [lp_part hl]
  unfold opnV
  rw [if_neg hn, h]
  rfl
theorem wrap_deep {f : Nat} {l : Tk} {X : List Tk} (hl : lpB l) : rowF (f + 12) 1 200 (l :: X) = .error (l.pos, 113) := by
  refine down_er (by rw [lp_is hl]; rfl) (by rw [lp_is hl]; rfl) (by rw [lp_is hl]; rfl) ?_
  rw [lp_part hl]
  unfold opnV
  rw [if_pos rfl]
  rfl
/-- In brackets it is the same, or too deep. -/
theorem deep_row {f : Nat} {pre : List Tk} {e : Tk} {ns : List (Nd × Nat)} (he : e.kind = 0) (h : rowF f 1 0 (pre ++ [e]) = .ok (ns, [e])) : ∀ (n : Nat) (ls rs : List Tk), ls.length = n → rs.length = n → (∀ t ∈ ls, lpB t) → (∀ t ∈ rs, rpB t) → ∀ (nest : Nat) (rest : List Tk), nest ≤ 200 → StopB rest →
    (rowF (f + 12 * n) 1 nest (ls ++ (pre ++ (rs ++ rest))) = .ok (ns, rest) ∨ ∃ p, rowF (f + 12 * n) 1 nest (ls ++ (pre ++ (rs ++ rest))) = .error (p, 113))
  | 0, ls, rs, h1, h2, _, _, nest, rest, hn, hs => by
    obtain rfl := List.length_eq_zero_iff.1 h1
    obtain rfl := List.length_eq_zero_iff.1 h2
    obtain ⟨p, hp, hq⟩ := sk_row (A := [e]) (B := rest) he hs (by simp) f 1 0 pre ns [e] h
    obtain rfl : p = [] := by
      cases p with
      | nil => rfl
      | cons a p => simp at hp
    have := ns_row nest f 1 0 (pre ++ rest) (by omega)
    rw [Nat.zero_add, hq] at this
    rcases this with h3 | ⟨p, h3⟩
    · exact .inl h3
    · exact .inr ⟨p, h3⟩
  | n + 1, [], rs, h1, _, _, _, _, _, _, _ => by simp at h1
  | n + 1, l :: ls, rs, h1, h2, hl, hr, nest, rest, hn, hs => by
    have hne : rs ≠ [] := by intro e; rw [e] at h2; simp at h2
    obtain ⟨rs', rp, rfl⟩ : ∃ rs' rp, rs = rs' ++ [rp] := ⟨_, _, (List.dropLast_concat_getLast hne).symm⟩
    have hrp := hr rp (by simp)
    have hl0 := hl l (by simp)
    have e0 : (l :: ls) ++ (pre ++ ((rs' ++ [rp]) ++ rest)) = l :: (ls ++ (pre ++ (rs' ++ (rp :: rest)))) := by simp
    rw [e0, show f + 12 * (n + 1) = f + 12 * n + 12 by omega]
    by_cases h200 : nest = 200
    · subst h200
      exact .inr ⟨_, wrap_deep hl0⟩
    · rcases deep_row he h n ls rs' (by simpa using h1) (by simpa using h2) (fun t ht => hl t (by simp [ht])) (fun t ht => hr t (by simp [ht])) (nest + 1) (rp :: rest) (by omega) (stop_paren hrp.1 hrp.2 rest) with h3 | ⟨p, h3⟩
      · exact .inl (wrap_row hl0 hrp hs h200 h3)
      · exact .inr ⟨p, wrap_er hl0 h200 h3⟩
/-- One too many. -/
theorem too_deep {f : Nat} : ∀ (m : Nat) (ls X : List Tk) (nest : Nat) (_ : m + nest = 200) (hl : m < ls.length), (∀ t ∈ ls, lpB t) → rowF (f + 12 * (m + 1)) 1 nest (ls ++ X) = .error (ls[m].pos, 113)
  | 0, l :: ls, X, nest, hm, _, h => by
    obtain rfl : nest = 200 := by omega
    exact wrap_deep (h l (by simp))
  | m + 1, l :: ls, X, nest, hm, hl, h => by
    rw [show f + 12 * (m + 1 + 1) = f + 12 * (m + 1) + 12 by omega]
    exact wrap_er (h l (by simp)) (by omega) (too_deep m ls X (nest + 1) (by omega) (by simpa using hl) (fun t ht => h t (by simp [ht])))
  | 0, [], _, _, _, hl, _ => by simp at hl
  | m + 1, [], _, _, _, hl, _ => by simp at hl

end Go.Proofs.YtbdmpjnlgdahmaaGreatDoor

namespace Go.Proofs.YtbdmpjnlgdahmaaGreatDoor
open Go.RowKit
set_option maxRecDepth 100000

/-- How many parts a node of a kind has. -/
def arV (k : Nat) : Option Nat :=
  if k = 3 ∨ k = 5 ∨ k = 9 then some 1 else if k = 4 ∨ k = 6 ∨ k = 7 ∨ k = 8 then some 2 else if k = 1 ∨ k = 2 ∨ (10 ≤ k ∧ k ≤ 16) then some 0 else none
/-- How many trees stand behind some more nodes. -/
def treeF : Nat → List Nd → Option Nat
  | left, [] => some left
  | left, d :: r => match arV d.kind with
    | none => none
    | some a => if left < a then none else treeF (left - a + 1) r
theorem treeF_app : ∀ (l m : List Nd) (left : Nat), treeF left (l ++ m) = (treeF left l).bind fun x => treeF x m
  | [], m, left => rfl
  | d :: l, m, left => by
    simp only [List.cons_append, treeF]
    cases arV d.kind with
    | none => rfl
    | some a =>
      simp only
      split
      · rfl
      · exact treeF_app l m _
/-- One tree. -/
def OneT (ns : List (Nd × Nat)) : Prop := ∀ left, treeF left (ns.map (·.1)) = some (left + 1)
theorem one_leaf {d : Nd} {p : Nat} (h : arV d.kind = some 0) : OneT [(d, p)] := fun left => by
  show treeF left [d] = _
  unfold treeF
  rw [h]
  rfl
theorem one_up {ns : List (Nd × Nat)} {d : Nd} {p : Nat} (h : OneT ns) (hd : arV d.kind = some 1) : OneT (ns ++ [(d, p)]) := fun left => by
  rw [List.map_append, treeF_app, h left]
  show treeF (left + 1) [d] = _
  unfold treeF
  rw [hd]
  simp only
  rw [if_neg (by omega)]
  rfl
theorem one_two {ns ms : List (Nd × Nat)} {d : Nd} {p : Nat} (h : OneT ns) (k : OneT ms) (hd : arV d.kind = some 2) : OneT (ns ++ ms ++ [(d, p)]) := fun left => by
  rw [List.map_append, List.map_append, treeF_app, treeF_app, h left]
  show (treeF (left + 1) _).bind _ = _
  rw [k (left + 1)]
  show treeF (left + 1 + 1) [d] = _
  unfold treeF
  rw [hd]
  simp only
  rw [if_neg (by omega)]
  rfl

def Tn (top : List Tk) (x : Out) : Prop := ∀ ns r, x = .ok (ns, r) → OneT ns ∧ ∀ q ∈ ns, TokAt top q.2
theorem tn_er (top : List Tk) (e : Er) : Tn top (.error e) := fun _ _ h => by cases h
theorem tn_leaf {top : List Tk} {d : Nd} {p : Nat} {r : List Tk} (h : arV d.kind = some 0) (hp : TokAt top p) : Tn top (.ok ([(d, p)], r)) := fun ns s hq => by
  cases hq
  exact ⟨one_leaf h, fun q hm => by simp only [List.mem_singleton] at hm; subst hm; exact hp⟩
theorem tn_then {α : Type} {top : List Tk} {x : Except Er α} {F : α → Out} (h : ∀ v, x = .ok v → Tn top (F v)) : Tn top (thenE x F) := fun ns r hq => by
  obtain ⟨v, h1, h2⟩ := thenE_inv hq
  exact h v h1 ns r h2
theorem tn_opn {top : List Tk} {nest : Nat} {ts : List Tk} {x : Out} (h : Tn top x) : Tn top (opnV nest ts x) := fun ns r hq => h ns r (opn_inv hq).2
theorem top_at {top ts : List Tk} (hs : ts <:+ top) (hk : (hdT ts).kind ≠ 0) : TokAt top (hdT ts).pos := by
  have hne := hd_ne hk
  cases ts with
  | nil => exact absurd rfl hne
  | cons a l => exact ⟨a, hs.subset (List.mem_cons_self ..), hk, rfl⟩
theorem addr_kind {k : Nat} {ts r : List Tk} {d : Nd} (h : addrT k ts = .ok (d, r)) : d.kind = k := by
  unfold addrT at h
  split at h
  · split at h
    · cases h; rfl
    · cases h
  · split at h
    · split at h
      · cases h; rfl
      · cases h
    · cases h
theorem tn_sided {top : List Tk} {of at' : Nat} (hp : TokAt top at') (ts : List Tk) : Tn top (sidedV of at' ts) := by
  unfold sidedV sidedB
  split
  · exact tn_then (fun v _ => tn_leaf rfl hp)
  · split
    · exact tn_then (fun v _ => tn_then (fun _ _ => tn_then (fun _ _ => tn_leaf rfl hp)))
    · split
      · exact tn_then (fun v hv => tn_leaf (by show arV v.1.kind = _; rw [addr_kind (d := v.1) (r := v.2) hv]; rfl) hp)
      · split
        · exact tn_then (fun v hv => tn_then (fun _ _ => tn_then (fun _ _ => tn_leaf (by show arV v.1.kind = _; rw [addr_kind (d := v.1) (r := v.2) hv]; rfl) hp)))
        · exact tn_er _ _
theorem tn_word {top ts : List Tk} (hs : ts <:+ top) (hk : (hdT ts).kind ≠ 0) : Tn top (wordF ts) := by
  have hp := top_at hs hk
  unfold wordF
  split
  · exact tn_leaf rfl hp
  · split
    · exact tn_leaf rfl hp
    · split
      · exact tn_leaf rfl hp
      · split
        · exact tn_then (fun v _ => tn_leaf rfl hp)
        · split
          · exact tn_sided hp _
          · exact tn_er _ _
def TnR (top : List Tk) (rec : Nat → List Tk → Out) : Prop := ∀ nest ts, ts <:+ top → Tn top (rec nest ts)
theorem tn_name {top : List Tk} {rec : Nat → List Tk → Out} (hr : TnR top rec) {nest of at' : Nat} (hp : TokAt top at') {ts : List Tk} (hs : ts <:+ top) : Tn top (nameF rec nest of at' ts) := by
  unfold nameF
  split
  · refine tn_opn (tn_then (fun v hv => tn_then (fun u _ => ?_)))
    obtain ⟨h1, h2⟩ := hr _ _ ((List.tail_suffix ts).trans hs) v.1 v.2 hv
    intro ns r hq
    cases hq
    refine ⟨one_up h1 rfl, fun q hm => ?_⟩
    rcases List.mem_append.1 hm with hm | hm
    · exact h2 q hm
    · simp only [List.mem_singleton] at hm; subst hm; exact hp
  · split
    · exact tn_er _ _
    · split
      · exact tn_then (fun v _ => tn_leaf rfl hp)
      · split
        · exact tn_sided hp _
        · exact tn_leaf rfl hp
theorem tn_part {top : List Tk} {rec : Nat → List Tk → Out} (hr : TnR top rec) : TnR top (partF rec) := by
  intro nest ts hs
  unfold partF
  split
  · exact tn_leaf rfl (top_at hs (by omega))
  · split
    · refine tn_opn (tn_then (fun v hv => tn_then (fun u _ => ?_)))
      obtain ⟨h1, h2⟩ := hr _ _ ((List.tail_suffix ts).trans hs) v.1 v.2 hv
      intro ns r hq
      cases hq
      exact ⟨h1, h2⟩
    · split
      · exact tn_er _ _
      · rename_i hk
        have hk' : (hdT ts).kind ≠ 0 := by omega
        split
        · exact tn_name hr (top_at hs hk') ((List.tail_suffix ts).trans hs)
        · exact tn_word hs hk'
def TwoO (x : Option Nd) : Prop := ∀ d, x = some d → arV d.kind = some 2
theorem two_ite {c : Prop} [Decidable c] {a b : Option Nd} (ha : TwoO a) (hb : TwoO b) : TwoO (if c then a else b) := by
  split
  · exact ha
  · exact hb
theorem two_some {d : Nd} (h : arV d.kind = some 2) : TwoO (some d) := fun x hx => by
  cases hx
  exact h
theorem two_none : TwoO none := fun x hx => by cases hx
theorem two_map (o : Option Nat) : TwoO (o.map fun o => { ndK 6 with op := o }) := fun x hx => by
  cases o with
  | none => cases hx
  | some o => cases hx; rfl
theorem bin_two {k : Nat} {x : List UInt8} {d : Nd} (h : binV k x = some d) : arV d.kind = some 2 := by
  have : TwoO (binV k x) := by
    unfold binV
    exact two_ite (two_ite (two_some rfl) two_none) (two_ite (two_ite (two_some rfl) two_none) (two_ite (two_map _) (two_ite (two_ite (two_some rfl) two_none) (two_ite (two_ite (two_some rfl) two_none) (two_ite (two_ite (two_some rfl) two_none)
      (two_ite (two_ite (two_some rfl) (two_ite (two_some rfl) two_none)) (two_ite (two_ite (two_some rfl) (two_ite (two_some rfl) two_none)) (two_ite (two_ite (two_some rfl) (two_ite (two_some rfl) (two_ite (two_some rfl) two_none))) two_none))))))))
  exact this d h
theorem op_two {k : Nat} {ts : List Tk} {d : Nd} (h : opT k ts = some d) : arV d.kind = some 2 ∧ (hdT ts).kind ≠ 0 := by
  unfold opT at h
  split at h
  · exact ⟨bin_two h, by omega⟩
  · cases h
theorem tn_loop {top : List Tk} {rec : List Tk → Out} (hf : ∀ ts ns r, rec ts = .ok (ns, r) → Fr ts r ∧ ns ≠ []) (hr : ∀ ts, ts <:+ top → Tn top (rec ts)) (k : Nat) : ∀ (f : Nat) (ns : List (Nd × Nat)) (ts : List Tk), ts <:+ top → OneT ns → (∀ q ∈ ns, TokAt top q.2) → Tn top (loopG rec k f ns ts)
  | 0, ns, ts, _, h1, h2 => fun ms r hq => by cases hq; exact ⟨h1, h2⟩
  | f + 1, ns, ts, hs, h1, h2 => by
    unfold loopG
    split
    · intro ms r hq; cases hq; exact ⟨h1, h2⟩
    · rename_i nd hnd
      obtain ⟨ha, hk⟩ := op_two hnd
      have ht : ts.tail <:+ top := (List.tail_suffix ts).trans hs
      refine tn_then (fun v hv => ?_)
      obtain ⟨g1, g2⟩ := hr _ ht v.1 v.2 hv
      have o := one_two (p := (hdT ts).pos) h1 g1 ha
      have o2 : ∀ q ∈ ns ++ v.1 ++ [(nd, (hdT ts).pos)], TokAt top q.2 := fun q hm => by
        rcases List.mem_append.1 hm with hm | hm
        · rcases List.mem_append.1 hm with hm | hm
          · exact h2 q hm
          · exact g2 q hm
        · simp only [List.mem_singleton] at hm; subst hm; exact top_at hs hk
      split
      · intro ms r hq; cases hq; exact ⟨o, o2⟩
      · exact tn_loop hf hr k f _ _ ((hf _ v.1 v.2 hv).1.1.trans ht) o o2
/-- A row is a tree. -/
theorem tn_row (top : List Tk) : ∀ (f k : Nat), TnR top (rowF f k)
  | 0, k => fun _ _ _ => tn_er _ _
  | f + 1, k => fun nest ts hs => by
    have ih := tn_row top f
    have ht : ts.tail <:+ top := (List.tail_suffix ts).trans hs
    have one : ∀ (k' nest' : Nat) (d : Nd), arV d.kind = some 1 → (hdT ts).kind ≠ 0 → Tn top (thenE (rowF f k' nest' ts.tail) fun p => .ok (p.1 ++ [(d, (hdT ts).pos)], p.2)) := fun k' nest' d hd hk => tn_then (fun v hv => by
      obtain ⟨g1, g2⟩ := ih k' nest' _ ht v.1 v.2 hv
      intro ms r hq
      cases hq
      refine ⟨one_up g1 hd, fun q hm => ?_⟩
      rcases List.mem_append.1 hm with hm | hm
      · exact g2 q hm
      · simp only [List.mem_singleton] at hm; subst hm; exact top_at hs hk)
    rw [row_succ]
    unfold stepR
    split
    · rename_i hb
      exact tn_opn (one 3 _ _ rfl (by rcases hb.2 with hb | hb <;> exact isB_k0 hb))
    · split
      · rename_i hb
        exact tn_opn (one 11 _ _ rfl (isB_k0 hb.2))
      · split
        · exact ih _ _ _ hs
        · split
          · exact tn_part (ih 1) _ _ hs
          · refine tn_then (fun v hv => ?_)
            obtain ⟨g1, g2⟩ := ih (k + 1) _ _ hs v.1 v.2 hv
            exact tn_loop (fun ts ns r h => row_fr f (k + 1) nest ts ns r h) (fun ts h => ih (k + 1) nest ts h) k _ _ _ ((row_fr f (k + 1) nest ts v.1 v.2 hv).1.1.trans hs) g1 g2
theorem parse_tree {ts : List Tk} {ns : List (Nd × Nat)} (h : parseT ts = .ok ns) : OneT ns ∧ ∀ q ∈ ns, TokAt ts q.2 := by
  unfold parseT at h
  obtain ⟨⟨v, r⟩, h1, h2⟩ := thenE_inv h
  simp only at h2
  split at h2
  · cases h2
    exact tn_row ts _ _ _ _ (List.suffix_refl _) _ _ h1
  · cases h2

end Go.Proofs.YtbdmpjnlgdahmaaGreatDoor

namespace Go.Proofs.YtbdmpjnlgdahmaaGreatDoor
open Go.RowKit
set_option maxRecDepth 100000

theorem arV_cases {k a : Nat} (h : arV k = some a) : (a = 1 ∧ (k = 3 ∨ k = 5 ∨ k = 9)) ∨ (a = 2 ∧ (k = 4 ∨ k = 6 ∨ k = 7 ∨ k = 8)) ∨ (a = 0 ∧ (k = 1 ∨ k = 2 ∨ k = 10 ∨ k = 11 ∨ k = 12 ∨ k = 13 ∨ k = 14 ∨ k = 15 ∨ k = 16)) := by
  unfold arV at h
  split at h
  · cases h; exact .inl ⟨rfl, by assumption⟩
  · split at h
    · cases h; exact .inr (.inl ⟨rfl, by assumption⟩)
    · split at h
      · cases h
        rename_i h3
        exact .inr (.inr ⟨rfl, by omega⟩)
      · cases h

set_option maxHeartbeats 4000000 in
theorem arity_any (k a : Nat) (h : arV k = some a) (w : World) : Calls Tryz.prog 34 #[.int .i64 (k : Int)] w fun e w' => e = .returned (.int .i64 (a : Int)) ∧ w' = w := by
  rcases arV_cases h with ⟨rfl, rfl | rfl | rfl⟩ | ⟨rfl, rfl | rfl | rfl | rfl⟩ | ⟨rfl, rfl | rfl | rfl | rfl | rfl | rfl | rfl | rfl | rfl⟩
  all_goals
    clear h
    try simp only [Nat.cast_ofNat_Int]
    go_enter Tryz.func34, Tryz.ntmps34
    go_wp2
    go_ret
    exact ⟨rfl, rfl⟩

set_option maxHeartbeats 2000000 in
theorem tree_any (ao : Option Addr) (cap : Nat) (xs : List Nd) (w : World) (C : CV w ao (flatN xs)) (ht : treeF 0 xs = some 1) (hm : xs.length ≤ 9223372036854775807) :
    Calls Tryz.prog 18 #[.slice ao xs.length cap] w fun e w' => e = .returned (.bool true) ∧ w' = w := by
  have HC : Hid (CV w ao (flatN xs)) := C
  have HT : Hid (treeF 0 xs = some 1) := ht
  clear C ht
  go_enter Tryz.func18, Tryz.ntmps18
  go_wp2
  go_loopw [3, 4] (fun l i wr => ∃ k n : Nat, k ≤ xs.length ∧ n ≤ k ∧ l = .int .i64 n ∧ i = .int .i64 k ∧ Hid (treeF n (xs.drop k) = some 1) ∧ wr = w) (fun _ i _ => xs.length - (intOf i).toNat)
  case atStart => exact ⟨0, 0, Nat.zero_le _, Nat.zero_le _, rfl, rfl, by rw [List.drop_zero]; exact HT.out, rfl⟩
  case round =>
    obtain ⟨k, n, hk, hn, rfl, rfl, H1, rfl⟩ := hrel
    by_cases hlt : k < xs.length
    · obtain ⟨b, off, rfl, hc⟩ := HC.out.nodes hlt
      have c0 := hc k hlt 0 (.int .i64 (xs[k].kind : Int)) rfl
      rw [Nat.add_zero] at c0
      have h1 := H1.out
      rw [List.drop_eq_getElem_cons hlt] at h1
      simp only [treeF] at h1
      generalize xs[k].kind = kd at *
      cases ha : arV kd with
      | none => rw [ha] at h1; cases h1
      | some a =>
        rw [ha] at h1
        simp only at h1
        have hca := arity_any kd a ha wr
        by_cases hle : n < a
        · rw [if_pos hle] at h1; cases h1
        · rw [if_neg hle] at h1
          have H2 : Hid (treeF (n - a + 1) (xs.drop (k + 1)) = some 1) := h1
          have hl : (k : Int) < (xs.length : Int) := by omega
          have z0 : (0 : Int) ≤ (k : Int) := by omega
          have z1 : ¬ (a : Int) < 0 := by omega
          have z2 : ¬ (n : Int) < (a : Int) := by omega
          have w1 : IntKind.i64.wrap ((n : Int) - (a : Int)) = (n : Int) - (a : Int) := by rw [IntKind.wrap_i64]; omega
          have w2 : IntKind.i64.wrap ((n : Int) - (a : Int) + 1) = ((n - a + 1 : Nat) : Int) := by rw [IntKind.wrap_i64]; omega
          have w3 : IntKind.i64.wrap ((k : Int) + 1) = (k : Int) + 1 := by rw [IntKind.wrap_i64]; omega
          clear h1 hc H1
          go_wp2_with fail
          refine hca.mono ?_
          rintro e w' ⟨rfl, rfl⟩
          clear hca
          go_wp2
          go_roundw
          case rel => exact ⟨k + 1, n - a + 1, by omega, by omega, rfl, by go_num, H2, trivial⟩
          case measure => simp [intOf]; omega
    · have h1 := H1.out
      rw [List.drop_eq_nil_of_le (by omega)] at h1
      simp only [treeF, Option.some.injEq] at h1
      subst h1
      clear H1
      go_wp2
      go_ret
      exact ⟨rfl, rfl⟩

set_option maxHeartbeats 2000000 in
theorem pin_any (ao : Option Addr) (cap : Nat) (xs : List Tk) (p : Nat) (w : World) (C : CV w ao (flatT xs)) (ht : ∃ t ∈ xs, t.pos = p) (hm : xs.length ≤ 9223372036854775807) :
    Calls Tryz.prog 17 #[.slice ao xs.length cap, .int .i64 (p : Int)] w fun e w' => e = .returned (.bool true) ∧ w' = w := by
  have HC : Hid (CV w ao (flatT xs)) := C
  have HT : Hid (∃ t ∈ xs, t.pos = p) := ht
  clear C ht
  go_enter Tryz.func17, Tryz.ntmps17
  go_wp2
  go_loopw [5] (fun i wr => ∃ k : Nat, k ≤ xs.length ∧ i = .int .i64 k ∧ Hid (∃ t ∈ xs.drop k, t.pos = p) ∧ wr = w) (fun i _ => xs.length - (intOf i).toNat)
  case atStart => exact ⟨0, Nat.zero_le _, rfl, by rw [List.drop_zero]; exact HT.out, rfl⟩
  case round =>
    obtain ⟨k, hk, rfl, H1, rfl⟩ := hrel
    by_cases hlt : k < xs.length
    · obtain ⟨b, off, rfl, hc⟩ := HC.out.toks hlt
      obtain ⟨-, c1, -, -⟩ := hc k hlt
      have H2 : Hid (¬ xs[k].pos = p → ∃ t ∈ xs.drop (k + 1), t.pos = p) := fun hn => by
        obtain ⟨t, h1, h2⟩ := H1.out
        rw [List.drop_eq_getElem_cons hlt] at h1
        rcases List.mem_cons.1 h1 with rfl | h1
        · exact absurd h2 hn
        · exact ⟨t, h1, h2⟩
      generalize xs[k].pos = q at *
      have hl : (k : Int) < (xs.length : Int) := by omega
      have z0 : (0 : Int) ≤ (k : Int) := by omega
      have w3 : IntKind.i64.wrap ((k : Int) + 1) = (k : Int) + 1 := by rw [IntKind.wrap_i64]; omega
      clear hc H1
      by_cases hq : q = p
      · subst hq
        have hb : ((q : Int) == (q : Int)) = true := by simp
        go_wp2
        go_ret
        exact ⟨rfl, rfl⟩
      · have hb : ((q : Int) == (p : Int)) = false := by simp; omega
        have hb' : ¬ (q : Int) = (p : Int) := by omega
        have H3 := H2.out hq
        have H4 : Hid (∃ t ∈ xs.drop (k + 1), t.pos = p) := H3
        clear H2 H3
        go_wp2
        go_roundw
        case rel => exact ⟨k + 1, by omega, by go_num, H4, trivial⟩
        case measure => simp [intOf]; omega
    · obtain ⟨t, h1, -⟩ := H1.out
      rw [List.drop_eq_nil_of_le (by omega)] at h1
      cases h1

end Go.Proofs.YtbdmpjnlgdahmaaGreatDoor
