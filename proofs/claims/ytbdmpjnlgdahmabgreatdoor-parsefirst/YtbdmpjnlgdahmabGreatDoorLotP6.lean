/-
  What chapter 11 says of a source's tree: no Go text here. What is read is read off the front; fuel enough is enough. No Go text here.
-/
import Derived.Test.YtbdmpjnlgdahmabGreatDoorLotP4
import Derived.Test.YtbdmpjnlgdahmabGreatDoorAddrV
namespace Go.Proofs.YtbdmpjnlgdahmabGreatDoor
open Go.RowKit
set_option maxRecDepth 100000

structure Nd where
  kind : Nat
  op : Nat
  n : Nat
  m : Nat
  size : Nat
  of : Nat
  side : Nat
  addr : List UInt8
  bits : Nat

def nd0 : Nd := ⟨0, 0, 0, 0, 0, 0, 0, List.replicate 16 0, 0⟩
def ndK (k : Nat) : Nd := { nd0 with kind := k }

abbrev Er := Nat × Int
/-- Nodes with their places, and the tokens that are left. -/
abbrev Out := Except Er (List (Nd × Nat) × List Tk)

def thenE {α β : Type} (x : Except Er α) (f : α → Except Er β) : Except Er β := match x with
  | .error e => .error e
  | .ok y => f y
theorem thenE_ok {α β : Type} (y : α) (f : α → Except Er β) : thenE (.ok y) f = f y := rfl
theorem thenE_er {α β : Type} (e : Er) (f : α → Except Er β) : thenE (.error e : Except Er α) f = .error e := rfl

def hdT (ts : List Tk) : Tk := ts.headD ⟨0, 0, [], 0⟩
def isB (ts : List Tk) (x : List UInt8) : Bool := ((hdT ts).kind == 5 || (hdT ts).kind == 2) && (hdT ts).text == x
def failV {α : Type} (ts : List Tk) (e : Int) : Except Er α := .error ((hdT ts).pos, if (hdT ts).kind = 0 then 110 else e)
def mustV (x : List UInt8) (ts : List Tk) : Except Er (List Tk) := if isB ts x = true then .ok ts.tail else failV ts 111
def numT (ts : List Tk) : Except Er (Nat × List Tk) := if (hdT ts).kind = 1 then .ok ((hdT ts).num, ts.tail) else failV ts 111
def opnV {α : Type} (nest : Nat) (ts : List Tk) (x : Except Er α) : Except Er α := if nest = 200 then .error ((hdT ts).pos, 113) else x

def wNot : List UInt8 := [110, 111, 116]
def wAnd : List UInt8 := [97, 110, 100]
def wOr : List UInt8 := [111, 114]
def wSrc : List UInt8 := [115, 114, 99]
def wDst : List UInt8 := [100, 115, 116]
def wHost : List UInt8 := [104, 111, 115, 116]
def wNet : List UInt8 := [110, 101, 116]
def wPort : List UInt8 := [112, 111, 114, 116]
def wPortrange : List UInt8 := [112, 111, 114, 116, 114, 97, 110, 103, 101]
def wProto : List UInt8 := [112, 114, 111, 116, 111]
def wLen : List UInt8 := [108, 101, 110]
def wInbound : List UInt8 := [105, 110, 98, 111, 117, 110, 100]
def wOutbound : List UInt8 := [111, 117, 116, 98, 111, 117, 110, 100]

/-- The operation of a comparison's sign; none: it is no such sign. -/
def relV (x : List UInt8) : Option Nat :=
  if x = [61] ∨ x = [61, 61] then some 1 else if x = [33, 61] then some 2 else if x = [60] then some 3 else if x = [60, 61] then some 4 else if x = [62] then some 5 else if x = [62, 61] then some 6 else none
/-- The node of a sign or word in a row of the grammar. -/
def binV (k : Nat) (x : List UInt8) : Option Nd :=
  if k = 1 then (if x = wOr ∨ x = [124, 124] then some (ndK 8) else none)
  else if k = 2 then (if x = wAnd ∨ x = [38, 38] then some (ndK 7) else none)
  else if k = 4 then (relV x).map fun o => { ndK 6 with op := o }
  else if k = 5 then (if x = [124] then some { ndK 4 with op := 7 } else none)
  else if k = 6 then (if x = [94] then some { ndK 4 with op := 8 } else none)
  else if k = 7 then (if x = [38] then some { ndK 4 with op := 6 } else none)
  else if k = 8 then (if x = [60, 60] then some { ndK 4 with op := 9 } else if x = [62, 62] then some { ndK 4 with op := 10 } else none)
  else if k = 9 then (if x = [43] then some { ndK 4 with op := 1 } else if x = [45] then some { ndK 4 with op := 2 } else none)
  else if k = 10 then (if x = [42] then some { ndK 4 with op := 3 } else if x = [47] then some { ndK 4 with op := 4 } else if x = [37] then some { ndK 4 with op := 5 } else none)
  else none
/-- What a name speaks of; 0: it is none. -/
def nameN (x : List UInt8) : Nat :=
  if x = [112, 112, 112] then 1 else if x = [105, 112] then 2 else if x = [105, 112, 54] then 3 else if x = [116, 99, 112] then 4 else if x = [117, 100, 112] then 5
  else if x = [105, 99, 109, 112] then 6 else if x = [105, 99, 109, 112, 54] then 7 else if x = [108, 99, 112] then 8 else if x = [112, 97, 112] then 9 else if x = [99, 104, 97, 112] then 10
  else if x = [105, 112, 99, 112] then 11 else if x = [105, 112, 54, 99, 112] then 12 else if x = [109, 112] then 13 else 0

def addrT (kind : Nat) (ts : List Tk) : Except Er (Nd × List Tk) :=
  if (hdT ts).kind = 3 then (match parse4V (hdT ts).text with
    | some a => .ok ({ ndK kind with of := 2, addr := a ++ List.replicate 12 0 }, ts.tail)
    | none => failV ts 112)
  else if (hdT ts).kind = 4 then (match parse6V (hdT ts).text with
    | some a => .ok ({ ndK kind with of := 3, addr := a }, ts.tail)
    | none => failV ts 112)
  else failV ts 111
def sideN (ts : List Tk) : Nat := if isB ts wSrc = true then 1 else if isB ts wDst = true then 2 else 0
def sideR (ts : List Tk) : List Tk := if sideN ts = 0 then ts else ts.tail
/-- Behind a side. -/
def sidedB (of at' side : Nat) (ts : List Tk) : Out :=
  if isB ts wPort = true then thenE (numT ts.tail) fun p => .ok ([({ ndK 16 with of := of, side := side, n := p.1, m := p.1 }, at')], p.2)
  else if isB ts wPortrange = true then thenE (numT ts.tail) fun p => thenE (mustV [45] p.2) fun r => thenE (numT r) fun q => .ok ([({ ndK 16 with of := of, side := side, n := p.1, m := q.1 }, at')], q.2)
  else if of = 0 ∧ isB ts wHost = true then thenE (addrT 14 ts.tail) fun p => .ok ([({ p.1 with side := side }, at')], p.2)
  else if of = 0 ∧ isB ts wNet = true then thenE (addrT 15 ts.tail) fun p => thenE (mustV [47] p.2) fun r => thenE (numT r) fun q => .ok ([({ p.1 with bits := q.1, side := side }, at')], q.2)
  else failV ts 111
def sidedV (of at' : Nat) (ts : List Tk) : Out := sidedB of at' (sideN ts) (sideR ts)
/-- What begins with a word that is no name. -/
def wordF (ts : List Tk) : Out :=
  if (hdT ts).text = wLen then .ok ([(ndK 2, (hdT ts).pos)], ts.tail)
  else if (hdT ts).text = wInbound then .ok ([({ ndK 10 with side := 1 }, (hdT ts).pos)], ts.tail)
  else if (hdT ts).text = wOutbound then .ok ([({ ndK 10 with side := 2 }, (hdT ts).pos)], ts.tail)
  else if (hdT ts).text = wProto then thenE (numT ts.tail) fun p => .ok ([({ ndK 12 with n := p.1 }, (hdT ts).pos)], p.2)
  else if (hdT ts).text ∈ [wSrc, wDst, wHost, wNet, wPort, wPortrange] then sidedV 0 (hdT ts).pos ts
  else failV ts 111
/-- A load's size, and its end. -/
def sizeF (ts : List Tk) : Except Er (Nat × List Tk) :=
  if isB ts [58] = true then thenE (numT ts.tail) fun p => thenE (mustV [93] p.2) fun r => .ok (p.1, r)
  else thenE (mustV [93] ts) fun r => .ok (1, r)
/-- What begins with a name that is gone by. -/
def nameF (rec : Nat → List Tk → Out) (nest of at' : Nat) (ts : List Tk) : Out :=
  if isB ts [91] = true ∧ of ≠ 13 then opnV nest ts (thenE (rec (nest + 1) ts.tail) fun p => thenE (sizeF p.2) fun q => .ok (p.1 ++ [({ ndK 3 with of := of, size := q.1 }, at')], q.2))
  else if of = 1 then failV ts 111
  else if (of = 2 ∨ of = 3) ∧ isB ts wProto = true then thenE (numT ts.tail) fun p => .ok ([({ ndK 13 with of := of, n := p.1 }, at')], p.2)
  else if (of = 4 ∨ of = 5) ∧ (isB ts wSrc = true ∨ isB ts wDst = true ∨ isB ts wPort = true ∨ isB ts wPortrange = true) then sidedV of at' ts
  else .ok ([({ ndK 11 with of := of }, at')], ts)
/-- A part. -/
def partF (rec : Nat → List Tk → Out) (nest : Nat) (ts : List Tk) : Out :=
  if (hdT ts).kind = 1 then .ok ([({ ndK 1 with n := (hdT ts).num }, (hdT ts).pos)], ts.tail)
  else if isB ts [40] = true then opnV nest ts (thenE (rec (nest + 1) ts.tail) fun p => thenE (mustV [41] p.2) fun r => .ok (p.1, r))
  else if (hdT ts).kind ≠ 2 then failV ts 111
  else if nameN (hdT ts).text ≠ 0 then nameF rec nest (nameN (hdT ts).text) (hdT ts).pos ts.tail
  else wordF ts
/-- The node of a row's sign, if one is reached. -/
def opT (k : Nat) (ts : List Tk) : Option Nd := if (hdT ts).kind = 5 ∨ (hdT ts).kind = 2 then binV k (hdT ts).text else none
/-- Behind the first part of a row: the others. -/
def loopG (rec : List Tk → Out) (k : Nat) : Nat → List (Nd × Nat) → List Tk → Out
  | 0, ns, ts => .ok (ns, ts)
  | f + 1, ns, ts => match opT k ts with
    | none => .ok (ns, ts)
    | some nd => thenE (rec ts.tail) fun p => if k = 4 then .ok (ns ++ p.1 ++ [(nd, (hdT ts).pos)], p.2) else loopG rec k f (ns ++ p.1 ++ [(nd, (hdT ts).pos)]) p.2
/-- A row of the grammar, 1 to 12, over what reads the rows below it. -/
def stepR (rec : Nat → Nat → List Tk → Out) (k nest : Nat) (ts : List Tk) : Out :=
  if k = 3 ∧ (isB ts wNot = true ∨ isB ts [33] = true) then opnV nest ts (thenE (rec 3 (nest + 1) ts.tail) fun p => .ok (p.1 ++ [(ndK 9, (hdT ts).pos)], p.2))
  else if k = 11 ∧ isB ts [45] = true then opnV nest ts (thenE (rec 11 (nest + 1) ts.tail) fun p => .ok (p.1 ++ [(ndK 5, (hdT ts).pos)], p.2))
  else if k = 3 ∨ k = 11 then rec (k + 1) nest ts
  else if k = 12 then partF (rec 1) nest ts
  else thenE (rec (k + 1) nest ts) fun p => loopG (rec (k + 1) nest) k p.2.length p.1 p.2
def rowF : Nat → Nat → Nat → List Tk → Out
  | 0 => fun _ _ _ => .error (0, 0)
  | f + 1 => stepR (rowF f)
theorem row_succ (f k nest : Nat) (ts : List Tk) : rowF (f + 1) k nest ts = stepR (rowF f) k nest ts := rfl
def needF (k : Nat) (ts : List Tk) : Nat := 13 * ts.length + (13 - k)
/-- P11.1, of tokens. -/
def parseT (ts : List Tk) : Except Er (List (Nd × Nat)) := thenE (rowF (needF 1 ts) 1 0 ts) fun p => if (hdT p.2).kind = 0 then .ok p.1 else failV p.2 111
/-- P11.1. -/
def parseV (s : List UInt8) : Except Er (List (Nd × Nat)) := thenE (lexV s) parseT

end Go.Proofs.YtbdmpjnlgdahmabGreatDoor

namespace Go.Proofs.YtbdmpjnlgdahmabGreatDoor
open Go.RowKit
set_option maxRecDepth 100000

theorem hd_ne {ts : List Tk} (h : (hdT ts).kind ≠ 0) : ts ≠ [] := by
  rintro rfl
  exact h rfl
theorem isB_kind {ts : List Tk} {x : List UInt8} (h : isB ts x = true) : (hdT ts).kind = 5 ∨ (hdT ts).kind = 2 := by
  unfold isB at h
  simp only [Bool.and_eq_true, Bool.or_eq_true, beq_iff_eq] at h
  exact h.1
theorem isB_text {ts : List Tk} {x : List UInt8} (h : isB ts x = true) : (hdT ts).text = x := by
  unfold isB at h
  simp only [Bool.and_eq_true, beq_iff_eq] at h
  exact h.2
theorem isB_ne {ts : List Tk} {x : List UInt8} (h : isB ts x = true) : ts ≠ [] := hd_ne (by have := isB_kind h; omega)

/-- A later end of the same list. -/
def Fr (ts r : List Tk) : Prop := r <:+ ts ∧ r.length < ts.length
theorem fr_tail {ts : List Tk} (h : ts ≠ []) : Fr ts ts.tail := ⟨List.tail_suffix ts, by cases ts with
  | nil => exact absurd rfl h
  | cons a r => simp⟩
theorem Fr.trans {a b c : List Tk} (h : Fr a b) (k : Fr b c) : Fr a c := ⟨k.1.trans h.1, Nat.lt_trans k.2 h.2⟩

theorem thenE_inv {α β : Type} {x : Except Er α} {f : α → Except Er β} {y : β} (h : thenE x f = .ok y) : ∃ v, x = .ok v ∧ f v = .ok y := by
  cases x with
  | error e => cases h
  | ok v => exact ⟨v, rfl, h⟩
theorem must_fr {x : List UInt8} {ts r : List Tk} (h : mustV x ts = .ok r) : Fr ts r := by
  unfold mustV at h
  split at h
  · rename_i hb
    cases h
    exact fr_tail (isB_ne hb)
  · cases h
theorem num_fr {ts r : List Tk} {n : Nat} (h : numT ts = .ok (n, r)) : Fr ts r := by
  unfold numT at h
  split at h
  · rename_i hk
    cases h
    exact fr_tail (hd_ne (by omega))
  · cases h
theorem addr_fr {k : Nat} {ts r : List Tk} {d : Nd} (h : addrT k ts = .ok (d, r)) : Fr ts r := by
  unfold addrT at h
  split at h
  · rename_i hk
    split at h
    · cases h
      exact fr_tail (hd_ne (by omega))
    · cases h
  · split at h
    · rename_i hk
      split at h
      · cases h
        exact fr_tail (hd_ne (by omega))
      · cases h
    · cases h
theorem sidedB_fr {of at' side : Nat} {ts r : List Tk} {ns : List (Nd × Nat)} (h : sidedB of at' side ts = .ok (ns, r)) : Fr ts r ∧ ns ≠ [] := by
  unfold sidedB at h
  split at h
  · rename_i hb
    obtain ⟨⟨n, r1⟩, h1, h2⟩ := thenE_inv h
    cases h2
    exact ⟨(fr_tail (isB_ne hb)).trans (num_fr h1), by simp⟩
  · split at h
    · rename_i hb
      obtain ⟨⟨n, r1⟩, h1, h2⟩ := thenE_inv h
      obtain ⟨r2, h3, h4⟩ := thenE_inv h2
      obtain ⟨⟨m, r3⟩, h5, h6⟩ := thenE_inv h4
      cases h6
      exact ⟨(((fr_tail (isB_ne hb)).trans (num_fr h1)).trans (must_fr h3)).trans (num_fr h5), by simp⟩
    · split at h
      · rename_i hb
        obtain ⟨⟨n, r1⟩, h1, h2⟩ := thenE_inv h
        cases h2
        exact ⟨(fr_tail (isB_ne hb.2)).trans (addr_fr h1), by simp⟩
      · split at h
        · rename_i hb
          obtain ⟨⟨n, r1⟩, h1, h2⟩ := thenE_inv h
          obtain ⟨r2, h3, h4⟩ := thenE_inv h2
          obtain ⟨⟨m, r3⟩, h5, h6⟩ := thenE_inv h4
          cases h6
          exact ⟨(((fr_tail (isB_ne hb.2)).trans (addr_fr h1)).trans (must_fr h3)).trans (num_fr h5), by simp⟩
        · cases h
theorem sideR_sfx (ts : List Tk) : sideR ts <:+ ts := by
  unfold sideR
  split
  · exact List.suffix_refl _
  · exact List.tail_suffix _
theorem sided_fr {of at' : Nat} {ts r : List Tk} {ns : List (Nd × Nat)} (h : sidedV of at' ts = .ok (ns, r)) : Fr ts r ∧ ns ≠ [] := by
  obtain ⟨h1, h2⟩ := sidedB_fr h
  exact ⟨⟨h1.1.trans (sideR_sfx ts), Nat.lt_of_lt_of_le h1.2 (sideR_sfx ts).length_le⟩, h2⟩
theorem word_fr {ts r : List Tk} {ns : List (Nd × Nat)} (hk : (hdT ts).kind = 2) (h : wordF ts = .ok (ns, r)) : Fr ts r ∧ ns ≠ [] := by
  have hne := hd_ne (ts := ts) (by omega)
  unfold wordF at h
  split at h
  · cases h; exact ⟨fr_tail hne, by simp⟩
  · split at h
    · cases h; exact ⟨fr_tail hne, by simp⟩
    · split at h
      · cases h; exact ⟨fr_tail hne, by simp⟩
      · split at h
        · obtain ⟨⟨n, r1⟩, h1, h2⟩ := thenE_inv h
          cases h2
          exact ⟨(fr_tail hne).trans (num_fr h1), by simp⟩
        · split at h
          · exact sided_fr h
          · cases h
theorem size_fr {ts r : List Tk} {n : Nat} (h : sizeF ts = .ok (n, r)) : Fr ts r := by
  unfold sizeF at h
  split at h
  · rename_i hb
    obtain ⟨⟨n, r1⟩, h1, h2⟩ := thenE_inv h
    obtain ⟨r2, h3, h4⟩ := thenE_inv h2
    cases h4
    exact ((fr_tail (isB_ne hb)).trans (num_fr h1)).trans (must_fr h3)
  · obtain ⟨r2, h3, h4⟩ := thenE_inv h
    cases h4
    exact must_fr h3
theorem opn_inv {α : Type} {nest : Nat} {ts : List Tk} {x : Except Er α} {y : α} (h : opnV nest ts x = .ok y) : nest ≠ 200 ∧ x = .ok y := by
  unfold opnV at h
  split at h
  · cases h
  · rename_i hn; exact ⟨hn, h⟩
/-- What a reading of a row keeps to. -/
def FrO (rec : Nat → List Tk → Out) : Prop := ∀ nest ts ns r, rec nest ts = .ok (ns, r) → Fr ts r ∧ ns ≠ []
theorem name_fr {rec : Nat → List Tk → Out} (hr : FrO rec) {nest of at' : Nat} {ts r : List Tk} {ns : List (Nd × Nat)} (h : nameF rec nest of at' ts = .ok (ns, r)) : r <:+ ts ∧ ns ≠ [] := by
  unfold nameF at h
  split at h
  · rename_i hb
    obtain ⟨-, h⟩ := opn_inv h
    obtain ⟨⟨n1, r1⟩, h1, h2⟩ := thenE_inv h
    obtain ⟨⟨n2, r2⟩, h3, h4⟩ := thenE_inv h2
    cases h4
    exact ⟨((fr_tail (isB_ne hb.1)).trans ((hr _ _ _ _ h1).1.trans (size_fr h3))).1, by simp⟩
  · split at h
    · cases h
    · split at h
      · rename_i hb
        obtain ⟨⟨n, r1⟩, h1, h2⟩ := thenE_inv h
        cases h2
        exact ⟨((fr_tail (isB_ne hb.2)).trans (num_fr h1)).1, by simp⟩
      · split at h
        · exact ⟨(sided_fr h).1.1, (sided_fr h).2⟩
        · cases h
          exact ⟨List.suffix_refl _, by simp⟩
theorem part_fr {rec : Nat → List Tk → Out} (hr : FrO rec) : FrO (partF rec) := by
  intro nest ts ns r h
  unfold partF at h
  split at h
  · cases h
    exact ⟨fr_tail (hd_ne (by omega)), by simp⟩
  · split at h
    · rename_i hb
      obtain ⟨-, h⟩ := opn_inv h
      obtain ⟨⟨n1, r1⟩, h1, h2⟩ := thenE_inv h
      obtain ⟨r2, h3, h4⟩ := thenE_inv h2
      cases h4
      exact ⟨(fr_tail (isB_ne hb)).trans ((hr _ _ _ _ h1).1.trans (must_fr h3)), (hr _ _ _ _ h1).2⟩
    · split at h
      · cases h
      · rename_i hk
        have hk' : (hdT ts).kind = 2 := Decidable.byContradiction hk
        have hne := hd_ne (ts := ts) (by omega)
        split at h
        · obtain ⟨h1, h2⟩ := name_fr hr h
          have ht := fr_tail hne
          exact ⟨⟨h1.trans ht.1, Nat.lt_of_le_of_lt h1.length_le ht.2⟩, h2⟩
        · exact word_fr hk' h
theorem loop_fr {rec : List Tk → Out} (hr : ∀ ts ns r, rec ts = .ok (ns, r) → Fr ts r ∧ ns ≠ []) (k : Nat) : ∀ (f : Nat) (ns : List (Nd × Nat)) (ts : List Tk) (ms : List (Nd × Nat)) (r : List Tk), loopG rec k f ns ts = .ok (ms, r) → r <:+ ts ∧ (ns ≠ [] → ms ≠ [])
  | 0, ns, ts, ms, r, h => by
    cases h
    exact ⟨List.suffix_refl _, fun h => h⟩
  | f + 1, ns, ts, ms, r, h => by
    unfold loopG at h
    split at h
    · cases h
      exact ⟨List.suffix_refl _, fun h => h⟩
    · obtain ⟨⟨n1, r1⟩, h1, h2⟩ := thenE_inv h
      have hf := (hr _ _ _ h1).1.1.trans (List.tail_suffix ts)
      split at h2
      · cases h2
        exact ⟨hf, fun _ => by simp⟩
      · obtain ⟨h3, h4⟩ := loop_fr hr k f _ _ _ _ h2
        exact ⟨h3.trans hf, fun _ => h4 (by simp)⟩
theorem row_fr : ∀ (f k : Nat), FrO (rowF f k)
  | 0, k => fun nest ts ns r h => by cases h
  | f + 1, k => fun nest ts ns r h => by
    have ih := row_fr f
    rw [row_succ] at h
    unfold stepR at h
    split at h
    · rename_i hb
      obtain ⟨-, h⟩ := opn_inv h
      obtain ⟨⟨n1, r1⟩, h1, h2⟩ := thenE_inv h
      cases h2
      have hne : ts ≠ [] := by rcases hb.2 with hb | hb <;> exact isB_ne hb
      exact ⟨(fr_tail hne).trans (ih 3 _ _ _ _ h1).1, by simp⟩
    · split at h
      · rename_i hb
        obtain ⟨-, h⟩ := opn_inv h
        obtain ⟨⟨n1, r1⟩, h1, h2⟩ := thenE_inv h
        cases h2
        exact ⟨(fr_tail (isB_ne hb.2)).trans (ih 11 _ _ _ _ h1).1, by simp⟩
      · split at h
        · exact ih (k + 1) _ _ _ _ h
        · split at h
          · exact part_fr (ih 1) _ _ _ _ h
          · obtain ⟨⟨n1, r1⟩, h1, h2⟩ := thenE_inv h
            obtain ⟨h3, h4⟩ := ih (k + 1) _ _ _ _ h1
            obtain ⟨h5, h6⟩ := loop_fr (fun ts ns r h => ih (k + 1) nest ts ns r h) k _ _ _ _ _ h2
            exact ⟨⟨h5.trans h3.1, Nat.lt_of_le_of_lt h5.length_le h3.2⟩, h6 h4⟩

end Go.Proofs.YtbdmpjnlgdahmabGreatDoor
