/-
  Package types as landed: Parts. Chapter 12 in words: what follows of lists that are laid together. No Go text here. What is read of an argument that is a list of bytes; how much the second form counts.
-/
import Derived.Test.YtdajpnlpcdnckabLotP25
import Derived.Test.YtdajpnlpcdnckabLotP24
import Derived.Test.YtdajpnlpcdnckabLotP2
import Derived.Test.YtdajpnlpcdnckabRows
import Derived.ProofKit
import Derived.OpenShut
import Derived.ShutString
import Derived.ChangeOld
import Derived.SizedLaws
import Derived.JoinedCond
namespace Go.Proofs.Ytdajpnlpcdnckab
open Go.RowKit
set_option maxRecDepth 100000

def piecesG (t : List Ng) (ss : List Nat) (last : Nat) : List (List Ng) := List.zipWith (fun a b => (t.take b).drop a) ss (ss.tail ++ [last])
/-- The parts of a tree's root. -/
def partsG (t : List Ng) : Option (List (List Ng)) :=
  match t.getLast? with
  | none => none
  | some x => match arG x.kind with
    | none => none
    | some a => match startsG [] 0 (t.take (t.length - 1)) with
      | none => none
      | some ss => if ss.length = a then some (piecesG t ss (t.length - 1)) else none

theorem starts_incr : ∀ (l : List Ng) (ss ss' : List Nat) (k : Nat), startsG ss k l = some ss' → ss.Pairwise (· < ·) → (∀ s ∈ ss, s < k) → ss'.Pairwise (· < ·) ∧ ∀ s ∈ ss', s < k + l.length
  | [], ss, ss', k, h, h1, h2 => by cases h; exact ⟨h1, fun s hs => h2 s hs⟩
  | x :: l, ss, ss', k, h, h1, h2 => by
    simp only [startsG] at h
    split at h
    · cases h
    · rename_i a _
      split at h
      · cases h
      · split at h
        · have := starts_incr l _ ss' (k + 1) h (List.pairwise_append.2 ⟨h1, List.pairwise_singleton _ _, fun y hy z hz => by rw [List.mem_singleton.1 hz]; exact h2 y hy⟩) (fun s hs => by
            rcases List.mem_append.1 hs with hs | hs
            · have := h2 s hs; omega
            · rw [List.mem_singleton.1 hs]; omega)
          exact ⟨this.1, fun s hs => by have := this.2 s hs; rw [List.length_cons]; omega⟩
        · have := starts_incr l _ ss' (k + 1) h (h1.sublist (List.take_sublist _ _)) (fun s hs => by have := h2 s (List.mem_of_mem_take hs); omega)
          exact ⟨this.1, fun s hs => by have := this.2 s hs; rw [List.length_cons]; omega⟩
theorem ends_get {ss : List Nat} {last i : Nat} (hi : i < ss.length) (h1 : ss.Pairwise (· < ·)) (h2 : ∀ s ∈ ss, s < last) : ∃ e, (ss ++ [last])[i + 1]? = some e ∧ (ss.tail ++ [last])[i]? = some e ∧ ss[i] < e ∧ e ≤ last := by
  by_cases h : i + 1 < ss.length
  · refine ⟨ss[i + 1], by rw [List.getElem?_append_left h, List.getElem?_eq_getElem h], ?_, ?_, ?_⟩
    · rw [List.getElem?_append_left (by rw [List.length_tail]; omega), List.getElem?_tail, List.getElem?_eq_getElem h]
    · exact List.pairwise_iff_getElem.1 h1 i (i + 1) hi h (by omega)
    · exact Nat.le_of_lt (h2 _ (List.getElem_mem h))
  · refine ⟨last, ?_, ?_, h2 _ (List.getElem_mem hi), Nat.le_refl _⟩
    · rw [List.getElem?_append_right (by omega), show i + 1 - ss.length = 0 by omega]; rfl
    · rw [List.getElem?_append_right (by rw [List.length_tail]; omega), List.length_tail, show i - (ss.length - 1) = 0 by omega]; rfl
theorem pieces_get {t : List Ng} {ss : List Nat} {last i e : Nat} (hi : i < ss.length) (he : (ss.tail ++ [last])[i]? = some e) : (piecesG t ss last).getD i [] = (t.take e).drop ss[i] := by
  unfold piecesG
  rw [List.getD_eq_getElem?_getD, List.getElem?_zipWith, he, List.getElem?_eq_getElem hi]
  rfl
theorem pieces_len {t : List Ng} {ss : List Nat} {last : Nat} : (piecesG t ss last).length = ss.length := by
  unfold piecesG
  rw [List.length_zipWith, List.length_append, List.length_tail, List.length_singleton]
  omega

def nilV : Value := .slice none 0 0
/-- Lists of nodes in a row, each its own. -/
def NLv (w : World) (base : Nat) (v : Value) (vs : List Value) (pss : List (List Ng)) : Prop :=
  w.ownsRow base 22 1 v pss.length vs ∧ vs.length = pss.length ∧ (∀ i, i < pss.length → NgOwns w base (vs.getD i nilV) (pss.getD i [])) ∧
    ∀ i j, i < j → j < pss.length → ∀ x, (vs.getD i nilV).ownBlock = some x → (vs.getD j nilV).ownBlock ≠ some x
/-- What Parts tells. -/
def partsR (x : Option (List (List Ng))) (v : Value) (e : Ending) : Prop := match x with
  | none => e = .returned (.tuple #[nilV, .bool false])
  | some _ => e = .returned (.tuple #[v, .bool true])
def partsW (x : Option (List (List Ng))) (w : World) (base : Nat) (v : Value) : Prop := match x with
  | none => True
  | some pss => ∃ vs, NLv w base v vs pss

set_option maxHeartbeats 1000000 in
theorem clone_any (ad : Addr) (ca : Nat) (xs : List Ng) (w : World) (ha : CV w (some ad) (flatG xs)) (hm : xs.length * 72 ≤ 140737488355328) :
    Calls Try.prog 52 #[.slice (some ad) xs.length ca] w fun e w' => ∃ v, e = .returned v ∧ NgOwns w' w.heap.size v xs ∧ w.grownBy w' none := by
  obtain ⟨i0, hi, hz0, hz1, hz2⟩ := info_parts info32
  have H : Hid (CV w (some ad) (flatG xs)) := ha
  have HNQ : ∀ W : World, (binOp .eql 22 (.slice (some ad) xs.length ca) (.slice none 0 0)).run Try.prog W = .ok (.bool false) W := fun W => by kernel_rfl
  clear ha
  go_enter Try.func52, Try.ntmps52
  go_wp2_with (at_builtin; refine wpList_append_cv rfl (.tmp 5) (.tmp 6) 22 rfl 32 i0 _ 24 72 Try.underlying22 hi hz0 hz1 hz2 rfl (by decide) w.heap.size _ 0 [] rfl ?q1 (some ad) xs.length ca (flatG xs) rfl (flatG_len xs) (by simp) ?q2 (flatG_one xs) ?q3 ?q4 ?q5 ?q6)
  case q1 => exact World.ownsRow_made w #[] 0 (Nat.le_refl _) (Nat.zero_le _) rfl
  case q2 => exact H.out.keptNone (World.grownBy_alloc _ _ _)
  case q3 => unfold maxLen; omega
  case q4 => omega
  case q5 => simp
  case q6 =>
    intro v' w' h1 h2
    have G : w.grownBy w' none := grown_trans_new (World.grownBy_alloc w _ _) h2 (by intro x hx; simp [Value.ownBlock] at hx; omega)
    have O : NgOwns w' w.heap.size v' xs := by simpa using h1
    clear h2 h1
    go_wp2
    go_ret
    exact ⟨v', rfl, O, G⟩

theorem cv_takeG {w : World} {ad : Addr} {t : List Ng} (h : CV w (some ad) (flatG t)) (n : Nat) : CV w (some ad) (flatG (t.take n)) := by
  refine ⟨fun e => (by cases e), fun ad' had i hi => ?_⟩
  have e : flatG t = flatG (t.take n) ++ flatG (t.drop n) := by rw [← flatG_append, List.take_append_drop]
  have := h.2 ad' had i (by rw [e, List.length_append]; omega)
  rw [this]
  congr 1
  simp only [e, List.getElem_append_left hi]
theorem cv_dropG {w : World} {b o : Nat} {t : List Ng} (h : CV w (some ⟨b, o, none⟩) (flatG t)) (n : Nat) (hn : n ≤ t.length) : CV w (some ⟨b, o + n * 24, none⟩) (flatG (t.drop n)) := by
  refine ⟨fun e => (by cases e), fun ad had i hi => ?_⟩
  cases had
  have hl : (flatG (t.take n)).length = n * 24 := by rw [flatG_len, List.length_take, Nat.min_eq_left hn]
  have e : flatG t = flatG (t.take n) ++ flatG (t.drop n) := by rw [← flatG_append, List.take_append_drop]
  have := h.2 _ rfl (n * 24 + i) (by rw [e, List.length_append]; omega)
  rw [Addr.add_lit] at this
  rw [Addr.add_lit, Nat.add_assoc, this]
  congr 1
  simp only [e]
  rw [List.getElem_append_right (by omega)]
  congr 1
  omega

end Go.Proofs.Ytdajpnlpcdnckab

namespace Go.Proofs.Ytdajpnlpcdnckab
open Go.RowKit
set_option maxRecDepth 100000

theorem walkG_more {l : List Ng} (m : List Ng) {st : List Pt} {k : Nat} {x : Nat × Int} (h : walkG st k l = .error x) : walkG st k (l ++ m) = .error x := by rw [walkG_app, h]
theorem walkG_cut : ∀ (l : List Ng) (st : List Pt) (k : Nat) {p : Nat} {e : Int}, walkG st k l = .error (p, e) → walkG st k (l.take (p - k + 1)) = .error (p, e)
  | [], st, k, p, e, h => by cases h
  | x :: l, st, k, p, e, h => by
    have hp := walkG_at (x :: l) st k h
    simp only [walkG] at h
    rw [List.take_succ_cons, walkG]
    cases hs : stepG x st with
    | error e' => rw [hs] at h; exact h
    | ok s =>
      rw [hs] at h
      have h2 := walkG_at l s (k + 1) h
      have := walkG_cut l s (k + 1) h
      rw [show p - (k + 1) + 1 = p - k by omega] at this
      exact this
theorem joinG_truth (x : Ng) (ps : List Pt) : (joinG x ps).truth = truthG x.kind := by
  unfold joinG
  split
  · split <;> rfl
  · rfl
theorem stepG_last {x : Ng} {st s : List Pt} (h : stepG x st = .ok s) : ∃ s' p, s = s' ++ [p] ∧ p.truth = truthG x.kind := by
  unfold stepG at h
  split at h
  · cases h
  · split at h
    · cases h
    · split at h
      · cases h
      · cases h
        exact ⟨_, _, rfl, joinG_truth _ _⟩
theorem checkG_er {t : List Ng} {x : Nat × Int} (h : walkG [] 0 t = .error x) : checkG t = x := by rw [checkG, h]
/-- What is wrong with a node. -/
theorem check_first {t : List Ng} {p : Nat} {e : Int} (h : checkG t = (p, e)) (h0 : e ≠ 0) (h1 : e ≠ 126) (h2 : p < t.length) (h3 : e = 121 → t[p].kind = 7 ∨ t[p].kind = 8 ∨ t[p].kind = 9) : walkG [] 0 t = .error (p, e) := by
  cases hw : walkG [] 0 t with
  | error x => rw [checkG_er hw] at h; rw [h]
  | ok st =>
    exfalso
    rw [checkG, hw] at h
    simp only at h
    split at h
    · cases h; omega
    · rename_i hl
      split at h
      · rename_i htr
        cases h
        have hne : t ≠ [] := by intro e0; rw [e0] at h2; simp at h2
        have hsplit := List.dropLast_concat_getLast hne
        have hwl : walkG [] 0 (t.dropLast ++ [t.getLast hne]) = .ok st := by rw [hsplit]; exact hw
        rw [walkG_app] at hwl
        cases hb : walkG [] 0 t.dropLast with
        | error x => rw [hb] at hwl; cases hwl
        | ok s1 =>
          rw [hb] at hwl
          simp only [walkG] at hwl
          cases hs : stepG (t.getLast hne) s1 with
          | error e' => rw [hs] at hwl; cases hwl
          | ok s2 =>
            rw [hs] at hwl
            cases hwl
            obtain ⟨s', q, rfl, hq⟩ := stepG_last hs
            have hl1 : s' = [] := by
              rw [List.length_append, List.length_singleton] at hl
              exact List.eq_nil_of_length_eq_zero (by omega)
            subst hl1
            simp only [List.nil_append, List.getD_cons_zero] at htr
            rw [hq] at htr
            have h4 := h3 rfl
            have : t[t.length - 1] = t.getLast hne := by rw [List.getLast_eq_getElem]
            rw [this] at h4
            unfold truthG at htr
            rw [decide_eq_false_iff_not] at htr
            omega
      · split at h
        · cases h; exact h1 rfl
        · cases h; exact h0 rfl

/-- Beside parts that stand already. -/
theorem stepG_frame {x : Ng} {st s : List Pt} (st0 : List Pt) (h : stepG x st = .ok s) : stepG x (st0 ++ st) = .ok (st0 ++ s) := by
  unfold stepG at h ⊢
  split at h
  · cases h
  · rename_i a ha
    split at h
    · cases h
    · rename_i hl
      have hd : (st0 ++ st).drop ((st0 ++ st).length - a) = st.drop (st.length - a) := by
        rw [List.length_append, show st0.length + st.length - a = st0.length + (st.length - a) by omega, List.drop_append, List.drop_eq_nil_of_le (by omega), List.nil_append, Nat.add_sub_cancel_left]
      have ht : (st0 ++ st).take ((st0 ++ st).length - a) = st0 ++ st.take (st.length - a) := by
        rw [List.length_append, show st0.length + st.length - a = st0.length + (st.length - a) by omega, List.take_append, List.take_of_length_le (by omega), Nat.add_sub_cancel_left]
      split at h
      · cases h
      · rename_i hf
        cases h
        rw [if_neg (by rw [List.length_append]; omega), hd, if_neg hf, ht, List.append_assoc]
theorem walkG_frame : ∀ (l : List Ng) (st s st0 : List Pt) (k k' : Nat), walkG st k l = .ok s → walkG (st0 ++ st) k' l = .ok (st0 ++ s)
  | [], st, s, st0, k, k', h => by cases h; rfl
  | x :: l, st, s, st0, k, k', h => by
    simp only [walkG] at h ⊢
    cases hs : stepG x st with
    | error e => rw [hs] at h; cases h
    | ok s1 =>
      rw [hs] at h
      rw [stepG_frame st0 hs]
      exact walkG_frame l s1 s st0 (k + 1) (k' + 1) h
theorem walkG_place {l : List Ng} {st s : List Pt} {k : Nat} (k' : Nat) (h : walkG st k l = .ok s) : walkG st k' l = .ok s := by
  have := walkG_frame l st s [] k k' h
  simpa using this

theorem heavy_none : ∀ (l : List Ng) (w k : Nat), heavyG w k l = none ↔ (l = [] ∨ w + weightG l ≤ 3000)
  | [], w, k => by simp [heavyG]
  | x :: l, w, k => by
    have e : weightG (x :: l) = weighG x + weightG l := by simp [weightG]
    simp only [heavyG]
    by_cases h : 3000 < w + weighG x
    · rw [if_pos h]
      constructor
      · intro h2; cases h2
      · intro h2; rcases h2 with h2 | h2
        · cases h2
        · omega
    · rw [if_neg h, heavy_none l (w + weighG x) (k + 1)]
      constructor
      · rintro (rfl | h2)
        · right; rw [e]; simp [weightG]; omega
        · right; omega
      · rintro (h2 | h2)
        · cases h2
        · right; omega
/-- A filter. -/
theorem filt_iff {t : List Ng} : (checkG t).2 = 0 ↔ ∃ p, walkG [] 0 t = .ok [p] ∧ p.truth = true ∧ weightG t ≤ 3000 := by
  constructor
  · intro h
    cases hw : walkG [] 0 t with
    | error x =>
      obtain ⟨k, e⟩ := x
      rw [checkG_er hw] at h
      have := walkG_er t [] 0 hw
      simp only at h
      omega
    | ok st =>
      rw [checkG, hw] at h
      simp only at h
      split at h
      · cases h
      · rename_i hl
        split at h
        · cases h
        · rename_i ht
          match st, hl with
          | [p], _ =>
            refine ⟨p, rfl, by simpa using ht, ?_⟩
            cases hh : heavyG 0 0 t with
            | some q => rw [hh] at h; cases h
            | none =>
              rcases (heavy_none t 0 0).1 hh with rfl | h2
              · simp [weightG]
              · omega
          | [], hl => exact absurd (by simp) hl
          | _ :: _ :: _, hl => exact absurd (by simp) hl
  · rintro ⟨p, hw, hp, hwt⟩
    rw [checkG, hw]
    simp only [List.length_singleton, ne_eq, not_true_eq_false, if_false, List.getD_cons_zero, hp]
    rw [(heavy_none t 0 0).2 (.inr (by omega))]
    rfl
theorem filt_ne {t : List Ng} {p : Pt} (h : walkG [] 0 t = .ok [p]) : t ≠ [] := by
  intro e
  rw [e] at h
  cases h
theorem weighG_pos {x : Ng} (h : 1 ≤ x.kind ∧ x.kind ≤ 16) : 1 ≤ weighG x := by
  obtain ⟨k, hk⟩ : ∃ k : Nat, x.kind = k := Int.eq_ofNat_of_zero_le (by omega)
  unfold weighG
  rw [hk]
  rcases sixteen (k := k) (by omega) (by omega) with rfl | rfl | rfl | rfl | rfl | rfl | rfl | rfl | rfl | rfl | rfl | rfl | rfl | rfl | rfl | rfl
  all_goals first
    | exact Nat.le_refl 1
    | (show 1 ≤ (_ : Nat); simp; done)
    | (simp; split <;> omega)
theorem walkG_weighs : ∀ (l : List Ng) (st s : List Pt) (k : Nat), walkG st k l = .ok s → l.length ≤ weightG l
  | [], _, _, _, _ => Nat.le_refl _
  | x :: l, st, s, k, h => by
    simp only [walkG] at h
    cases hs : stepG x st with
    | error e => rw [hs] at h; cases h
    | ok s1 =>
      rw [hs] at h
      have := walkG_weighs l s1 s (k + 1) h
      have hx : 1 ≤ weighG x := by
        unfold stepG at hs
        split at hs
        · cases hs
        · rename_i a ha
          exact weighG_pos (arG_in ha)
      have e : weightG (x :: l) = weighG x + weightG l := by simp [weightG]
      rw [List.length_cons]
      omega
theorem filt_len {t : List Ng} (h : (checkG t).2 = 0) : t.length ≤ 3000 := by
  obtain ⟨p, hw, -, hwt⟩ := filt_iff.1 h
  have := walkG_weighs t [] _ 0 hw
  omega

/-- A node behind a walk. -/
theorem walkG_snoc {t : List Ng} {st : List Pt} (x : Ng) (h : walkG [] 0 t = .ok st) : walkG [] 0 (t ++ [x]) = match stepG x st with | .error e => .error (t.length, e) | .ok s => .ok s := by
  rw [walkG_app, h]
  simp only [walkG, Nat.zero_add]
  cases stepG x st <;> rfl

end Go.Proofs.Ytdajpnlpcdnckab

namespace Go.Proofs.Ytdajpnlpcdnckab
open Go.ChangeShapes Go.WideShapes Go.ChangeAt Go.RowKit
set_option maxRecDepth 100000

theorem own : ownKnob Try.prog.godebug = none := by kernel_rfl
theorem laidOut : laidOutB Try.prog = true := by kernel_rfl
theorem bytes5 : Try.prog.bytesOf 5 = 1 := by kernel_rfl

theorem open_bytes {H : Type} {enc : TypeId × Value → H} {P : Program} {W : World} {t e : TypeId} {d : DataW H} {ps : List MemPlace} {a : Option Addr} {len cap : Nat}
    (ht : P.underlying t = some (.slice e)) (he : P.underlying e = some (.int .u8)) (hc : P.cellsOf e = 1)
    (h : DataW.Trod enc P W 0 (fun _ => true) true t (.slice a len cap) d ps) :
    ∃ xs : List UInt8, len = xs.length ∧ Cells W a xs ∧ (a = none → cap = 0) ∧ ((d = .nil ∧ xs = []) ∨ ∃ elems spare, d = .slice elems spare ∧ xs.length ≤ elems.length + spare.length) := by
  obtain ⟨fuel, hf⟩ := h
  rcases open_ints ht he hc hf with ⟨hcs, hx⟩ | ⟨x, l, c, zs, hcs, _, hl, hm, hz, hx, hcell, hwz⟩
  · simp [Value.cells] at hcs
    obtain ⟨rfl, rfl, rfl⟩ := hcs
    simp only [Prod.mk.injEq] at hx
    exact ⟨[], rfl, ⟨fun _ => rfl, fun ad had => (by cases had)⟩, fun _ => rfl, .inl ⟨hx.1, rfl⟩⟩
  · simp [Value.cells] at hcs
    obtain ⟨rfl, rfl, rfl⟩ := hcs
    simp only [Prod.mk.injEq] at hx
    have hz' : zs.length = cap := by simpa using hz
    have hlen : ((zs.take len).map fun z => UInt8.ofNat z.toNat).length = len := by simp; omega
    refine ⟨(zs.take len).map fun z => UInt8.ofNat z.toNat, hlen.symm, ⟨fun h => (by cases h), fun ad had i hi => ?_⟩, fun h => (by cases h), .inr ⟨_, _, hx.1, ?_⟩⟩
    · obtain rfl := Option.some.inj had
      rw [hlen] at hi
      have hiz : i < zs.length := by omega
      rw [hcell i hiz]
      have hw := bounds_u8 (hwz (zs[i]) (List.getElem_mem hiz))
      simp only [List.getD_eq_getElem?_getD, List.getElem?_eq_getElem hiz, Option.getD_some, List.getElem_map, List.getElem_take, bv]
      congr 2
      simp
      omega
    · rw [hlen]
      simp [lits]
      omega

theorem bulk_one {H : Type} (d : DataW H) : 1 ≤ Rows.uptoBulk d := by
  unfold Rows.uptoBulk
  split <;> omega

theorem bulk_all {H : Type} (l : List (DataW H)) : l.length ≤ Rows.uptoBulkAll l := by
  induction l with
  | nil => exact Nat.zero_le _
  | cons x r ih =>
    have := bulk_one x
    rw [Rows.uptoBulkAll, List.length_cons]
    omega

/-- A list's places count. -/
theorem bulk_slice {H : Type} (elems spare : List (DataW H)) : elems.length + spare.length + 1 ≤ Rows.uptoBulk (.slice elems spare) := by
  have h1 := bulk_all elems
  have h2 := bulk_all spare
  rw [Rows.uptoBulk]
  omega

/-- A text's letters count. -/
theorem bulk_string {H : Type} (s : ByteArray) : Rows.uptoBulk (DataW.lit (H := H) (.string s.data.toList)) = s.size + 1 := by
  rw [Rows.uptoBulk, Array.length_toList]
  rfl

end Go.Proofs.Ytdajpnlpcdnckab
