import Derived.Test.YtklipelnjgpnjaaGreatDoorLotA13
import Derived.Deep.QuietTactic
import Derived.Test.YtklipelnjgpnjaaGreatDoorLotA2
import Derived.Test.YtklipelnjgpnjaaGreatDoorLotA8
import Derived.Test.YtklipelnjgpnjaaGreatDoorLotA5
import Derived.Deep.MidRow
namespace Go.Proofs.YtklipelnjgpnjaaGreatDoor
open Go.RowKit
set_option maxRecDepth 100000
def Pt.ok (p : Pt) : Prop := (p.fixed = false → p.val = 0) ∧ (p.truth = true → p.fixed = false)
def checkR (t : List Ng) : Value := .tuple #[.int .i64 ((checkG t).1 : Int), .int .i64 (checkG t).2]
set_option maxHeartbeats 2000000 in
theorem check12_any (ao : Option Addr) (cap : Nat) (t : List Ng) (w : World) (C : CV w ao (flatG t)) (hm : t.length * 72 ≤ 140737488355328) (hn : ∀ x ∈ t, x.n ≤ 4294967295) :
  Calls Tryz.prog 16 #[.slice ao t.length cap] w fun e w' => e = .returned (checkR t) ∧ w.grownBy w' none := by
 have HC : Hid (CV w ao (flatG t)) := C
 obtain ⟨E, hE⟩ : ∃ E, checkR t = E := ⟨_, rfl⟩
 rw [hE]
 have HE : Hid (checkR t = E) := hE
 have HNN : Hid (∀ x ∈ t, x.n ≤ 4294967295) := hn
 clear C hE hn
 go_enter Tryz.func16, Tryz.ntmps16
 go_wp2_with fail
 refine (rules_any _).mono ?_
 rintro e w1 ⟨R, rfl, T, K1⟩
 have CW := walk_any ao cap t R w1 T (HC.out.keptNone K1) hm HNN.out
 have HT : Hid (TabT R w1) := T
 have HK1 : Hid (w.grownBy w1 none) := K1
 clear T K1
 go_wp2_with fail
 refine CW.mono ?_
 rintro e w2 ⟨v, hR, O, K2⟩
 clear CW
 cases hwk : walkG [] 0 t with
 | error er =>
  obtain ⟨k, er⟩ := er
  rw [hwk] at hR
  simp only [walkR] at hR
  subst hR
  have h3 := walkG_er t [] 0 hwk
  have e1 : (er != 0) = true := by rw [bne_iff_ne]; omega
  have HF : Hid (E = .tuple #[.int .i64 (k : Int), .int .i64 er]) := by
   show E = _
   rw [← HE.out, checkR, checkG, hwk]
  have G := grown_trans HK1.out K2
  clear O hwk h3
  go_wp2
  go_ret2
  exact ⟨by rw [HF.out]; rfl, G⟩
 | ok st =>
  rw [hwk] at hR O
  simp only [walkR] at hR
  subst hR
  have HO : Hid (POwns w2 w1.heap.size v st) := O
  obtain ⟨aL, cL, rfl, CL, -⟩ := cv_of_row O
  have HG : Hid (w.grownBy w2 none) := grown_trans HK1.out K2
  have HCK : Hid (checkG t = if st.length ≠ 1 then (t.length, (120 : Int)) else if (st.getD 0 pt0).truth = false then (t.length - 1, 121) else match heavyG 0 0 t with | some k => (k, (126 : Int)) | none => (0, 0)) := by
   show _ = _
   rw [checkG, hwk]
   rfl
  have hlen := walkG_len t [] st 0 hwk
  simp only [walkL, List.length_nil, Nat.zero_add] at hlen CL ⊢
  by_cases h1 : st.length = 1
  ·match st, h1 with
   | [p], _ =>
    obtain ⟨b, o, rfl, hc⟩ := CL.pts ptC_len (k := 0) (by simp)
    have c0 := hc 0 (by simp) 0 (.int .i64 (if p.truth = true then 0 else 1)) rfl
    simp only [Nat.zero_mul, Nat.add_zero] at c0
    have hl1 : 1 ≤ t.length := by simpa using hlen
    rw [show [p].length = 1 from rfl]
    clear CL hc O hlen hwk HO
    cases hp : p.truth with
    | false =>
     rw [hp] at c0
     have HF : Hid (E = .tuple #[.int .i64 ((t.length - 1 : Nat) : Int), .int .i64 121]) := by
      show E = _
      rw [← HE.out, checkR, HCK.out]
      simp [hp]
     have q : ((t.length - 1 : Nat) : Int) = (t.length : Int) - 1 := by omega
     have w3 : IntKind.i64.wrap ((t.length : Int) - 1) = (t.length : Int) - 1 := by rw [IntKind.wrap_i64]; omega
     rw [q] at HF
     clear q HCK hp
     go_wp2
     go_ret2
     exact ⟨by rw [HF.out]; rfl, HG.out⟩
    | true =>
     rw [hp] at c0
     have HF : Hid (checkG t = match heavyG 0 0 t with | some k => (k, (126 : Int)) | none => (0, 0)) := by
      show _ = _
      rw [HCK.out]
      simp [hp]
     have CH := heavy_any ao cap t R w2 (HT.out.kept K2) (HC.out.keptNone HG.out) hm
     clear HCK hp
     go_wp2_with fail
     refine CH.mono ?_
     rintro e w3 ⟨rfl, K3⟩
     have G3 := grown_trans HG.out K3
     clear CH K3
     cases hh : heavyG 0 0 t with
     | none =>
      have HF2 : Hid (E = .tuple #[.int .i64 0, .int .i64 0]) := by
       show E = _
       rw [← HE.out, checkR, HF.out, hh]
       rfl
      simp only [heavyR]
      clear hh HF
      go_wp2
      go_ret2
      exact ⟨by rw [HF2.out]; rfl, G3⟩
     | some q =>
      have HF2 : Hid (E = .tuple #[.int .i64 (q : Int), .int .i64 126]) := by
       show E = _
       rw [← HE.out, checkR, HF.out, hh]
      simp only [heavyR]
      clear hh HF
      go_wp2
      go_ret2
      exact ⟨by rw [HF2.out]; rfl, G3⟩
  ·have e1 : ((st.length : Int) != 1) = true := by rw [bne_iff_ne]; omega
   have HF : Hid (E = .tuple #[.int .i64 (t.length : Int), .int .i64 120]) := by
    show E = _
    rw [← HE.out, checkR, HCK.out, if_pos h1]
   clear h1 CL O hwk HO HCK hlen
   go_wp2
   go_ret2
   exact ⟨by rw [HF.out]; rfl, HG.out⟩
def ZSpoilRel (w : World) (row : Option Nat) (g g' n n' : Nat) (wr : World) : Prop := BlkN wr 3 g n ∧ BlkN wr 3 g' n' ∧ w.grownBy wr row
theorem ZSpoilRel.set {w wr : World} {row : Option Nat} {g g' n n' : Nat} (h : ZSpoilRel w row g g' n n' wr) {p : Addr} (hp : row = some p.block ∨ w.heap.size ≤ p.block) (u : Value) : ZSpoilRel w row g g' n n' (wr.setCell p u) :=
 ⟨h.1.setCell _ _, h.2.1.setCell _ _, grown_setCell h.2.2 _ _ hp⟩
def sv (n : Nat) : Value := .int .i64 (n : Int)
abbrev TsOwns (w : World) (base : Nat) (v : Value) (ss : List Nat) : Prop := w.ownsRow base 3 1 v ss.length (ss.map sv)
theorem setCells_blk {w : World} {e : TypeId} {g n : Nat} (b : Nat) : ∀ (vs : List Value) (o : Nat) (w : World), BlkN w e g n → BlkN (w.setCells b o vs) e g n
 | [], _, _, h => h
 | v :: r, o, _, h => setCells_blk (w := w) b r (o + 1) _ (h.setCell _ v)
theorem setCells_grown {w : World} {row : Option Nat} (b : Nat) (hp : row = some b ∨ w.heap.size ≤ b) : ∀ (vs : List Value) (o : Nat) (W : World), w.grownBy W row → w.grownBy (W.setCells b o vs) row
 | [], _, _, h => h
 | v :: r, o, _, h => setCells_grown b hp r (o + 1) _ (grown_setCell h ⟨b, o, none⟩ v hp)
def GSpoilRel (w : World) (row : Option Nat) (g g' n n' : Nat) (wr : World) : Prop := BlkN wr 43 g n ∧ BlkN wr 43 g' n' ∧ w.grownBy wr row
theorem GSpoilRel.set {w wr : World} {row : Option Nat} {g g' n n' : Nat} (h : GSpoilRel w row g g' n n' wr) {b : Nat} (o : Nat) (vs : List Value) (hp : row = some b ∨ w.heap.size ≤ b) : GSpoilRel w row g g' n n' (wr.setCells b o vs) :=
 ⟨setCells_blk (w := w) b vs o wr h.1, setCells_blk (w := w) b vs o wr h.2.1, setCells_grown b hp vs o wr h.2.2⟩
def piecesG (t : List Ng) (ss : List Nat) (last : Nat) : List (List Ng) := List.zipWith (fun a b => (t.take b).drop a) ss (ss.tail ++ [last])
def partsG (t : List Ng) : Option (List (List Ng)) :=
 match t.getLast? with
 | none => none
 | some x => match arG x.kind with
  | none => none
  | some a => match startsG [] 0 (t.take (t.length - 1)) with
   | none => none
   | some ss => if ss.length = a then some (piecesG t ss (t.length - 1)) else none
def tynilV : Value := .slice none 0 0
theorem checkG_er {t : List Ng} {x : Nat × Int} (h : walkG [] 0 t = .error x) : checkG t = x := by rw [checkG, h]
theorem stepG_frame {x : Ng} {st s : List Pt} (st0 : List Pt) (h : stepG x st = .ok s) : stepG x (st0 ++ st) = .ok (st0 ++ s) := by
 unfold stepG at h ⊢
 split at h
 ·cases h
 ·rename_i a ha
  split at h
  ·cases h
  ·rename_i hl
   have hd : (st0 ++ st).drop ((st0 ++ st).length - a) = st.drop (st.length - a) := by
    rw [List.length_append, show st0.length + st.length - a = st0.length + (st.length - a) by omega, List.drop_append, List.drop_eq_nil_of_le (by omega), List.nil_append, Nat.add_sub_cancel_left]
   have ht : (st0 ++ st).take ((st0 ++ st).length - a) = st0 ++ st.take (st.length - a) := by
    rw [List.length_append, show st0.length + st.length - a = st0.length + (st.length - a) by omega, List.take_append, List.take_of_length_le (by omega), Nat.add_sub_cancel_left]
   split at h
   ·cases h
   ·rename_i hf
    cases h
    rw [if_neg (by rw [List.length_append]; omega), hd, if_neg hf, ht, List.append_assoc]
theorem walkG_frame : ∀ (l : List Ng) (st s st0 : List Pt) (k k' : Nat), walkG st k l = .ok s → walkG (st0 ++ st) k' l = .ok (st0 ++ s)
 | [], st, s, st0, k, k', h => by cases h; rfl
 | x :: l, st, s, st0, k, k', h => by
  simp only [walkG] at h ⊢
  cases hs : stepG x st with
  | error e => rw [hs] at h; cases h
  | ok s1 =>
   rw [hs] at h
   rw [stepG_frame st0 hs]
   exact walkG_frame l s1 s st0 (k + 1) (k' + 1) h
theorem heavy_none : ∀ (l : List Ng) (w k : Nat), heavyG w k l = none ↔ (l = [] ∨ w + weightG l ≤ 3000)
 | [], w, k => by simp [heavyG]
 | x :: l, w, k => by
  have e : weightG (x :: l) = weighG x + weightG l := by simp [weightG]
  simp only [heavyG]
  by_cases h : 3000 < w + weighG x
  ·rw [if_pos h]
   constructor
   ·intro h2; cases h2
   ·intro h2; rcases h2 with h2 | h2
    ·cases h2
    ·omega
  ·rw [if_neg h, heavy_none l (w + weighG x) (k + 1)]
   constructor
   ·rintro (rfl | h2)
    ·right; rw [e]; simp [weightG]; omega
    ·right; omega
   ·rintro (h2 | h2)
    ·cases h2
    ·right; omega
theorem filt_iff {t : List Ng} : (checkG t).2 = 0 ↔ ∃ p, walkG [] 0 t = .ok [p] ∧ p.truth = true ∧ weightG t ≤ 3000 := by
 constructor
 ·intro h
  cases hw : walkG [] 0 t with
  | error x =>
   obtain ⟨k, e⟩ := x
   rw [checkG_er hw] at h
   have := walkG_er t [] 0 hw
   simp only at h
   omega
  | ok st =>
   rw [checkG, hw] at h
   simp only at h
   split at h
   ·cases h
   ·rename_i hl
    split at h
    ·cases h
    ·rename_i ht
     match st, hl with
     | [p], _ =>
      refine ⟨p, rfl, by simpa using ht, ?_⟩
      cases hh : heavyG 0 0 t with
      | some q => rw [hh] at h; cases h
      | none =>
       rcases (heavy_none t 0 0).1 hh with rfl | h2
       ·simp [weightG]
       ·omega
     | [], hl => exact absurd (by simp) hl
     | _ :: _ :: _, hl => exact absurd (by simp) hl
 ·rintro ⟨p, hw, hp, hwt⟩
  rw [checkG, hw]
  simp only [List.length_singleton, ne_eq, not_true_eq_false, if_false, List.getD_cons_zero, hp]
  rw [(heavy_none t 0 0).2 (.inr (by omega))]
  rfl
theorem weighG_pos {x : Ng} (h : 1 ≤ x.kind ∧ x.kind ≤ 16) : 1 ≤ weighG x := by
 obtain ⟨k, hk⟩ : ∃ k : Nat, x.kind = k := Int.eq_ofNat_of_zero_le (by omega)
 unfold weighG
 rw [hk]
 rcases sixteen (k := k) (by omega) (by omega) with rfl | rfl | rfl | rfl | rfl | rfl | rfl | rfl | rfl | rfl | rfl | rfl | rfl | rfl | rfl | rfl
 all_goals first
  | exact Nat.le_refl 1
  | (show 1 ≤ (_ : Nat); simp; done)
  | (simp; split <;> omega)
theorem walkG_weighs : ∀ (l : List Ng) (st s : List Pt) (k : Nat), walkG st k l = .ok s → l.length ≤ weightG l
 | [], _, _, _, _ => Nat.le_refl _
 | x :: l, st, s, k, h => by
  simp only [walkG] at h
  cases hs : stepG x st with
  | error e => rw [hs] at h; cases h
  | ok s1 =>
   rw [hs] at h
   have := walkG_weighs l s1 s (k + 1) h
   have hx : 1 ≤ weighG x := by
    unfold stepG at hs
    split at hs
    ·cases hs
    ·rename_i a ha
     exact weighG_pos (arG_in ha)
   have e : weightG (x :: l) = weighG x + weightG l := by simp [weightG]
   rw [List.length_cons]
   omega
theorem walkG_snoc {t : List Ng} {st : List Pt} (x : Ng) (h : walkG [] 0 t = .ok st) : walkG [] 0 (t ++ [x]) = match stepG x st with | .error e => .error (t.length, e) | .ok s => .ok s := by
 rw [walkG_app, h]
 simp only [walkG, Nat.zero_add]
 cases stepG x st <;> rfl

end Go.Proofs.YtklipelnjgpnjaaGreatDoor
