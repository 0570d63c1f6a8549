/-
  Package types as landed: Check, Constant. Lists of ints: SameInts, SpoilInts. Package types as landed: where each of the trees begins that are left. Nodes of whatever numbers: LendNodes, KeptNodes, SpoilNodes. Package types as landed: Parts. Chapter 12 in words: what follows of lists that are laid together. No Go text here.
-/
import Derived.Test.YtnojpepjloceoaaGreatTyW
import Derived.Deep.QuietTactic
import Derived.Test.YtnojpepjloceoaaGreatLotP17
import Derived.Test.YtnojpepjloceoaaGreatLotP4
import Derived.Test.YtnojpepjloceoaaGreatLotP18
import Derived.Test.YtnojpepjloceoaaGreatLotP29
import Derived.Deep.MidRow
namespace Go.Proofs.YtnojpepjloceoaaGreat
open Go.RowKit
set_option maxRecDepth 100000

/-- What stands of a part: one that is no constant has no value, a truth is no constant. -/
def Pt.ok (p : Pt) : Prop := (p.fixed = false → p.val = 0) ∧ (p.truth = true → p.fixed = false)
theorem joinG_ok (x : Ng) (ps : List Pt) : (joinG x ps).ok := by
  unfold joinG
  split
  · cases e : valG x ps with
    | none => exact ⟨fun _ => rfl, fun _ => rfl⟩
    | some v =>
      refine ⟨(fun h => by cases h), fun h => ?_⟩
      simp only [truthG, decide_eq_true_eq] at h
      unfold valG at e
      rw [if_neg (by omega), if_neg (by omega), if_neg (by omega)] at e
      cases e
  · exact ⟨fun _ => rfl, fun _ => rfl⟩
theorem stepG_ok {x : Ng} {st s : List Pt} (h : stepG x st = .ok s) (hs : ∀ p ∈ st, p.ok) : ∀ p ∈ s, p.ok := by
  unfold stepG at h
  split at h
  · cases h
  · split at h
    · cases h
    · split at h
      · cases h
      · cases h
        intro p hp
        rcases List.mem_append.1 hp with hp | hp
        · exact hs p (List.mem_of_mem_take hp)
        · rw [List.mem_singleton.1 hp]; exact joinG_ok _ _
theorem walkG_ok : ∀ (l : List Ng) (st s : List Pt) (k : Nat), walkG st k l = .ok s → (∀ p ∈ st, p.ok) → ∀ p ∈ s, p.ok
  | [], st, s, k, h, hs => by cases h; exact hs
  | x :: l, st, s, k, h, hs => by
    simp only [walkG] at h
    cases e : stepG x st with
    | error e' => rw [e] at h; cases h
    | ok s1 => rw [e] at h; exact walkG_ok l s1 s (k + 1) h (stepG_ok e hs)

def checkR (t : List Ng) : Value := .tuple #[.int .i64 ((checkG t).1 : Int), .int .i64 (checkG t).2]
def constR (o : Option Nat) : Value := match o with
  | some v => .tuple #[.int .u32 (v : Int), .bool true]
  | none => .tuple #[.int .u32 0, .bool false]

set_option maxHeartbeats 2000000 in
theorem check12_any (ao : Option Addr) (cap : Nat) (t : List Ng) (w : World) (C : CV w ao (flatG t)) (hm : t.length * 72 ≤ 140737488355328) (hn : ∀ x ∈ t, x.n ≤ 4294967295) :
    Calls Tryz.prog 50 #[.slice ao t.length cap] w fun e w' => e = .returned (checkR t) ∧ w.grownBy w' none := by
  have HC : Hid (CV w ao (flatG t)) := C
  obtain ⟨E, hE⟩ : ∃ E, checkR t = E := ⟨_, rfl⟩
  rw [hE]
  have HE : Hid (checkR t = E) := hE
  have HNN : Hid (∀ x ∈ t, x.n ≤ 4294967295) := hn
  clear C hE hn
  go_enter Tryz.func50, Tryz.ntmps50
  go_wp2_with fail
  refine (rules_any _).mono ?_
  rintro e w1 ⟨R, rfl, T, K1⟩
  have CW := walk_any ao cap t R w1 T (HC.out.keptNone K1) hm HNN.out
  have HT : Hid (TabT R w1) := T
  have HK1 : Hid (w.grownBy w1 none) := K1
  clear T K1
  go_wp2_with fail
  refine CW.mono ?_
  rintro e w2 ⟨v, hR, O, K2⟩
  clear CW
  cases hwk : walkG [] 0 t with
  | error er =>
    obtain ⟨k, er⟩ := er
    rw [hwk] at hR
    simp only [walkR] at hR
    subst hR
    have h3 := walkG_er t [] 0 hwk
    have e1 : (er != 0) = true := by rw [bne_iff_ne]; omega
    have HF : Hid (E = .tuple #[.int .i64 (k : Int), .int .i64 er]) := by
      show E = _
      rw [← HE.out, checkR, checkG, hwk]
    have G := grown_trans HK1.out K2
    clear O hwk h3
    go_wp2
    go_ret2
    exact ⟨by rw [HF.out]; rfl, G⟩
  | ok st =>
    rw [hwk] at hR O
    simp only [walkR] at hR
    subst hR
    have HO : Hid (POwns w2 w1.heap.size v st) := O
    obtain ⟨aL, cL, rfl, CL, -⟩ := cv_of_row O
    have HG : Hid (w.grownBy w2 none) := grown_trans HK1.out K2
    have HCK : Hid (checkG t = if st.length ≠ 1 then (t.length, (120 : Int)) else if (st.getD 0 pt0).truth = false then (t.length - 1, 121) else match heavyG 0 0 t with | some k => (k, (126 : Int)) | none => (0, 0)) := by
      show _ = _
      rw [checkG, hwk]
      rfl
    have hlen := walkG_len t [] st 0 hwk
    simp only [walkL, List.length_nil, Nat.zero_add] at hlen CL ⊢
    by_cases h1 : st.length = 1
    · match st, h1 with
      | [p], _ =>
        obtain ⟨b, o, rfl, hc⟩ := CL.pts ptC_len (k := 0) (by simp)
        have c0 := hc 0 (by simp) 0 (.int .i64 (if p.truth = true then 0 else 1)) rfl
        simp only [Nat.zero_mul, Nat.add_zero] at c0
        have hl1 : 1 ≤ t.length := by simpa using hlen
        rw [show [p].length = 1 from rfl]
        clear CL hc O hlen hwk HO
        cases hp : p.truth with
        | false =>
          rw [hp] at c0
          have HF : Hid (E = .tuple #[.int .i64 ((t.length - 1 : Nat) : Int), .int .i64 121]) := by
            show E = _
            rw [← HE.out, checkR, HCK.out]
            simp [hp]
          have q : ((t.length - 1 : Nat) : Int) = (t.length : Int) - 1 := by omega
          have w3 : IntKind.i64.wrap ((t.length : Int) - 1) = (t.length : Int) - 1 := by rw [IntKind.wrap_i64]; omega
          rw [q] at HF
          clear q HCK hp
          go_wp2
          go_ret2
          exact ⟨by rw [HF.out]; rfl, HG.out⟩
        | true =>
          rw [hp] at c0
          have HF : Hid (checkG t = match heavyG 0 0 t with | some k => (k, (126 : Int)) | none => (0, 0)) := by
            show _ = _
            rw [HCK.out]
            simp [hp]
          have CH := heavy_any ao cap t R w2 (HT.out.kept K2) (HC.out.keptNone HG.out) hm
          clear HCK hp
          go_wp2_with fail
          refine CH.mono ?_
          rintro e w3 ⟨rfl, K3⟩
          have G3 := grown_trans HG.out K3
          clear CH K3
          cases hh : heavyG 0 0 t with
          | none =>
            have HF2 : Hid (E = .tuple #[.int .i64 0, .int .i64 0]) := by
              show E = _
              rw [← HE.out, checkR, HF.out, hh]
              rfl
            simp only [heavyR]
            clear hh HF
            go_wp2
            go_ret2
            exact ⟨by rw [HF2.out]; rfl, G3⟩
          | some q =>
            have HF2 : Hid (E = .tuple #[.int .i64 (q : Int), .int .i64 126]) := by
              show E = _
              rw [← HE.out, checkR, HF.out, hh]
            simp only [heavyR]
            clear hh HF
            go_wp2
            go_ret2
            exact ⟨by rw [HF2.out]; rfl, G3⟩
    · have e1 : ((st.length : Int) != 1) = true := by rw [bne_iff_ne]; omega
      have HF : Hid (E = .tuple #[.int .i64 (t.length : Int), .int .i64 120]) := by
        show E = _
        rw [← HE.out, checkR, HCK.out, if_pos h1]
      clear h1 CL O hwk HO HCK hlen
      go_wp2
      go_ret2
      exact ⟨by rw [HF.out]; rfl, HG.out⟩

end Go.Proofs.YtnojpepjloceoaaGreat

namespace Go.Proofs.YtnojpepjloceoaaGreat
open Go.RowKit
set_option maxRecDepth 100000


def iv (z : Int) : Value := .int .i64 z

abbrev ZOwns (w : World) (base : Nat) (v : Value) (bs : List Int) : Prop := w.ownsRow base 3 1 v bs.length (bs.map iv)

theorem CV.ints {w : World} {ao : Option Addr} {bs : List Int} (h : CV w ao (bs.map iv)) {k : Nat} (hk : k < bs.length) :
    ∃ b off, ao = some ⟨b, off, none⟩ ∧ ∀ i (hi : i < bs.length), w.cell? ⟨b, off + i, none⟩ = some (.int .i64 bs[i]) := by
  obtain ⟨b, off, hao, hc⟩ := h.addr (k := k) (by simpa using hk)
  exact ⟨b, off, hao, fun i hi => by rw [hc i (by simpa using hi)]; simp [iv]⟩

/-- The two loops of SpoilInts, behind its append. -/
def ZSpoilRel (w : World) (row : Option Nat) (g g' n n' : Nat) (wr : World) : Prop := BlkN wr 3 g n ∧ BlkN wr 3 g' n' ∧ w.grownBy wr row

theorem ZSpoilRel.set {w wr : World} {row : Option Nat} {g g' n n' : Nat} (h : ZSpoilRel w row g g' n n' wr) {p : Addr} (hp : row = some p.block ∨ w.heap.size ≤ p.block) (u : Value) : ZSpoilRel w row g g' n n' (wr.setCell p u) :=
  ⟨h.1.setCell _ _, h.2.1.setCell _ _, grown_setCell h.2.2 _ _ hp⟩

end Go.Proofs.YtnojpepjloceoaaGreat

namespace Go.Proofs.YtnojpepjloceoaaGreat
open Go.RowKit
set_option maxRecDepth 100000

def sv (n : Nat) : Value := .int .i64 (n : Int)
abbrev TsOwns (w : World) (base : Nat) (v : Value) (ss : List Nat) : Prop := w.ownsRow base 3 1 v ss.length (ss.map sv)
theorem sv_one (ss : List Nat) : ∀ u ∈ ss.map sv, u.oneCell' = true := by
  intro u hu
  obtain ⟨n, -, rfl⟩ := List.mem_map.1 hu
  rfl
theorem info_int : (Tryz.prog.info? 3).map (fun i => (i.zero, i.size, i.bytes)) = some (some (.int .i64 0), 1, 8) := by kernel_rfl
theorem lit_one_int (z : Int) (W : World) : (Instr.buildSlice 112 1 #[(0, .int .i64 z)]).run Tryz.prog W = .ok (.slice (some ⟨W.heap.size, 0, none⟩) 1 1) (W.alloc (.cells [.int .i64 z].toArray 3)) := by kernel_rfl

theorem startsG_none {t : List Ng} {ss : List Nat} {k : Nat} (hk : k < t.length) (h : arG t[k].kind = none) : startsG ss k (t.drop k) = none := by
  rw [List.drop_eq_getElem_cons hk, startsG, h]
theorem startsG_few {t : List Ng} {ss : List Nat} {k a : Nat} (hk : k < t.length) (h : arG t[k].kind = some a) (hl : ss.length < a) : startsG ss k (t.drop k) = none := by
  rw [List.drop_eq_getElem_cons hk, startsG, h]
  simp only
  rw [if_pos hl]
theorem startsG_leaf {t : List Ng} {ss : List Nat} {k : Nat} (hk : k < t.length) (h : arG t[k].kind = some 0) : startsG ss k (t.drop k) = startsG (ss ++ [k]) (k + 1) (t.drop (k + 1)) := by
  rw [List.drop_eq_getElem_cons hk, startsG, h]
  simp only [Nat.not_lt_zero, if_false, if_true]
theorem startsG_node {t : List Ng} {ss : List Nat} {k a : Nat} (hk : k < t.length) (h : arG t[k].kind = some a) (hl : ¬ ss.length < a) (ha : a ≠ 0) : startsG ss k (t.drop k) = startsG (ss.take (ss.length - a + 1)) (k + 1) (t.drop (k + 1)) := by
  rw [List.drop_eq_getElem_cons hk, startsG, h]
  simp only
  rw [if_neg hl, if_neg ha]

/-- What startsOf tells. -/
def startR (x : Option (List Nat)) (v : Value) (e : Ending) : Prop := match x with
  | none => e = .returned (.tuple #[.slice none 0 0, .bool false])
  | some _ => e = .returned (.tuple #[v, .bool true])

end Go.Proofs.YtnojpepjloceoaaGreat

namespace Go.Proofs.YtnojpepjloceoaaGreat
open Go.RowKit
set_option maxRecDepth 100000

/-- The mark. -/
def mkN : Ng := ⟨77, 0, 7, 0, 0, 0, 0, zeros 16, 0⟩
def mkA : Array Value := #[.int .i64 77, .int .i64 0, .int .u32 7, .int .u32 0, .int .i64 0, .int .i64 0, .int .i64 0, .int .u8 0, .int .u8 0, .int .u8 0, .int .u8 0, .int .u8 0, .int .u8 0, .int .u8 0, .int .u8 0, .int .u8 0, .int .u8 0, .int .u8 0, .int .u8 0, .int .u8 0, .int .u8 0, .int .u8 0, .int .u8 0, .int .i64 0]
theorem mkA_eq : mkA = mkN.cells.toArray := rfl
theorem mkA_size : (Tryz.prog.info? 37).map (·.size) = some mkA.size := size37
theorem mkA_all : mkA.all (·.oneCell') = true := by simp [mkA, Value.oneCell']
theorem lit_mark1 (W : World) : (Instr.buildSlice 40 1 #[(0, .agg mkA)]).run Tryz.prog W = .ok (.slice (some ⟨W.heap.size, 0, none⟩) 1 1) (W.alloc (.cells (flatG [mkN]).toArray 37)) := by kernel_rfl
theorem lit_mark3 (W : World) : (Instr.buildSlice 40 3 #[(0, .agg mkA), (1, .agg mkA), (2, .agg mkA)]).run Tryz.prog W = .ok (.slice (some ⟨W.heap.size, 0, none⟩) 3 3) (W.alloc (.cells (flatG [mkN, mkN, mkN]).toArray 37)) := by kernel_rfl

theorem setCells_blk {w : World} {e : TypeId} {g n : Nat} (b : Nat) : ∀ (vs : List Value) (o : Nat) (w : World), BlkN w e g n → BlkN (w.setCells b o vs) e g n
  | [], _, _, h => h
  | v :: r, o, _, h => setCells_blk (w := w) b r (o + 1) _ (h.setCell _ v)
theorem setCells_grown {w : World} {row : Option Nat} (b : Nat) (hp : row = some b ∨ w.heap.size ≤ b) : ∀ (vs : List Value) (o : Nat) (W : World), w.grownBy W row → w.grownBy (W.setCells b o vs) row
  | [], _, _, h => h
  | v :: r, o, _, h => setCells_grown b hp r (o + 1) _ (grown_setCell h ⟨b, o, none⟩ v hp)
theorem BlkN.thereN {w : World} {e : TypeId} {g n : Nat} (h : BlkN w e g n) {o m : Nat} (hm : o + m ≤ n) : w.there g o m := fun j hj => by
  obtain ⟨u, hu⟩ := h.cell (i := o + j) (by omega)
  exact ⟨by rw [hu]; rfl, h.free _⟩

/-- The two loops of SpoilNodes, behind its append. -/
def GSpoilRel (w : World) (row : Option Nat) (g g' n n' : Nat) (wr : World) : Prop := BlkN wr 37 g n ∧ BlkN wr 37 g' n' ∧ w.grownBy wr row
theorem GSpoilRel.set {w wr : World} {row : Option Nat} {g g' n n' : Nat} (h : GSpoilRel w row g g' n n' wr) {b : Nat} (o : Nat) (vs : List Value) (hp : row = some b ∨ w.heap.size ≤ b) : GSpoilRel w row g g' n n' (wr.setCells b o vs) :=
  ⟨setCells_blk (w := w) b vs o wr h.1, setCells_blk (w := w) b vs o wr h.2.1, setCells_grown b hp vs o wr h.2.2⟩

/-- What was lent: nodes with three marked ones behind them. -/
def GLent (w : World) (base : Nat) (v : Value) (xs : List Ng) : Prop :=
  ∃ g cap, v = .slice (some ⟨g, 0, none⟩) xs.length cap ∧ xs.length + 3 ≤ cap ∧ cap ≤ maxLen ∧ base ≤ g ∧ g < w.heap.size ∧ w.ownsRow base 37 24 (.slice (some ⟨g, 0, none⟩) (xs.length + 3) cap) (xs.length + 3) (flatG (xs ++ [mkN, mkN, mkN]))

theorem gcv_front {w : World} {base g cap n : Nat} {xs ys : List Ng} (h : w.ownsRow base 37 24 (.slice (some ⟨g, 0, none⟩) n cap) n (flatG (xs ++ ys))) : CV w (some ⟨g, 0, none⟩) (flatG xs) ∧ CV w (some ⟨g, xs.length * 24, none⟩) (flatG ys) := by
  have hl := flatG_len xs
  refine ⟨⟨fun h => (by cases h), fun ad had i hi => ?_⟩, ⟨fun h => (by cases h), fun ad had i hi => ?_⟩⟩
  · obtain rfl := Option.some.inj had
    refine h.cells (g := g) rfl i _ ?_
    rw [flatG_append, List.getElem?_append_left hi]
    simp [hi]
  · obtain rfl := Option.some.inj had
    have := h.cells (g := g) rfl ((flatG xs).length + i) ((flatG ys)[i]) (by rw [flatG_append, List.getElem?_append_right (by omega)]; simp [hi])
    rw [Addr.add_lit, Nat.zero_add, hl] at this
    rw [Addr.add_lit]
    exact this

end Go.Proofs.YtnojpepjloceoaaGreat

namespace Go.Proofs.YtnojpepjloceoaaGreat
open Go.RowKit
set_option maxRecDepth 100000

def piecesG (t : List Ng) (ss : List Nat) (last : Nat) : List (List Ng) := List.zipWith (fun a b => (t.take b).drop a) ss (ss.tail ++ [last])
/-- The parts of a tree's root. -/
def partsG (t : List Ng) : Option (List (List Ng)) :=
  match t.getLast? with
  | none => none
  | some x => match arG x.kind with
    | none => none
    | some a => match startsG [] 0 (t.take (t.length - 1)) with
      | none => none
      | some ss => if ss.length = a then some (piecesG t ss (t.length - 1)) else none

theorem starts_incr : ∀ (l : List Ng) (ss ss' : List Nat) (k : Nat), startsG ss k l = some ss' → ss.Pairwise (· < ·) → (∀ s ∈ ss, s < k) → ss'.Pairwise (· < ·) ∧ ∀ s ∈ ss', s < k + l.length
  | [], ss, ss', k, h, h1, h2 => by cases h; exact ⟨h1, fun s hs => h2 s hs⟩
  | x :: l, ss, ss', k, h, h1, h2 => by
    simp only [startsG] at h
    split at h
    · cases h
    · rename_i a _
      split at h
      · cases h
      · split at h
        · have := starts_incr l _ ss' (k + 1) h (List.pairwise_append.2 ⟨h1, List.pairwise_singleton _ _, fun y hy z hz => by rw [List.mem_singleton.1 hz]; exact h2 y hy⟩) (fun s hs => by
            rcases List.mem_append.1 hs with hs | hs
            · have := h2 s hs; omega
            · rw [List.mem_singleton.1 hs]; omega)
          exact ⟨this.1, fun s hs => by have := this.2 s hs; rw [List.length_cons]; omega⟩
        · have := starts_incr l _ ss' (k + 1) h (h1.sublist (List.take_sublist _ _)) (fun s hs => by have := h2 s (List.mem_of_mem_take hs); omega)
          exact ⟨this.1, fun s hs => by have := this.2 s hs; rw [List.length_cons]; omega⟩
theorem ends_get {ss : List Nat} {last i : Nat} (hi : i < ss.length) (h1 : ss.Pairwise (· < ·)) (h2 : ∀ s ∈ ss, s < last) : ∃ e, (ss ++ [last])[i + 1]? = some e ∧ (ss.tail ++ [last])[i]? = some e ∧ ss[i] < e ∧ e ≤ last := by
  by_cases h : i + 1 < ss.length
  · refine ⟨ss[i + 1], by rw [List.getElem?_append_left h, List.getElem?_eq_getElem h], ?_, ?_, ?_⟩
    · rw [List.getElem?_append_left (by rw [List.length_tail]; omega), List.getElem?_tail, List.getElem?_eq_getElem h]
    · exact List.pairwise_iff_getElem.1 h1 i (i + 1) hi h (by omega)
    · exact Nat.le_of_lt (h2 _ (List.getElem_mem h))
  · refine ⟨last, ?_, ?_, h2 _ (List.getElem_mem hi), Nat.le_refl _⟩
    · rw [List.getElem?_append_right (by omega), show i + 1 - ss.length = 0 by omega]; rfl
    · rw [List.getElem?_append_right (by rw [List.length_tail]; omega), List.length_tail, show i - (ss.length - 1) = 0 by omega]; rfl
theorem pieces_get {t : List Ng} {ss : List Nat} {last i e : Nat} (hi : i < ss.length) (he : (ss.tail ++ [last])[i]? = some e) : (piecesG t ss last).getD i [] = (t.take e).drop ss[i] := by
  unfold piecesG
  rw [List.getD_eq_getElem?_getD, List.getElem?_zipWith, he, List.getElem?_eq_getElem hi]
  rfl
theorem pieces_len {t : List Ng} {ss : List Nat} {last : Nat} : (piecesG t ss last).length = ss.length := by
  unfold piecesG
  rw [List.length_zipWith, List.length_append, List.length_tail, List.length_singleton]
  omega

def nilV : Value := .slice none 0 0
/-- Lists of nodes in a row, each its own. -/
def NLv (w : World) (base : Nat) (v : Value) (vs : List Value) (pss : List (List Ng)) : Prop :=
  w.ownsRow base 40 1 v pss.length vs ∧ vs.length = pss.length ∧ (∀ i, i < pss.length → NgOwns w base (vs.getD i nilV) (pss.getD i [])) ∧
    ∀ i j, i < j → j < pss.length → ∀ x, (vs.getD i nilV).ownBlock = some x → (vs.getD j nilV).ownBlock ≠ some x
/-- What Parts tells. -/
def partsR (x : Option (List (List Ng))) (v : Value) (e : Ending) : Prop := match x with
  | none => e = .returned (.tuple #[nilV, .bool false])
  | some _ => e = .returned (.tuple #[v, .bool true])
def partsW (x : Option (List (List Ng))) (w : World) (base : Nat) (v : Value) : Prop := match x with
  | none => True
  | some pss => ∃ vs, NLv w base v vs pss

theorem cv_takeG {w : World} {ad : Addr} {t : List Ng} (h : CV w (some ad) (flatG t)) (n : Nat) : CV w (some ad) (flatG (t.take n)) := by
  refine ⟨fun e => (by cases e), fun ad' had i hi => ?_⟩
  have e : flatG t = flatG (t.take n) ++ flatG (t.drop n) := by rw [← flatG_append, List.take_append_drop]
  have := h.2 ad' had i (by rw [e, List.length_append]; omega)
  rw [this]
  congr 1
  simp only [e, List.getElem_append_left hi]
theorem cv_dropG {w : World} {b o : Nat} {t : List Ng} (h : CV w (some ⟨b, o, none⟩) (flatG t)) (n : Nat) (hn : n ≤ t.length) : CV w (some ⟨b, o + n * 24, none⟩) (flatG (t.drop n)) := by
  refine ⟨fun e => (by cases e), fun ad had i hi => ?_⟩
  cases had
  have hl : (flatG (t.take n)).length = n * 24 := by rw [flatG_len, List.length_take, Nat.min_eq_left hn]
  have e : flatG t = flatG (t.take n) ++ flatG (t.drop n) := by rw [← flatG_append, List.take_append_drop]
  have := h.2 _ rfl (n * 24 + i) (by rw [e, List.length_append]; omega)
  rw [Addr.add_lit] at this
  rw [Addr.add_lit, Nat.add_assoc, this]
  congr 1
  simp only [e]
  rw [List.getElem_append_right (by omega)]
  congr 1
  omega

end Go.Proofs.YtnojpepjloceoaaGreat

namespace Go.Proofs.YtnojpepjloceoaaGreat
open Go.RowKit
set_option maxRecDepth 100000

theorem walkG_more {l : List Ng} (m : List Ng) {st : List Pt} {k : Nat} {x : Nat × Int} (h : walkG st k l = .error x) : walkG st k (l ++ m) = .error x := by rw [walkG_app, h]
theorem walkG_cut : ∀ (l : List Ng) (st : List Pt) (k : Nat) {p : Nat} {e : Int}, walkG st k l = .error (p, e) → walkG st k (l.take (p - k + 1)) = .error (p, e)
  | [], st, k, p, e, h => by cases h
  | x :: l, st, k, p, e, h => by
    have hp := walkG_at (x :: l) st k h
    simp only [walkG] at h
    rw [List.take_succ_cons, walkG]
    cases hs : stepG x st with
    | error e' => rw [hs] at h; exact h
    | ok s =>
      rw [hs] at h
      have h2 := walkG_at l s (k + 1) h
      have := walkG_cut l s (k + 1) h
      rw [show p - (k + 1) + 1 = p - k by omega] at this
      exact this
theorem joinG_truth (x : Ng) (ps : List Pt) : (joinG x ps).truth = truthG x.kind := by
  unfold joinG
  split
  · split <;> rfl
  · rfl
theorem stepG_last {x : Ng} {st s : List Pt} (h : stepG x st = .ok s) : ∃ s' p, s = s' ++ [p] ∧ p.truth = truthG x.kind := by
  unfold stepG at h
  split at h
  · cases h
  · split at h
    · cases h
    · split at h
      · cases h
      · cases h
        exact ⟨_, _, rfl, joinG_truth _ _⟩
theorem checkG_er {t : List Ng} {x : Nat × Int} (h : walkG [] 0 t = .error x) : checkG t = x := by rw [checkG, h]
/-- What is wrong with a node. -/
theorem check_first {t : List Ng} {p : Nat} {e : Int} (h : checkG t = (p, e)) (h0 : e ≠ 0) (h1 : e ≠ 126) (h2 : p < t.length) (h3 : e = 121 → t[p].kind = 7 ∨ t[p].kind = 8 ∨ t[p].kind = 9) : walkG [] 0 t = .error (p, e) := by
  cases hw : walkG [] 0 t with
  | error x => rw [checkG_er hw] at h; rw [h]
  | ok st =>
    exfalso
    rw [checkG, hw] at h
    simp only at h
    split at h
    · cases h; omega
    · rename_i hl
      split at h
      · rename_i htr
        cases h
        have hne : t ≠ [] := by intro e0; rw [e0] at h2; simp at h2
        have hsplit := List.dropLast_concat_getLast hne
        have hwl : walkG [] 0 (t.dropLast ++ [t.getLast hne]) = .ok st := by rw [hsplit]; exact hw
        rw [walkG_app] at hwl
        cases hb : walkG [] 0 t.dropLast with
        | error x => rw [hb] at hwl; cases hwl
        | ok s1 =>
          rw [hb] at hwl
          simp only [walkG] at hwl
          cases hs : stepG (t.getLast hne) s1 with
          | error e' => rw [hs] at hwl; cases hwl
          | ok s2 =>
            rw [hs] at hwl
            cases hwl
            obtain ⟨s', q, rfl, hq⟩ := stepG_last hs
            have hl1 : s' = [] := by
              rw [List.length_append, List.length_singleton] at hl
              exact List.eq_nil_of_length_eq_zero (by omega)
            subst hl1
            simp only [List.nil_append, List.getD_cons_zero] at htr
            rw [hq] at htr
            have h4 := h3 rfl
            have : t[t.length - 1] = t.getLast hne := by rw [List.getLast_eq_getElem]
            rw [this] at h4
            unfold truthG at htr
            rw [decide_eq_false_iff_not] at htr
            omega
      · split at h
        · cases h; exact h1 rfl
        · cases h; exact h0 rfl

/-- Beside parts that stand already. -/
theorem stepG_frame {x : Ng} {st s : List Pt} (st0 : List Pt) (h : stepG x st = .ok s) : stepG x (st0 ++ st) = .ok (st0 ++ s) := by
  unfold stepG at h ⊢
  split at h
  · cases h
  · rename_i a ha
    split at h
    · cases h
    · rename_i hl
      have hd : (st0 ++ st).drop ((st0 ++ st).length - a) = st.drop (st.length - a) := by
        rw [List.length_append, show st0.length + st.length - a = st0.length + (st.length - a) by omega, List.drop_append, List.drop_eq_nil_of_le (by omega), List.nil_append, Nat.add_sub_cancel_left]
      have ht : (st0 ++ st).take ((st0 ++ st).length - a) = st0 ++ st.take (st.length - a) := by
        rw [List.length_append, show st0.length + st.length - a = st0.length + (st.length - a) by omega, List.take_append, List.take_of_length_le (by omega), Nat.add_sub_cancel_left]
      split at h
      · cases h
      · rename_i hf
        cases h
        rw [if_neg (by rw [List.length_append]; omega), hd, if_neg hf, ht, List.append_assoc]
theorem walkG_frame : ∀ (l : List Ng) (st s st0 : List Pt) (k k' : Nat), walkG st k l = .ok s → walkG (st0 ++ st) k' l = .ok (st0 ++ s)
  | [], st, s, st0, k, k', h => by cases h; rfl
  | x :: l, st, s, st0, k, k', h => by
    simp only [walkG] at h ⊢
    cases hs : stepG x st with
    | error e => rw [hs] at h; cases h
    | ok s1 =>
      rw [hs] at h
      rw [stepG_frame st0 hs]
      exact walkG_frame l s1 s st0 (k + 1) (k' + 1) h
theorem walkG_place {l : List Ng} {st s : List Pt} {k : Nat} (k' : Nat) (h : walkG st k l = .ok s) : walkG st k' l = .ok s := by
  have := walkG_frame l st s [] k k' h
  simpa using this

theorem heavy_none : ∀ (l : List Ng) (w k : Nat), heavyG w k l = none ↔ (l = [] ∨ w + weightG l ≤ 3000)
  | [], w, k => by simp [heavyG]
  | x :: l, w, k => by
    have e : weightG (x :: l) = weighG x + weightG l := by simp [weightG]
    simp only [heavyG]
    by_cases h : 3000 < w + weighG x
    · rw [if_pos h]
      constructor
      · intro h2; cases h2
      · intro h2; rcases h2 with h2 | h2
        · cases h2
        · omega
    · rw [if_neg h, heavy_none l (w + weighG x) (k + 1)]
      constructor
      · rintro (rfl | h2)
        · right; rw [e]; simp [weightG]; omega
        · right; omega
      · rintro (h2 | h2)
        · cases h2
        · right; omega
/-- A filter. -/
theorem filt_iff {t : List Ng} : (checkG t).2 = 0 ↔ ∃ p, walkG [] 0 t = .ok [p] ∧ p.truth = true ∧ weightG t ≤ 3000 := by
  constructor
  · intro h
    cases hw : walkG [] 0 t with
    | error x =>
      obtain ⟨k, e⟩ := x
      rw [checkG_er hw] at h
      have := walkG_er t [] 0 hw
      simp only at h
      omega
    | ok st =>
      rw [checkG, hw] at h
      simp only at h
      split at h
      · cases h
      · rename_i hl
        split at h
        · cases h
        · rename_i ht
          match st, hl with
          | [p], _ =>
            refine ⟨p, rfl, by simpa using ht, ?_⟩
            cases hh : heavyG 0 0 t with
            | some q => rw [hh] at h; cases h
            | none =>
              rcases (heavy_none t 0 0).1 hh with rfl | h2
              · simp [weightG]
              · omega
          | [], hl => exact absurd (by simp) hl
          | _ :: _ :: _, hl => exact absurd (by simp) hl
  · rintro ⟨p, hw, hp, hwt⟩
    rw [checkG, hw]
    simp only [List.length_singleton, ne_eq, not_true_eq_false, if_false, List.getD_cons_zero, hp]
    rw [(heavy_none t 0 0).2 (.inr (by omega))]
    rfl
theorem filt_ne {t : List Ng} {p : Pt} (h : walkG [] 0 t = .ok [p]) : t ≠ [] := by
  intro e
  rw [e] at h
  cases h
theorem weighG_pos {x : Ng} (h : 1 ≤ x.kind ∧ x.kind ≤ 16) : 1 ≤ weighG x := by
  obtain ⟨k, hk⟩ : ∃ k : Nat, x.kind = k := Int.eq_ofNat_of_zero_le (by omega)
  unfold weighG
  rw [hk]
  rcases sixteen (k := k) (by omega) (by omega) with rfl | rfl | rfl | rfl | rfl | rfl | rfl | rfl | rfl | rfl | rfl | rfl | rfl | rfl | rfl | rfl
  all_goals first
    | exact Nat.le_refl 1
    | (show 1 ≤ (_ : Nat); simp; done)
    | (simp; split <;> omega)
theorem walkG_weighs : ∀ (l : List Ng) (st s : List Pt) (k : Nat), walkG st k l = .ok s → l.length ≤ weightG l
  | [], _, _, _, _ => Nat.le_refl _
  | x :: l, st, s, k, h => by
    simp only [walkG] at h
    cases hs : stepG x st with
    | error e => rw [hs] at h; cases h
    | ok s1 =>
      rw [hs] at h
      have := walkG_weighs l s1 s (k + 1) h
      have hx : 1 ≤ weighG x := by
        unfold stepG at hs
        split at hs
        · cases hs
        · rename_i a ha
          exact weighG_pos (arG_in ha)
      have e : weightG (x :: l) = weighG x + weightG l := by simp [weightG]
      rw [List.length_cons]
      omega
theorem filt_len {t : List Ng} (h : (checkG t).2 = 0) : t.length ≤ 3000 := by
  obtain ⟨p, hw, -, hwt⟩ := filt_iff.1 h
  have := walkG_weighs t [] _ 0 hw
  omega

/-- A node behind a walk. -/
theorem walkG_snoc {t : List Ng} {st : List Pt} (x : Ng) (h : walkG [] 0 t = .ok st) : walkG [] 0 (t ++ [x]) = match stepG x st with | .error e => .error (t.length, e) | .ok s => .ok s := by
  rw [walkG_app, h]
  simp only [walkG, Nat.zero_add]
  cases stepG x st <;> rfl

end Go.Proofs.YtnojpepjloceoaaGreat
