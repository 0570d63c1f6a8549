/-
  Nodes of whatever numbers: LendNodes, KeptNodes, SpoilNodes. Package types as landed: Parts.
-/
import Derived.Test.YtgoiblnddfggbaaLotP10
import Derived.Test.YtgoiblnddfggbaaSteps
import Derived.Deep.MidRow
import Derived.Test.YtgoiblnddfggbaaLotP23
namespace Go.Proofs.Ytgoiblnddfggbaa
open Go.RowKit
set_option maxRecDepth 100000

/-- The mark. -/
def mkN : Ng := ⟨77, 0, 7, 0, 0, 0, 0, zeros 16, 0⟩
def mkA : Array Value := #[.int .i64 77, .int .i64 0, .int .u32 7, .int .u32 0, .int .i64 0, .int .i64 0, .int .i64 0, .int .u8 0, .int .u8 0, .int .u8 0, .int .u8 0, .int .u8 0, .int .u8 0, .int .u8 0, .int .u8 0, .int .u8 0, .int .u8 0, .int .u8 0, .int .u8 0, .int .u8 0, .int .u8 0, .int .u8 0, .int .u8 0, .int .i64 0]
theorem mkA_eq : mkA = mkN.cells.toArray := rfl
theorem mkA_size : (Try.prog.info? 46).map (·.size) = some mkA.size := size46
theorem mkA_all : mkA.all (·.oneCell') = true := by simp [mkA, Value.oneCell']
theorem lit_mark1 (W : World) : (Instr.buildSlice 22 1 #[(0, .agg mkA)]).run Try.prog W = .ok (.slice (some ⟨W.heap.size, 0, none⟩) 1 1) (W.alloc (.cells (flatG [mkN]).toArray 46)) := by kernel_rfl
theorem lit_mark3 (W : World) : (Instr.buildSlice 22 3 #[(0, .agg mkA), (1, .agg mkA), (2, .agg mkA)]).run Try.prog W = .ok (.slice (some ⟨W.heap.size, 0, none⟩) 3 3) (W.alloc (.cells (flatG [mkN, mkN, mkN]).toArray 46)) := by kernel_rfl

theorem setCells_blk {w : World} {e : TypeId} {g n : Nat} (b : Nat) : ∀ (vs : List Value) (o : Nat) (w : World), BlkN w e g n → BlkN (w.setCells b o vs) e g n
  | [], _, _, h => h
  | v :: r, o, _, h => setCells_blk (w := w) b r (o + 1) _ (h.setCell _ v)
theorem setCells_grown {w : World} {row : Option Nat} (b : Nat) (hp : row = some b ∨ w.heap.size ≤ b) : ∀ (vs : List Value) (o : Nat) (W : World), w.grownBy W row → w.grownBy (W.setCells b o vs) row
  | [], _, _, h => h
  | v :: r, o, _, h => setCells_grown b hp r (o + 1) _ (grown_setCell h ⟨b, o, none⟩ v hp)
theorem BlkN.thereN {w : World} {e : TypeId} {g n : Nat} (h : BlkN w e g n) {o m : Nat} (hm : o + m ≤ n) : w.there g o m := fun j hj => by
  obtain ⟨u, hu⟩ := h.cell (i := o + j) (by omega)
  exact ⟨by rw [hu]; rfl, h.free _⟩

/-- The two loops of SpoilNodes, behind its append. -/
def GSpoilRel (w : World) (row : Option Nat) (g g' n n' : Nat) (wr : World) : Prop := BlkN wr 46 g n ∧ BlkN wr 46 g' n' ∧ w.grownBy wr row
theorem GSpoilRel.set {w wr : World} {row : Option Nat} {g g' n n' : Nat} (h : GSpoilRel w row g g' n n' wr) {b : Nat} (o : Nat) (vs : List Value) (hp : row = some b ∨ w.heap.size ≤ b) : GSpoilRel w row g g' n n' (wr.setCells b o vs) :=
  ⟨setCells_blk (w := w) b vs o wr h.1, setCells_blk (w := w) b vs o wr h.2.1, setCells_grown b hp vs o wr h.2.2⟩

set_option maxRecDepth 100000 in
set_option maxHeartbeats 2000000 in
theorem gspoil_any (g n cap : Nat) (w : World) (hb : BlkN w 46 g (cap * 24)) (hn : n ≤ cap) (hcm : cap ≤ maxLen) (hm : (n + 1) * 72 ≤ 140737488355328) :
    Calls Try.prog 19 #[.slice (some ⟨g, 0, none⟩) n cap] w fun e w' => e = .returned (.tuple #[]) ∧ w.grownBy w' (some g) := by
  obtain ⟨i0, hi, hz0, hz1, hz2⟩ := info_parts info46
  have H : Hid (BlkN w 46 g (cap * 24)) := hb
  have HLM := lit_mark1
  have HMS : Hid ((Try.prog.info? 46).map (·.size) = some mkA.size ∧ mkA.all (·.oneCell') = true) := ⟨mkA_size, mkA_all⟩
  have HMB : Hid (∀ W : World, (Instr.build 46 #[(0, .int .i64 77), (2, .int .u32 7)]).run Try.prog W = .ok (.agg mkA) W) := fun W => by kernel_rfl
  have HM24 : Hid (24 = mkA.size) := rfl
  obtain ⟨M, hM⟩ : ∃ M, mkA = M := ⟨_, rfl⟩
  rw [hM] at HMS HMB HM24
  rw [hM] at HLM
  clear hb hM
  go_enter Try.func19, Try.ntmps19
  go_wp2_with (first | refine wpList_bld rfl 46 _ rfl _ (by kernel_rfl) (.agg M) HMB.out ?_ | (refine wpList_lit (by rfl) 22 1 _ rfl _ (by kernel_rfl) (flatG [mkN]) 46 HLM ?_; intro V wl CL KL) | (at_builtin; refine wpList_append_blkN rfl (.tmp 5) (.tmp 7) 22 rfl 46 i0 _ 24 72 Try.underlying22 hi hz0 hz1 hz2 rfl (by decide) g n cap rfl (H.out.kept KL (by simp)) hn hcm ⟨V, 0, none⟩ 1 1 (flatG [mkN]) rfl rfl CL (flatG_one _) ?q3 ?q4 ?q5))
  case q3 => unfold maxLen; omega
  case q4 => omega
  case q5 =>
    intro g' cap' w1 hg' hb1 hb2 hc' hcm' hgr
    have R : GSpoilRel w (some g) g g' (cap * 24) (cap' * 24) w1 := ⟨hb1, hb2, grown_trans (grown_mono KL) hgr⟩
    have hp : some g = some g' ∨ w.heap.size ≤ g' := by
      rcases hg' with e | e
      · exact .inl (by rw [e])
      · right; have := KL.size; omega
    clear hg' hb1 hb2 hgr CL KL HLM
    unfold maxLen at hcm hcm'
    go_wp2
    go_loopw [3] (fun i wr => ∃ k : Nat, k ≤ n + 1 ∧ i = .int .i64 k ∧ GSpoilRel w (some g) g g' (cap * 24) (cap' * 24) wr) (fun i _ => n + 1 - (intOf i).toNat)
    case atStart => exact ⟨0, Nat.zero_le _, rfl, R⟩
    case round =>
      clear R
      obtain ⟨k, hk, rfl, R⟩ := hrel
      by_cases hlt : k < n + 1
      · have HTH : Hid (wr.there g' (k * 24) M.size) := R.2.1.thereN (by rw [← HM24.out]; omega)
        have R' := R.set (k * 24) M.toList hp
        have hl : (k : Int) < (n : Int) + 1 := by omega
        have z0 : (0 : Int) ≤ (k : Int) := by omega
        clear R
        go_wp2_with (first | refine wpList_bld rfl 46 _ rfl _ (by kernel_rfl) (.agg M) HMB.out ?_ | refine wpList_store_mid rfl 46 (.tmp 18) (.tmp 17) rfl g' (k * 24) M (by simp [Act.eval]) rfl HTH.out HMS.out.1 HMS.out.2 ?_)
        go_roundw
        case rel => exact ⟨k + 1, by omega, by go_num, R'⟩
        case measure => simp [intOf]; omega
      · go_wp2
        clear hk hlt
        go_loopw [4] (fun i wr => ∃ k : Nat, k ≤ n ∧ i = .int .i64 k ∧ GSpoilRel w (some g) g g' (cap * 24) (cap' * 24) wr) (fun i _ => n - (intOf i).toNat)
        case atStart => exact ⟨0, Nat.zero_le _, rfl, R⟩
        case round =>
          clear R
          obtain ⟨k, hk, rfl, R⟩ := hrel
          by_cases hlt : k < n
          · have HTH : Hid (wr.there g (k * 24) M.size) := R.1.thereN (by rw [← HM24.out]; omega)
            have R' := R.set (b := g) (k * 24) M.toList (.inl rfl)
            have hl : (k : Int) < (n : Int) := by omega
            have z0 : (0 : Int) ≤ (k : Int) := by omega
            clear R
            go_wp2_with (first | refine wpList_bld rfl 46 _ rfl _ (by kernel_rfl) (.agg M) HMB.out ?_ | refine wpList_store_mid rfl 46 (.tmp 28) (.tmp 27) rfl g (k * 24) M (by simp [Act.eval]) rfl HTH.out HMS.out.1 HMS.out.2 ?_)
            go_roundw
            case rel => exact ⟨k + 1, by omega, by go_num, R'⟩
            case measure => simp [intOf]; omega
          · go_wp2
            go_end0
            exact ⟨rfl, R.2.2⟩

/-- SpoilNodes of nothing. -/
theorem gspoil_own {base : Nat} {v : Value} {xs : List Ng} (w : World) (h : NgOwns w base v xs) (hne : xs ≠ []) (hm : (xs.length + 1) * 72 ≤ 140737488355328) :
    Calls Try.prog 19 #[v] w fun e w' => e = .returned (.tuple #[]) ∧ w.grownBy w' v.ownBlock := by
  rcases h.2 with ⟨rfl, h0⟩ | ⟨g, cap, cur, rfl, hb, hg, hc, hcm, hs, ht⟩
  · exact absurd (List.eq_nil_of_length_eq_zero h0) hne
  · exact gspoil_any g xs.length cap w ⟨cur, hg, hs⟩ hc hcm hm

/-- What was lent: nodes with three marked ones behind them. -/
def GLent (w : World) (base : Nat) (v : Value) (xs : List Ng) : Prop :=
  ∃ g cap, v = .slice (some ⟨g, 0, none⟩) xs.length cap ∧ xs.length + 3 ≤ cap ∧ cap ≤ maxLen ∧ base ≤ g ∧ g < w.heap.size ∧ w.ownsRow base 46 24 (.slice (some ⟨g, 0, none⟩) (xs.length + 3) cap) (xs.length + 3) (flatG (xs ++ [mkN, mkN, mkN]))

set_option maxRecDepth 100000 in
set_option maxHeartbeats 2000000 in
theorem glend_any (a : Option Addr) (ca : Nat) (xs : List Ng) (w : World) (ha : CV w a (flatG xs)) (hc0 : a = none → ca = 0) (hm : xs.length * 72 ≤ 140737488351232) :
    Calls Try.prog 7 #[.slice a xs.length ca] w fun e w' => ∃ v, e = .returned v ∧ GLent w' w.heap.size v xs ∧ w.grownBy w' none := by
  obtain ⟨i0, hi, hz0, hz1, hz2⟩ := info_parts info46
  have HLM := lit_mark3
  go_enter Try.func7, Try.ntmps7
  go_wp2_with fail
  refine (gcopy_any a ca xs _ ha hc0 (by omega)).mono ?_
  rintro e w1 ⟨v, rfl, h1, h2⟩
  clear ha
  go_wp2_with (first | (refine wpList_lit (by rfl) 22 3 _ rfl _ (by kernel_rfl) (flatG [mkN, mkN, mkN]) 46 HLM ?_; intro V wl CL KL) | (at_builtin; refine wpList_append_cv rfl (.tmp 5) (.tmp 9) 22 rfl 46 i0 _ 24 72 Try.underlying22 hi hz0 hz1 hz2 rfl (by decide) w.heap.size _ xs.length (flatG xs) rfl (owns_keptNone h1 KL) (some ⟨V, 0, none⟩) 3 3 (flatG [mkN, mkN, mkN]) rfl rfl (by simp) CL (flatG_one _) ?q3 ?q4 ?q5 ?q6))
  case q3 => unfold maxLen; omega
  case q4 => omega
  case q5 => have := h2.size; have := KL.size; omega
  case q6 =>
    intro v' w' h3 h4
    have G : w.grownBy w' none := grown_trans_new h2 (grown_trans (grown_mono KL) h4) (fun x hx => (h1.lt x hx).1)
    rw [← flatG_append] at h3
    obtain ⟨g, cap, hv, hc, hcm, hg1, hg2⟩ := owns_head h3 (by omega)
    subst hv
    have R : GLent w' w.heap.size (.slice (some ⟨g, 0, none⟩) xs.length cap) xs := ⟨g, cap, rfl, hc, hcm, hg1, hg2, h3⟩
    clear h4 h3 h2 h1 CL KL HLM
    unfold maxLen at hcm
    have hx : (xs.length : Int) ≤ (cap : Int) := by omega
    go_wp2
    go_ret
    exact ⟨_, rfl, R, G⟩

theorem gcv_front {w : World} {base g cap n : Nat} {xs ys : List Ng} (h : w.ownsRow base 46 24 (.slice (some ⟨g, 0, none⟩) n cap) n (flatG (xs ++ ys))) : CV w (some ⟨g, 0, none⟩) (flatG xs) ∧ CV w (some ⟨g, xs.length * 24, none⟩) (flatG ys) := by
  have hl := flatG_len xs
  refine ⟨⟨fun h => (by cases h), fun ad had i hi => ?_⟩, ⟨fun h => (by cases h), fun ad had i hi => ?_⟩⟩
  · obtain rfl := Option.some.inj had
    refine h.cells (g := g) rfl i _ ?_
    rw [flatG_append, List.getElem?_append_left hi]
    simp [hi]
  · obtain rfl := Option.some.inj had
    have := h.cells (g := g) rfl ((flatG xs).length + i) ((flatG ys)[i]) (by rw [flatG_append, List.getElem?_append_right (by omega)]; simp [hi])
    rw [Addr.add_lit, Nat.zero_add, hl] at this
    rw [Addr.add_lit]
    exact this

set_option maxRecDepth 100000 in
set_option maxHeartbeats 2000000 in
theorem gkept_any (g cap : Nat) (ao : Option Addr) (ca : Nat) (xs : List Ng) (w : World) (hL : w.ownsRow 0 46 24 (.slice (some ⟨g, 0, none⟩) (xs.length + 3) cap) (xs.length + 3) (flatG (xs ++ [mkN, mkN, mkN])))
    (ha : CV w ao (flatG xs)) (hm : xs.length * 72 ≤ 140737488351232) :
    Calls Try.prog 9 #[.slice (some ⟨g, 0, none⟩) xs.length cap, .slice ao xs.length ca] w fun e w' => e = .returned (.bool true) ∧ w.grownBy w' (some g) := by
  obtain ⟨hB, hc, hcm⟩ := BlkN.ofRow hL
  obtain ⟨c1, c2⟩ := gcv_front hL
  clear hL
  have HB : Hid (BlkN w 46 g (cap * 24)) := hB
  have HC : Hid (CV w (some ⟨g, xs.length * 24, none⟩) (flatG [mkN, mkN, mkN])) := c2
  have HLM := lit_mark3
  clear hB c2
  have hcm0 := hcm
  unfold maxLen at hcm
  have hx : (xs.length : Int) + 3 ≤ (cap : Int) := by omega
  go_enter Try.func9, Try.ntmps9
  go_wp2_with fail
  refine (gsame_any _ ao _ ca xs _ c1 ha (by omega)).mono ?_
  rintro e w1 ⟨rfl, n1, rfl⟩
  clear c1 ha
  have G0 := grown_drewN w n1 none
  have HC0 : Hid (CV (w.drewN n1) (some ⟨g, xs.length * 24, none⟩) (flatG [mkN, mkN, mkN])) := HC.out.keptNone G0
  have HB0 : Hid (BlkN (w.drewN n1) 46 g (cap * 24)) := HB.out.kept G0 (by simp)
  generalize w.drewN n1 = w1 at *
  clear HC HB
  have hn3 : ¬ cap = xs.length := by omega
  have hn4 : ¬ (xs.length : Int) + 3 < (xs.length : Int) := by omega
  go_wp2_with (refine wpList_lit (by rfl) 22 3 _ rfl _ (by kernel_rfl) (flatG [mkN, mkN, mkN]) 46 HLM ?_; intro V wl CL KL)
  have G1 := grown_trans G0 KL
  have C1 := HC0.out.keptNone KL
  have B1 := HB0.out.kept KL (by simp)
  refine (gsame_any _ _ _ _ [mkN, mkN, mkN] _ C1 CL (by simp)).mono ?_
  rintro e w3 ⟨rfl, n2, rfl⟩
  have G2 : w.grownBy (wl.drewN n2) none := grown_trans G1 (grown_drewN _ _ _)
  have B2 : BlkN (wl.drewN n2) 46 g (cap * 24) := B1.kept (grown_drewN _ _ none) (by simp)
  clear G1 B1 C1 CL KL HLM
  generalize wl.drewN n2 = w3 at *
  go_wp2_with fail
  refine (gspoil_any g (xs.length + 3) cap _ B2 hc hcm0 (by omega)).mono ?_
  rintro e w4 ⟨rfl, G3⟩
  have G4 : w.grownBy w4 (some g) := grown_trans (grown_mono G2) G3
  clear G3 G2 B2
  go_wp2
  go_ret
  exact ⟨rfl, G4⟩

end Go.Proofs.Ytgoiblnddfggbaa

namespace Go.Proofs.Ytgoiblnddfggbaa
open Go.RowKit
set_option maxRecDepth 100000

def piecesG (t : List Ng) (ss : List Nat) (last : Nat) : List (List Ng) := List.zipWith (fun a b => (t.take b).drop a) ss (ss.tail ++ [last])
/-- The parts of a tree's root. -/
def partsG (t : List Ng) : Option (List (List Ng)) :=
  match t.getLast? with
  | none => none
  | some x => match arG x.kind with
    | none => none
    | some a => match startsG [] 0 (t.take (t.length - 1)) with
      | none => none
      | some ss => if ss.length = a then some (piecesG t ss (t.length - 1)) else none

theorem starts_incr : ∀ (l : List Ng) (ss ss' : List Nat) (k : Nat), startsG ss k l = some ss' → ss.Pairwise (· < ·) → (∀ s ∈ ss, s < k) → ss'.Pairwise (· < ·) ∧ ∀ s ∈ ss', s < k + l.length
  | [], ss, ss', k, h, h1, h2 => by cases h; exact ⟨h1, fun s hs => h2 s hs⟩
  | x :: l, ss, ss', k, h, h1, h2 => by
    simp only [startsG] at h
    split at h
    · cases h
    · rename_i a _
      split at h
      · cases h
      · split at h
        · have := starts_incr l _ ss' (k + 1) h (List.pairwise_append.2 ⟨h1, List.pairwise_singleton _ _, fun y hy z hz => by rw [List.mem_singleton.1 hz]; exact h2 y hy⟩) (fun s hs => by
            rcases List.mem_append.1 hs with hs | hs
            · have := h2 s hs; omega
            · rw [List.mem_singleton.1 hs]; omega)
          exact ⟨this.1, fun s hs => by have := this.2 s hs; rw [List.length_cons]; omega⟩
        · have := starts_incr l _ ss' (k + 1) h (h1.sublist (List.take_sublist _ _)) (fun s hs => by have := h2 s (List.mem_of_mem_take hs); omega)
          exact ⟨this.1, fun s hs => by have := this.2 s hs; rw [List.length_cons]; omega⟩
theorem ends_get {ss : List Nat} {last i : Nat} (hi : i < ss.length) (h1 : ss.Pairwise (· < ·)) (h2 : ∀ s ∈ ss, s < last) : ∃ e, (ss ++ [last])[i + 1]? = some e ∧ (ss.tail ++ [last])[i]? = some e ∧ ss[i] < e ∧ e ≤ last := by
  by_cases h : i + 1 < ss.length
  · refine ⟨ss[i + 1], by rw [List.getElem?_append_left h, List.getElem?_eq_getElem h], ?_, ?_, ?_⟩
    · rw [List.getElem?_append_left (by rw [List.length_tail]; omega), List.getElem?_tail, List.getElem?_eq_getElem h]
    · exact List.pairwise_iff_getElem.1 h1 i (i + 1) hi h (by omega)
    · exact Nat.le_of_lt (h2 _ (List.getElem_mem h))
  · refine ⟨last, ?_, ?_, h2 _ (List.getElem_mem hi), Nat.le_refl _⟩
    · rw [List.getElem?_append_right (by omega), show i + 1 - ss.length = 0 by omega]; rfl
    · rw [List.getElem?_append_right (by rw [List.length_tail]; omega), List.length_tail, show i - (ss.length - 1) = 0 by omega]; rfl
theorem pieces_get {t : List Ng} {ss : List Nat} {last i e : Nat} (hi : i < ss.length) (he : (ss.tail ++ [last])[i]? = some e) : (piecesG t ss last).getD i [] = (t.take e).drop ss[i] := by
  unfold piecesG
  rw [List.getD_eq_getElem?_getD, List.getElem?_zipWith, he, List.getElem?_eq_getElem hi]
  rfl
theorem pieces_len {t : List Ng} {ss : List Nat} {last : Nat} : (piecesG t ss last).length = ss.length := by
  unfold piecesG
  rw [List.length_zipWith, List.length_append, List.length_tail, List.length_singleton]
  omega

def nilV : Value := .slice none 0 0
/-- Lists of nodes in a row, each its own. -/
def NLv (w : World) (base : Nat) (v : Value) (vs : List Value) (pss : List (List Ng)) : Prop :=
  w.ownsRow base 22 1 v pss.length vs ∧ vs.length = pss.length ∧ (∀ i, i < pss.length → NgOwns w base (vs.getD i nilV) (pss.getD i [])) ∧
    ∀ i j, i < j → j < pss.length → ∀ x, (vs.getD i nilV).ownBlock = some x → (vs.getD j nilV).ownBlock ≠ some x
/-- What Parts tells. -/
def partsR (x : Option (List (List Ng))) (v : Value) (e : Ending) : Prop := match x with
  | none => e = .returned (.tuple #[nilV, .bool false])
  | some _ => e = .returned (.tuple #[v, .bool true])
def partsW (x : Option (List (List Ng))) (w : World) (base : Nat) (v : Value) : Prop := match x with
  | none => True
  | some pss => ∃ vs, NLv w base v vs pss

set_option maxHeartbeats 1000000 in
theorem clone_any (ad : Addr) (ca : Nat) (xs : List Ng) (w : World) (ha : CV w (some ad) (flatG xs)) (hm : xs.length * 72 ≤ 140737488355328) :
    Calls Try.prog 31 #[.slice (some ad) xs.length ca] w fun e w' => ∃ v, e = .returned v ∧ NgOwns w' w.heap.size v xs ∧ w.grownBy w' none := by
  obtain ⟨i0, hi, hz0, hz1, hz2⟩ := info_parts info46
  have H : Hid (CV w (some ad) (flatG xs)) := ha
  have HNQ : ∀ W : World, (binOp .eql 22 (.slice (some ad) xs.length ca) (.slice none 0 0)).run Try.prog W = .ok (.bool false) W := fun W => by kernel_rfl
  clear ha
  go_enter Try.func31, Try.ntmps31
  go_wp2_with (at_builtin; refine wpList_append_cv rfl (.tmp 5) (.tmp 6) 22 rfl 46 i0 _ 24 72 Try.underlying22 hi hz0 hz1 hz2 rfl (by decide) w.heap.size _ 0 [] rfl ?q1 (some ad) xs.length ca (flatG xs) rfl (flatG_len xs) (by simp) ?q2 (flatG_one xs) ?q3 ?q4 ?q5 ?q6)
  case q1 => exact World.ownsRow_made w #[] 0 (Nat.le_refl _) (Nat.zero_le _) rfl
  case q2 => exact H.out.keptNone (World.grownBy_alloc _ _ _)
  case q3 => unfold maxLen; omega
  case q4 => omega
  case q5 => simp
  case q6 =>
    intro v' w' h1 h2
    have G : w.grownBy w' none := grown_trans_new (World.grownBy_alloc w _ _) h2 (by intro x hx; simp [Value.ownBlock] at hx; omega)
    have O : NgOwns w' w.heap.size v' xs := by simpa using h1
    clear h2 h1
    go_wp2
    go_ret
    exact ⟨v', rfl, O, G⟩

theorem cv_takeG {w : World} {ad : Addr} {t : List Ng} (h : CV w (some ad) (flatG t)) (n : Nat) : CV w (some ad) (flatG (t.take n)) := by
  refine ⟨fun e => (by cases e), fun ad' had i hi => ?_⟩
  have e : flatG t = flatG (t.take n) ++ flatG (t.drop n) := by rw [← flatG_append, List.take_append_drop]
  have := h.2 ad' had i (by rw [e, List.length_append]; omega)
  rw [this]
  congr 1
  simp only [e, List.getElem_append_left hi]
theorem cv_dropG {w : World} {b o : Nat} {t : List Ng} (h : CV w (some ⟨b, o, none⟩) (flatG t)) (n : Nat) (hn : n ≤ t.length) : CV w (some ⟨b, o + n * 24, none⟩) (flatG (t.drop n)) := by
  refine ⟨fun e => (by cases e), fun ad had i hi => ?_⟩
  cases had
  have hl : (flatG (t.take n)).length = n * 24 := by rw [flatG_len, List.length_take, Nat.min_eq_left hn]
  have e : flatG t = flatG (t.take n) ++ flatG (t.drop n) := by rw [← flatG_append, List.take_append_drop]
  have := h.2 _ rfl (n * 24 + i) (by rw [e, List.length_append]; omega)
  rw [Addr.add_lit] at this
  rw [Addr.add_lit, Nat.add_assoc, this]
  congr 1
  simp only [e]
  rw [List.getElem_append_right (by omega)]
  congr 1
  omega

end Go.Proofs.Ytgoiblnddfggbaa
