/-
  Which blocks can be come to. No Go text here. Package graph as landed: Reach. The document's own Size, Measure and Reach of a graph that is taken. CopyBlocks: blocks in memory of their own, the codes of each too. Rows of two kinds apart; places behind others. The document's own Step. The document's own Step: loads. The document's own Step, of whatever instruction. The document's own Takes and Run of a graph. KeptBlocks, and what it leaves as it was: all that lies behind the lent memory.
-/
import Derived.Test.YtpoleldfoahpoaaGreatLotP9
import Derived.Test.YtpoleldfoahpoaaGreatLotP27
import Derived.Test.YtpoleldfoahpoaaGreatGrR
import Derived.Test.YtpoleldfoahpoaaGreatGrY
import Derived.Test.YtpoleldfoahpoaaGreatLotP10
import Derived.Test.YtpoleldfoahpoaaGreatLotP21
import Derived.Deep.RegionHeld3
import Derived.Deep.DeepCutAuto
import Derived.Deep.RegionWith
import Derived.Test.YtpoleldfoahpoaaGreatGrU
import Derived.Test.YtpoleldfoahpoaaGreatLotP37
import Derived.Test.YtpoleldfoahpoaaGreatGrZ
namespace Go.Proofs.YtpoleldfoahpoaaGreat
open Go.RowKit
set_option maxRecDepth 100000

theorem getD_set_b (bs : List Bool) (i j : Nat) (v : Bool) : (bs.set i v).getD j false = if i = j ∧ j < bs.length then v else bs.getD j false := by
  rw [List.getD_eq_getElem?_getD, List.getElem?_set, List.getD_eq_getElem?_getD]
  by_cases h : i = j
  · subst h
    by_cases hl : i < bs.length
    · simp [hl]
    · simp [hl]
  · simp [h]
/-- What holds while blocks are marked: the marks, those that are left to look at, the one that is looked at. -/
structure CmI (g : List Bk) (bs : List Bool) (ls : List Nat) (cur : Option Nat) : Prop where
  len : bs.length = g.length
  good : ∀ i, bs.getD i false = true → Come g i
  lst : ∀ i ∈ ls, Come g i
  now : ∀ c, cur = some c → Come g c
  zero : bs.getD 0 false = true ∨ 0 ∈ ls ∨ cur = some 0
  clos : ∀ i (hi : i < g.length), bs.getD i false = true → ∀ j ∈ nextL g[i], bs.getD j false = true ∨ j ∈ ls ∨ cur = some j

theorem CmI.first {g : List Bk} : CmI g (List.replicate g.length false) [0] none := by
  have hf : ∀ i, (List.replicate g.length false).getD i false = false := fun i => by
    rw [List.getD_eq_getElem?_getD, List.getElem?_replicate]
    split <;> rfl
  exact ⟨by simp, fun i h => (by rw [hf] at h; cases h), fun i hi => (by simp at hi; rw [hi]; exact .first), fun c h => (by cases h), .inr (.inl (by simp)), fun i _ h => (by rw [hf] at h; cases h)⟩
theorem CmI.pop {g : List Bk} {bs : List Bool} {ls : List Nat} {c : Nat} (h : CmI g bs (ls ++ [c]) none) : CmI g bs ls (some c) := by
  refine ⟨h.len, h.good, fun i hi => h.lst i (by simp [hi]), fun d hd => ?_, ?_, fun i hi hb j hj => ?_⟩
  · cases hd
    exact h.lst c (by simp)
  · rcases h.zero with e | e | e
    · exact .inl e
    · rcases List.mem_append.1 e with e | e
      · exact .inr (.inl e)
      · exact .inr (.inr (by simp at e; rw [e]))
    · cases e
  · rcases h.clos i hi hb j hj with e | e | e
    · exact .inl e
    · rcases List.mem_append.1 e with e | e
      · exact .inr (.inl e)
      · exact .inr (.inr (by simp at e; rw [e]))
    · cases e
theorem CmI.drop {g : List Bk} {bs : List Bool} {ls : List Nat} {c : Nat} (h : CmI g bs ls (some c)) (hc : bs.getD c false = true) : CmI g bs ls none := by
  refine ⟨h.len, h.good, h.lst, fun d hd => (by cases hd), ?_, fun i hi hb j hj => ?_⟩
  · rcases h.zero with e | e | e
    · exact .inl e
    · exact .inr (.inl e)
    · cases e
      exact .inl hc
  · rcases h.clos i hi hb j hj with e | e | e
    · exact .inl e
    · exact .inr (.inl e)
    · cases e
      exact .inl hc
/-- A block is marked; what follows on it is left to look at. -/
theorem CmI.mark {g : List Bk} {bs : List Bool} {ls ls' : List Nat} {cur' : Option Nat} {c : Nat} (h : CmI g bs ls (some c)) (hc : c < g.length) (hl : ∀ i, i ∈ ls' ↔ (i ∈ ls ∨ (i ∈ ls' ∧ i ∈ nextL g[c]))) (hsub : ∀ i ∈ ls, i ∈ ls') (hcur : ∀ d, cur' = some d → d ∈ nextL g[c])
    (hall : ∀ j ∈ nextL g[c], j ∈ ls' ∨ cur' = some j) : CmI g (bs.set c true) ls' cur' := by
  have hcc := h.now c rfl
  have hnx : ∀ j ∈ nextL g[c], Come g j := fun j hj => .next hcc hc hj
  have hlen := h.len
  have hm : ∀ j, bs.getD j false = true → (bs.set c true).getD j false = true := fun j hj => by
    rw [getD_set_b]
    split
    · rfl
    · exact hj
  have hself : (bs.set c true).getD c false = true := by
    rw [getD_set_b, if_pos ⟨rfl, by omega⟩]
  refine ⟨by rw [List.length_set]; exact hlen, fun i hi => ?_, fun i hi => ?_, fun d hd => hnx d (hcur d hd), ?_, fun i hi hb j hj => ?_⟩
  · rw [getD_set_b] at hi
    split at hi
    · rename_i hh
      rw [← hh.1]
      exact hcc
    · exact h.good i hi
  · rcases (hl i).1 hi with e | ⟨-, e⟩
    · exact h.lst i e
    · exact hnx i e
  · rcases h.zero with e | e | e
    · exact .inl (hm 0 e)
    · exact .inr (.inl (hsub 0 e))
    · cases e
      exact .inl hself
  · by_cases hic : i = c
    · subst hic
      rcases hall j hj with e | e
      · exact .inr (.inl e)
      · exact .inr (.inr e)
    · rw [getD_set_b, if_neg (fun hh => hic hh.1.symm)] at hb
      rcases h.clos i hi hb j hj with e | e | e
      · exact .inl (hm j e)
      · exact .inr (.inl (hsub j e))
      · cases e
        exact .inl hself
theorem CmI.over {g : List Bk} {bs : List Bool} (h : CmI g bs [] none) : bs.length = g.length ∧ ∀ i, bs.getD i false = true ↔ Come g i := by
  refine ⟨h.len, fun i => ⟨h.good i, fun hc => ?_⟩⟩
  induction hc with
  | first =>
    rcases h.zero with e | e | e
    · exact e
    · cases e
    · cases e
  | next _ hi hj ih =>
    rcases h.clos _ hi ih _ hj with e | e | e
    · exact e
    · cases e
    · cases e

/-- Two rows of marks that say the same are one. -/
theorem marks_eq {g : List Bk} {bs cs : List Bool} (h1 : bs.length = g.length ∧ ∀ i, bs.getD i false = true ↔ Come g i) (h2 : cs.length = g.length ∧ ∀ i, cs.getD i false = true ↔ Come g i) : bs = cs := by
  apply List.ext_getElem
  · rw [h1.1, h2.1]
  · intro i hi hj
    have e := (h1.2 i).trans (h2.2 i).symm
    rw [List.getD_eq_getElem?_getD, List.getD_eq_getElem?_getD, List.getElem?_eq_getElem hi, List.getElem?_eq_getElem hj] at e
    simp only [Option.getD_some] at e
    exact Bool.eq_iff_iff.2 e

/-- How many are not marked yet. -/
def unm (bs : List Bool) : Nat → Nat
  | 0 => 0
  | n + 1 => unm bs n + (if bs.getD n false = true then 0 else 1)
theorem unm_set_ge {bs : List Bool} {c : Nat} : ∀ {n : Nat}, n ≤ c → unm (bs.set c true) n = unm bs n
  | 0, _ => rfl
  | n + 1, h => by 
    have e : ¬ (c = n ∧ n < bs.length) := by omega
    rw [unm, unm, unm_set_ge (by omega), getD_set_b, if_neg e]
theorem unm_set {bs : List Bool} {c : Nat} (hc : bs.getD c false = false) (hl : c < bs.length) : ∀ {n : Nat}, c < n → unm (bs.set c true) n + 1 = unm bs n
  | 0, h => absurd h (by omega)
  | n + 1, h => by
    rw [unm, unm]
    by_cases hcn : c = n
    · subst hcn
      have e : (bs.set c true).getD c false = true := by rw [getD_set_b, if_pos (show c = c ∧ c < bs.length from ⟨rfl, hl⟩)]
      rw [unm_set_ge (Nat.le_refl _), e, hc]
      simp
    · have := unm_set hc hl (n := n) (by omega)
      have e : (bs.set c true).getD n false = bs.getD n false := by rw [getD_set_b, if_neg (show ¬ (c = n ∧ n < bs.length) by omega)]
      rw [e]
      omega
theorem unm_le (bs : List Bool) (n : Nat) : unm bs n ≤ n := by
  induction n with
  | zero => exact Nat.le_refl _
  | succ n ih =>
    rw [unm]
    split <;> omega
def unmW (gb : Nat) (w : World) : Nat → Nat
  | 0 => 0
  | n + 1 => unmW gb w n + (match w.cell? ⟨gb, n, none⟩ with
    | some (.bool false) => 1
    | _ => 0)
theorem unmW_eq {gb : Nat} {w : World} {bs : List Bool} : ∀ {n : Nat}, (∀ i, i < n → w.cell? ⟨gb, i, none⟩ = some (.bool (bs.getD i false))) → unmW gb w n = unm bs n
  | 0, _ => rfl
  | n + 1, h => by
    rw [unmW, unm, unmW_eq (fun i hi => h i (by omega)), h n (by omega)]
    cases bs.getD n false <;> rfl

/-- The document's own way: from the first on. -/
def reachGTo (g : List Bk) : Nat → List Bool
  | 0 => (List.replicate g.length false).set 0 true
  | k + 1 => if (reachGTo g k).getD k false = true then (nextL (g.getD k bk0)).foldl (fun bs j => bs.set j true) (reachGTo g k) else reachGTo g k
theorem fold_len (ls : List Nat) : ∀ bs : List Bool, (ls.foldl (fun bs j => bs.set j true) bs).length = bs.length := by
  induction ls with
  | nil => intro bs; rfl
  | cons j r ih => intro bs; rw [List.foldl_cons, ih, List.length_set]
theorem fold_get (ls : List Nat) : ∀ (bs : List Bool) (i : Nat), (ls.foldl (fun bs j => bs.set j true) bs).getD i false = true ↔ (bs.getD i false = true ∨ (i ∈ ls ∧ i < bs.length)) := by
  induction ls with
  | nil => intro bs i; simp
  | cons j r ih =>
    intro bs i
    rw [List.foldl_cons, ih, getD_set_b, List.length_set]
    by_cases h : j = i
    · subst h
      by_cases hl : j < bs.length
      · simp [hl]
      · simp [hl]
    · simp [h, Ne.symm h]
theorem reachG_len (g : List Bk) (k : Nat) : (reachGTo g k).length = g.length := by
  induction k with
  | zero => simp [reachGTo]
  | succ k ih =>
    rw [reachGTo]
    split
    · rw [fold_len, ih]
    · exact ih
theorem reachG_mono (g : List Bk) {k m : Nat} (h : k ≤ m) : ∀ i, (reachGTo g k).getD i false = true → (reachGTo g m).getD i false = true := by
  induction m with
  | zero => intro i hi; have : k = 0 := by omega
            subst this; exact hi
  | succ m ih =>
    intro i hi
    by_cases hk : k = m + 1
    · subst hk; exact hi
    · have := ih (by omega) i hi
      rw [reachGTo]
      split
      · rw [fold_get]; exact .inl this
      · exact this
theorem reachG_at {g : List Bk} {k : Nat} (hk : k < g.length) : g.getD k bk0 = g[k] := by rw [List.getD_eq_getElem?_getD, List.getElem?_eq_getElem hk]; rfl
theorem reachG_good {g : List Bk} : ∀ {k : Nat}, k ≤ g.length → ∀ i, (reachGTo g k).getD i false = true → Come g i
  | 0, _, i, h => by
    rw [reachGTo, getD_set_b] at h
    split at h
    · rename_i hh
      rw [← hh.1]
      exact .first
    · rw [List.getD_eq_getElem?_getD, List.getElem?_replicate] at h
      split at h <;> cases h
  | k + 1, hk, i, h => by
    rw [reachGTo] at h
    split at h
    · rename_i hb
      rw [fold_get] at h
      rcases h with h | ⟨h, -⟩
      · exact reachG_good (by omega) i h
      · rw [reachG_at (by omega)] at h
        exact .next (reachG_good (by omega) k hb) (by omega) h
    · exact reachG_good (by omega) i h
/-- Marks below the place that is looked at stay as they are. -/
theorem reachG_low {g : List Bk} (T : TakenG g) {k : Nat} (hk : k < g.length) {m : Nat} (hm : k ≤ m) (hmn : m ≤ g.length) : ∀ i, i ≤ k → (reachGTo g m).getD i false = true → (reachGTo g k).getD i false = true := by
  induction m with
  | zero => intro i _ h; have : k = 0 := by omega
            subst this; exact h
  | succ m ih =>
    intro i hi h
    by_cases hkm : k = m + 1
    · subst hkm; exact h
    · refine ih (by omega) (by omega) i hi ?_
      rw [reachGTo] at h
      split at h
      · rw [fold_get] at h
        rcases h with h | ⟨h, -⟩
        · exact h
        · rw [reachG_at (by omega)] at h
          have := (leads_next (T.ok m (by omega)).2.1 (T.ok m (by omega)).2.2 i h).1
          omega
      · exact h
theorem reachG_all {g : List Bk} (T : TakenG g) : (reachGTo g g.length).length = g.length ∧ ∀ i, (reachGTo g g.length).getD i false = true ↔ Come g i := by
  refine ⟨reachG_len _ _, fun i => ⟨reachG_good (Nat.le_refl _) i, fun hc => ?_⟩⟩
  induction hc with
  | first =>
    refine reachG_mono g (Nat.zero_le _) 0 ?_
    rw [reachGTo, getD_set_b, if_pos ⟨rfl, by simp; exact T.pos⟩]
  | @next i j _ hi hj ih =>
    have h1 := reachG_low T hi (Nat.le_of_lt hi) (Nat.le_refl _) i (Nat.le_refl _) ih
    refine reachG_mono g (show i + 1 ≤ g.length by omega) j ?_
    rw [reachGTo, if_pos h1, fold_get]
    refine .inr ⟨by rw [reachG_at hi]; exact hj, ?_⟩
    rw [reachG_len]
    exact (leads_next (T.ok i hi).2.1 (T.ok i hi).2.2 j hj).2
/-- P15.3. -/
def reachG (g : List Bk) : List Bool := if (checkG g).2 = 0 then reachGTo g g.length else []

end Go.Proofs.YtpoleldfoahpoaaGreat

namespace Go.Proofs.YtpoleldfoahpoaaGreat
open Go.RowKit
set_option maxRecDepth 100000

/-- The beginning of an owned row is one. -/
theorem owns_take15 {w : World} {base e size g n cap m : Nat} {vs : List Value} (h : w.ownsRow base e size (.slice (some ⟨g, 0, none⟩) n cap) n vs) (hm : m ≤ n) : w.ownsRow base e size (.slice (some ⟨g, 0, none⟩) m cap) m (vs.take (m * size)) := by
  have h0 := h.1
  rcases h.2 with ⟨h, _⟩ | ⟨g', cap', cur, hv, hb, hg, hc, hmx, hs, ht⟩
  · cases h
  · simp only [Value.slice.injEq, Option.some.injEq, Addr.mk.injEq] at hv
    obtain ⟨⟨rfl, _⟩, _, rfl⟩ := hv
    have hle : m * size ≤ n * size := Nat.mul_le_mul_right _ hm
    refine ⟨by rw [List.length_take, h0]; omega, .inr ⟨g, cap, cur, rfl, hb, hg, by omega, hmx, hs, ?_⟩⟩
    rw [← ht, List.take_take, Nat.min_eq_left hle]

theorem kinds_ne {w : World} {base base' e e' size size' n n' g g' cap cap' : Nat} {vs vs' : List Value} (h : w.ownsRow base e size (.slice (some ⟨g, 0, none⟩) n cap) n vs) (O : w.ownsRow base' e' size' (.slice (some ⟨g', 0, none⟩) n' cap') n' vs') (he : e ≠ e') : g ≠ g' := by
  rintro rfl
  rcases h.2 with ⟨hv, -⟩ | ⟨g2, cap2, cur, hv, -, hg, -⟩
  · cases hv
  · simp only [Value.slice.injEq, Option.some.injEq, Addr.mk.injEq, and_true] at hv
    obtain ⟨rfl, -, -⟩ := hv
    rcases O.2 with ⟨hv2, -⟩ | ⟨g3, cap3, cur3, hv2, -, hg3, -⟩
    · cases hv2
    · simp only [Value.slice.injEq, Option.some.injEq, Addr.mk.injEq, and_true] at hv2
      obtain ⟨rfl, -, -⟩ := hv2
      rw [hg] at hg3
      simp only [Option.some.injEq, Obj.cells.injEq] at hg3
      exact he hg3.2.1

def slLen : Value → Nat
  | .slice _ n _ => n
  | _ => 0
theorem bool_cells {w : World} {base gb n cap : Nat} {bs : List Bool} (h : w.ownsRow base 4 1 (.slice (some ⟨gb, 0, none⟩) n cap) n (bs.map Value.bool)) (hl : bs.length = n) : ∀ i, i < n → w.cell? ⟨gb, i, none⟩ = some (.bool (bs.getD i false)) := fun i hi => by
  have := h.cells (g := gb) rfl i (.bool (bs.getD i false)) (by rw [List.getElem?_map, List.getD_eq_getElem?_getD, List.getElem?_eq_getElem (by omega)]; rfl)
  rwa [Addr.add_lit, Nat.zero_add] at this
theorem lit_zero (w : World) (base : Nat) (hb : base ≤ w.heap.size) : (w.alloc (.cells #[.int .i64 0] 3)).ownsRow base 3 1 (.slice (some ⟨w.heap.size, 0, none⟩) 1 1) 1 ([0].map nv) :=
  ⟨rfl, .inr ⟨w.heap.size, 1, _, rfl, hb, heap_alloc_new w _, Nat.le_refl _, by unfold maxLen; omega, rfl, rfl⟩⟩
/-- What lies in memory while blocks are marked. -/
structure CmW (w wr : World) (g0 : List Bk) (n gb : Nat) (l : Value) (ls : List Nat) (bs : List Bool) (cur : Option Nat) : Prop where
  inv : CmI g0 bs ls cur
  row : wr.ownsRow w.heap.size 3 1 l ls.length (ls.map nv)
  marks : wr.ownsRow w.heap.size 4 1 (.slice (some ⟨gb, 0, none⟩) n n) n (bs.map Value.bool)
  up : w.grownBy wr none
  few : ls.length ≤ 10000

set_option maxHeartbeats 8000000 in
theorem come_any (a : Option Addr) (ca : Nat) (xs : List Bv) (w : World) (ha : GC w a xs) (T : TakenG (gOf xs)) :
    Calls Tryz.prog 48 #[.slice a xs.length ca] w fun e w' => ∃ v, e = .returned v ∧ BOwns w' w.heap.size v (reachGTo (gOf xs) xs.length) ∧ w.grownBy w' none := by
  obtain ⟨i0, hi, hz0, hz1, hz2⟩ := info_parts info4
  obtain ⟨j0, hj, jz0, jz1, jz2⟩ := info_parts info3
  have H : Hid (GC w a xs) := ha
  have HT : Hid (TakenG (gOf xs)) := T
  have hn0 : 0 < xs.length := by have := T.pos; rwa [gOf_len] at this
  have hn : xs.length ≤ 4096 := by have := T.few; rwa [gOf_len] at this
  clear ha T
  go_enter Tryz.func48, Tryz.ntmps48
  go_wp2; go_step3
  go_wp2_with (at_make; refine wpList_make_full _ rfl (.tmp 8) (.tmp 8) 39 rfl w.heap.size 4 i0 (.bool false) 1 Tryz.underlying39 hi hz0 hz1 .i64 .i64 (xs.length : Int) (xs.length : Int) xs.length rfl rfl rfl rfl ?q1 ?q2 ?q3 ?q4)
  case q1 => rw [hz2]; omega
  case q2 => unfold maxLen; omega
  case q3 => exact Nat.le_refl _
  case q4 =>
    intro w2 h2 K2
    rw [toList_madeCells_one] at h2
    have R2 : w2.ownsRow w.heap.size 4 1 (.slice (some ⟨w.heap.size, 0, none⟩) xs.length xs.length) xs.length ((List.replicate xs.length false).map Value.bool) := by simpa using h2
    clear h2
    have KA : w2.grownBy (w2.alloc (.cells #[.int .i64 0] 3)) none := World.grownBy_alloc _ _ _
    have RL : (w2.alloc (.cells #[.int .i64 0] 3)).ownsRow w.heap.size 3 1 (.slice (some ⟨w2.heap.size, 0, none⟩) 1 1) 1 ([0].map nv) := lit_zero w2 _ K2.size
    have HW : Hid (CmW w (w2.alloc (.cells #[.int .i64 0] 3)) (gOf xs) xs.length w.heap.size (.slice (some ⟨w2.heap.size, 0, none⟩) 1 1) [0] (List.replicate xs.length false) none) := ⟨by rw [← gOf_len]; exact CmI.first, RL, owns_keptNone R2 KA, grown_trans K2 KA, by decide⟩
    clear R2 RL KA K2
    obtain ⟨gb, hgb⟩ : ∃ gb, w.heap.size = gb := ⟨_, rfl⟩
    have HGB : Hid (w.heap.size = gb) := hgb
    rw [show (Value.slice (some ⟨w.heap.size, 0, none⟩) xs.length xs.length) = .slice (some ⟨gb, 0, none⟩) xs.length xs.length by rw [hgb]]
    have HW : Hid (CmW w (w2.alloc (.cells #[.int .i64 0] 3)) (gOf xs) xs.length gb (.slice (some ⟨w2.heap.size, 0, none⟩) 1 1) [0] (List.replicate xs.length false) none) := by rw [← hgb]; exact HW.out
    clear hgb
    go_wp2; go_step3
    go_wp2
    generalize w2.alloc (.cells #[.int .i64 0] 3) = w3 at *
    generalize w2.heap.size = gl0 at *
    go_loopw [4] (fun l wr => ∃ (ls : List Nat) (bs : List Bool), Hid (CmW w wr (gOf xs) xs.length gb l ls bs none) ∧ 2 * unm bs xs.length + ls.length ≤ 2 * xs.length + 1) (fun l wr => 2 * unmW gb wr xs.length + slLen l)
    case atStart =>
      refine ⟨[0], List.replicate xs.length false, HW.out, ?_⟩
      have := unm_le (List.replicate xs.length false) xs.length
      simp only [List.length_singleton]
      omega
    case round =>
      clear HW
      obtain ⟨ls, bs, HC, hfew⟩ := hrel
      have hlen : bs.length = xs.length := by have := HC.out.inv.len; rwa [gOf_len] at this
      by_cases hls : 0 < ls.length
      · obtain ⟨init, c, rfl⟩ : ∃ init c, ls = init ++ [c] := ⟨ls.dropLast, ls.getLast (by intro e; rw [e] at hls; simp at hls), (List.dropLast_concat_getLast _).symm⟩
        obtain ⟨gl, cl, hl4, hcl, hclm, hgl1, hgl2⟩ := owns_head HC.out.row hls
        rw [List.length_append, List.length_singleton] at hl4 hfew hls hcl
        subst hl4
        have hrow := HC.out.row
        have c1 : wr.cell? ⟨gl, init.length, none⟩ = some (.int .i64 (c : Int)) := by
          have := hrow.cells (g := gl) rfl init.length (nv c) (by rw [List.map_append, List.getElem?_append_right (by simp)]; simp)
          rwa [Addr.add_lit, Nat.zero_add] at this
        have HC2 : Hid (CmW w wr (gOf xs) xs.length gb (.slice (some ⟨gl, 0, none⟩) init.length cl) init bs (some c)) := by
          refine ⟨HC.out.inv.pop, ?_, HC.out.marks, HC.out.up, by have := HC.out.few; rw [List.length_append] at this; simp at this; omega⟩
          rw [List.length_append, List.length_singleton] at hrow
          have := owns_take15 (m := init.length) hrow (by omega)
          rwa [List.map_append, Nat.mul_one, List.take_left' (by simp)] at this
        have h1 : (0 : Int) < (init.length : Int) + 1 := by omega
        have h2 : IntKind.i64.wrap ((init.length : Int) + 1 - 1) = (init.length : Int) := by rw [IntKind.wrap_i64]; omega
        have h3 : (init.length : Int) ≤ (cl : Int) := by omega
        obtain ⟨V, hV⟩ : ∃ V, 2 * unmW gb wr xs.length + (init.length + 1) = V := ⟨_, rfl⟩
        have hVu : 2 * unm bs xs.length + init.length + 1 ≤ V := by
          rw [← hV, unmW_eq (bool_cells HC.out.marks hlen)]
          omega
        have HV : Hid (2 * unmW gb wr xs.length + slLen (.slice (some ⟨gl, 0, none⟩) (init.length + 1) cl) = V) := hV
        unfold maxLen at hclm
        clear hrow HC hV
        have hV8 : V ≤ 2 * xs.length + 1 := by
          have := HV.out
          have e := unmW_eq (bool_cells HC2.out.marks hlen)
          simp only [slLen] at this
          rw [e] at this
          omega
        go_upto_region 7 with fail
        clear c1 h1 h2 h3 hcl hclm hgl1 hgl2 hls
        go_wp2
        go_loopw [4, 6] (fun l i wr => ∃ (ls : List Nat) (bs : List Bool) (c : Nat), i = .int .i64 (c : Int) ∧ Hid (CmW w wr (gOf xs) xs.length gb l ls bs (some c)) ∧ 2 * unm bs xs.length + ls.length + 1 ≤ V) (fun _ _ wr => unmW gb wr xs.length)
        case atStart => exact ⟨init, bs, c, rfl, HC2, hVu⟩
        case round =>
          clear HC2 hVu
          obtain ⟨ls, bs, c, rfl, HC, hVu⟩ := hrel
          have hlen : bs.length = xs.length := by have := HC.out.inv.len; rwa [gOf_len] at this
          have hc' : c < (gOf xs).length := come_lt HT.out (HC.out.inv.now c rfl)
          have hc : c < xs.length := by rwa [gOf_len] at hc'
          have hci : (c : Int) < (xs.length : Int) := by omega
          have hum := unmW_eq (bool_cells HC.out.marks hlen)
          have HUM : Hid (unmW gb wr xs.length = unm bs xs.length) := hum
          have hbc := bool_cells HC.out.marks hlen c hc
          have hbf := HC.out.marks.frozenAt c
          clear hum
          cases hb : bs.getD c false with
          | true =>
            rw [hb] at hbc
            have HD : Hid (CmW w wr (gOf xs) xs.length gb u4 ls bs none) := ⟨HC.out.inv.drop hb, HC.out.row, HC.out.marks, HC.out.up, HC.out.few⟩
            obtain ⟨al, cl2, rfl, -⟩ := cv_of_row HC.out.row
            clear hb HC
            go_wp2
            go_roundw
            case rel => exact ⟨ls, bs, HD, by omega⟩
            case measure =>
              rw [HV.out]
              rw [HUM.out]
              simp only [slLen]
              omega
          | false =>
            rw [hb] at hbc
            have K3 : wr.grownBy (wr.setCell ⟨gb, c, none⟩ (.bool true)) (some gb) := grown_set1 wr ⟨gb, c, none⟩ _
            have hgb0 := (HC.out.marks.lt gb rfl).1
            have G3 : w.grownBy (wr.setCell ⟨gb, c, none⟩ (.bool true)) none := grown_trans_new HC.out.up K3 (fun x e => by cases e; exact hgb0)
            have M3 : (wr.setCell ⟨gb, c, none⟩ (.bool true)).ownsRow w.heap.size 4 1 (.slice (some ⟨gb, 0, none⟩) xs.length xs.length) xs.length ((bs.set c true).map Value.bool) := by
              rw [List.map_set]
              exact (World.ownsRow.stored HC.out.marks c (.bool true)).1
            have R3 : (wr.setCell ⟨gb, c, none⟩ (.bool true)).ownsRow w.heap.size 3 1 u4 ls.length (ls.map nv) := kinds15 HC.out.row HC.out.marks (by decide) K3
            have HW3 : Hid (∀ ls' cur', CmI (gOf xs) (bs.set c true) ls' cur' → ∀ w4 l', (wr.setCell ⟨gb, c, none⟩ (.bool true)).grownBy w4 u4.ownBlock → w4.ownsRow w.heap.size 3 1 l' ls'.length (ls'.map nv) → ls'.length ≤ 10000 → w.grownBy w4 none → CmW w w4 (gOf xs) xs.length gb l' ls' (bs.set c true) cur') := fun ls' cur' hI w4 l' K R hf hu => ⟨hI, R, kinds15 M3 R3 (by decide) K, hu, hf⟩
            have hus := unm_set hb (by omega : c < bs.length) hc
            have HI := HC.out.inv
            have hfew := HC.out.few
            have HU3 : Hid (unmW gb (wr.setCell ⟨gb, c, none⟩ (.bool true)) xs.length = unm (bs.set c true) xs.length) := unmW_eq (bool_cells M3 (by rw [List.length_set]; exact hlen))
            obtain ⟨b1, o1, rfl, h1⟩ := ((H.out.keptNone G3).1).blocks hc
            have h1' := h1 c hc
            have hb1 : b1 < w.heap.size := (H.out.1).under rfl (by intro e; have := congrArg List.length e; rw [flatB_len] at this; simp at this; omega)
            have ht := HT.out.ok c hc'
            have hlb := fun z (hz : u4.ownBlock = some z) => (R3.lt z hz).1
            have HXB : Hid ((gOf xs)[c] = xs[c].b) := (by simp [gOf] : (gOf xs)[c] = xs[c].b)
            clear h1
            have hnx := leads_next ht.2.1 ht.2.2
            have hen := ends_cases ht.2.1
            have HMK : Hid (∀ ls' cur', (∀ i, i ∈ ls' ↔ (i ∈ ls ∨ (i ∈ ls' ∧ i ∈ nextL xs[c].b))) → (∀ i ∈ ls, i ∈ ls') → (∀ d, cur' = some d → d ∈ nextL xs[c].b) → (∀ j ∈ nextL xs[c].b, j ∈ ls' ∨ cur' = some j) → CmI (gOf xs) (bs.set c true) ls' cur') := fun ls' cur' q1 q2 q3 q4 => by
              have e := HXB.out
              exact HI.mark hc' (by rw [e]; exact q1) q2 (by rw [e]; exact q3) (by rw [e]; exact q4)
            rw [HXB.out] at hnx hen
            rw [gOf_len] at hnx
            clear ht HXB HI HC hb
            generalize xs[c] = x at *
            obtain ⟨⟨code, en, last, yes, no⟩, xa, xc⟩ := x
            have c1 := h1' 1 _ rfl
            have c6 := h1' 6 _ rfl
            have c7 := h1' 7 _ rfl
            clear h1' M3
            simp only at *
            go_upto_region 9 with fail
            generalize wr.setCell ⟨gb, c, none⟩ (.bool true) = w3 at *
            clear hbc hbf K3
            rcases hen with rfl | rfl | rfl
            · have hN : nextL ⟨code, 1, last, yes, no⟩ = [] := by rw [nextL, if_pos rfl]
              have HD : Hid (CmW w w3 (gOf xs) xs.length gb u4 ls (bs.set c true) none) := HW3.out ls none (HMK.out ls none (fun i => ⟨.inl, fun h => h.elim id (·.1)⟩) (fun i h => h) (fun d h => (by cases h)) (fun j h => (by rw [hN] at h; cases h))) w3 u4 (World.grownBy.refl _ _) R3 hfew G3
              obtain ⟨al, cl2, rfl, -⟩ := cv_of_row R3
              clear hN HMK HW3 hnx
              go_wp2
              go_roundw
              case rel => exact ⟨ls, bs.set c true, HD, by omega⟩
              case measure =>
                rw [HV.out, HU3.out]
                simp only [slLen]
                omega
            · have hN : nextL ⟨code, 2, last, yes, no⟩ = [yes.toNat] := by rw [nextL, if_neg (by simp), if_pos rfl]
              have hy := hnx yes.toNat (by rw [hN]; simp)
              have HD : Hid (CmW w w3 (gOf xs) xs.length gb u4 ls (bs.set c true) (some yes.toNat)) := HW3.out ls (some yes.toNat) (HMK.out ls _ (fun i => ⟨.inl, fun h => h.elim id (·.1)⟩) (fun i h => h) (fun d h => (by cases h; rw [hN]; simp)) (fun j h => (by rw [hN] at h; simp at h; exact .inr (by rw [h])))) w3 u4 (World.grownBy.refl _ _) R3 hfew G3
              clear hN HMK HW3 hnx
              go_wp2
              go_roundw
              case rel => exact ⟨ls, bs.set c true, yes.toNat, by rw [Int.toNat_of_nonneg (by omega)], HD, by omega⟩
              case measure =>
                rw [HU3.out, HUM.out]
                omega
            · have hN : nextL ⟨code, 3, last, yes, no⟩ = [yes.toNat, no.toNat] := by rw [nextL, if_neg (by simp), if_neg (by simp)]
              have hy := hnx yes.toNat (by rw [hN]; simp)
              have hz := hnx no.toNat (by rw [hN]; simp)
              have HNO : Hid ((Value.int .i64 no) = nv no.toNat) := (by rw [nv, Int.toNat_of_nonneg (by omega)] : (Value.int .i64 no) = nv no.toNat)
              have HI4 : Hid (CmI (gOf xs) (bs.set c true) (ls ++ [no.toNat]) (some yes.toNat)) := HMK.out (ls ++ [no.toNat]) (some yes.toNat) (fun i => ⟨fun h => (List.mem_append.1 h).elim .inl (fun h2 => .inr ⟨h, by simp at h2; rw [hN, h2]; simp⟩), fun h => h.elim (fun h2 => List.mem_append.2 (.inl h2)) (·.1)⟩) (fun i h => List.mem_append.2 (.inl h)) (fun d h => (by cases h; rw [hN]; simp)) (fun j h => (by rw [hN] at h; simp at h; rcases h with h | h; exact .inr (by rw [h]); exact .inl (by rw [h]; simp)))
              have KA : w3.grownBy (w3.alloc (.cells #[.int .i64 no] 3)) none := World.grownBy_alloc _ _ _
              have HR3 : Hid ((w3.alloc (.cells #[.int .i64 no] 3)).ownsRow w.heap.size 3 1 u4 ls.length (ls.map nv)) := owns_keptNone R3 KA
              have d6 := KA.cell c6 (by simp)
              clear hN HMK hnx
              go_wp2_with (at_builtin; refine wpList_append_cv rfl (.tmp 41) (.tmp 47) 82 rfl 3 j0 (.int .i64 0) 1 8 Tryz.underlying82 hj jz0 jz1 jz2 rfl (by decide) w.heap.size u4 ls.length (ls.map nv) rfl ?p1 (some ⟨w3.heap.size, 0, none⟩) 1 1 [.int .i64 no] rfl rfl (by simp) ?p2 (by simp [Value.oneCell']) ?p3 ?p4 ?p5 ?p6)
              case p1 => exact HR3.out
              case p2 => exact cv_lit w3 _ _
              case p3 => unfold maxLen; omega
              case p4 => omega
              case p5 => have := G3.size; have := KA.size; omega
              case p6 =>
                intro v' w5 O5 K5
                have K35 := grown_trans (World.grownBy_alloc w3 (.cells #[.int .i64 no] 3) u4.ownBlock) K5
                have G5 : w.grownBy w5 none := grown_trans_new G3 K35 hlb
                have R5 : w5.ownsRow w.heap.size 3 1 v' (ls ++ [no.toNat]).length ((ls ++ [no.toNat]).map nv) := by
                  rw [List.length_append, List.length_singleton, List.map_append, List.map_singleton, ← HNO.out]
                  exact O5
                have hl5 : (ls ++ [no.toNat]).length = ls.length + 1 := by simp
                have HD : Hid (CmW w w5 (gOf xs) xs.length gb v' (ls ++ [no.toNat]) (bs.set c true) (some yes.toNat)) := HW3.out _ _ HI4.out w5 v' K35 R5 (by omega) G5
                have HU5 : Hid (unmW gb w5 xs.length = unm (bs.set c true) xs.length) := unmW_eq (bool_cells HD.out.marks (by rw [List.length_set]; exact hlen))
                have e6 := K35.cell c6 (by intro e; have h : w.heap.size ≤ b1 := hlb b1 e.symm; omega)
                clear O5 K5 K35 R5 R3 HR3 HW3 c1 c6 c7 d6 KA HI4 HNO hlb
                go_wp2
                go_roundw
                case rel => exact ⟨ls ++ [no.toNat], bs.set c true, yes.toNat, by rw [Int.toNat_of_nonneg (by omega)], HD, by omega⟩
                case measure =>
                  rw [HU5.out, HUM.out]
                  omega
      · have hl0 : ls = [] := List.eq_nil_of_length_eq_zero (by omega)
        subst hl0
        have HO : Hid (reachGTo (gOf xs) xs.length = bs) := by
          show _ = _
          rw [← gOf_len]
          exact marks_eq (reachG_all HT.out) HC.out.inv.over
        have B : BOwns wr w.heap.size (.slice (some ⟨gb, 0, none⟩) xs.length xs.length) (reachGTo (gOf xs) xs.length) := by
          unfold BOwns
          rw [HO.out, hlen]
          exact HC.out.marks
        have G := HC.out.up
        obtain ⟨al, cl, rfl, -⟩ := cv_of_row HC.out.row
        clear HC HO hls
        simp only [List.length_nil]
        go_wp2
        rw [Exit.noGoto_ret]
        go_ret
        exact ⟨_, rfl, B, G⟩

set_option maxHeartbeats 1000000 in
theorem greach_any (a : Option Addr) (ca : Nat) (xs : List Bv) (w : World) (ha : GC w a xs) (hlen : ∀ x ∈ xs, x.b.code.length ≤ 4611686018427387904) :
    Calls Tryz.prog 19 #[.slice a xs.length ca] w fun e w' => ∃ v, e = .returned (.tuple #[v, .int .i64 (if takenB (gOf xs) = true then 0 else 155)]) ∧ BOwns w' w.heap.size v (reachG (gOf xs)) ∧ w.grownBy w' none := by
  have CT := taken_any a ca xs w ha hlen
  cases ht : takenB (gOf xs) with
  | false =>
    rw [ht] at CT
    have HR : Hid (reachG (gOf xs) = []) := by
      show _ = _
      rw [reachG, if_neg (by rw [← takenB_iff, ht]; simp)]
    rw [if_neg (by simp)]
    clear ht
    go_enter Tryz.func19, Tryz.ntmps19
    go_wp2_with fail
    refine CT.mono ?_
    rintro e w1 ⟨rfl, K⟩
    go_wp2
    go_ret2
    refine ⟨_, rfl, ?_, K⟩
    rw [HR.out]
    exact World.ownsRow_nil _ _ _ _
  | true =>
    rw [ht] at CT
    have T := taken_g (takenB_iff.1 ht)
    have HR : Hid (reachG (gOf xs) = reachGTo (gOf xs) xs.length) := by
      show _ = _
      rw [reachG, if_pos (takenB_iff.1 ht), gOf_len]
    rw [if_pos rfl]
    have CC := fun W (G : w.grownBy W none) => come_any a ca xs W (ha.keptNone G) T
    clear ht T ha
    go_enter Tryz.func19, Tryz.ntmps19
    go_wp2_with fail
    refine CT.mono ?_
    rintro e w1 ⟨rfl, K⟩
    go_wp2_with fail
    refine (CC _ K).mono ?_
    rintro e w2 ⟨v, rfl, B, K2⟩
    go_wp2
    go_ret2
    refine ⟨v, rfl, ?_, grown_trans K K2⟩
    rw [HR.out]
    exact owns_mono B K.size

end Go.Proofs.YtpoleldfoahpoaaGreat

namespace Go.Proofs.YtpoleldfoahpoaaGreat
open Go.RowKit
set_option maxRecDepth 100000

theorem size_le (b : Bk) : sizeE b ≤ 3 := by unfold sizeE; split <;> omega
theorem meas_le (b : Bk) : measE b ≤ 3 := by unfold measE; split <;> omega

set_option maxHeartbeats 2000000 in
theorem refsize_any (a : Option Addr) (ca : Nat) (xs : List Bv) (w : World) (ha : GC w a xs) (T : TakenG (gOf xs)) :
    Calls Tryz.prog 22 #[.slice a xs.length ca] w fun e w' => e = .returned (.int .i64 (countG sizeE (gOf xs) : Int)) ∧ w.grownBy w' none := by
  have H : Hid (GC w a xs) := ha
  have HT : Hid (TakenG (gOf xs)) := T
  have hfew : xs.length ≤ 4096 := by have := T.few; rwa [gOf_len] at this
  clear ha T
  go_enter Tryz.func22, Tryz.ntmps22
  go_wp2
  go_loopw [3, 4] (fun s i wr => ∃ (k : Nat), k ≤ xs.length ∧ i = .int .i64 k ∧ s = .int .i64 (countG sizeE ((gOf xs).take k) : Int) ∧ w.grownBy wr none) (fun _ i _ => xs.length - (intOf i).toNat)
  case atStart => exact ⟨0, Nat.zero_le _, rfl, by simp [countG], World.grownBy.refl _ _⟩
  case round =>
    obtain ⟨k, hk, rfl, rfl, G⟩ := hrel
    by_cases hlt : k < xs.length
    · have hl : (k : Int) < (xs.length : Int) := by omega
      obtain ⟨b1, o1, rfl, h1⟩ := ((H.out.keptNone G).1).blocks hlt
      have h1' := h1 k hlt
      have hT := (HT.out.ok k (by rw [gOf_len]; exact hlt)).2.1
      have hcl : codeLen ((gOf xs).take (k + 1)) ≤ 4096 := Nat.le_trans (codeLen_take _ _) HT.out.room
      have hcc := countG_le sizeE 3 size_le ((gOf xs).take (k + 1))
      rw [List.length_take] at hcc
      have HQ' := countG_snoc sizeE ((gOf xs)[k]'(by rw [gOf_len]; exact hlt)) ((gOf xs).take k)
      rw [List.take_append_getElem (by rw [gOf_len]; exact hlt)] at HQ'
      rw [HQ'] at hcc
      rw [show (gOf xs)[k]'(by rw [gOf_len]; exact hlt) = xs[k].b by simp [gOf]] at hT HQ' hcc
      clear h1
      generalize xs[k] = x at *
      obtain ⟨b, xa, xc⟩ := x
      have hcc' : countG sizeE ((gOf xs).take k) + b.code.length ≤ 20000 := by simp only at hcc; omega
      have HQ : Hid (countG sizeE ((gOf xs).take k) + (b.code.length + sizeE b) = countG sizeE ((gOf xs).take (k + 1))) := HQ'.symm
      clear HQ' hcc hcl
      have c0 := h1' 0 _ rfl
      have c1 := h1' 1 _ rfl
      clear h1'
      rw [Nat.add_zero] at c0
      have hen := ends_cases hT
      obtain ⟨code, en, last, yes, no⟩ := b
      simp only at c0 c1 hen hcc'
      clear hT
      generalize countG sizeE ((gOf xs).take k) = S at *
      rcases hen with rfl | rfl | rfl
      · have HQ2 : Hid (S + (code.length + 1) = countG sizeE ((gOf xs).take (k + 1))) := HQ.out
        clear HQ
        go_wp2
        go_roundw
        case rel =>
          refine ⟨k + 1, by omega, by go_num, ?_, G⟩
          rw [← HQ2.out]
          congr 1 <;> omega
        case measure => simp [intOf]; omega
      · have HQ2 : Hid (S + (code.length + 0) = countG sizeE ((gOf xs).take (k + 1))) := HQ.out
        clear HQ
        go_wp2
        go_roundw
        case rel =>
          refine ⟨k + 1, by omega, by go_num, ?_, G⟩
          rw [← HQ2.out]
          congr 1 <;> omega
        case measure => simp [intOf]; omega
      · have HQ2 : Hid (S + (code.length + 1) = countG sizeE ((gOf xs).take (k + 1))) := HQ.out
        clear HQ
        go_wp2
        go_roundw
        case rel =>
          refine ⟨k + 1, by omega, by go_num, ?_, G⟩
          rw [← HQ2.out]
          congr 1 <;> omega
        case measure => simp [intOf]; omega
    · have hl : ¬ (k : Int) < (xs.length : Int) := by omega
      have HE : Hid (countG sizeE ((gOf xs).take k) = countG sizeE (gOf xs)) := by
        show _ = _
        rw [List.take_of_length_le (by rw [gOf_len]; omega)]
      generalize countG sizeE ((gOf xs).take k) = S at *
      go_wp2
      go_ret
      rw [← HE.out]
      exact ⟨rfl, G⟩

set_option maxHeartbeats 2000000 in
theorem refmeasure_any (a : Option Addr) (ca : Nat) (xs : List Bv) (w : World) (ha : GC w a xs) (T : TakenG (gOf xs)) :
    Calls Tryz.prog 23 #[.slice a xs.length ca] w fun e w' => e = .returned (.int .i64 (countG measE (gOf xs) : Int)) ∧ w.grownBy w' none := by
  have H : Hid (GC w a xs) := ha
  have HT : Hid (TakenG (gOf xs)) := T
  have hfew : xs.length ≤ 4096 := by have := T.few; rwa [gOf_len] at this
  clear ha T
  go_enter Tryz.func23, Tryz.ntmps23
  go_wp2
  go_loopw [3, 4] (fun s i wr => ∃ (k : Nat), k ≤ xs.length ∧ i = .int .i64 k ∧ s = .int .i64 (countG measE ((gOf xs).take k) : Int) ∧ w.grownBy wr none) (fun _ i _ => xs.length - (intOf i).toNat)
  case atStart => exact ⟨0, Nat.zero_le _, rfl, by simp [countG], World.grownBy.refl _ _⟩
  case round =>
    obtain ⟨k, hk, rfl, rfl, G⟩ := hrel
    by_cases hlt : k < xs.length
    · have hl : (k : Int) < (xs.length : Int) := by omega
      obtain ⟨b1, o1, rfl, h1⟩ := ((H.out.keptNone G).1).blocks hlt
      have h1' := h1 k hlt
      have hT := (HT.out.ok k (by rw [gOf_len]; exact hlt)).2.1
      have hcl : codeLen ((gOf xs).take (k + 1)) ≤ 4096 := Nat.le_trans (codeLen_take _ _) HT.out.room
      have hcc := countG_le measE 3 meas_le ((gOf xs).take (k + 1))
      rw [List.length_take] at hcc
      have HQ' := countG_snoc measE ((gOf xs)[k]'(by rw [gOf_len]; exact hlt)) ((gOf xs).take k)
      rw [List.take_append_getElem (by rw [gOf_len]; exact hlt)] at HQ'
      rw [HQ'] at hcc
      rw [show (gOf xs)[k]'(by rw [gOf_len]; exact hlt) = xs[k].b by simp [gOf]] at hT HQ' hcc
      clear h1
      generalize xs[k] = x at *
      obtain ⟨b, xa, xc⟩ := x
      have hcc' : countG measE ((gOf xs).take k) + b.code.length ≤ 20000 := by simp only at hcc; omega
      have HQ : Hid (countG measE ((gOf xs).take k) + (b.code.length + measE b) = countG measE ((gOf xs).take (k + 1))) := HQ'.symm
      clear HQ' hcc hcl
      have c0 := h1' 0 _ rfl
      have c1 := h1' 1 _ rfl
      clear h1'
      rw [Nat.add_zero] at c0
      have hen := ends_cases hT
      obtain ⟨code, en, last, yes, no⟩ := b
      simp only at c0 c1 hen hcc'
      clear hT
      generalize countG measE ((gOf xs).take k) = S at *
      rcases hen with rfl | rfl | rfl
      · have HQ2 : Hid (S + (code.length + 1) = countG measE ((gOf xs).take (k + 1))) := HQ.out
        clear HQ
        go_wp2
        go_roundw
        case rel =>
          refine ⟨k + 1, by omega, by go_num, ?_, G⟩
          rw [← HQ2.out]
          congr 1 <;> omega
        case measure => simp [intOf]; omega
      · have HQ2 : Hid (S + (code.length + 1) = countG measE ((gOf xs).take (k + 1))) := HQ.out
        clear HQ
        go_wp2
        go_roundw
        case rel =>
          refine ⟨k + 1, by omega, by go_num, ?_, G⟩
          rw [← HQ2.out]
          congr 1 <;> omega
        case measure => simp [intOf]; omega
      · have HQ2 : Hid (S + (code.length + 3) = countG measE ((gOf xs).take (k + 1))) := HQ.out
        clear HQ
        go_wp2
        go_roundw
        case rel =>
          refine ⟨k + 1, by omega, by go_num, ?_, G⟩
          rw [← HQ2.out]
          congr 1 <;> omega
        case measure => simp [intOf]; omega
    · have hl : ¬ (k : Int) < (xs.length : Int) := by omega
      have HE : Hid (countG measE ((gOf xs).take k) = countG measE (gOf xs)) := by
        show _ = _
        rw [List.take_of_length_le (by rw [gOf_len]; omega)]
      generalize countG measE ((gOf xs).take k) = S at *
      go_wp2
      go_ret
      rw [← HE.out]
      exact ⟨rfl, G⟩

theorem reachGTo_no {g : List Bk} {k : Nat} (h : (reachGTo g k).getD k false = false) : reachGTo g (k + 1) = reachGTo g k := by rw [reachGTo, if_neg (by rw [h]; simp)]
theorem reachGTo_yes {g : List Bk} {k : Nat} (h : (reachGTo g k).getD k false = true) (hk : k < g.length) : reachGTo g (k + 1) = (nextL g[k]).foldl (fun bs j => bs.set j true) (reachGTo g k) := by rw [reachGTo, if_pos h, reachG_at hk]

set_option maxHeartbeats 4000000 in
theorem refreach_any (a : Option Addr) (ca : Nat) (xs : List Bv) (w : World) (ha : GC w a xs) (T : TakenG (gOf xs)) :
    Calls Tryz.prog 21 #[.slice a xs.length ca] w fun e w' => ∃ v, e = .returned v ∧ BOwns w' w.heap.size v (reachGTo (gOf xs) xs.length) ∧ w.grownBy w' none := by
  obtain ⟨i0, hi, hz0, hz1, hz2⟩ := info_parts info4
  have H : Hid (GC w a xs) := ha
  have HT : Hid (TakenG (gOf xs)) := T
  have hn0 : 0 < xs.length := by have := T.pos; rwa [gOf_len] at this
  have hn : xs.length ≤ 4096 := by have := T.few; rwa [gOf_len] at this
  clear ha T
  go_enter Tryz.func21, Tryz.ntmps21
  go_wp2_with (at_make; refine wpList_make_full _ rfl (.tmp 6) (.tmp 6) 39 rfl w.heap.size 4 i0 (.bool false) 1 Tryz.underlying39 hi hz0 hz1 .i64 .i64 (xs.length : Int) (xs.length : Int) xs.length rfl rfl rfl rfl ?q1 ?q2 ?q3 ?q4)
  case q1 => rw [hz2]; omega
  case q2 => unfold maxLen; omega
  case q3 => exact Nat.le_refl _
  case q4 =>
    intro w2 h2 K2
    rw [toList_madeCells_one] at h2
    have R2 : w2.ownsRow w.heap.size 4 1 (.slice (some ⟨w.heap.size, 0, none⟩) xs.length xs.length) xs.length ((List.replicate xs.length false).map Value.bool) := by simpa using h2
    clear h2
    obtain ⟨gb, hgb⟩ : ∃ gb, w.heap.size = gb := ⟨_, rfl⟩
    have HGB : Hid (w.heap.size ≤ gb) := Nat.le_of_eq hgb
    rw [show (Value.slice (some ⟨w.heap.size, 0, none⟩) xs.length xs.length) = .slice (some ⟨gb, 0, none⟩) xs.length xs.length by rw [hgb]] at R2 ⊢
    clear hgb
    have b0 := bool_cells R2 (by simp) 0 hn0
    have f0 := R2.frozenAt 0
    have h0 : (0 : Int) < (xs.length : Int) := by omega
    have K3 := grown_set1 w2 ⟨gb, 0, none⟩ (.bool true)
    have G3 := grown_trans_new K2 K3 (fun x e => by cases e; exact HGB.out)
    have R3 : (w2.setCell ⟨gb, 0, none⟩ (.bool true)).ownsRow w.heap.size 4 1 (.slice (some ⟨gb, 0, none⟩) xs.length xs.length) xs.length ((reachGTo (gOf xs) 0).map Value.bool) := by
      rw [reachGTo, gOf_len, List.map_set]
      exact (World.ownsRow.stored R2 0 (.bool true)).1
    have HR3 : Hid ((w2.setCell ⟨gb, 0, none⟩ (.bool true)).ownsRow w.heap.size 4 1 (.slice (some ⟨gb, 0, none⟩) xs.length xs.length) xs.length ((reachGTo (gOf xs) 0).map Value.bool)) := R3
    clear R2 R3 K2 K3
    go_upto_region 3 with fail
    generalize w2.setCell ⟨gb, 0, none⟩ (.bool true) = w3 at *
    clear b0 f0 h0
    go_wp2
    go_loopw [4] (fun i wr => ∃ k : Nat, k ≤ xs.length ∧ i = .int .i64 k ∧ Hid (wr.ownsRow w.heap.size 4 1 (.slice (some ⟨gb, 0, none⟩) xs.length xs.length) xs.length ((reachGTo (gOf xs) k).map Value.bool)) ∧ w.grownBy wr none) (fun i _ => xs.length - (intOf i).toNat)
    case atStart => exact ⟨0, Nat.zero_le _, rfl, HR3, G3⟩
    case round =>
      clear HR3 G3
      obtain ⟨k, hk, rfl, HR, G⟩ := hrel
      by_cases hlt : k < xs.length
      · have hl : (k : Int) < (xs.length : Int) := by omega
        have hk' : k < (gOf xs).length := by rw [gOf_len]; exact hlt
        have hlen : (reachGTo (gOf xs) k).length = xs.length := by rw [reachG_len, gOf_len]
        have bc := bool_cells HR.out hlen k hlt
        cases hb : (reachGTo (gOf xs) k).getD k false with
        | false =>
          rw [hb] at bc
          have HN : Hid (reachGTo (gOf xs) (k + 1) = reachGTo (gOf xs) k) := reachGTo_no hb
          clear hb
          go_wp2
          go_roundw
          case rel =>
            refine ⟨k + 1, by omega, by go_num, ?_, G⟩
            show World.ownsRow _ _ _ _ _ _ _
            rw [HN.out]
            exact HR.out
          case measure => simp [intOf]; omega
        | true =>
          rw [hb] at bc
          have hY := reachGTo_yes hb hk'
          have hT := HT.out.ok k hk'
          have hnx := leads_next hT.2.1 hT.2.2
          have hen := ends_cases hT.2.1
          have e := (by simp [gOf] : (gOf xs)[k] = xs[k].b)
          rw [e] at hY hnx hen
          rw [gOf_len] at hnx
          have HY : Hid (reachGTo (gOf xs) (k + 1) = (nextL xs[k].b).foldl (fun bs j => bs.set j true) (reachGTo (gOf xs) k)) := hY
          obtain ⟨b1, o1, rfl, h1⟩ := ((H.out.keptNone G).1).blocks hlt
          have hb1 : b1 < w.heap.size := (H.out.1).under rfl (by intro e; have := congrArg List.length e; rw [flatB_len] at this; simp at this; omega)
          have hbg : b1 ≠ gb := by have := HGB.out; omega
          have h1' := h1 k hlt
          clear h1 hY hT hb e
          generalize xs[k] = x at *
          obtain ⟨⟨code, en, last, yes, no⟩, xa, xc⟩ := x
          have c1 := h1' 1 _ rfl
          have c6 := h1' 6 _ rfl
          have c7 := h1' 7 _ rfl
          clear h1'
          simp only at *
          generalize reachGTo (gOf xs) k = bs at *
          rcases hen with rfl | rfl | rfl
          · have HN : Hid (reachGTo (gOf xs) (k + 1) = bs) := HY.out
            clear HY hnx
            go_wp2
            go_roundw
            case rel =>
              refine ⟨k + 1, by omega, by go_num, ?_, G⟩
              show World.ownsRow _ _ _ _ _ _ _
              rw [HN.out]
              exact HR.out
            case measure => simp [intOf]; omega
          · have HN : Hid (reachGTo (gOf xs) (k + 1) = bs.set yes.toNat true) := HY.out
            have hy := hnx yes.toNat (by show _ ∈ [yes.toNat]; simp)
            have by1 := bool_cells HR.out hlen yes.toNat hy.2
            have fy1 := HR.out.frozenAt yes.toNat
            have hyi : yes < (xs.length : Int) := by omega
            have hy0 : (0 : Int) ≤ yes := by omega
            have hyn : ¬ yes < 0 := by omega
            have K3 := grown_set1 wr ⟨gb, yes.toNat, none⟩ (.bool true)
            have G3 := grown_trans_new G K3 (fun x e => by cases e; exact HGB.out)
            have d1 := K3.cell c1 (by simpa using hbg)
            have HR3 : Hid ((wr.setCell ⟨gb, yes.toNat, none⟩ (.bool true)).ownsRow w.heap.size 4 1 (.slice (some ⟨gb, 0, none⟩) xs.length xs.length) xs.length ((reachGTo (gOf xs) (k + 1)).map Value.bool)) := by
              show World.ownsRow _ _ _ _ _ _ _
              rw [HN.out, List.map_set]
              exact (World.ownsRow.stored HR.out yes.toNat (.bool true)).1
            clear HY hnx HN
            go_upto_region 9 with fail
            generalize wr.setCell ⟨gb, yes.toNat, none⟩ (.bool true) = w3 at *
            clear K3 by1 fy1 c1
            go_wp2
            go_roundw
            case rel => exact ⟨k + 1, by omega, by go_num, HR3, G3⟩
            case measure => simp [intOf]; omega
          · have HN : Hid (reachGTo (gOf xs) (k + 1) = (bs.set yes.toNat true).set no.toNat true) := HY.out
            have hy := hnx yes.toNat (by show _ ∈ [yes.toNat, no.toNat]; simp)
            have hz := hnx no.toNat (by show _ ∈ [yes.toNat, no.toNat]; simp)
            have by1 := bool_cells HR.out hlen yes.toNat hy.2
            have fy1 := HR.out.frozenAt yes.toNat
            have hyi : yes < (xs.length : Int) := by omega
            have hy0 : (0 : Int) ≤ yes := by omega
            have hyn : ¬ yes < 0 := by omega
            have hzi : no < (xs.length : Int) := by omega
            have hz0 : (0 : Int) ≤ no := by omega
            have hzn : ¬ no < 0 := by omega
            have K3 := grown_set1 wr ⟨gb, yes.toNat, none⟩ (.bool true)
            have G3 := grown_trans_new G K3 (fun x e => by cases e; exact HGB.out)
            have d1 := K3.cell c1 (by simpa using hbg)
            have d7 := K3.cell c7 (by simpa using hbg)
            have R3 : (wr.setCell ⟨gb, yes.toNat, none⟩ (.bool true)).ownsRow w.heap.size 4 1 (.slice (some ⟨gb, 0, none⟩) xs.length xs.length) xs.length ((bs.set yes.toNat true).map Value.bool) := by
              rw [List.map_set]
              exact (World.ownsRow.stored HR.out yes.toNat (.bool true)).1
            clear HY hnx
            go_upto_region 9 with fail
            generalize wr.setCell ⟨gb, yes.toNat, none⟩ (.bool true) = w3 at *
            clear K3 by1 fy1 c1 c6 c7
            have by2 := bool_cells R3 (by rw [List.length_set]; exact hlen) no.toNat hz.2
            have fy2 := R3.frozenAt no.toNat
            have K4 := grown_set1 w3 ⟨gb, no.toNat, none⟩ (.bool true)
            have G4 := grown_trans_new G3 K4 (fun x e => by cases e; exact HGB.out)
            have HR4 : Hid ((w3.setCell ⟨gb, no.toNat, none⟩ (.bool true)).ownsRow w.heap.size 4 1 (.slice (some ⟨gb, 0, none⟩) xs.length xs.length) xs.length ((reachGTo (gOf xs) (k + 1)).map Value.bool)) := by
              show World.ownsRow _ _ _ _ _ _ _
              rw [HN.out, List.map_set]
              exact (World.ownsRow.stored R3 no.toNat (.bool true)).1
            clear R3 HN K4
            go_wp2
            go_roundw
            case rel => exact ⟨k + 1, by omega, by go_num, HR4, G4⟩
            case measure => simp [intOf]; omega
      · have hl : ¬ (k : Int) < (xs.length : Int) := by omega
        have hke : k = xs.length := by omega
        have HRe : Hid (BOwns wr w.heap.size (.slice (some ⟨gb, 0, none⟩) xs.length xs.length) (reachGTo (gOf xs) xs.length)) := by
          show World.ownsRow _ _ _ _ _ _ _
          rw [reachG_len, gOf_len, ← hke]
          rw [hke]
          have := HR.out
          rw [hke] at this
          exact this
        clear HR hke
        go_wp2
        go_ret
        exact ⟨_, rfl, HRe.out, G⟩

end Go.Proofs.YtpoleldfoahpoaaGreat

namespace Go.Proofs.YtpoleldfoahpoaaGreat
open Go.RowKit
set_option maxRecDepth 100000

theorem own_map (a : Option Addr) (n c : Nat) : (Value.slice a n c).ownBlock = a.map (·.block) := by cases a <;> rfl
theorem owns_vat {w w' : World} {base D n : Nat} {v : Value} {vs : List Value} {cs : Array Value} (h : w.ownsRow base 54 4 v n vs) (K : w.grownBy w' (some D)) (A : VAt w D 56 cs) : w'.ownsRow base 54 4 v n vs := by
  refine h.kept K ?_
  rcases h.2 with ⟨rfl, -⟩ | ⟨g2, cap2, cur, rfl, -, hg, -⟩
  · exact .inl rfl
  · refine .inr (fun e => ?_)
    simp only [Value.ownBlock, Option.some.injEq] at e
    subst e
    unfold VAt at A
    rw [hg] at A
    simp only [Option.some.injEq, Obj.cells.injEq] at A
    exact absurd A.2.1 (by decide)
theorem BLv.vat {w w' : World} {base D : Nat} {v : Value} {ys : List Bv} {cs : Array Value} (h : BLv w base v ys) (K : w.grownBy w' (some D)) (A : VAt w D 56 cs) (hne : ∀ z, v.ownBlock = some z → z ≠ D) : BLv w' base v ys := by
  refine ⟨h.1.kept K ?_, fun x hx => owns_vat (h.2.1 x hx) K A, h.2.2⟩
  cases hv : v.ownBlock with
  | none => exact .inl rfl
  | some z => exact .inr (by simpa using hne z hv)

set_option maxRecDepth 100000 in
set_option maxHeartbeats 4000000 in
theorem bcopy_any (a : Option Addr) (ca : Nat) (xs : List Bv) (w : World) (ha : GC w a xs) (hn : xs.length * 56 ≤ 140737488355328) (hlen : ∀ x ∈ xs, x.b.code.length * 8 ≤ 140737488351232) :
    Calls Tryz.prog 20 #[.slice a xs.length ca] w (BlksP w (gOf xs)) := by
  obtain ⟨i0, hi, hz0, hz1, hz2⟩ := info_parts info56
  have H : Hid (GC w a xs) := ha
  clear ha
  go_enter Tryz.func20, Tryz.ntmps20
  go_wp2
  go_loopw [3, 4] (fun o i wr => ∃ (k : Nat) (ys : List Bv), k ≤ xs.length ∧ i = .int .i64 k ∧ Hid (gOf ys = (gOf xs).take k) ∧ ys.length = k ∧ BLv wr w.heap.size o ys ∧ w.grownBy wr none) (fun _ i _ => xs.length - (intOf i).toNat)
  case atStart => exact ⟨0, [], Nat.zero_le _, rfl, (show gOf [] = _ by simp [gOf]), rfl, ⟨World.ownsRow_nil _ _ _ _, fun x hx => (by cases hx), List.Pairwise.nil⟩, World.grownBy.refl _ _⟩
  case round =>
    obtain ⟨k, ys, hk, rfl, HV, hyl, B, G⟩ := hrel
    have HYL : Hid (ys.length = k) := hyl
    clear hyl
    by_cases hlt : k < xs.length
    · have hl : (k : Int) < (xs.length : Int) := by omega
      have GG := H.out.keptNone G
      obtain ⟨b1, o1, rfl, d1⟩ := GG.1.blocks hlt
      have d1 := d1 k hlt
      have hx := GG.2 _ (List.getElem_mem hlt)
      have hmm := hlen _ (List.getElem_mem hlt)
      have HV2 : Hid ((gOf xs).take (k + 1) = gOf ys ++ [xs[k].b]) := by
        show _ = _
        rw [HV.out, ← List.take_append_getElem (by rw [gOf_len]; exact hlt)]
        simp [gOf]
      generalize xs[k] = x at *
      obtain ⟨⟨code, en, ⟨ic, it, jf, ik⟩, yes, no⟩, xa, xc⟩ := x
      simp only at hmm
      have c0 := d1 0 _ rfl
      have c1 := d1 1 _ rfl
      have c2 := d1 2 _ rfl
      have c3 := d1 3 _ rfl
      have c4 := d1 4 _ rfl
      have c5 := d1 5 _ rfl
      have c6 := d1 6 _ rfl
      have c7 := d1 7 _ rfl
      rw [Nat.add_zero] at c0
      simp only at c0 c1 c2 c3 c4 c5 c6 c7
      have VX := VAt.alloc wr 56 #[.slice xa code.length xc, .int .i64 en, .int .u16 (ic.toNat : Int), .int .u8 (it.toNat : Int), .int .u8 (jf.toNat : Int), .int .u32 (ik.toNat : Int), .int .i64 yes, .int .i64 no]
      have KX : wr.grownBy (wr.alloc (.cells #[.slice xa code.length xc, .int .i64 en, .int .u16 (ic.toNat : Int), .int .u8 (it.toNat : Int), .int .u8 (jf.toNat : Int), .int .u32 (ik.toNat : Int), .int .i64 yes, .int .i64 no] 56)) none := World.grownBy_alloc _ _ _
      have CL := fun W (G' : wr.grownBy W none) => icopy_any xa xc code W (hx.1.keptNone G') hx.2.2 (by omega)
      have B1 := B.keptNone KX
      have G1 := grown_trans G KX
      have e0 := KX.cell c0 (by simp)
      have hwr : w.heap.size ≤ wr.heap.size := G.size
      have hoD : ∀ z, u3.ownBlock = some z → z ≠ wr.heap.size := fun z hz => by have := (B.1.lt z hz).2; omega
      clear d1 hx GG HV B
      go_upto_region 6 with fail
      generalize wr.alloc (.cells #[.slice xa code.length xc, .int .i64 en, .int .u16 (ic.toNat : Int), .int .u8 (it.toNat : Int), .int .u8 (jf.toNat : Int), .int .u32 (ik.toNat : Int), .int .i64 yes, .int .i64 no] 56) = w1 at *
      generalize wr.heap.size = D at *
      clear c0 c1 c2 c3 c4 c5 c6 c7 G
      have CL1 := CL w1 KX
      clear CL KX
      go_wp2_with fail
      refine CL1.mono ?_
      rintro e w2 ⟨v, rfl, L2, K2⟩
      obtain ⟨a2, cap2, hv2, -⟩ := cv_of_row L2
      subst hv2
      have HAP : Hid (∀ y ∈ ys, ∀ z, (y.a.map (·.block)) = some z → (a2.map (·.block)) ≠ some z) := fun y hy z hz e => by
        have h1 := ((B1.2.1 y hy).lt z (by rw [own_map]; exact hz)).2
        have h2 := (L2.lt z (by rw [own_map]; exact e)).1
        omega
      have L2 := owns_mono L2 G1.size
      have B2 := B1.keptNone K2
      have G2 := grown_trans G1 K2
      have V2 := VX.kept K2
      have q0 : w2.cell? ⟨D, 0, none⟩ = some (.slice xa code.length xc) := V2.cell 0
      have f0 := V2.free 0
      have K3 := grown_set1 w2 ⟨D, 0, none⟩ (.slice (a2) code.length cap2)
      have V3 : VAt (w2.setCell ⟨D, 0, none⟩ (.slice (a2) code.length cap2)) D 56 #[.slice (a2) code.length cap2, .int .i64 en, .int .u16 (ic.toNat : Int), .int .u8 (it.toNat : Int), .int .u8 (jf.toNat : Int), .int .u32 (ik.toNat : Int), .int .i64 yes, .int .i64 no] := V2.set 0 _
      have G3 := grown_trans_new G2 K3 (fun z e => by cases e; exact hwr)
      clear CL1 K2 B1 G1 VX
      have B3 := B2.vat K3 V2 hoD
      have L3 := owns_vat L2 K3 V2
      clear V2 K3 B2 L2 G2
      have HSZ : Hid ((Tryz.prog.info? 56).map (·.size) = some 8) := sizeBk
      go_upto_region 7 with fail
      generalize w2.setCell ⟨D, 0, none⟩ (.slice (a2) code.length cap2) = w3 at *
      clear q0 f0 e0
      obtain ⟨bk, hbk⟩ : ∃ bk : Bv, bk = ⟨⟨code, en, ⟨ic, it, jf, ik⟩, yes, no⟩, a2, cap2⟩ := ⟨_, rfl⟩
      have KA : w3.grownBy (w3.alloc (.cells #[.slice (a2) code.length cap2, .int .i64 en, .int .u16 (ic.toNat : Int), .int .u8 (it.toNat : Int), .int .u8 (jf.toNat : Int), .int .u32 (ik.toNat : Int), .int .i64 yes, .int .i64 no] 56)) none := World.grownBy_alloc _ _ _
      have CA : CV (w3.alloc (.cells #[.slice (a2) code.length cap2, .int .i64 en, .int .u16 (ic.toNat : Int), .int .u8 (it.toNat : Int), .int .u8 (jf.toNat : Int), .int .u32 (ik.toNat : Int), .int .i64 yes, .int .i64 no] 56)) (some ⟨w3.heap.size, 0, none⟩) (flatB [bk]) := by rw [hbk]; exact lit_block w3 ⟨⟨code, en, ⟨ic, it, jf, ik⟩, yes, no⟩, a2, cap2⟩
      have B4 := B3.keptNone KA
      have L4 := owns_keptNone L3 KA
      have G4 := grown_trans G3 KA
      have HPB : Hid (bk = ⟨⟨code, en, ⟨ic, it, jf, ik⟩, yes, no⟩, a2, cap2⟩) := hbk
      clear hbk B3 L3 G3 KA
      go_wp2_with (first
        | refine wpList_load_row rfl 56 (.tmp 5) rfl D rfl 56 #[.slice (a2) code.length cap2, .int .i64 en, .int .u16 (ic.toNat : Int), .int .u8 (it.toNat : Int), .int .u8 (jf.toNat : Int), .int .u32 (ik.toNat : Int), .int .i64 yes, .int .i64 no] (0, 0) _ V3 Tryz.underlying56 rfl HSZ.out ?_
        | (at_builtin; refine wpList_append_cv rfl (.tmp 23) (.tmp 25) 22 rfl 56 i0 _ 8 56 Tryz.underlying22 hi hz0 hz1 hz2 rfl (by decide) w.heap.size _ ys.length (flatB ys) rfl ?q1 (some ⟨w3.heap.size, 0, none⟩) 1 1 (flatB [bk]) rfl rfl (fun e => by cases e) ?q2 (flatB_one _) ?q3 ?q4 ?q5 ?q6))
      case q1 => exact B4.1
      case q2 => exact CA
      case q3 => unfold maxLen; have := HYL.out; omega
      case q4 => have := HYL.out; omega
      case q5 => exact G4.size
      case q6 =>
        intro v' w5 h5 K5
        have B5 : BLv w5 w.heap.size v' (ys ++ [bk]) := B4.push (by rw [HPB.out]; exact L4) (by rw [HPB.out]; exact HAP.out) h5 K5
        have G5 := grown_trans_new G4 K5 (fun z hz => (B4.1.lt z hz).1)
        have HV5 : Hid (gOf (ys ++ [bk]) = (gOf xs).take (k + 1)) := by
          show _ = _
          rw [HV2.out, HPB.out]
          simp [gOf]
        have HL5 : Hid ((ys ++ [bk]).length = k + 1) := by
          show _ = _
          rw [List.length_append, HYL.out]
          rfl
        clear h5 K5 B4 G4 L4 CA
        go_wp2
        go_roundw
        case rel => exact ⟨k + 1, ys ++ [bk], by omega, by go_num, HV5, HL5.out, B5, G5⟩
        case measure => simp [intOf]; omega
    · have hl : ¬ (k : Int) < (xs.length : Int) := by omega
      have hke : k = xs.length := by omega
      subst hke
      have HV5 : Hid (gOf ys = gOf xs) := by
        show _ = _
        rw [HV.out, List.take_of_length_le (by rw [gOf_len]; exact Nat.le_refl _)]
      clear HV
      go_wp2
      go_ret
      exact ⟨_, ys, rfl, B, HV5.out, G⟩

end Go.Proofs.YtpoleldfoahpoaaGreat

namespace Go.Proofs.YtpoleldfoahpoaaGreat
open Go.RowKit
set_option maxRecDepth 100000

/-- Rows of two kinds of elements: the one stays where the other is written. -/
theorem row_kinds {w w' : World} {base base' e e' size size' n n' : Nat} {v v' : Value} {vs vs' : List Value} (h : w.ownsRow base e size v n vs) (O : w.ownsRow base' e' size' v' n' vs') (he : e ≠ e') (K : w.grownBy w' v'.ownBlock) : w'.ownsRow base e size v n vs := by
  refine h.kept K ?_
  rcases h.2 with ⟨rfl, -⟩ | ⟨g, cap, cur, rfl, -, hg, -⟩
  · exact .inl rfl
  · right
    intro hh
    rcases O.2 with ⟨rfl, -⟩ | ⟨g', cap', cur', rfl, -, hg', -⟩
    · cases hh
    · simp only [Value.ownBlock, Option.some.injEq] at hh
      subst hh
      rw [hg] at hg'
      simp only [Option.some.injEq, Obj.cells.injEq] at hg'
      exact he hg'.2.1

theorem row_blk {w w' : World} {base e e' size n g m : Nat} {v : Value} {vs : List Value} (h : w.ownsRow base e size v n vs) (B : BlkN w e' g m) (he : e ≠ e') (K : w.grownBy w' (some g)) : w'.ownsRow base e size v n vs := by
  refine h.kept K ?_
  rcases h.2 with ⟨rfl, -⟩ | ⟨g1, cap, cur, rfl, -, hg, -⟩
  · exact .inl rfl
  · right
    intro hh
    simp only [Value.ownBlock, Option.some.injEq] at hh
    subst hh
    obtain ⟨cur', hb, -⟩ := B
    rw [hg] at hb
    simp only [Option.some.injEq, Obj.cells.injEq] at hb
    exact he hb.2.1

theorem blk_row {w w' : World} {base e e' size n g m : Nat} {v : Value} {vs : List Value} (B : BlkN w e' g m) (h : w.ownsRow base e size v n vs) (he : e ≠ e') (K : w.grownBy w' v.ownBlock) : BlkN w' e' g m := by
  refine B.kept K ?_
  rcases h.2 with ⟨rfl, -⟩ | ⟨g1, cap, cur, rfl, -, hg, -⟩
  · simp [Value.ownBlock]
  · intro hh
    simp only [Value.ownBlock, Option.some.injEq] at hh
    subst hh
    obtain ⟨cur', hb, -⟩ := B
    rw [hg] at hb
    simp only [Option.some.injEq, Obj.cells.injEq] at hb
    exact he hb.2.1

theorem vblk_set {w : World} {g i : Nat} {cur : Array Value} {e : TypeId} (h : w.heap[g]? = some (.cells cur e (0, 0))) (u : Value) : (w.setCell ⟨g, i, none⟩ u).heap[g]? = some (.cells (cur.setIfInBounds i u) e (0, 0)) := heap_setCell_same w g i cur e u h

/-- Three cells, written one behind the other. -/
theorem set3 {W : World} {g : Nat} {e : TypeId} (h : BlkN W e g 3) (v0 v1 v2 : Value) :
    let W3 := ((W.setCell ⟨g, 0, none⟩ v0).setCell ⟨g, 1, none⟩ v1).setCell ⟨g, 2, none⟩ v2
    W3.cell? ⟨g, 0, none⟩ = some v0 ∧ W3.cell? ⟨g, 1, none⟩ = some v1 ∧ W3.cell? ⟨g, 2, none⟩ = some v2 := by
  obtain ⟨cur, hh, hs⟩ := h
  have k := vblk_set (i := 2) (vblk_set (i := 1) (vblk_set (i := 0) hh v0) v1) v2
  intro W3
  have hc : ∀ i, W3.cell? ⟨g, i, none⟩ = (((cur.setIfInBounds 0 v0).setIfInBounds 1 v1).setIfInBounds 2 v2)[i]? := fun i => cell_of_row W3 g i _ _ _ k
  refine ⟨?_, ?_, ?_⟩ <;> rw [hc] <;> simp [hs]

/-- Places behind others. -/
def preV (ts : List Nat) (r : Nat × Int × List Nat) : Nat × Int × List Nat := (r.1, r.2.1, ts ++ r.2.2)
def zl (ts : List Nat) : List Int := ts.map fun n : Nat => (n : Int)

theorem preV_hd (ts : List Nat) (j : Nat) (r : Nat × Int × List Nat) : preV ts (hdV j r) = preV (ts ++ [j]) r := by
  simp [preV, hdV]

/-- Cells of an instruction that is boxed. -/
abbrev Bx (w : World) (b : Nat) (c t f k : Int) : Prop := w.cell? ⟨b, 0, none⟩ = some (.int .u16 c) ∧ w.cell? ⟨b, 1, none⟩ = some (.int .u8 t) ∧ w.cell? ⟨b, 2, none⟩ = some (.int .u8 f) ∧ w.cell? ⟨b, 3, none⟩ = some (.int .u32 k)

theorem bx_alloc (w : World) (e : TypeId) (c t f k : Int) : Bx (w.alloc (.cells #[.int .u16 c, .int .u8 t, .int .u8 f, .int .u32 k] e)) w.heap.size c t f k := by
  have h : ∀ i : Nat, (w.alloc (.cells #[.int .u16 c, .int .u8 t, .int .u8 f, .int .u32 k] e)).cell? ⟨w.heap.size, i, none⟩ = (#[.int .u16 c, .int .u8 t, .int .u8 f, .int .u32 k] : Array Value)[i]? := fun i => cell_of_row _ w.heap.size i _ _ _ (heap_alloc_new w _)
  exact ⟨h 0, h 1, h 2, h 3⟩

end Go.Proofs.YtpoleldfoahpoaaGreat

namespace Go.Proofs.YtpoleldfoahpoaaGreat
open Go.RowKit
set_option maxRecDepth 100000

/-- What Step leaves. -/
def StepPost (w : World) (t base g : Nat) (M : Mc) (f : Int) (e : Ending) (w' : World) : Prop := e = .returned (.int .i64 f) ∧ MAt w' t base g M ∧ w.grownBy w' (some g)

set_option maxHeartbeats 1000000 in
theorem step_0 (b : Option Addr) (cb : Nat) (pk : List UInt8) (g base : Nat) (M : Mc) (t f k : Nat) (w : World) (hm : MAt w 64 base g M) (hk : k ≤ 4294967295) :
    Calls Tryz.prog 39 #[.pointer (some ⟨g, 0, none⟩), .agg #[.int .u16 0, .int .u8 t, .int .u8 f, .int .u32 k], .slice b pk.length cb] w fun e w' => StepPost w 64 base g ⟨k, M.x, M.m⟩ 0 e w' := by
  have HG : Hid (w.grownBy (w.alloc (.cells #[.int .u16 0, .int .u8 t, .int .u8 f, .int .u32 k] 54)) none) := World.grownBy_alloc _ _ _
  have HM : Hid (MAt (w.alloc (.cells #[.int .u16 0, .int .u8 t, .int .u8 f, .int .u32 k] 54)) 64 base g M) := hm.kept (row := none) (World.grownBy_alloc _ _ _) (by simp)
  have HX : Hid (Bx (w.alloc (.cells #[.int .u16 0, .int .u8 t, .int .u8 f, .int .u32 k] 54)) w.heap.size 0 t f k) := bx_alloc w 54 0 t f k
  have hlt := hm.lt.2
  have _hk : k ≤ 4294967295 := hk
  clear hm
  go_enter Tryz.func39, Tryz.ntmps39
  go_upto_region 2 with fail
  generalize w.alloc (.cells #[.int .u16 0, .int .u8 t, .int .u8 f, .int .u32 k] 54) = w1 at *
  have hne : ((w.heap.size : Nat) == g) = false := by rw [beq_eq_false_iff_ne]; omega
  have hne2 : w.heap.size ≠ g := by omega
  generalize w.heap.size = B at *
  have G0 : w.grownBy w1 (some g) := grown_mono HG.out
  have M0 := HM.out
  obtain ⟨x0, x1, x2, x3⟩ := HX.out
  clear HG HM HX
  have c0 := M0.a
  have c1 := M0.x
  have f0 := M0.free (0)
  have M1 := M0.setA k
  have G1 := grown_setCell G0 ⟨g, 0, none⟩ (.int .u32 ((k : Nat) : Int)) (.inl rfl)
  clear M0 G0
  go_wp2
  go_ret
  exact ⟨rfl, M1, G1⟩

set_option maxHeartbeats 1000000 in
theorem step_1 (b : Option Addr) (cb : Nat) (pk : List UInt8) (g base : Nat) (M : Mc) (t f k : Nat) (w : World) (hm : MAt w 64 base g M) (hk : k ≤ 4294967295) :
    Calls Tryz.prog 39 #[.pointer (some ⟨g, 0, none⟩), .agg #[.int .u16 1, .int .u8 t, .int .u8 f, .int .u32 k], .slice b pk.length cb] w fun e w' => StepPost w 64 base g ⟨M.a, k, M.m⟩ 0 e w' := by
  have HG : Hid (w.grownBy (w.alloc (.cells #[.int .u16 1, .int .u8 t, .int .u8 f, .int .u32 k] 54)) none) := World.grownBy_alloc _ _ _
  have HM : Hid (MAt (w.alloc (.cells #[.int .u16 1, .int .u8 t, .int .u8 f, .int .u32 k] 54)) 64 base g M) := hm.kept (row := none) (World.grownBy_alloc _ _ _) (by simp)
  have HX : Hid (Bx (w.alloc (.cells #[.int .u16 1, .int .u8 t, .int .u8 f, .int .u32 k] 54)) w.heap.size 1 t f k) := bx_alloc w 54 1 t f k
  have hlt := hm.lt.2
  have _hk : k ≤ 4294967295 := hk
  clear hm
  go_enter Tryz.func39, Tryz.ntmps39
  go_upto_region 2 with fail
  generalize w.alloc (.cells #[.int .u16 1, .int .u8 t, .int .u8 f, .int .u32 k] 54) = w1 at *
  have hne : ((w.heap.size : Nat) == g) = false := by rw [beq_eq_false_iff_ne]; omega
  have hne2 : w.heap.size ≠ g := by omega
  generalize w.heap.size = B at *
  have G0 : w.grownBy w1 (some g) := grown_mono HG.out
  have M0 := HM.out
  obtain ⟨x0, x1, x2, x3⟩ := HX.out
  clear HG HM HX
  have c0 := M0.a
  have c1 := M0.x
  have f0 := M0.free (1)
  have M1 := M0.setX k
  have G1 := grown_setCell G0 ⟨g, 1, none⟩ (.int .u32 ((k : Nat) : Int)) (.inl rfl)
  clear M0 G0
  go_wp2
  go_ret
  exact ⟨rfl, M1, G1⟩

set_option maxHeartbeats 1000000 in
theorem step_7 (b : Option Addr) (cb : Nat) (pk : List UInt8) (g base : Nat) (M : Mc) (t f k : Nat) (w : World) (hm : MAt w 64 base g M) (hk : k ≤ 4294967295) :
    Calls Tryz.prog 39 #[.pointer (some ⟨g, 0, none⟩), .agg #[.int .u16 7, .int .u8 t, .int .u8 f, .int .u32 k], .slice b pk.length cb] w fun e w' => StepPost w 64 base g ⟨M.a, M.a, M.m⟩ 0 e w' := by
  have HG : Hid (w.grownBy (w.alloc (.cells #[.int .u16 7, .int .u8 t, .int .u8 f, .int .u32 k] 54)) none) := World.grownBy_alloc _ _ _
  have HM : Hid (MAt (w.alloc (.cells #[.int .u16 7, .int .u8 t, .int .u8 f, .int .u32 k] 54)) 64 base g M) := hm.kept (row := none) (World.grownBy_alloc _ _ _) (by simp)
  have HX : Hid (Bx (w.alloc (.cells #[.int .u16 7, .int .u8 t, .int .u8 f, .int .u32 k] 54)) w.heap.size 7 t f k) := bx_alloc w 54 7 t f k
  have hlt := hm.lt.2
  have _hk : k ≤ 4294967295 := hk
  clear hm
  go_enter Tryz.func39, Tryz.ntmps39
  go_upto_region 2 with fail
  generalize w.alloc (.cells #[.int .u16 7, .int .u8 t, .int .u8 f, .int .u32 k] 54) = w1 at *
  have hne : ((w.heap.size : Nat) == g) = false := by rw [beq_eq_false_iff_ne]; omega
  have hne2 : w.heap.size ≠ g := by omega
  generalize w.heap.size = B at *
  have G0 : w.grownBy w1 (some g) := grown_mono HG.out
  have M0 := HM.out
  obtain ⟨x0, x1, x2, x3⟩ := HX.out
  clear HG HM HX
  have c0 := M0.a
  have c1 := M0.x
  have f0 := M0.free (1)
  have M1 := M0.setX M.a
  have G1 := grown_setCell G0 ⟨g, 1, none⟩ (.int .u32 ((M.a : Nat) : Int)) (.inl rfl)
  clear M0 G0
  go_wp2
  go_ret
  exact ⟨rfl, M1, G1⟩

set_option maxHeartbeats 1000000 in
theorem step_135 (b : Option Addr) (cb : Nat) (pk : List UInt8) (g base : Nat) (M : Mc) (t f k : Nat) (w : World) (hm : MAt w 64 base g M) (hk : k ≤ 4294967295) :
    Calls Tryz.prog 39 #[.pointer (some ⟨g, 0, none⟩), .agg #[.int .u16 135, .int .u8 t, .int .u8 f, .int .u32 k], .slice b pk.length cb] w fun e w' => StepPost w 64 base g ⟨M.x, M.x, M.m⟩ 0 e w' := by
  have HG : Hid (w.grownBy (w.alloc (.cells #[.int .u16 135, .int .u8 t, .int .u8 f, .int .u32 k] 54)) none) := World.grownBy_alloc _ _ _
  have HM : Hid (MAt (w.alloc (.cells #[.int .u16 135, .int .u8 t, .int .u8 f, .int .u32 k] 54)) 64 base g M) := hm.kept (row := none) (World.grownBy_alloc _ _ _) (by simp)
  have HX : Hid (Bx (w.alloc (.cells #[.int .u16 135, .int .u8 t, .int .u8 f, .int .u32 k] 54)) w.heap.size 135 t f k) := bx_alloc w 54 135 t f k
  have hlt := hm.lt.2
  have _hk : k ≤ 4294967295 := hk
  clear hm
  go_enter Tryz.func39, Tryz.ntmps39
  go_upto_region 2 with fail
  generalize w.alloc (.cells #[.int .u16 135, .int .u8 t, .int .u8 f, .int .u32 k] 54) = w1 at *
  have hne : ((w.heap.size : Nat) == g) = false := by rw [beq_eq_false_iff_ne]; omega
  have hne2 : w.heap.size ≠ g := by omega
  generalize w.heap.size = B at *
  have G0 : w.grownBy w1 (some g) := grown_mono HG.out
  have M0 := HM.out
  obtain ⟨x0, x1, x2, x3⟩ := HX.out
  clear HG HM HX
  have c0 := M0.a
  have c1 := M0.x
  have f0 := M0.free (0)
  have M1 := M0.setA M.x
  have G1 := grown_setCell G0 ⟨g, 0, none⟩ (.int .u32 ((M.x : Nat) : Int)) (.inl rfl)
  clear M0 G0
  go_wp2
  go_ret
  exact ⟨rfl, M1, G1⟩

set_option maxHeartbeats 1000000 in
theorem step_128 (b : Option Addr) (cb : Nat) (pk : List UInt8) (g base : Nat) (M : Mc) (t f k : Nat) (w : World) (hm : MAt w 64 base g M) (hk : k ≤ 4294967295) (hp : pk.length ≤ 4294967295) :
    Calls Tryz.prog 39 #[.pointer (some ⟨g, 0, none⟩), .agg #[.int .u16 128, .int .u8 t, .int .u8 f, .int .u32 k], .slice b pk.length cb] w fun e w' => StepPost w 64 base g ⟨pk.length, M.x, M.m⟩ 0 e w' := by
  have HG : Hid (w.grownBy (w.alloc (.cells #[.int .u16 128, .int .u8 t, .int .u8 f, .int .u32 k] 54)) none) := World.grownBy_alloc _ _ _
  have HM : Hid (MAt (w.alloc (.cells #[.int .u16 128, .int .u8 t, .int .u8 f, .int .u32 k] 54)) 64 base g M) := hm.kept (row := none) (World.grownBy_alloc _ _ _) (by simp)
  have HX : Hid (Bx (w.alloc (.cells #[.int .u16 128, .int .u8 t, .int .u8 f, .int .u32 k] 54)) w.heap.size 128 t f k) := bx_alloc w 54 128 t f k
  have hlt := hm.lt.2
  have _hk : k ≤ 4294967295 := hk
  clear hm
  go_enter Tryz.func39, Tryz.ntmps39
  go_upto_region 2 with fail
  generalize w.alloc (.cells #[.int .u16 128, .int .u8 t, .int .u8 f, .int .u32 k] 54) = w1 at *
  have hne : ((w.heap.size : Nat) == g) = false := by rw [beq_eq_false_iff_ne]; omega
  have hne2 : w.heap.size ≠ g := by omega
  generalize w.heap.size = B at *
  have G0 : w.grownBy w1 (some g) := grown_mono HG.out
  have M0 := HM.out
  obtain ⟨x0, x1, x2, x3⟩ := HX.out
  clear HG HM HX
  have c0 := M0.a
  have c1 := M0.x
  have f0 := M0.free (0)
  have M1 := M0.setA pk.length
  have G1 := grown_setCell G0 ⟨g, 0, none⟩ (.int .u32 ((pk.length : Nat) : Int)) (.inl rfl)
  clear M0 G0
  go_wp2
  go_ret
  exact ⟨rfl, M1, G1⟩

set_option maxHeartbeats 1000000 in
theorem step_129 (b : Option Addr) (cb : Nat) (pk : List UInt8) (g base : Nat) (M : Mc) (t f k : Nat) (w : World) (hm : MAt w 64 base g M) (hk : k ≤ 4294967295) (hp : pk.length ≤ 4294967295) :
    Calls Tryz.prog 39 #[.pointer (some ⟨g, 0, none⟩), .agg #[.int .u16 129, .int .u8 t, .int .u8 f, .int .u32 k], .slice b pk.length cb] w fun e w' => StepPost w 64 base g ⟨M.a, pk.length, M.m⟩ 0 e w' := by
  have HG : Hid (w.grownBy (w.alloc (.cells #[.int .u16 129, .int .u8 t, .int .u8 f, .int .u32 k] 54)) none) := World.grownBy_alloc _ _ _
  have HM : Hid (MAt (w.alloc (.cells #[.int .u16 129, .int .u8 t, .int .u8 f, .int .u32 k] 54)) 64 base g M) := hm.kept (row := none) (World.grownBy_alloc _ _ _) (by simp)
  have HX : Hid (Bx (w.alloc (.cells #[.int .u16 129, .int .u8 t, .int .u8 f, .int .u32 k] 54)) w.heap.size 129 t f k) := bx_alloc w 54 129 t f k
  have hlt := hm.lt.2
  have _hk : k ≤ 4294967295 := hk
  clear hm
  go_enter Tryz.func39, Tryz.ntmps39
  go_upto_region 2 with fail
  generalize w.alloc (.cells #[.int .u16 129, .int .u8 t, .int .u8 f, .int .u32 k] 54) = w1 at *
  have hne : ((w.heap.size : Nat) == g) = false := by rw [beq_eq_false_iff_ne]; omega
  have hne2 : w.heap.size ≠ g := by omega
  generalize w.heap.size = B at *
  have G0 : w.grownBy w1 (some g) := grown_mono HG.out
  have M0 := HM.out
  obtain ⟨x0, x1, x2, x3⟩ := HX.out
  clear HG HM HX
  have c0 := M0.a
  have c1 := M0.x
  have f0 := M0.free (1)
  have M1 := M0.setX pk.length
  have G1 := grown_setCell G0 ⟨g, 1, none⟩ (.int .u32 ((pk.length : Nat) : Int)) (.inl rfl)
  clear M0 G0
  go_wp2
  go_ret
  exact ⟨rfl, M1, G1⟩

set_option maxHeartbeats 1000000 in
theorem step_132 (b : Option Addr) (cb : Nat) (pk : List UInt8) (g base : Nat) (M : Mc) (t f k : Nat) (w : World) (hm : MAt w 64 base g M) (hk : k ≤ 4294967295) (hM : M.ok) :
    Calls Tryz.prog 39 #[.pointer (some ⟨g, 0, none⟩), .agg #[.int .u16 132, .int .u8 t, .int .u8 f, .int .u32 k], .slice b pk.length cb] w fun e w' => StepPost w 64 base g ⟨(4294967296 - M.a) % 4294967296, M.x, M.m⟩ 0 e w' := by
  have HG : Hid (w.grownBy (w.alloc (.cells #[.int .u16 132, .int .u8 t, .int .u8 f, .int .u32 k] 54)) none) := World.grownBy_alloc _ _ _
  have HM : Hid (MAt (w.alloc (.cells #[.int .u16 132, .int .u8 t, .int .u8 f, .int .u32 k] 54)) 64 base g M) := hm.kept (row := none) (World.grownBy_alloc _ _ _) (by simp)
  have HX : Hid (Bx (w.alloc (.cells #[.int .u16 132, .int .u8 t, .int .u8 f, .int .u32 k] 54)) w.heap.size 132 t f k) := bx_alloc w 54 132 t f k
  have hlt := hm.lt.2
  have _hk : k ≤ 4294967295 := hk
  clear hm
  have ev : -(M.a : Int) % 4294967296 = (((4294967296 - M.a) % 4294967296 : Nat) : Int) := by have := hM.1; omega
  generalize (4294967296 - M.a) % 4294967296 = v at *
  go_enter Tryz.func39, Tryz.ntmps39
  go_upto_region 2 with fail
  generalize w.alloc (.cells #[.int .u16 132, .int .u8 t, .int .u8 f, .int .u32 k] 54) = w1 at *
  have hne : ((w.heap.size : Nat) == g) = false := by rw [beq_eq_false_iff_ne]; omega
  have hne2 : w.heap.size ≠ g := by omega
  generalize w.heap.size = B at *
  have G0 : w.grownBy w1 (some g) := grown_mono HG.out
  have M0 := HM.out
  obtain ⟨x0, x1, x2, x3⟩ := HX.out
  clear HG HM HX
  have c0 := M0.a
  have c1 := M0.x
  have f0 := M0.free (0)
  have M1 := M0.setA v
  have G1 := grown_setCell G0 ⟨g, 0, none⟩ (.int .u32 ((v : Nat) : Int)) (.inl rfl)
  clear M0 G0
  go_wp2
  go_ret
  exact ⟨rfl, M1, G1⟩

set_option maxHeartbeats 1000000 in
theorem step_96 (b : Option Addr) (cb : Nat) (pk : List UInt8) (g base : Nat) (M : Mc) (t f k : Nat) (w : World) (hm : MAt w 64 base g M) (hk : k ≤ 4294967295) (hM : M.ok) :
    Calls Tryz.prog 39 #[.pointer (some ⟨g, 0, none⟩), .agg #[.int .u16 96, .int .u8 t, .int .u8 f, .int .u32 k], .slice b pk.length cb] w fun e w' => StepPost w 64 base g ⟨M.m.getD (k % 16) 0, M.x, M.m⟩ 0 e w' := by
  have HG : Hid (w.grownBy (w.alloc (.cells #[.int .u16 96, .int .u8 t, .int .u8 f, .int .u32 k] 54)) none) := World.grownBy_alloc _ _ _
  have HM : Hid (MAt (w.alloc (.cells #[.int .u16 96, .int .u8 t, .int .u8 f, .int .u32 k] 54)) 64 base g M) := hm.kept (row := none) (World.grownBy_alloc _ _ _) (by simp)
  have HX : Hid (Bx (w.alloc (.cells #[.int .u16 96, .int .u8 t, .int .u8 f, .int .u32 k] 54)) w.heap.size 96 t f k) := bx_alloc w 54 96 t f k
  have hlt := hm.lt.2
  have _hk : k ≤ 4294967295 := hk
  clear hm
  have hb0 : k % 16 < 16 := by omega
  have ha := and15 k hk
  generalize k % 16 = q at *
  have hb1 : (0 : Int) ≤ (q : Int) := by omega
  have hb2 : (q : Int) < 16 := by omega
  have cmH : Hid (∀ W : World, MAt W 64 base g M → W.cell? ⟨g, 2 + q, none⟩ = some (.int .u32 (M.m.getD q 0 : Int))) := fun W h => h.m hM.2.2.1 q hb0
  generalize M.m.getD q 0 = v at *
  go_enter Tryz.func39, Tryz.ntmps39
  go_upto_region 2 with fail
  generalize w.alloc (.cells #[.int .u16 96, .int .u8 t, .int .u8 f, .int .u32 k] 54) = w1 at *
  have hne : ((w.heap.size : Nat) == g) = false := by rw [beq_eq_false_iff_ne]; omega
  have hne2 : w.heap.size ≠ g := by omega
  generalize w.heap.size = B at *
  have G0 : w.grownBy w1 (some g) := grown_mono HG.out
  have M0 := HM.out
  obtain ⟨x0, x1, x2, x3⟩ := HX.out
  clear HG HM HX
  have c0 := M0.a
  have c1 := M0.x
  have cm := cmH.out _ M0
  have f0 := M0.free (0)
  have M1 := M0.setA v
  have G1 := grown_setCell G0 ⟨g, 0, none⟩ (.int .u32 (v : Int)) (.inl rfl)
  clear M0 G0 cmH
  go_wp2
  go_region
  go_wp2
  go_ret
  exact ⟨rfl, M1.kept (row := none) (grown_drewN _ 1 none) (by simp), grown_trans G1 (grown_drewN _ 1 _)⟩

set_option maxHeartbeats 1000000 in
theorem step_97 (b : Option Addr) (cb : Nat) (pk : List UInt8) (g base : Nat) (M : Mc) (t f k : Nat) (w : World) (hm : MAt w 64 base g M) (hk : k ≤ 4294967295) (hM : M.ok) :
    Calls Tryz.prog 39 #[.pointer (some ⟨g, 0, none⟩), .agg #[.int .u16 97, .int .u8 t, .int .u8 f, .int .u32 k], .slice b pk.length cb] w fun e w' => StepPost w 64 base g ⟨M.a, M.m.getD (k % 16) 0, M.m⟩ 0 e w' := by
  have HG : Hid (w.grownBy (w.alloc (.cells #[.int .u16 97, .int .u8 t, .int .u8 f, .int .u32 k] 54)) none) := World.grownBy_alloc _ _ _
  have HM : Hid (MAt (w.alloc (.cells #[.int .u16 97, .int .u8 t, .int .u8 f, .int .u32 k] 54)) 64 base g M) := hm.kept (row := none) (World.grownBy_alloc _ _ _) (by simp)
  have HX : Hid (Bx (w.alloc (.cells #[.int .u16 97, .int .u8 t, .int .u8 f, .int .u32 k] 54)) w.heap.size 97 t f k) := bx_alloc w 54 97 t f k
  have hlt := hm.lt.2
  have _hk : k ≤ 4294967295 := hk
  clear hm
  have hb0 : k % 16 < 16 := by omega
  have ha := and15 k hk
  generalize k % 16 = q at *
  have hb1 : (0 : Int) ≤ (q : Int) := by omega
  have hb2 : (q : Int) < 16 := by omega
  have cmH : Hid (∀ W : World, MAt W 64 base g M → W.cell? ⟨g, 2 + q, none⟩ = some (.int .u32 (M.m.getD q 0 : Int))) := fun W h => h.m hM.2.2.1 q hb0
  generalize M.m.getD q 0 = v at *
  go_enter Tryz.func39, Tryz.ntmps39
  go_upto_region 2 with fail
  generalize w.alloc (.cells #[.int .u16 97, .int .u8 t, .int .u8 f, .int .u32 k] 54) = w1 at *
  have hne : ((w.heap.size : Nat) == g) = false := by rw [beq_eq_false_iff_ne]; omega
  have hne2 : w.heap.size ≠ g := by omega
  generalize w.heap.size = B at *
  have G0 : w.grownBy w1 (some g) := grown_mono HG.out
  have M0 := HM.out
  obtain ⟨x0, x1, x2, x3⟩ := HX.out
  clear HG HM HX
  have c0 := M0.a
  have c1 := M0.x
  have cm := cmH.out _ M0
  have f0 := M0.free (1)
  have M1 := M0.setX v
  have G1 := grown_setCell G0 ⟨g, 1, none⟩ (.int .u32 (v : Int)) (.inl rfl)
  clear M0 G0 cmH
  go_wp2
  go_region
  go_wp2
  go_ret
  exact ⟨rfl, M1.kept (row := none) (grown_drewN _ 1 none) (by simp), grown_trans G1 (grown_drewN _ 1 _)⟩

set_option maxHeartbeats 1000000 in
theorem step_2 (b : Option Addr) (cb : Nat) (pk : List UInt8) (g base : Nat) (M : Mc) (t f k : Nat) (w : World) (hm : MAt w 64 base g M) (hk : k ≤ 4294967295) (hM : M.ok) :
    Calls Tryz.prog 39 #[.pointer (some ⟨g, 0, none⟩), .agg #[.int .u16 2, .int .u8 t, .int .u8 f, .int .u32 k], .slice b pk.length cb] w fun e w' => StepPost w 64 base g ⟨M.a, M.x, M.m.set (k % 16) M.a⟩ 0 e w' := by
  have HG : Hid (w.grownBy (w.alloc (.cells #[.int .u16 2, .int .u8 t, .int .u8 f, .int .u32 k] 54)) none) := World.grownBy_alloc _ _ _
  have HM : Hid (MAt (w.alloc (.cells #[.int .u16 2, .int .u8 t, .int .u8 f, .int .u32 k] 54)) 64 base g M) := hm.kept (row := none) (World.grownBy_alloc _ _ _) (by simp)
  have HX : Hid (Bx (w.alloc (.cells #[.int .u16 2, .int .u8 t, .int .u8 f, .int .u32 k] 54)) w.heap.size 2 t f k) := bx_alloc w 54 2 t f k
  have hlt := hm.lt.2
  have _hk : k ≤ 4294967295 := hk
  clear hm
  have hb0 : k % 16 < 16 := by omega
  have ha := and15 k hk
  generalize k % 16 = q at *
  have hb1 : (0 : Int) ≤ (q : Int) := by omega
  have hb2 : (q : Int) < 16 := by omega
  have cmH : Hid (∀ W : World, MAt W 64 base g M → W.cell? ⟨g, 2 + q, none⟩ = some (.int .u32 (M.m.getD q 0 : Int))) := fun W h => h.m hM.2.2.1 q hb0
  generalize M.m.getD q 0 = v at *
  go_enter Tryz.func39, Tryz.ntmps39
  go_upto_region 2 with fail
  generalize w.alloc (.cells #[.int .u16 2, .int .u8 t, .int .u8 f, .int .u32 k] 54) = w1 at *
  have hne : ((w.heap.size : Nat) == g) = false := by rw [beq_eq_false_iff_ne]; omega
  have hne2 : w.heap.size ≠ g := by omega
  generalize w.heap.size = B at *
  have G0 : w.grownBy w1 (some g) := grown_mono HG.out
  have M0 := HM.out
  obtain ⟨x0, x1, x2, x3⟩ := HX.out
  clear HG HM HX
  have c0 := M0.a
  have c1 := M0.x
  have cm := cmH.out _ M0
  have f0 := M0.free (2 + q)
  have M1 := M0.setM q M.a
  have G1 := grown_setCell G0 ⟨g, 2 + q, none⟩ (.int .u32 (M.a : Int)) (.inl rfl)
  clear M0 G0 cmH
  go_wp2
  go_region
  go_wp2
  go_ret
  exact ⟨rfl, M1.kept (row := none) (grown_drewN _ 1 none) (by simp), grown_trans G1 (grown_drewN _ 1 _)⟩

set_option maxHeartbeats 1000000 in
theorem step_3 (b : Option Addr) (cb : Nat) (pk : List UInt8) (g base : Nat) (M : Mc) (t f k : Nat) (w : World) (hm : MAt w 64 base g M) (hk : k ≤ 4294967295) (hM : M.ok) :
    Calls Tryz.prog 39 #[.pointer (some ⟨g, 0, none⟩), .agg #[.int .u16 3, .int .u8 t, .int .u8 f, .int .u32 k], .slice b pk.length cb] w fun e w' => StepPost w 64 base g ⟨M.a, M.x, M.m.set (k % 16) M.x⟩ 0 e w' := by
  have HG : Hid (w.grownBy (w.alloc (.cells #[.int .u16 3, .int .u8 t, .int .u8 f, .int .u32 k] 54)) none) := World.grownBy_alloc _ _ _
  have HM : Hid (MAt (w.alloc (.cells #[.int .u16 3, .int .u8 t, .int .u8 f, .int .u32 k] 54)) 64 base g M) := hm.kept (row := none) (World.grownBy_alloc _ _ _) (by simp)
  have HX : Hid (Bx (w.alloc (.cells #[.int .u16 3, .int .u8 t, .int .u8 f, .int .u32 k] 54)) w.heap.size 3 t f k) := bx_alloc w 54 3 t f k
  have hlt := hm.lt.2
  have _hk : k ≤ 4294967295 := hk
  clear hm
  have hb0 : k % 16 < 16 := by omega
  have ha := and15 k hk
  generalize k % 16 = q at *
  have hb1 : (0 : Int) ≤ (q : Int) := by omega
  have hb2 : (q : Int) < 16 := by omega
  have cmH : Hid (∀ W : World, MAt W 64 base g M → W.cell? ⟨g, 2 + q, none⟩ = some (.int .u32 (M.m.getD q 0 : Int))) := fun W h => h.m hM.2.2.1 q hb0
  generalize M.m.getD q 0 = v at *
  go_enter Tryz.func39, Tryz.ntmps39
  go_upto_region 2 with fail
  generalize w.alloc (.cells #[.int .u16 3, .int .u8 t, .int .u8 f, .int .u32 k] 54) = w1 at *
  have hne : ((w.heap.size : Nat) == g) = false := by rw [beq_eq_false_iff_ne]; omega
  have hne2 : w.heap.size ≠ g := by omega
  generalize w.heap.size = B at *
  have G0 : w.grownBy w1 (some g) := grown_mono HG.out
  have M0 := HM.out
  obtain ⟨x0, x1, x2, x3⟩ := HX.out
  clear HG HM HX
  have c0 := M0.a
  have c1 := M0.x
  have cm := cmH.out _ M0
  have f0 := M0.free (2 + q)
  have M1 := M0.setM q M.x
  have G1 := grown_setCell G0 ⟨g, 2 + q, none⟩ (.int .u32 (M.x : Int)) (.inl rfl)
  clear M0 G0 cmH
  go_wp2
  go_region
  go_wp2
  go_ret
  exact ⟨rfl, M1.kept (row := none) (grown_drewN _ 1 none) (by simp), grown_trans G1 (grown_drewN _ 1 _)⟩

end Go.Proofs.YtpoleldfoahpoaaGreat

namespace Go.Proofs.YtpoleldfoahpoaaGreat
open Go.RowKit
set_option maxRecDepth 100000

set_option maxHeartbeats 1000000 in
theorem step_32 (b : Option Addr) (cb : Nat) (pk : List UInt8) (g base : Nat) (M : Mc) (t f k : Nat) (w : World) (hm : MAt w 64 base g M) (hk : k ≤ 4294967295) (hC : Cells w b pk) (hp : pk.length ≤ 65536) :
    Calls Tryz.prog 39 #[.pointer (some ⟨g, 0, none⟩), .agg #[.int .u16 32, .int .u8 t, .int .u8 f, .int .u32 k], .slice b pk.length cb] w fun e w' => StepPost w 64 base g ⟨(readAtV pk k (sizeV 32)).1, M.x, M.m⟩ (readAtV pk k (sizeV 32)).2 e w' := by
  have HG : Hid (w.grownBy (w.alloc (.cells #[.int .u16 32, .int .u8 t, .int .u8 f, .int .u32 k] 54)) none) := World.grownBy_alloc _ _ _
  have HM : Hid (MAt (w.alloc (.cells #[.int .u16 32, .int .u8 t, .int .u8 f, .int .u32 k] 54)) 64 base g M) := hm.kept (row := none) (World.grownBy_alloc _ _ _) (by simp)
  have HX : Hid (Bx (w.alloc (.cells #[.int .u16 32, .int .u8 t, .int .u8 f, .int .u32 k] 54)) w.heap.size 32 t f k) := bx_alloc w 54 32 t f k
  have hlt := hm.lt.2
  have _hk : k ≤ 4294967295 := hk
  clear hm
  obtain ⟨v, fl, hr⟩ : ∃ v fl, readAtV pk (k) (sizeV 32) = (v, fl) := ⟨_, _, rfl⟩
  have HR : Hid (∀ (W : World), Cells W b pk → Calls Tryz.prog 62 #[.slice b pk.length cb, .int .u64 ((k : Nat) : Int), .int .i64 ((sizeV 32 : Nat) : Int)] W fun e w' => e = .returned (.tuple #[.int .u32 (v : Int), .int .i64 fl]) ∧ W = w') := fun W h => by
    have := read_at b cb pk (k) (sizeV 32) W h (by omega) (by omega)
    rw [hr] at this
    exact this
  have hw : IntKind.u64.wrap (k : Int) = (k : Int) := by rw [IntKind.wrap_u64]; omega
  have HC : Hid (Cells (w.alloc (.cells #[.int .u16 32, .int .u8 t, .int .u8 f, .int .u32 k] 54)) b pk) := hC.keptNone (World.grownBy_alloc _ _ _)
  rw [hr]
  clear hr hC
  go_enter Tryz.func39, Tryz.ntmps39
  go_upto_region 2 with fail
  generalize w.alloc (.cells #[.int .u16 32, .int .u8 t, .int .u8 f, .int .u32 k] 54) = w1 at *
  have hne : ((w.heap.size : Nat) == g) = false := by rw [beq_eq_false_iff_ne]; omega
  have hne2 : w.heap.size ≠ g := by omega
  generalize w.heap.size = B at *
  have G0 : w.grownBy w1 (some g) := grown_mono HG.out
  have M0 := HM.out
  obtain ⟨x0, x1, x2, x3⟩ := HX.out
  clear HG HM HX
  have c0 := M0.a
  have c1 := M0.x
  have f0 := M0.free 0
  have M1 := M0.setA v
  have G1 := grown_setCell G0 ⟨g, 0, none⟩ (.int .u32 (v : Int)) (.inl rfl)
  have GS : w1.grownBy (w1.setCell ⟨g, 0, none⟩ (.int .u32 (v : Int))) (some g) := grown_setCell (World.grownBy.refl _ _) _ _ (.inl rfl)
  have k0 : (w1.setCell ⟨g, 0, none⟩ (.int .u32 (v : Int))).cell? ⟨B, 0, none⟩ = some (.int .u16 32) := GS.cell x0 (by simp only [ne_eq, Option.some.injEq]; exact hne2)
  have k3 : (w1.setCell ⟨g, 0, none⟩ (.int .u32 (v : Int))).cell? ⟨B, 3, none⟩ = some (.int .u32 (k : Int)) := GS.cell x3 (by simp only [ne_eq, Option.some.injEq]; exact hne2)
  have k1 := M1.x
  have HK : Hid ((w1.setCell ⟨g, 0, none⟩ (.int .u32 (v : Int))).cell? ⟨B, 0, none⟩ = some (.int .u16 32) ∧ (w1.setCell ⟨g, 0, none⟩ (.int .u32 (v : Int))).cell? ⟨B, 3, none⟩ = some (.int .u32 (k : Int)) ∧ (w1.setCell ⟨g, 0, none⟩ (.int .u32 (v : Int))).cell? ⟨g, 1, none⟩ = some (.int .u32 (M.x : Int))) := ⟨k0, k3, k1⟩
  clear M0 G0 GS k0 k3 k1
  go_wp2
  go_region_held3 (fun W => W.cell? ⟨B, 0, none⟩ = some (.int .u16 32) ∧ W.cell? ⟨B, 3, none⟩ = some (.int .u32 (k : Int)) ∧ W.cell? ⟨g, 1, none⟩ = some (.int .u32 (M.x : Int))) (first | exact HK.out | go_keep) (first | (go_at_call 63; refine (size_any _ _).mono ?_; rintro e w' ⟨rfl, rfl⟩) | (go_at_call 62; refine (HR.out _ (by exact HC.out)).mono ?_; rintro e w' ⟨rfl, rfl⟩))
  all_goals
    go_wp2
    go_ret
    exact ⟨rfl, M1, grown_trans G1 (grown_drewN _ 1 _)⟩

set_option maxHeartbeats 1000000 in
theorem step_40 (b : Option Addr) (cb : Nat) (pk : List UInt8) (g base : Nat) (M : Mc) (t f k : Nat) (w : World) (hm : MAt w 64 base g M) (hk : k ≤ 4294967295) (hC : Cells w b pk) (hp : pk.length ≤ 65536) :
    Calls Tryz.prog 39 #[.pointer (some ⟨g, 0, none⟩), .agg #[.int .u16 40, .int .u8 t, .int .u8 f, .int .u32 k], .slice b pk.length cb] w fun e w' => StepPost w 64 base g ⟨(readAtV pk k (sizeV 40)).1, M.x, M.m⟩ (readAtV pk k (sizeV 40)).2 e w' := by
  have HG : Hid (w.grownBy (w.alloc (.cells #[.int .u16 40, .int .u8 t, .int .u8 f, .int .u32 k] 54)) none) := World.grownBy_alloc _ _ _
  have HM : Hid (MAt (w.alloc (.cells #[.int .u16 40, .int .u8 t, .int .u8 f, .int .u32 k] 54)) 64 base g M) := hm.kept (row := none) (World.grownBy_alloc _ _ _) (by simp)
  have HX : Hid (Bx (w.alloc (.cells #[.int .u16 40, .int .u8 t, .int .u8 f, .int .u32 k] 54)) w.heap.size 40 t f k) := bx_alloc w 54 40 t f k
  have hlt := hm.lt.2
  have _hk : k ≤ 4294967295 := hk
  clear hm
  obtain ⟨v, fl, hr⟩ : ∃ v fl, readAtV pk (k) (sizeV 40) = (v, fl) := ⟨_, _, rfl⟩
  have HR : Hid (∀ (W : World), Cells W b pk → Calls Tryz.prog 62 #[.slice b pk.length cb, .int .u64 ((k : Nat) : Int), .int .i64 ((sizeV 40 : Nat) : Int)] W fun e w' => e = .returned (.tuple #[.int .u32 (v : Int), .int .i64 fl]) ∧ W = w') := fun W h => by
    have := read_at b cb pk (k) (sizeV 40) W h (by omega) (by omega)
    rw [hr] at this
    exact this
  have hw : IntKind.u64.wrap (k : Int) = (k : Int) := by rw [IntKind.wrap_u64]; omega
  have HC : Hid (Cells (w.alloc (.cells #[.int .u16 40, .int .u8 t, .int .u8 f, .int .u32 k] 54)) b pk) := hC.keptNone (World.grownBy_alloc _ _ _)
  rw [hr]
  clear hr hC
  go_enter Tryz.func39, Tryz.ntmps39
  go_upto_region 2 with fail
  generalize w.alloc (.cells #[.int .u16 40, .int .u8 t, .int .u8 f, .int .u32 k] 54) = w1 at *
  have hne : ((w.heap.size : Nat) == g) = false := by rw [beq_eq_false_iff_ne]; omega
  have hne2 : w.heap.size ≠ g := by omega
  generalize w.heap.size = B at *
  have G0 : w.grownBy w1 (some g) := grown_mono HG.out
  have M0 := HM.out
  obtain ⟨x0, x1, x2, x3⟩ := HX.out
  clear HG HM HX
  have c0 := M0.a
  have c1 := M0.x
  have f0 := M0.free 0
  have M1 := M0.setA v
  have G1 := grown_setCell G0 ⟨g, 0, none⟩ (.int .u32 (v : Int)) (.inl rfl)
  have GS : w1.grownBy (w1.setCell ⟨g, 0, none⟩ (.int .u32 (v : Int))) (some g) := grown_setCell (World.grownBy.refl _ _) _ _ (.inl rfl)
  have k0 : (w1.setCell ⟨g, 0, none⟩ (.int .u32 (v : Int))).cell? ⟨B, 0, none⟩ = some (.int .u16 40) := GS.cell x0 (by simp only [ne_eq, Option.some.injEq]; exact hne2)
  have k3 : (w1.setCell ⟨g, 0, none⟩ (.int .u32 (v : Int))).cell? ⟨B, 3, none⟩ = some (.int .u32 (k : Int)) := GS.cell x3 (by simp only [ne_eq, Option.some.injEq]; exact hne2)
  have k1 := M1.x
  have HK : Hid ((w1.setCell ⟨g, 0, none⟩ (.int .u32 (v : Int))).cell? ⟨B, 0, none⟩ = some (.int .u16 40) ∧ (w1.setCell ⟨g, 0, none⟩ (.int .u32 (v : Int))).cell? ⟨B, 3, none⟩ = some (.int .u32 (k : Int)) ∧ (w1.setCell ⟨g, 0, none⟩ (.int .u32 (v : Int))).cell? ⟨g, 1, none⟩ = some (.int .u32 (M.x : Int))) := ⟨k0, k3, k1⟩
  clear M0 G0 GS k0 k3 k1
  go_wp2
  go_region_held3 (fun W => W.cell? ⟨B, 0, none⟩ = some (.int .u16 40) ∧ W.cell? ⟨B, 3, none⟩ = some (.int .u32 (k : Int)) ∧ W.cell? ⟨g, 1, none⟩ = some (.int .u32 (M.x : Int))) (first | exact HK.out | go_keep) (first | (go_at_call 63; refine (size_any _ _).mono ?_; rintro e w' ⟨rfl, rfl⟩) | (go_at_call 62; refine (HR.out _ (by exact HC.out)).mono ?_; rintro e w' ⟨rfl, rfl⟩))
  all_goals
    go_wp2
    go_ret
    exact ⟨rfl, M1, grown_trans G1 (grown_drewN _ 1 _)⟩

set_option maxHeartbeats 1000000 in
theorem step_48 (b : Option Addr) (cb : Nat) (pk : List UInt8) (g base : Nat) (M : Mc) (t f k : Nat) (w : World) (hm : MAt w 64 base g M) (hk : k ≤ 4294967295) (hC : Cells w b pk) (hp : pk.length ≤ 65536) :
    Calls Tryz.prog 39 #[.pointer (some ⟨g, 0, none⟩), .agg #[.int .u16 48, .int .u8 t, .int .u8 f, .int .u32 k], .slice b pk.length cb] w fun e w' => StepPost w 64 base g ⟨(readAtV pk k (sizeV 48)).1, M.x, M.m⟩ (readAtV pk k (sizeV 48)).2 e w' := by
  have HG : Hid (w.grownBy (w.alloc (.cells #[.int .u16 48, .int .u8 t, .int .u8 f, .int .u32 k] 54)) none) := World.grownBy_alloc _ _ _
  have HM : Hid (MAt (w.alloc (.cells #[.int .u16 48, .int .u8 t, .int .u8 f, .int .u32 k] 54)) 64 base g M) := hm.kept (row := none) (World.grownBy_alloc _ _ _) (by simp)
  have HX : Hid (Bx (w.alloc (.cells #[.int .u16 48, .int .u8 t, .int .u8 f, .int .u32 k] 54)) w.heap.size 48 t f k) := bx_alloc w 54 48 t f k
  have hlt := hm.lt.2
  have _hk : k ≤ 4294967295 := hk
  clear hm
  obtain ⟨v, fl, hr⟩ : ∃ v fl, readAtV pk (k) (sizeV 48) = (v, fl) := ⟨_, _, rfl⟩
  have HR : Hid (∀ (W : World), Cells W b pk → Calls Tryz.prog 62 #[.slice b pk.length cb, .int .u64 ((k : Nat) : Int), .int .i64 ((sizeV 48 : Nat) : Int)] W fun e w' => e = .returned (.tuple #[.int .u32 (v : Int), .int .i64 fl]) ∧ W = w') := fun W h => by
    have := read_at b cb pk (k) (sizeV 48) W h (by omega) (by omega)
    rw [hr] at this
    exact this
  have hw : IntKind.u64.wrap (k : Int) = (k : Int) := by rw [IntKind.wrap_u64]; omega
  have HC : Hid (Cells (w.alloc (.cells #[.int .u16 48, .int .u8 t, .int .u8 f, .int .u32 k] 54)) b pk) := hC.keptNone (World.grownBy_alloc _ _ _)
  rw [hr]
  clear hr hC
  go_enter Tryz.func39, Tryz.ntmps39
  go_upto_region 2 with fail
  generalize w.alloc (.cells #[.int .u16 48, .int .u8 t, .int .u8 f, .int .u32 k] 54) = w1 at *
  have hne : ((w.heap.size : Nat) == g) = false := by rw [beq_eq_false_iff_ne]; omega
  have hne2 : w.heap.size ≠ g := by omega
  generalize w.heap.size = B at *
  have G0 : w.grownBy w1 (some g) := grown_mono HG.out
  have M0 := HM.out
  obtain ⟨x0, x1, x2, x3⟩ := HX.out
  clear HG HM HX
  have c0 := M0.a
  have c1 := M0.x
  have f0 := M0.free 0
  have M1 := M0.setA v
  have G1 := grown_setCell G0 ⟨g, 0, none⟩ (.int .u32 (v : Int)) (.inl rfl)
  have GS : w1.grownBy (w1.setCell ⟨g, 0, none⟩ (.int .u32 (v : Int))) (some g) := grown_setCell (World.grownBy.refl _ _) _ _ (.inl rfl)
  have k0 : (w1.setCell ⟨g, 0, none⟩ (.int .u32 (v : Int))).cell? ⟨B, 0, none⟩ = some (.int .u16 48) := GS.cell x0 (by simp only [ne_eq, Option.some.injEq]; exact hne2)
  have k3 : (w1.setCell ⟨g, 0, none⟩ (.int .u32 (v : Int))).cell? ⟨B, 3, none⟩ = some (.int .u32 (k : Int)) := GS.cell x3 (by simp only [ne_eq, Option.some.injEq]; exact hne2)
  have k1 := M1.x
  have HK : Hid ((w1.setCell ⟨g, 0, none⟩ (.int .u32 (v : Int))).cell? ⟨B, 0, none⟩ = some (.int .u16 48) ∧ (w1.setCell ⟨g, 0, none⟩ (.int .u32 (v : Int))).cell? ⟨B, 3, none⟩ = some (.int .u32 (k : Int)) ∧ (w1.setCell ⟨g, 0, none⟩ (.int .u32 (v : Int))).cell? ⟨g, 1, none⟩ = some (.int .u32 (M.x : Int))) := ⟨k0, k3, k1⟩
  clear M0 G0 GS k0 k3 k1
  go_wp2
  go_region_held3 (fun W => W.cell? ⟨B, 0, none⟩ = some (.int .u16 48) ∧ W.cell? ⟨B, 3, none⟩ = some (.int .u32 (k : Int)) ∧ W.cell? ⟨g, 1, none⟩ = some (.int .u32 (M.x : Int))) (first | exact HK.out | go_keep) (first | (go_at_call 63; refine (size_any _ _).mono ?_; rintro e w' ⟨rfl, rfl⟩) | (go_at_call 62; refine (HR.out _ (by exact HC.out)).mono ?_; rintro e w' ⟨rfl, rfl⟩))
  all_goals
    go_wp2
    go_ret
    exact ⟨rfl, M1, grown_trans G1 (grown_drewN _ 1 _)⟩

set_option maxHeartbeats 1000000 in
theorem step_64 (b : Option Addr) (cb : Nat) (pk : List UInt8) (g base : Nat) (M : Mc) (t f k : Nat) (w : World) (hm : MAt w 64 base g M) (hk : k ≤ 4294967295) (hC : Cells w b pk) (hp : pk.length ≤ 65536) (hM : M.ok) :
    Calls Tryz.prog 39 #[.pointer (some ⟨g, 0, none⟩), .agg #[.int .u16 64, .int .u8 t, .int .u8 f, .int .u32 k], .slice b pk.length cb] w fun e w' => StepPost w 64 base g ⟨(readAtV pk (k + M.x) (sizeV 64)).1, M.x, M.m⟩ (readAtV pk (k + M.x) (sizeV 64)).2 e w' := by
  have HG : Hid (w.grownBy (w.alloc (.cells #[.int .u16 64, .int .u8 t, .int .u8 f, .int .u32 k] 54)) none) := World.grownBy_alloc _ _ _
  have HM : Hid (MAt (w.alloc (.cells #[.int .u16 64, .int .u8 t, .int .u8 f, .int .u32 k] 54)) 64 base g M) := hm.kept (row := none) (World.grownBy_alloc _ _ _) (by simp)
  have HX : Hid (Bx (w.alloc (.cells #[.int .u16 64, .int .u8 t, .int .u8 f, .int .u32 k] 54)) w.heap.size 64 t f k) := bx_alloc w 54 64 t f k
  have hlt := hm.lt.2
  have _hk : k ≤ 4294967295 := hk
  clear hm
  have hx := hM.2.1
  obtain ⟨v, fl, hr⟩ : ∃ v fl, readAtV pk (k + M.x) (sizeV 64) = (v, fl) := ⟨_, _, rfl⟩
  have HR : Hid (∀ (W : World), Cells W b pk → Calls Tryz.prog 62 #[.slice b pk.length cb, .int .u64 ((k : Int) + (M.x : Int)), .int .i64 ((sizeV 64 : Nat) : Int)] W fun e w' => e = .returned (.tuple #[.int .u32 (v : Int), .int .i64 fl]) ∧ W = w') := fun W h => by
    have := read_at b cb pk (k + M.x) (sizeV 64) W h (by omega) (by omega)
    rw [hr, Int.natCast_add] at this
    exact this
  have hw : IntKind.u64.wrap (k : Int) = (k : Int) := by rw [IntKind.wrap_u64]; omega
  have hw2 : IntKind.u64.wrap (M.x : Int) = (M.x : Int) := by rw [IntKind.wrap_u64]; omega
  have hw3 : IntKind.u64.wrap ((k : Int) + (M.x : Int)) = (k : Int) + (M.x : Int) := by rw [IntKind.wrap_u64]; omega
  have HC : Hid (Cells (w.alloc (.cells #[.int .u16 64, .int .u8 t, .int .u8 f, .int .u32 k] 54)) b pk) := hC.keptNone (World.grownBy_alloc _ _ _)
  rw [hr]
  clear hr hC
  go_enter Tryz.func39, Tryz.ntmps39
  go_upto_region 2 with fail
  generalize w.alloc (.cells #[.int .u16 64, .int .u8 t, .int .u8 f, .int .u32 k] 54) = w1 at *
  have hne : ((w.heap.size : Nat) == g) = false := by rw [beq_eq_false_iff_ne]; omega
  have hne2 : w.heap.size ≠ g := by omega
  generalize w.heap.size = B at *
  have G0 : w.grownBy w1 (some g) := grown_mono HG.out
  have M0 := HM.out
  obtain ⟨x0, x1, x2, x3⟩ := HX.out
  clear HG HM HX
  have c0 := M0.a
  have c1 := M0.x
  have f0 := M0.free 0
  have M1 := M0.setA v
  have G1 := grown_setCell G0 ⟨g, 0, none⟩ (.int .u32 (v : Int)) (.inl rfl)
  have GS : w1.grownBy (w1.setCell ⟨g, 0, none⟩ (.int .u32 (v : Int))) (some g) := grown_setCell (World.grownBy.refl _ _) _ _ (.inl rfl)
  have k0 : (w1.setCell ⟨g, 0, none⟩ (.int .u32 (v : Int))).cell? ⟨B, 0, none⟩ = some (.int .u16 64) := GS.cell x0 (by simp only [ne_eq, Option.some.injEq]; exact hne2)
  have k3 : (w1.setCell ⟨g, 0, none⟩ (.int .u32 (v : Int))).cell? ⟨B, 3, none⟩ = some (.int .u32 (k : Int)) := GS.cell x3 (by simp only [ne_eq, Option.some.injEq]; exact hne2)
  have k1 := M1.x
  have HK : Hid ((w1.setCell ⟨g, 0, none⟩ (.int .u32 (v : Int))).cell? ⟨B, 0, none⟩ = some (.int .u16 64) ∧ (w1.setCell ⟨g, 0, none⟩ (.int .u32 (v : Int))).cell? ⟨B, 3, none⟩ = some (.int .u32 (k : Int)) ∧ (w1.setCell ⟨g, 0, none⟩ (.int .u32 (v : Int))).cell? ⟨g, 1, none⟩ = some (.int .u32 (M.x : Int))) := ⟨k0, k3, k1⟩
  clear M0 G0 GS k0 k3 k1
  go_wp2
  go_region_held3 (fun W => W.cell? ⟨B, 0, none⟩ = some (.int .u16 64) ∧ W.cell? ⟨B, 3, none⟩ = some (.int .u32 (k : Int)) ∧ W.cell? ⟨g, 1, none⟩ = some (.int .u32 (M.x : Int))) (first | exact HK.out | go_keep) (first | (go_at_call 63; refine (size_any _ _).mono ?_; rintro e w' ⟨rfl, rfl⟩) | (go_at_call 62; refine (HR.out _ (by exact HC.out)).mono ?_; rintro e w' ⟨rfl, rfl⟩))
  all_goals
    go_wp2
    go_ret
    exact ⟨rfl, M1, grown_trans G1 (grown_drewN _ 1 _)⟩

set_option maxHeartbeats 1000000 in
theorem step_72 (b : Option Addr) (cb : Nat) (pk : List UInt8) (g base : Nat) (M : Mc) (t f k : Nat) (w : World) (hm : MAt w 64 base g M) (hk : k ≤ 4294967295) (hC : Cells w b pk) (hp : pk.length ≤ 65536) (hM : M.ok) :
    Calls Tryz.prog 39 #[.pointer (some ⟨g, 0, none⟩), .agg #[.int .u16 72, .int .u8 t, .int .u8 f, .int .u32 k], .slice b pk.length cb] w fun e w' => StepPost w 64 base g ⟨(readAtV pk (k + M.x) (sizeV 72)).1, M.x, M.m⟩ (readAtV pk (k + M.x) (sizeV 72)).2 e w' := by
  have HG : Hid (w.grownBy (w.alloc (.cells #[.int .u16 72, .int .u8 t, .int .u8 f, .int .u32 k] 54)) none) := World.grownBy_alloc _ _ _
  have HM : Hid (MAt (w.alloc (.cells #[.int .u16 72, .int .u8 t, .int .u8 f, .int .u32 k] 54)) 64 base g M) := hm.kept (row := none) (World.grownBy_alloc _ _ _) (by simp)
  have HX : Hid (Bx (w.alloc (.cells #[.int .u16 72, .int .u8 t, .int .u8 f, .int .u32 k] 54)) w.heap.size 72 t f k) := bx_alloc w 54 72 t f k
  have hlt := hm.lt.2
  have _hk : k ≤ 4294967295 := hk
  clear hm
  have hx := hM.2.1
  obtain ⟨v, fl, hr⟩ : ∃ v fl, readAtV pk (k + M.x) (sizeV 72) = (v, fl) := ⟨_, _, rfl⟩
  have HR : Hid (∀ (W : World), Cells W b pk → Calls Tryz.prog 62 #[.slice b pk.length cb, .int .u64 ((k : Int) + (M.x : Int)), .int .i64 ((sizeV 72 : Nat) : Int)] W fun e w' => e = .returned (.tuple #[.int .u32 (v : Int), .int .i64 fl]) ∧ W = w') := fun W h => by
    have := read_at b cb pk (k + M.x) (sizeV 72) W h (by omega) (by omega)
    rw [hr, Int.natCast_add] at this
    exact this
  have hw : IntKind.u64.wrap (k : Int) = (k : Int) := by rw [IntKind.wrap_u64]; omega
  have hw2 : IntKind.u64.wrap (M.x : Int) = (M.x : Int) := by rw [IntKind.wrap_u64]; omega
  have hw3 : IntKind.u64.wrap ((k : Int) + (M.x : Int)) = (k : Int) + (M.x : Int) := by rw [IntKind.wrap_u64]; omega
  have HC : Hid (Cells (w.alloc (.cells #[.int .u16 72, .int .u8 t, .int .u8 f, .int .u32 k] 54)) b pk) := hC.keptNone (World.grownBy_alloc _ _ _)
  rw [hr]
  clear hr hC
  go_enter Tryz.func39, Tryz.ntmps39
  go_upto_region 2 with fail
  generalize w.alloc (.cells #[.int .u16 72, .int .u8 t, .int .u8 f, .int .u32 k] 54) = w1 at *
  have hne : ((w.heap.size : Nat) == g) = false := by rw [beq_eq_false_iff_ne]; omega
  have hne2 : w.heap.size ≠ g := by omega
  generalize w.heap.size = B at *
  have G0 : w.grownBy w1 (some g) := grown_mono HG.out
  have M0 := HM.out
  obtain ⟨x0, x1, x2, x3⟩ := HX.out
  clear HG HM HX
  have c0 := M0.a
  have c1 := M0.x
  have f0 := M0.free 0
  have M1 := M0.setA v
  have G1 := grown_setCell G0 ⟨g, 0, none⟩ (.int .u32 (v : Int)) (.inl rfl)
  have GS : w1.grownBy (w1.setCell ⟨g, 0, none⟩ (.int .u32 (v : Int))) (some g) := grown_setCell (World.grownBy.refl _ _) _ _ (.inl rfl)
  have k0 : (w1.setCell ⟨g, 0, none⟩ (.int .u32 (v : Int))).cell? ⟨B, 0, none⟩ = some (.int .u16 72) := GS.cell x0 (by simp only [ne_eq, Option.some.injEq]; exact hne2)
  have k3 : (w1.setCell ⟨g, 0, none⟩ (.int .u32 (v : Int))).cell? ⟨B, 3, none⟩ = some (.int .u32 (k : Int)) := GS.cell x3 (by simp only [ne_eq, Option.some.injEq]; exact hne2)
  have k1 := M1.x
  have HK : Hid ((w1.setCell ⟨g, 0, none⟩ (.int .u32 (v : Int))).cell? ⟨B, 0, none⟩ = some (.int .u16 72) ∧ (w1.setCell ⟨g, 0, none⟩ (.int .u32 (v : Int))).cell? ⟨B, 3, none⟩ = some (.int .u32 (k : Int)) ∧ (w1.setCell ⟨g, 0, none⟩ (.int .u32 (v : Int))).cell? ⟨g, 1, none⟩ = some (.int .u32 (M.x : Int))) := ⟨k0, k3, k1⟩
  clear M0 G0 GS k0 k3 k1
  go_wp2
  go_region_held3 (fun W => W.cell? ⟨B, 0, none⟩ = some (.int .u16 72) ∧ W.cell? ⟨B, 3, none⟩ = some (.int .u32 (k : Int)) ∧ W.cell? ⟨g, 1, none⟩ = some (.int .u32 (M.x : Int))) (first | exact HK.out | go_keep) (first | (go_at_call 63; refine (size_any _ _).mono ?_; rintro e w' ⟨rfl, rfl⟩) | (go_at_call 62; refine (HR.out _ (by exact HC.out)).mono ?_; rintro e w' ⟨rfl, rfl⟩))
  all_goals
    go_wp2
    go_ret
    exact ⟨rfl, M1, grown_trans G1 (grown_drewN _ 1 _)⟩

set_option maxHeartbeats 1000000 in
theorem step_80 (b : Option Addr) (cb : Nat) (pk : List UInt8) (g base : Nat) (M : Mc) (t f k : Nat) (w : World) (hm : MAt w 64 base g M) (hk : k ≤ 4294967295) (hC : Cells w b pk) (hp : pk.length ≤ 65536) (hM : M.ok) :
    Calls Tryz.prog 39 #[.pointer (some ⟨g, 0, none⟩), .agg #[.int .u16 80, .int .u8 t, .int .u8 f, .int .u32 k], .slice b pk.length cb] w fun e w' => StepPost w 64 base g ⟨(readAtV pk (k + M.x) (sizeV 80)).1, M.x, M.m⟩ (readAtV pk (k + M.x) (sizeV 80)).2 e w' := by
  have HG : Hid (w.grownBy (w.alloc (.cells #[.int .u16 80, .int .u8 t, .int .u8 f, .int .u32 k] 54)) none) := World.grownBy_alloc _ _ _
  have HM : Hid (MAt (w.alloc (.cells #[.int .u16 80, .int .u8 t, .int .u8 f, .int .u32 k] 54)) 64 base g M) := hm.kept (row := none) (World.grownBy_alloc _ _ _) (by simp)
  have HX : Hid (Bx (w.alloc (.cells #[.int .u16 80, .int .u8 t, .int .u8 f, .int .u32 k] 54)) w.heap.size 80 t f k) := bx_alloc w 54 80 t f k
  have hlt := hm.lt.2
  have _hk : k ≤ 4294967295 := hk
  clear hm
  have hx := hM.2.1
  obtain ⟨v, fl, hr⟩ : ∃ v fl, readAtV pk (k + M.x) (sizeV 80) = (v, fl) := ⟨_, _, rfl⟩
  have HR : Hid (∀ (W : World), Cells W b pk → Calls Tryz.prog 62 #[.slice b pk.length cb, .int .u64 ((k : Int) + (M.x : Int)), .int .i64 ((sizeV 80 : Nat) : Int)] W fun e w' => e = .returned (.tuple #[.int .u32 (v : Int), .int .i64 fl]) ∧ W = w') := fun W h => by
    have := read_at b cb pk (k + M.x) (sizeV 80) W h (by omega) (by omega)
    rw [hr, Int.natCast_add] at this
    exact this
  have hw : IntKind.u64.wrap (k : Int) = (k : Int) := by rw [IntKind.wrap_u64]; omega
  have hw2 : IntKind.u64.wrap (M.x : Int) = (M.x : Int) := by rw [IntKind.wrap_u64]; omega
  have hw3 : IntKind.u64.wrap ((k : Int) + (M.x : Int)) = (k : Int) + (M.x : Int) := by rw [IntKind.wrap_u64]; omega
  have HC : Hid (Cells (w.alloc (.cells #[.int .u16 80, .int .u8 t, .int .u8 f, .int .u32 k] 54)) b pk) := hC.keptNone (World.grownBy_alloc _ _ _)
  rw [hr]
  clear hr hC
  go_enter Tryz.func39, Tryz.ntmps39
  go_upto_region 2 with fail
  generalize w.alloc (.cells #[.int .u16 80, .int .u8 t, .int .u8 f, .int .u32 k] 54) = w1 at *
  have hne : ((w.heap.size : Nat) == g) = false := by rw [beq_eq_false_iff_ne]; omega
  have hne2 : w.heap.size ≠ g := by omega
  generalize w.heap.size = B at *
  have G0 : w.grownBy w1 (some g) := grown_mono HG.out
  have M0 := HM.out
  obtain ⟨x0, x1, x2, x3⟩ := HX.out
  clear HG HM HX
  have c0 := M0.a
  have c1 := M0.x
  have f0 := M0.free 0
  have M1 := M0.setA v
  have G1 := grown_setCell G0 ⟨g, 0, none⟩ (.int .u32 (v : Int)) (.inl rfl)
  have GS : w1.grownBy (w1.setCell ⟨g, 0, none⟩ (.int .u32 (v : Int))) (some g) := grown_setCell (World.grownBy.refl _ _) _ _ (.inl rfl)
  have k0 : (w1.setCell ⟨g, 0, none⟩ (.int .u32 (v : Int))).cell? ⟨B, 0, none⟩ = some (.int .u16 80) := GS.cell x0 (by simp only [ne_eq, Option.some.injEq]; exact hne2)
  have k3 : (w1.setCell ⟨g, 0, none⟩ (.int .u32 (v : Int))).cell? ⟨B, 3, none⟩ = some (.int .u32 (k : Int)) := GS.cell x3 (by simp only [ne_eq, Option.some.injEq]; exact hne2)
  have k1 := M1.x
  have HK : Hid ((w1.setCell ⟨g, 0, none⟩ (.int .u32 (v : Int))).cell? ⟨B, 0, none⟩ = some (.int .u16 80) ∧ (w1.setCell ⟨g, 0, none⟩ (.int .u32 (v : Int))).cell? ⟨B, 3, none⟩ = some (.int .u32 (k : Int)) ∧ (w1.setCell ⟨g, 0, none⟩ (.int .u32 (v : Int))).cell? ⟨g, 1, none⟩ = some (.int .u32 (M.x : Int))) := ⟨k0, k3, k1⟩
  clear M0 G0 GS k0 k3 k1
  go_wp2
  go_region_held3 (fun W => W.cell? ⟨B, 0, none⟩ = some (.int .u16 80) ∧ W.cell? ⟨B, 3, none⟩ = some (.int .u32 (k : Int)) ∧ W.cell? ⟨g, 1, none⟩ = some (.int .u32 (M.x : Int))) (first | exact HK.out | go_keep) (first | (go_at_call 63; refine (size_any _ _).mono ?_; rintro e w' ⟨rfl, rfl⟩) | (go_at_call 62; refine (HR.out _ (by exact HC.out)).mono ?_; rintro e w' ⟨rfl, rfl⟩))
  all_goals
    go_wp2
    go_ret
    exact ⟨rfl, M1, grown_trans G1 (grown_drewN _ 1 _)⟩

set_option maxHeartbeats 1000000 in
theorem step_177 (b : Option Addr) (cb : Nat) (pk : List UInt8) (g base : Nat) (M : Mc) (t f k : Nat) (w : World) (hm : MAt w 64 base g M) (hk : k ≤ 4294967295) (hC : Cells w b pk) (hp : pk.length ≤ 65536) :
    Calls Tryz.prog 39 #[.pointer (some ⟨g, 0, none⟩), .agg #[.int .u16 177, .int .u8 t, .int .u8 f, .int .u32 k], .slice b pk.length cb] w fun e w' => StepPost w 64 base g ⟨M.a, 4 * ((readAtV pk k 1).1 % 16), M.m⟩ (readAtV pk k 1).2 e w' := by
  have HG : Hid (w.grownBy (w.alloc (.cells #[.int .u16 177, .int .u8 t, .int .u8 f, .int .u32 k] 54)) none) := World.grownBy_alloc _ _ _
  have HM : Hid (MAt (w.alloc (.cells #[.int .u16 177, .int .u8 t, .int .u8 f, .int .u32 k] 54)) 64 base g M) := hm.kept (row := none) (World.grownBy_alloc _ _ _) (by simp)
  have HX : Hid (Bx (w.alloc (.cells #[.int .u16 177, .int .u8 t, .int .u8 f, .int .u32 k] 54)) w.heap.size 177 t f k) := bx_alloc w 54 177 t f k
  have hlt := hm.lt.2
  have _hk : k ≤ 4294967295 := hk
  clear hm
  obtain ⟨v, fl, hr⟩ : ∃ v fl, readAtV pk (k) (1) = (v, fl) := ⟨_, _, rfl⟩
  have HR : Hid (∀ (W : World), Cells W b pk → Calls Tryz.prog 62 #[.slice b pk.length cb, .int .u64 ((k : Nat) : Int), .int .i64 ((1 : Nat) : Int)] W fun e w' => e = .returned (.tuple #[.int .u32 (v : Int), .int .i64 fl]) ∧ W = w') := fun W h => by
    have := read_at b cb pk (k) (1) W h (by omega) (by omega)
    rw [hr] at this
    exact this
  have hw : IntKind.u64.wrap (k : Int) = (k : Int) := by rw [IntKind.wrap_u64]; omega
  have HC : Hid (Cells (w.alloc (.cells #[.int .u16 177, .int .u8 t, .int .u8 f, .int .u32 k] 54)) b pk) := hC.keptNone (World.grownBy_alloc _ _ _)
  rw [hr]
  have hv : v ≤ 4294967295 := by have := readAtV_le pk k 1 (by omega); rw [hr] at this; exact this
  clear hr hC
  have hu0 : 4 * (v % 16) < 4294967296 := by omega
  have hu1 : 4 * bits .and .u32 (v : Int) 15 % 4294967296 = ((4 * (v % 16) : Nat) : Int) := by rw [and15 v hv]; omega
  have hu2 : (4 : Int) * ((v % 16 : Nat) : Int) = ((4 * (v % 16) : Nat) : Int) := by omega
  generalize 4 * (v % 16) = u at *
  go_enter Tryz.func39, Tryz.ntmps39
  go_upto_region 2 with fail
  generalize w.alloc (.cells #[.int .u16 177, .int .u8 t, .int .u8 f, .int .u32 k] 54) = w1 at *
  have hne : ((w.heap.size : Nat) == g) = false := by rw [beq_eq_false_iff_ne]; omega
  have hne2 : w.heap.size ≠ g := by omega
  generalize w.heap.size = B at *
  have G0 : w.grownBy w1 (some g) := grown_mono HG.out
  have M0 := HM.out
  obtain ⟨x0, x1, x2, x3⟩ := HX.out
  clear HG HM HX
  have c1 := M0.x
  have f1 := M0.free 1
  have HM1 : Hid (MAt (w1.setCell ⟨g, 1, none⟩ (.int .u32 (v : Int))) 64 base g ⟨M.a, v, M.m⟩) := M0.setX v
  have HG1 : Hid (w.grownBy (w1.setCell ⟨g, 1, none⟩ (.int .u32 (v : Int))) (some g)) := grown_setCell G0 ⟨g, 1, none⟩ (.int .u32 (v : Int)) (.inl rfl)
  clear M0 G0
  go_upto_region 29 with (go_at_call 62; refine (HR.out _ (by exact HC.out)).mono ?_; rintro e w' ⟨rfl, rfl⟩)
  clear c1 f1 x0 x1 x2 x3 HC
  generalize w1.setCell ⟨g, 1, none⟩ (.int .u32 (v : Int)) = w2 at *
  have c1 := HM1.out.x
  have f1 := HM1.out.free 1
  have M2 := HM1.out.setX u
  have G2 := grown_setCell HG1.out ⟨g, 1, none⟩ (.int .u32 (u : Int)) (.inl rfl)
  clear HM1 HG1
  go_wp2
  go_ret
  exact ⟨rfl, M2, G2⟩

set_option maxHeartbeats 1000000 in
theorem step_op_true (b : Option Addr) (cb : Nat) (pk : List UInt8) (g base : Nat) (M : Mc) (c : Int) (t f k : Nat) (w : World) (hm : MAt w 64 base g M) (hk : k ≤ 4294967295) (hM : M.ok) (hb : byxB c = true) (q0 : (c == 0) = false) (q32 : (c == 32) = false) (q40 : (c == 40) = false) (q48 : (c == 48) = false) (q64 : (c == 64) = false) (q72 : (c == 72) = false) (q80 : (c == 80) = false) (q96 : (c == 96) = false) (q128 : (c == 128) = false) (q1 : (c == 1) = false) (q97 : (c == 97) = false) (q129 : (c == 129) = false) (q177 : (c == 177) = false) (q2 : (c == 2) = false) (q3 : (c == 3) = false) (q132 : (c == 132) = false) (q7 : (c == 7) = false) (q135 : (c == 135) = false) :
    Calls Tryz.prog 39 #[.pointer (some ⟨g, 0, none⟩), .agg #[.int .u16 c, .int .u8 t, .int .u8 f, .int .u32 k], .slice b pk.length cb] w fun e w' => StepPost w 64 base g ⟨(operV (bits .andNot .u16 c 8) M.a (sideV c k M.x)).1, M.x, M.m⟩ (operV (bits .andNot .u16 c 8) M.a (sideV c k M.x)).2 e w' := by
  have HG : Hid (w.grownBy (w.alloc (.cells #[.int .u16 c, .int .u8 t, .int .u8 f, .int .u32 k] 54)) none) := World.grownBy_alloc _ _ _
  have HM : Hid (MAt (w.alloc (.cells #[.int .u16 c, .int .u8 t, .int .u8 f, .int .u32 k] 54)) 64 base g M) := hm.kept (row := none) (World.grownBy_alloc _ _ _) (by simp)
  have HX : Hid (Bx (w.alloc (.cells #[.int .u16 c, .int .u8 t, .int .u8 f, .int .u32 k] 54)) w.heap.size c t f k) := bx_alloc w 54 c t f k
  have hlt := hm.lt.2
  have _hk : k ≤ 4294967295 := hk
  clear hm
  obtain ⟨v, fl, hr⟩ : ∃ v fl, operV (bits .andNot .u16 c 8) M.a (sideV c k M.x) = (v, fl) := ⟨_, _, rfl⟩
  have HO : Hid (∀ (W : World), Calls Tryz.prog 65 #[.int .u16 c, .int .u32 (M.a : Int), .int .u32 (M.x : Int)] W fun e w' => e = .returned (.tuple #[.int .u32 (v : Int), .int .i64 fl]) ∧ W = w') := fun W => by
    have := operate_any c M.a M.x W hM.1 hM.2.1
    have e : sideV c k M.x = M.x := by simp [sideV, hb]
    rw [e] at hr
    rw [hr] at this
    exact this
  rw [hr]
  clear hr
  go_enter Tryz.func39, Tryz.ntmps39
  go_upto_region 2 with fail
  generalize w.alloc (.cells #[.int .u16 c, .int .u8 t, .int .u8 f, .int .u32 k] 54) = w1 at *
  have hne : ((w.heap.size : Nat) == g) = false := by rw [beq_eq_false_iff_ne]; omega
  have hne2 : w.heap.size ≠ g := by omega
  generalize w.heap.size = B at *
  have G0 : w.grownBy w1 (some g) := grown_mono HG.out
  have M0 := HM.out
  obtain ⟨x0, x1, x2, x3⟩ := HX.out
  clear HG HM HX
  have c0 := M0.a
  have c1 := M0.x
  have f0 := M0.free 0
  have M1 := M0.setA v
  have G1 := grown_setCell G0 ⟨g, 0, none⟩ (.int .u32 (v : Int)) (.inl rfl)
  clear M0 G0
  go_wp2_with (go_at_call 64; refine (byx_any _ _).mono ?_; rintro e w' ⟨rfl, rfl⟩)
  go_region_with (go_at_call 65; refine (HO.out _).mono ?_; rintro e w' ⟨rfl, rfl⟩)
  all_goals
    go_wp2
    go_ret
    exact ⟨rfl, M1, grown_trans G1 (grown_drewN _ 1 _)⟩

set_option maxHeartbeats 1000000 in
theorem step_op_false (b : Option Addr) (cb : Nat) (pk : List UInt8) (g base : Nat) (M : Mc) (c : Int) (t f k : Nat) (w : World) (hm : MAt w 64 base g M) (hk : k ≤ 4294967295) (hM : M.ok) (hb : byxB c = false) (q0 : (c == 0) = false) (q32 : (c == 32) = false) (q40 : (c == 40) = false) (q48 : (c == 48) = false) (q64 : (c == 64) = false) (q72 : (c == 72) = false) (q80 : (c == 80) = false) (q96 : (c == 96) = false) (q128 : (c == 128) = false) (q1 : (c == 1) = false) (q97 : (c == 97) = false) (q129 : (c == 129) = false) (q177 : (c == 177) = false) (q2 : (c == 2) = false) (q3 : (c == 3) = false) (q132 : (c == 132) = false) (q7 : (c == 7) = false) (q135 : (c == 135) = false) :
    Calls Tryz.prog 39 #[.pointer (some ⟨g, 0, none⟩), .agg #[.int .u16 c, .int .u8 t, .int .u8 f, .int .u32 k], .slice b pk.length cb] w fun e w' => StepPost w 64 base g ⟨(operV (bits .andNot .u16 c 8) M.a (sideV c k M.x)).1, M.x, M.m⟩ (operV (bits .andNot .u16 c 8) M.a (sideV c k M.x)).2 e w' := by
  have HG : Hid (w.grownBy (w.alloc (.cells #[.int .u16 c, .int .u8 t, .int .u8 f, .int .u32 k] 54)) none) := World.grownBy_alloc _ _ _
  have HM : Hid (MAt (w.alloc (.cells #[.int .u16 c, .int .u8 t, .int .u8 f, .int .u32 k] 54)) 64 base g M) := hm.kept (row := none) (World.grownBy_alloc _ _ _) (by simp)
  have HX : Hid (Bx (w.alloc (.cells #[.int .u16 c, .int .u8 t, .int .u8 f, .int .u32 k] 54)) w.heap.size c t f k) := bx_alloc w 54 c t f k
  have hlt := hm.lt.2
  have _hk : k ≤ 4294967295 := hk
  clear hm
  obtain ⟨v, fl, hr⟩ : ∃ v fl, operV (bits .andNot .u16 c 8) M.a (sideV c k M.x) = (v, fl) := ⟨_, _, rfl⟩
  have HO : Hid (∀ (W : World), Calls Tryz.prog 65 #[.int .u16 c, .int .u32 (M.a : Int), .int .u32 (k : Int)] W fun e w' => e = .returned (.tuple #[.int .u32 (v : Int), .int .i64 fl]) ∧ W = w') := fun W => by
    have := operate_any c M.a k W hM.1 hk
    have e : sideV c k M.x = k := by simp [sideV, hb]
    rw [e] at hr
    rw [hr] at this
    exact this
  rw [hr]
  clear hr
  go_enter Tryz.func39, Tryz.ntmps39
  go_upto_region 2 with fail
  generalize w.alloc (.cells #[.int .u16 c, .int .u8 t, .int .u8 f, .int .u32 k] 54) = w1 at *
  have hne : ((w.heap.size : Nat) == g) = false := by rw [beq_eq_false_iff_ne]; omega
  have hne2 : w.heap.size ≠ g := by omega
  generalize w.heap.size = B at *
  have G0 : w.grownBy w1 (some g) := grown_mono HG.out
  have M0 := HM.out
  obtain ⟨x0, x1, x2, x3⟩ := HX.out
  clear HG HM HX
  have c0 := M0.a
  have c1 := M0.x
  have f0 := M0.free 0
  have M1 := M0.setA v
  have G1 := grown_setCell G0 ⟨g, 0, none⟩ (.int .u32 (v : Int)) (.inl rfl)
  clear M0 G0
  go_wp2_with (go_at_call 64; refine (byx_any _ _).mono ?_; rintro e w' ⟨rfl, rfl⟩)
  go_region_with (go_at_call 65; refine (HO.out _).mono ?_; rintro e w' ⟨rfl, rfl⟩)
  all_goals
    go_wp2
    go_ret
    exact ⟨rfl, M1, grown_trans G1 (grown_drewN _ 1 _)⟩

end Go.Proofs.YtpoleldfoahpoaaGreat

namespace Go.Proofs.YtpoleldfoahpoaaGreat
open Go.RowKit
set_option maxRecDepth 100000

theorem beq_no {c : Int} {n : Int} (h : ¬ c = n) : (c == n) = false := by rw [beq_eq_false_iff_ne]; exact h

set_option maxHeartbeats 1000000 in
theorem refstep_any (b : Option Addr) (cb : Nat) (pk : List UInt8) (g base : Nat) (M : Mc) (c : Int) (t f k : Nat) (w : World) (hm : MAt w 64 base g M) (hk : k ≤ 4294967295) (hC : Cells w b pk) (hp : pk.length ≤ 65536) (hM : M.ok) :
    Calls Tryz.prog 39 #[.pointer (some ⟨g, 0, none⟩), .agg #[.int .u16 c, .int .u8 t, .int .u8 f, .int .u32 k], .slice b pk.length cb] w fun e w' => StepPost w 64 base g (stepV c k pk M).1 (stepV c k pk M).2 e w' := by
  have hp2 : pk.length ≤ 4294967295 := by omega
  by_cases q0 : c = 0
  · subst q0; have e : stepV 0 k pk M = (⟨k, M.x, M.m⟩, 0) := by simp [stepV]
    rw [e]; exact step_0 b cb pk g base M t f k w hm hk
  by_cases q32 : c = 32
  · subst q32; have e : stepV 32 k pk M = (⟨(readAtV pk k (sizeV 32)).1, M.x, M.m⟩, (readAtV pk k (sizeV 32)).2) := by simp [stepV]
    rw [e]; exact step_32 b cb pk g base M t f k w hm hk hC hp
  by_cases q40 : c = 40
  · subst q40; have e : stepV 40 k pk M = (⟨(readAtV pk k (sizeV 40)).1, M.x, M.m⟩, (readAtV pk k (sizeV 40)).2) := by simp [stepV]
    rw [e]; exact step_40 b cb pk g base M t f k w hm hk hC hp
  by_cases q48 : c = 48
  · subst q48; have e : stepV 48 k pk M = (⟨(readAtV pk k (sizeV 48)).1, M.x, M.m⟩, (readAtV pk k (sizeV 48)).2) := by simp [stepV]
    rw [e]; exact step_48 b cb pk g base M t f k w hm hk hC hp
  by_cases q64 : c = 64
  · subst q64; have e : stepV 64 k pk M = (⟨(readAtV pk (k + M.x) (sizeV 64)).1, M.x, M.m⟩, (readAtV pk (k + M.x) (sizeV 64)).2) := by simp [stepV]
    rw [e]; exact step_64 b cb pk g base M t f k w hm hk hC hp hM
  by_cases q72 : c = 72
  · subst q72; have e : stepV 72 k pk M = (⟨(readAtV pk (k + M.x) (sizeV 72)).1, M.x, M.m⟩, (readAtV pk (k + M.x) (sizeV 72)).2) := by simp [stepV]
    rw [e]; exact step_72 b cb pk g base M t f k w hm hk hC hp hM
  by_cases q80 : c = 80
  · subst q80; have e : stepV 80 k pk M = (⟨(readAtV pk (k + M.x) (sizeV 80)).1, M.x, M.m⟩, (readAtV pk (k + M.x) (sizeV 80)).2) := by simp [stepV]
    rw [e]; exact step_80 b cb pk g base M t f k w hm hk hC hp hM
  by_cases q96 : c = 96
  · subst q96; have e : stepV 96 k pk M = (⟨M.m.getD (k % 16) 0, M.x, M.m⟩, 0) := by simp [stepV]
    rw [e]; exact step_96 b cb pk g base M t f k w hm hk hM
  by_cases q128 : c = 128
  · subst q128; have e : stepV 128 k pk M = (⟨pk.length, M.x, M.m⟩, 0) := by simp [stepV]
    rw [e]; exact step_128 b cb pk g base M t f k w hm hk hp2
  by_cases q1 : c = 1
  · subst q1; have e : stepV 1 k pk M = (⟨M.a, k, M.m⟩, 0) := by simp [stepV]
    rw [e]; exact step_1 b cb pk g base M t f k w hm hk
  by_cases q97 : c = 97
  · subst q97; have e : stepV 97 k pk M = (⟨M.a, M.m.getD (k % 16) 0, M.m⟩, 0) := by simp [stepV]
    rw [e]; exact step_97 b cb pk g base M t f k w hm hk hM
  by_cases q129 : c = 129
  · subst q129; have e : stepV 129 k pk M = (⟨M.a, pk.length, M.m⟩, 0) := by simp [stepV]
    rw [e]; exact step_129 b cb pk g base M t f k w hm hk hp2
  by_cases q177 : c = 177
  · subst q177; have e : stepV 177 k pk M = (⟨M.a, 4 * ((readAtV pk k 1).1 % 16), M.m⟩, (readAtV pk k 1).2) := by simp [stepV]
    rw [e]; exact step_177 b cb pk g base M t f k w hm hk hC hp
  by_cases q2 : c = 2
  · subst q2; have e : stepV 2 k pk M = (⟨M.a, M.x, M.m.set (k % 16) M.a⟩, 0) := by simp [stepV]
    rw [e]; exact step_2 b cb pk g base M t f k w hm hk hM
  by_cases q3 : c = 3
  · subst q3; have e : stepV 3 k pk M = (⟨M.a, M.x, M.m.set (k % 16) M.x⟩, 0) := by simp [stepV]
    rw [e]; exact step_3 b cb pk g base M t f k w hm hk hM
  by_cases q132 : c = 132
  · subst q132; have e : stepV 132 k pk M = (⟨(4294967296 - M.a) % 4294967296, M.x, M.m⟩, 0) := by simp [stepV]
    rw [e]; exact step_132 b cb pk g base M t f k w hm hk hM
  by_cases q7 : c = 7
  · subst q7; have e : stepV 7 k pk M = (⟨M.a, M.a, M.m⟩, 0) := by simp [stepV]
    rw [e]; exact step_7 b cb pk g base M t f k w hm hk
  by_cases q135 : c = 135
  · subst q135; have e : stepV 135 k pk M = (⟨M.x, M.x, M.m⟩, 0) := by simp [stepV]
    rw [e]; exact step_135 b cb pk g base M t f k w hm hk
  have e : stepV c k pk M = (⟨(operV (bits .andNot .u16 c 8) M.a (sideV c k M.x)).1, M.x, M.m⟩, (operV (bits .andNot .u16 c 8) M.a (sideV c k M.x)).2) := by
    simp [stepV, q0, q32, q40, q48, q64, q72, q80, q96, q128, q1, q97, q129, q177, q2, q3, q132, q7, q135]
  rw [e]
  cases hb : byxB c with
  | true => exact step_op_true b cb pk g base M c t f k w hm hk hM hb (beq_no q0) (beq_no q32) (beq_no q40) (beq_no q48) (beq_no q64) (beq_no q72) (beq_no q80) (beq_no q96) (beq_no q128) (beq_no q1) (beq_no q97) (beq_no q129) (beq_no q177) (beq_no q2) (beq_no q3) (beq_no q132) (beq_no q7) (beq_no q135)
  | false => exact step_op_false b cb pk g base M c t f k w hm hk hM hb (beq_no q0) (beq_no q32) (beq_no q40) (beq_no q48) (beq_no q64) (beq_no q72) (beq_no q80) (beq_no q96) (beq_no q128) (beq_no q1) (beq_no q97) (beq_no q129) (beq_no q177) (beq_no q2) (beq_no q3) (beq_no q132) (beq_no q7) (beq_no q135)

end Go.Proofs.YtpoleldfoahpoaaGreat

namespace Go.Proofs.YtpoleldfoahpoaaGreat
open Go.RowKit
set_option maxRecDepth 100000

theorem reftakes_any (a : Option Addr) (ca : Nat) (xs : List Bv) (w : World) (ha : GC w a xs) (hlen : ∀ x ∈ xs, x.b.code.length ≤ 4611686018427387904) :
    Calls Tryz.prog 16 #[.slice a xs.length ca] w fun e w' => e = .returned (.bool (takenB (gOf xs))) ∧ w.grownBy w' none := by
  have C := refgcheck_any a ca xs w ha hlen
  have HT : Hid (takenB (gOf xs) = ((checkG (gOf xs)).2 == 0)) := (rfl : takenB (gOf xs) = ((checkG (gOf xs)).2 == 0))
  generalize checkG (gOf xs) = ck at *
  obtain ⟨p, q⟩ := ck
  simp only at C HT
  go_enter Tryz.func16, Tryz.ntmps16
  go_wp2_with fail
  refine C.mono ?_
  rintro e w1 ⟨rfl, K⟩
  go_wp2
  go_ret
  exact ⟨ret_bool HT.out.symm, K⟩

theorem give_ret {x : In} (M : Mc) (h : (classV x.code.toNat == 6) = true) : giveV x M = if ((x.code.toNat : Int) == 6) = true then x.k.toNat else M.a := by
  rw [class6_ret] at h
  simp only [retB, Bool.or_eq_true, beq_iff_eq] at h
  rw [giveV]
  rcases h with h | h
  · rw [h]
    rfl
  · rw [h]
    rfl

/-- What lies in memory while the document's own run goes on. -/
structure GsI (w wr : World) (V g : Nat) (M : Mc) : Prop where
  ver : VAt wr V 33 #[.int .u32 0, .int .i64 0, .int .i64 0]
  mach : MAt wr 64 w.heap.size g M
  up : w.grownBy wr none
  ne : V ≠ g
  ok : M.ok

theorem GsI.kept {w wr w' : World} {V g : Nat} {M : Mc} (I : GsI w wr V g M) (K : wr.grownBy w' none) : GsI w w' V g M :=
  ⟨I.ver.kept K, I.mach.kept K (by simp), grown_trans I.up K, I.ne, I.ok⟩
theorem GsI.stepped {w wr w' : World} {V g : Nat} {M M2 : Mc} (I : GsI w wr V g M) (h : MAt w' 64 w.heap.size g M2) (K : wr.grownBy w' (some g)) (h2 : M2.ok) : GsI w w' V g M2 :=
  ⟨I.ver.grown K (by simpa using Ne.symm I.ne), h, grown_trans_new I.up K (fun x e => by cases e; exact I.mach.lt.1), I.ne, h2⟩

set_option maxHeartbeats 8000000 in
theorem refgrun_any (a pb : Option Addr) (ca cb : Nat) (xs : List Bv) (pk : List UInt8) (w : World) (ha : GC w a xs) (hlen : ∀ x ∈ xs, x.b.code.length ≤ 4611686018427387904) (hb : Cells w pb pk) (hpl : pk.length ≤ 9223372036854775807) :
    Calls Tryz.prog 12 #[.slice a xs.length ca, .slice pb pk.length cb] w fun e w' => GEnd w (runG (gOf xs) pk) (runGE (gOf xs) pk) e w' := by
  have CT := fun W (G : w.grownBy W none) => reftakes_any a ca xs W (ha.keptNone G) hlen
  have H : Hid (GC w a xs) := ha
  have HP : Hid (Cells w pb pk) := hb
  have V0 := VAt.alloc w 33 #[.int .u32 0, .int .i64 0, .int .i64 0]
  have G0 : w.grownBy (w.alloc (.cells #[.int .u32 0, .int .i64 0, .int .i64 0] 33)) none := World.grownBy_alloc _ _ _
  have hsz : w.heap.size < (w.alloc (.cells #[.int .u32 0, .int .i64 0, .int .i64 0] 33)).heap.size := by simp
  clear ha hb
  cases ht : takenB (gOf xs) with
  | false =>
    rw [ht] at CT
    have e1 : runGE (gOf xs) pk = 155 := by rw [runGE, if_neg (by rw [← takenB_iff, ht]; simp)]
    have e2 : runG (gOf xs) pk = (0, 0, 0) := by rw [runG, e1]; rfl
    rw [e1, e2]
    clear e1 e2
    go_enter Tryz.func12, Tryz.ntmps12
    go_upto_region 1 with fail
    generalize w.alloc (.cells #[.int .u32 0, .int .i64 0, .int .i64 0] 33) = wa at *
    obtain ⟨V, hV⟩ : ∃ V, w.heap.size = V := ⟨_, rfl⟩
    have HV : Hid (w.heap.size ≤ V) := Nat.le_of_eq hV
    rw [hV] at V0 ⊢
    clear hV
    go_wp2_with fail
    refine (CT _ G0).mono ?_
    rintro e w1 ⟨rfl, K⟩
    have V1 := V0.kept K
    have G1 := grown_trans G0 K
    clear K V0 G0 CT
    go_wp2_with (refine wpList_store_row rfl 33 (.tmp 4) (.tmp 15) rfl V #[.int .u32 0, .int .i64 0, .int .i64 0] rfl rfl 33 _ V1 size33 rfl (by simp [Value.oneCell']) ?_)
    refine bodyPost_ret (ret_row rfl _ _ V #[.int .u32 0, .int .i64 0, .int .i64 0] _ rfl (V1.setRow _) Tryz.underlying33 rfl size33) rfl ?_
    exact ⟨rfl, vgrown_setRow G1 _ _ (.inr HV.out)⟩
  | true =>
    rw [ht] at CT
    have htk := takenB_iff.1 ht
    by_cases hl : 65536 < pk.length
    · have e1 : runGE (gOf xs) pk = 51 := by rw [runGE, if_pos htk, if_pos hl]
      have e2 : runG (gOf xs) pk = (0, 0, 0) := by rw [runG, e1]; rfl
      rw [e1, e2]
      have hl' : (65536 : Int) < (pk.length : Int) := by omega
      clear e1 e2 htk ht
      go_enter Tryz.func12, Tryz.ntmps12
      go_upto_region 1 with fail
      generalize w.alloc (.cells #[.int .u32 0, .int .i64 0, .int .i64 0] 33) = wa at *
      obtain ⟨V, hV⟩ : ∃ V, w.heap.size = V := ⟨_, rfl⟩
      have HV : Hid (w.heap.size ≤ V) := Nat.le_of_eq hV
      rw [hV] at V0 ⊢
      clear hV
      go_wp2_with fail
      refine (CT _ G0).mono ?_
      rintro e w1 ⟨rfl, K⟩
      have V1 := V0.kept K
      have G1 := grown_trans G0 K
      clear K V0 G0 CT
      go_wp2_with (refine wpList_store_row rfl 33 (.tmp 4) (.tmp 19) rfl V #[.int .u32 0, .int .i64 0, .int .i64 0] rfl rfl 33 _ V1 size33 rfl (by simp [Value.oneCell']) ?_)
      refine bodyPost_ret (ret_row rfl _ _ V #[.int .u32 0, .int .i64 0, .int .i64 0] _ rfl (V1.setRow _) Tryz.underlying33 rfl size33) rfl ?_
      exact ⟨rfl, vgrown_setRow G1 _ _ (.inr HV.out)⟩
    · have e1 : runGE (gOf xs) pk = 0 := by rw [runGE, if_pos htk, if_neg hl]
      have e2 : runG (gOf xs) pk = goG (gOf xs) pk xs.length 0 mc0 := by rw [runG, if_pos e1, gOf_len]
      have hl' : ¬ (65536 : Int) < (pk.length : Int) := by omega
      have hpk : pk.length ≤ 65536 := by omega
      have hT := taken_g htk
      have HT : Hid (TakenG (gOf xs)) := hT
      have hn0 : 0 < xs.length := by have := hT.pos; rwa [gOf_len] at this
      have hn1 : xs.length ≤ 4096 := by have := hT.few; rwa [gOf_len] at this
      rw [e1]
      obtain ⟨Res, hRes⟩ : ∃ r, runG (gOf xs) pk = r := ⟨_, rfl⟩
      rw [hRes]
      have HRes : Hid (goG (gOf xs) pk xs.length 0 mc0 = Res) := e2.symm.trans hRes
      clear e1 e2 htk ht hRes hT
      go_enter Tryz.func12, Tryz.ntmps12
      go_upto_region 1 with fail
      generalize w.alloc (.cells #[.int .u32 0, .int .i64 0, .int .i64 0] 33) = wa at *
      obtain ⟨V, hV⟩ : ∃ V, w.heap.size = V := ⟨_, rfl⟩
      have HV : Hid (w.heap.size ≤ V) := Nat.le_of_eq hV
      rw [hV] at V0 hsz ⊢
      clear hV
      go_wp2_with fail
      refine (CT _ G0).mono ?_
      rintro e w1 ⟨rfl, K⟩
      have V1 := V0.kept K
      have G1 := grown_trans G0 K
      have hV1 : V < w1.heap.size := Nat.lt_of_lt_of_le hsz K.size
      clear K V0 G0 CT hsz
      have KM : w1.grownBy (w1.alloc (.cells #[.int .u32 0, .int .u32 0, .int .u32 0, .int .u32 0, .int .u32 0, .int .u32 0, .int .u32 0, .int .u32 0, .int .u32 0, .int .u32 0, .int .u32 0, .int .u32 0, .int .u32 0, .int .u32 0, .int .u32 0, .int .u32 0, .int .u32 0, .int .u32 0] 64)) none := World.grownBy_alloc _ _ _
      have HI : Hid (GsI w (w1.alloc (.cells #[.int .u32 0, .int .u32 0, .int .u32 0, .int .u32 0, .int .u32 0, .int .u32 0, .int .u32 0, .int .u32 0, .int .u32 0, .int .u32 0, .int .u32 0, .int .u32 0, .int .u32 0, .int .u32 0, .int .u32 0, .int .u32 0, .int .u32 0, .int .u32 0] 64)) V w1.heap.size mc0) :=
        ⟨V1.kept KM, mat_new w1 _ _ G1.size, grown_trans G1 KM, by omega, mc0_ok⟩
      clear KM V1 G1 hV1
      go_upto_region 6 with fail
      generalize w1.alloc (.cells #[.int .u32 0, .int .u32 0, .int .u32 0, .int .u32 0, .int .u32 0, .int .u32 0, .int .u32 0, .int .u32 0, .int .u32 0, .int .u32 0, .int .u32 0, .int .u32 0, .int .u32 0, .int .u32 0, .int .u32 0, .int .u32 0, .int .u32 0, .int .u32 0] 64) = w2 at *
      generalize w1.heap.size = g at *
      go_wp2
      go_loopw [7, 8] (fun sl i wr => ∃ (k f s : Nat) (M : Mc), sl = .int .i64 (s : Int) ∧ i = .int .i64 (k : Int) ∧ k < xs.length ∧ s ≤ codeLen ((gOf xs).take k) + k ∧ xs.length ≤ f + k ∧ Hid (GsI w wr V g M) ∧ Hid (addS s (goG (gOf xs) pk f k M) = Res)) (fun _ i _ => xs.length - (intOf i).toNat)
      case atStart =>
        refine ⟨0, xs.length, 0, mc0, rfl, rfl, hn0, Nat.zero_le _, by omega, HI, ?_⟩
        show addS 0 (goG (gOf xs) pk xs.length 0 mc0) = Res
        rw [HRes.out]
        simp [addS]
      case round =>
        clear HI HRes
        obtain ⟨k, f, s, M, rfl, rfl, hk, hs, hf, HI, HGo⟩ := hrel
        obtain ⟨f, rfl⟩ : ∃ m, f = m + 1 := ⟨f - 1, by omega⟩
        have hl2 : (k : Int) < (xs.length : Int) := by omega
        have hk' : k < (gOf xs).length := by rw [gOf_len]; exact hk
        have hb : (gOf xs)[k] = xs[k].b := by simp [gOf]
        have hcl : codeLen ((gOf xs).take k) ≤ 4096 := Nat.le_trans (codeLen_take _ _) HT.out.room
        have hcs : codeLen ((gOf xs).take (k + 1)) = codeLen ((gOf xs).take k) + xs[k].b.code.length := by rw [codeLen_succ hk', hb]
        have hc2 : codeLen ((gOf xs).take (k + 1)) ≤ 4096 := Nat.le_trans (codeLen_take _ _) HT.out.room
        have hcd : xs[k].b.code.length ≤ 4096 := by omega
        have HCS : Hid (codeLen ((gOf xs).take (k + 1)) = codeLen ((gOf xs).take k) + xs[k].b.code.length) := hcs
        obtain ⟨t1, t2, t3⟩ := HT.out.ok k hk'
        rw [hb] at t1 t2 t3
        have hnx := leads_next t2 t3
        rw [gOf_len] at hnx
        have hok := (H.out.keptNone HI.out.up).2 xs[k] (List.getElem_mem hk)
        obtain ⟨r, hr⟩ : ∃ r, codeF pk xs[k].b.code M = r := ⟨_, rfl⟩
        have hgo := goG_eq (f := f) (pk := pk) (M := M) hk' r (by rw [hb]; exact hr)
        rw [hb] at hgo
        rw [hgo] at HGo
        obtain ⟨b1, o1, rfl, h1⟩ := ((H.out.keptNone HI.out.up).1).blocks hk
        have h1' := h1 k hk
        clear h1
        have hcw := H.out.2 xs[k] (List.getElem_mem hk)
        clear hgo hcs hc2 hb
        generalize xs[k] = x at *
        obtain ⟨⟨code, en, ⟨ic, it, jf, ik⟩, yes, no⟩, xa, xc⟩ := x
        have c0 := h1' 0 _ rfl
        have c1 := h1' 1 _ rfl
        have c2 := h1' 2 _ rfl
        have c3 := h1' 3 _ rfl
        have c4 := h1' 4 _ rfl
        have c5 := h1' 5 _ rfl
        have c6 := h1' 6 _ rfl
        have c7 := h1' 7 _ rfl
        clear h1'
        rw [Nat.add_zero] at c0
        simp only at *
        have HE : Hid (endsB ⟨code, en, ⟨ic, it, jf, ik⟩, yes, no⟩ = true) := t2
        have HN : Hid (∀ j ∈ nextL ⟨code, en, ⟨ic, it, jf, ik⟩, yes, no⟩, k < j ∧ j < xs.length) := hnx
        have HX : Hid (codeF pk code M = r) := hr
        have HC : Hid (CV w xa (flat code)) := hcw.1
        have hrl := codeF_le (pk := pk) code M
        have hrM := codeF_ok (pk := pk) (by omega) code M HI.out.ok
        rw [hr] at hrl hrM
        have ends := ends_cases t2
        simp only at ends
        have KB : wr.grownBy (wr.alloc (.cells #[.slice xa code.length xc, .int .i64 en, .int .u16 (ic.toNat : Int), .int .u8 (it.toNat : Int), .int .u8 (jf.toNat : Int), .int .u32 (ik.toNat : Int), .int .i64 yes, .int .i64 no] 56)) none := World.grownBy_alloc _ _ _
        have HVB : Hid (VAt (wr.alloc (.cells #[.slice xa code.length xc, .int .i64 en, .int .u16 (ic.toNat : Int), .int .u8 (it.toNat : Int), .int .u8 (jf.toNat : Int), .int .u32 (ik.toNat : Int), .int .i64 yes, .int .i64 no] 56)) wr.heap.size 56 #[.slice xa code.length xc, .int .i64 en, .int .u16 (ic.toNat : Int), .int .u8 (it.toNat : Int), .int .u8 (jf.toNat : Int), .int .u32 (ik.toNat : Int), .int .i64 yes, .int .i64 no]) := VAt.alloc wr _ _
        have HBg : Hid (wr.heap.size ≠ g) := Nat.ne_of_gt HI.out.mach.lt.2
        have HI2 := HI.out.kept KB
        have hs2 : s ≤ 8192 := by omega
        clear t1 t2 t3 hnx hr hcw hok KB HI
        go_upto_region 9 with fail
        generalize wr.alloc (.cells #[.slice xa code.length xc, .int .i64 en, .int .u16 (ic.toNat : Int), .int .u8 (it.toNat : Int), .int .u8 (jf.toNat : Int), .int .u32 (ik.toNat : Int), .int .i64 yes, .int .i64 no] 56) = w3 at *
        generalize wr.heap.size = B at *
        clear c0 c1 c2 c3 c4 c5 c6 c7
        go_wp2
        go_loopw [7, 10] (fun sl i wr => ∃ (j : Nat) (M' : Mc), sl = .int .i64 ((s + j : Nat) : Int) ∧ i = .int .i64 (j : Int) ∧ j ≤ code.length ∧ Hid (GsI w wr V g M') ∧ Hid (VAt wr B 56 #[.slice xa code.length xc, .int .i64 en, .int .u16 (ic.toNat : Int), .int .u8 (it.toNat : Int), .int .u8 (jf.toNat : Int), .int .u32 (ik.toNat : Int), .int .i64 yes, .int .i64 no]) ∧ Hid (addC j (codeF pk (code.drop j) M') = r)) (fun _ i _ => code.length - (intOf i).toNat)
        case atStart =>
          refine ⟨0, M, rfl, rfl, Nat.zero_le _, HI2, HVB, ?_⟩
          show addC 0 (codeF pk (code.drop 0) M) = r
          rw [List.drop_zero, HX.out]
          simp [addC]
        case round =>
          clear HI2 HVB HX
          obtain ⟨j, M', rfl, rfl, hj, HI, HVB, HX⟩ := hrel
          obtain ⟨sj, hsj⟩ : ∃ sj, s + j = sj := ⟨_, rfl⟩
          have hsj2 : sj ≤ 20000 := by omega
          have HSJ : Hid (s + j = sj) := hsj
          rw [hsj]
          clear hsj
          have a0 : wr.cell? ⟨B, 0, none⟩ = some (.slice xa code.length xc) := HVB.out.cell 0
          by_cases hlt : j < code.length
          · have hl3 : (j : Int) < (code.length : Int) := by omega
            have hX := HX.out
            rw [codeF_step hlt] at hX
            obtain ⟨ba, oa, hae, hc⟩ := (HC.out.keptNone HI.out.up).insns hlt
            obtain ⟨c0, c1, c2, c3⟩ := hc j hlt
            have b3 := code[j].k.toNat_lt
            have hM2 : (stepV code[j].code.toNat code[j].k.toNat pk M').1.ok := stepV_ok HI.out.ok (by omega) (by omega)
            have HS := refstep_any pb cb pk g w.heap.size M' code[j].code.toNat code[j].jt.toNat code[j].jf.toNat code[j].k.toNat wr HI.out.mach (by omega) (HP.out.keptNone HI.out.up) hpk HI.out.ok
            generalize stepV code[j].code.toNat code[j].k.toNat pk M' = sv at *
            obtain ⟨M2, fl⟩ := sv
            simp only at HS hM2 hX
            have HX2 : Hid (addC j (if fl = 0 then addC 1 (codeF pk (code.drop (j + 1)) M2) else (M2, fl, 1)) = r) := hX
            generalize code[j] = x at *
            have HSS : Hid (Calls Tryz.prog 39 #[.pointer (some ⟨g, 0, none⟩), .agg #[.int .u16 (x.code.toNat : Int), .int .u8 (x.jt.toNat : Int), .int .u8 (x.jf.toNat : Int), .int .u32 (x.k.toNat : Int)], .slice pb pk.length cb] wr fun e w' => StepPost wr 64 w.heap.size g M2 fl e w') := HS
            subst hae
            clear HS hX HX hc
            go_wp2_with fail
            refine HSS.out.mono ?_
            rintro e w6 ⟨rfl, MA6, K6⟩
            have HI6 : Hid (GsI w w6 V g M2) := HI.out.stepped MA6 K6 hM2
            have HV6 : Hid (VAt w6 B 56 #[.slice (some ⟨ba, oa, none⟩) code.length xc, .int .i64 en, .int .u16 (ic.toNat : Int), .int .u8 (it.toNat : Int), .int .u8 (jf.toNat : Int), .int .u32 (ik.toNat : Int), .int .i64 yes, .int .i64 no]) := HVB.out.grown K6 (by simpa using Ne.symm HBg.out)
            clear c0 c1 c2 c3 K6 MA6 HI HVB HSS a0
            by_cases hfl : fl = 0
            · subst hfl
              have hX := HX2.out
              rw [if_pos rfl] at hX
              have HX3 : Hid (addC (j + 1) (codeF pk (code.drop (j + 1)) M2) = r) := by
                show _ = _
                rw [← hX]
                simp only [addC, Nat.add_assoc]
              clear hX HX2
              go_wp2
              go_roundw
              case rel => exact ⟨j + 1, M2, by have := HSJ.out; go_num, by go_num, by omega, HI6, HV6, HX3⟩
              case measure => simp [intOf]; omega
            · have hflb : (fl != 0) = true := by rw [bne_iff_ne]; exact hfl
              have hX := HX2.out
              rw [if_neg hfl] at hX
              have HR : Hid (Res = (0, fl, sj + 1)) := by
                show _ = _
                rw [← HGo.out, if_pos (show r.2.1 ≠ 0 by rw [← hX]; exact hfl), ← hX, ← HSJ.out]
                simp only [addC, addS, Nat.add_assoc]
              clear hX HX2
              go_wp2_with (refine wpList_store_row rfl 33 (.tmp 4) (.tmp 44) rfl V #[.int .u32 0, .int .i64 fl, .int .i64 ((sj : Int) + 1)] rfl rfl 33 _ HI6.out.ver size33 rfl (by simp [Value.oneCell']) ?_)
              refine bodyPost_ret (ret_row rfl _ _ V #[.int .u32 0, .int .i64 fl, .int .i64 ((sj : Int) + 1)] _ rfl (VAt.setRow HI6.out.ver _) Tryz.underlying33 rfl size33) rfl ?_
              rw [HR.out]
              exact ⟨rfl, vgrown_setRow HI6.out.up _ _ (.inr HV.out)⟩
          · have hl3 : ¬ (j : Int) < (code.length : Int) := by omega
            have hX := HX.out
            rw [codeF_over hlt] at hX
            have hr0 : r = (M', 0, j) := by rw [← hX]; simp [addC]
            subst hr0
            simp only at HGo hrM hrl
            clear hX HX
            have a1 : wr.cell? ⟨B, 1, none⟩ = some (.int .i64 en) := HVB.out.cell 1
            have a2 : wr.cell? ⟨B, 2, none⟩ = some (.int .u16 (ic.toNat : Int)) := HVB.out.cell 2
            have a3 : wr.cell? ⟨B, 3, none⟩ = some (.int .u8 (it.toNat : Int)) := HVB.out.cell 3
            have a4 : wr.cell? ⟨B, 4, none⟩ = some (.int .u8 (jf.toNat : Int)) := HVB.out.cell 4
            have a5 : wr.cell? ⟨B, 5, none⟩ = some (.int .u32 (ik.toNat : Int)) := HVB.out.cell 5
            have a6 : wr.cell? ⟨B, 6, none⟩ = some (.int .i64 yes) := HVB.out.cell 6
            have a7 : wr.cell? ⟨B, 7, none⟩ = some (.int .i64 no) := HVB.out.cell 7
            have m0 := HI.out.mach.a
            have m1 := HI.out.mach.x
            rcases ends with rfl | rfl | rfl
            · have hcl6 : (classV ic.toNat == 6) = true := by
                have h := HE.out
                simp only [endsB, if_true, Bool.and_eq_true] at h
                exact h.1.1
              have hgv := give_ret (x := ⟨ic, it, jf, ik⟩) M' hcl6
              simp only at hgv
              cases h6 : ((ic.toNat : Int) == 6) with
              | true =>
                have HR : Hid (Res = (ik.toNat, 0, sj + 1)) := by
                  show _ = _
                  rw [← HGo.out, hgv, h6, ← HSJ.out]
                  simp only [addS, Nat.add_assoc, ne_eq, not_true, if_true, if_false]
                clear hcl6 hgv
                go_wp2_with (refine wpList_store_row rfl 33 (.tmp 4) (.tmp 66) rfl V #[.int .u32 (ik.toNat : Int), .int .i64 0, .int .i64 ((sj : Int) + 1)] rfl rfl 33 _ HI.out.ver size33 rfl (by simp [Value.oneCell']) ?_)
                refine bodyPost_ret (ret_row rfl _ _ V #[.int .u32 (ik.toNat : Int), .int .i64 0, .int .i64 ((sj : Int) + 1)] _ rfl (VAt.setRow HI.out.ver _) Tryz.underlying33 rfl size33) rfl ?_
                rw [HR.out]
                exact ⟨rfl, vgrown_setRow HI.out.up _ _ (.inr HV.out)⟩
              | false =>
                have HR : Hid (Res = (M'.a, 0, sj + 1)) := by
                  show _ = _
                  rw [← HGo.out, hgv, h6, ← HSJ.out]
                  simp [addS, Nat.add_assoc]
                clear hcl6 hgv
                go_wp2_with (refine wpList_store_row rfl 33 (.tmp 4) (.tmp 74) rfl V #[.int .u32 (M'.a : Int), .int .i64 0, .int .i64 ((sj : Int) + 1)] rfl rfl 33 _ HI.out.ver size33 rfl (by simp [Value.oneCell']) ?_)
                refine bodyPost_ret (ret_row rfl _ _ V #[.int .u32 (M'.a : Int), .int .i64 0, .int .i64 ((sj : Int) + 1)] _ rfl (VAt.setRow HI.out.ver _) Tryz.underlying33 rfl size33) rfl ?_
                rw [HR.out]
                exact ⟨rfl, vgrown_setRow HI.out.up _ _ (.inr HV.out)⟩
            · have hy : nextL ⟨code, 2, ⟨ic, it, jf, ik⟩, yes, no⟩ = [yes.toNat] := by rw [nextL, if_neg (by simp), if_pos rfl]
              have hl1 := HN.out yes.toNat (by rw [hy]; simp)
              have HGO : Hid (addS sj (goG (gOf xs) pk f yes.toNat M') = Res) := by
                show _ = _
                rw [← HGo.out, if_neg (by decide), if_neg (by decide), if_pos rfl, addS_addS, ← HSJ.out]
              have hsn := HSJ.out
              have hcn := HCS.out
              have hmn := codeLen_mono (gOf xs) (show k + 1 ≤ yes.toNat by omega)
              clear hy
              go_wp2
              go_roundw
              case rel => exact ⟨yes.toNat, f, sj, M', by go_num, by rw [Int.toNat_of_nonneg (by omega)], by omega, by omega, by omega, HI, HGO⟩
              case measure => simp [intOf]; omega
            · have hy : nextL ⟨code, 3, ⟨ic, it, jf, ik⟩, yes, no⟩ = [yes.toNat, no.toNat] := by rw [nextL, if_neg (by simp), if_neg (by simp)]
              have hl1 := HN.out yes.toNat (by rw [hy]; simp)
              have hl4 := HN.out no.toNat (by rw [hy]; simp)
              clear hy
              cases hask : asksV ⟨ic, it, jf, ik⟩ M' with
              | true =>
                have HH : Hid (∀ W : World, Calls Tryz.prog 40 #[.agg #[.int .u16 (ic.toNat : Int), .int .u8 (it.toNat : Int), .int .u8 (jf.toNat : Int), .int .u32 (ik.toNat : Int)], .int .u32 (M'.a : Int), .int .u32 (M'.x : Int)] W fun e w' => e = .returned (.bool true) ∧ W.grownBy w' none) := fun W => by
                  have := holds_q ic.toNat it.toNat jf.toNat ik.toNat M'.a M'.x W (by have := ik.toNat_lt; omega) HI.out.ok.1 HI.out.ok.2.1
                  rw [show holdsV (bits .andNot .u16 ic.toNat 8) M'.a (sideV ic.toNat ik.toNat M'.x) = true from hask] at this
                  exact this
                have HGO : Hid (addS (sj + 1) (goG (gOf xs) pk f yes.toNat M') = Res) := by
                  show _ = _
                  rw [← HGo.out, if_neg (by decide), if_neg (by decide), if_neg (by decide), if_pos hask, addS_addS, ← HSJ.out, Nat.add_assoc]
                clear hask
                go_wp2_with fail
                refine (HH.out _).mono ?_
                rintro e w6 ⟨rfl, K6⟩
                have HI6 : Hid (GsI w w6 V g M') := HI.out.kept K6
                have d6 := K6.cell a6 (by simp)
                have d7 := K6.cell a7 (by simp)
                clear a0 a1 a2 a3 a4 a5 a6 a7 m0 m1 HI HVB HH K6
                have hsn := HSJ.out
                have hcn := HCS.out
                have hmn := codeLen_mono (gOf xs) (show k + 1 ≤ yes.toNat by omega)
                go_wp2
                go_roundw
                case rel => exact ⟨yes.toNat, f, sj + 1, M', by go_num, by rw [Int.toNat_of_nonneg (by omega)], by omega, by omega, by omega, HI6, HGO⟩
                case measure => simp [intOf]; omega
              | false =>
                have HH : Hid (∀ W : World, Calls Tryz.prog 40 #[.agg #[.int .u16 (ic.toNat : Int), .int .u8 (it.toNat : Int), .int .u8 (jf.toNat : Int), .int .u32 (ik.toNat : Int)], .int .u32 (M'.a : Int), .int .u32 (M'.x : Int)] W fun e w' => e = .returned (.bool false) ∧ W.grownBy w' none) := fun W => by
                  have := holds_q ic.toNat it.toNat jf.toNat ik.toNat M'.a M'.x W (by have := ik.toNat_lt; omega) HI.out.ok.1 HI.out.ok.2.1
                  rw [show holdsV (bits .andNot .u16 ic.toNat 8) M'.a (sideV ic.toNat ik.toNat M'.x) = false from hask] at this
                  exact this
                have HGO : Hid (addS (sj + 1) (goG (gOf xs) pk f no.toNat M') = Res) := by
                  show _ = _
                  rw [← HGo.out, if_neg (by decide), if_neg (by decide), if_neg (by decide), if_neg (by rw [hask]; simp), addS_addS, ← HSJ.out, Nat.add_assoc]
                clear hask
                go_wp2_with fail
                refine (HH.out _).mono ?_
                rintro e w6 ⟨rfl, K6⟩
                have HI6 : Hid (GsI w w6 V g M') := HI.out.kept K6
                have d6 := K6.cell a6 (by simp)
                have d7 := K6.cell a7 (by simp)
                clear a0 a1 a2 a3 a4 a5 a6 a7 m0 m1 HI HVB HH K6
                have hsn := HSJ.out
                have hcn := HCS.out
                have hmn := codeLen_mono (gOf xs) (show k + 1 ≤ no.toNat by omega)
                go_wp2
                go_roundw
                case rel => exact ⟨no.toNat, f, sj + 1, M', by go_num, by rw [Int.toNat_of_nonneg (by omega)], by omega, by omega, by omega, HI6, HGO⟩
                case measure => simp [intOf]; omega

end Go.Proofs.YtpoleldfoahpoaaGreat

namespace Go.Proofs.YtpoleldfoahpoaaGreat
open Go.RowKit
set_option maxRecDepth 100000

/-- What lies from hi on stays. -/
def Hi (w : World) (hi : Nat) (w' : World) : Prop := w.heap.size ≤ w'.heap.size ∧ ∀ i, hi ≤ i → i < w.heap.size → w'.heap[i]? = w.heap[i]?
theorem Hi.refl (w : World) (hi : Nat) : Hi w hi w := ⟨Nat.le_refl _, fun _ _ _ => rfl⟩
theorem Hi.grow {w w1 w2 : World} {hi : Nat} (h : Hi w hi w1) (K : w1.grownBy w2 none) : Hi w hi w2 := ⟨Nat.le_trans h.1 K.size, fun i h1 h2 => (K.block i (Nat.lt_of_lt_of_le h2 h.1) (by simp)).trans (h.2 i h1 h2)⟩
theorem Hi.step {w w1 w2 : World} {hi z : Nat} (h : Hi w hi w1) (K : w1.grownBy w2 (some z)) (hz : z < hi) : Hi w hi w2 := ⟨Nat.le_trans h.1 K.size, fun i h1 h2 => (K.block i (Nat.lt_of_lt_of_le h2 h.1) (by simp; omega)).trans (h.2 i h1 h2)⟩
theorem Hi.vat {w w' : World} {hi g t : Nat} {cs : Array Value} (h : Hi w hi w') (A : VAt w g t cs) (hg : hi ≤ g) : VAt w' g t cs := by
  have := h.2 g hg A.lt
  unfold VAt at *
  rw [this, A]
theorem Hi.owns {w w' : World} {hi base e size n : Nat} {v : Value} {vs : List Value} (h : Hi w hi w') (O : w.ownsRow base e size v n vs) (hv : ∀ x, v.ownBlock = some x → hi ≤ x) : w'.ownsRow base e size v n vs := by
  refine ⟨O.1, ?_⟩
  rcases O.2 with h0 | ⟨g, cap, cur, hv', hb, hg, r⟩
  · exact .inl h0
  · right
    refine ⟨g, cap, cur, hv', hb, ?_, r⟩
    have hlt : g < w.heap.size := by
      by_cases hh : g < w.heap.size
      · exact hh
      · rw [Array.getElem?_eq_none (by omega)] at hg; cases hg
    rw [h.2 g (hv g (by rw [hv']; rfl)) hlt, hg]
def GK (w0 w : World) (hi : Nat) (w' : World) : Prop := w0.grownBy w' none ∧ Hi w hi w'
theorem GK.grow {w0 w w1 w2 : World} {hi : Nat} (h : GK w0 w hi w1) (K : w1.grownBy w2 none) : GK w0 w hi w2 := ⟨grown_trans h.1 K, h.2.grow K⟩
theorem GK.step {w0 w w1 w2 : World} {hi z : Nat} (h : GK w0 w hi w1) (K : w1.grownBy w2 (some z)) (h0 : w0.heap.size ≤ z) (hz : z < hi) : GK w0 w hi w2 := ⟨grown_trans_new h.1 K (fun x e => by cases e; exact h0), h.2.step K hz⟩
/-- Lent memory lies below hi. -/
def BHi (hi : Nat) (v : Value) (ys : List Bv) : Prop := (∀ z, v.ownBlock = some z → z < hi) ∧ ∀ y ∈ ys, ∀ z, (y.a.map (·.block)) = some z → z < hi
theorem BLent.hi {w : World} {base : Nat} {v : Value} {ys : List Bv} (h : BLent w base v ys) : BHi w.heap.size v ys := by
  obtain ⟨g, cap, rfl, -, -, -, hrow, hil, -⟩ := h
  refine ⟨fun z hz => ?_, fun y hy z hz => ?_⟩
  · simp only [Value.ownBlock, Option.some.injEq] at hz
    subst hz
    exact (hrow.lt g rfl).2
  · obtain ⟨-, -, -, -, gk, hgk, -, hlt, -⟩ := (hil y hy).cv
    rw [hgk] at hz
    obtain rfl := Option.some.inj hz
    exact hlt

/-- While the lent blocks are written over. -/
def BSq (w0 wl : World) (hi g n : Nat) (wr : World) : Prop := BlkN wr 56 g n ∧ GK w0 wl hi wr
theorem BSq.set {w0 wl wr : World} {hi g n : Nat} (h : BSq w0 wl hi g n wr) {p : Addr} (hp : w0.heap.size ≤ p.block ∧ p.block < hi) (u : Value) : BSq w0 wl hi g n (wr.setCell p u) := ⟨h.1.setCell _ _, h.2.step (grown_set1 wr p u) hp.1 hp.2⟩

set_option maxRecDepth 100000 in
set_option maxHeartbeats 4000000 in
theorem bkept2_any (w0 : World) (a : Option Addr) (ca : Nat) (v : Value) (xs ys : List Bv) (w : World) (hL : BLent w w0.heap.size v ys) (ha : GC w0 a xs) (G0 : w0.grownBy w none) (he : gOf ys = gOf xs) (hn : (xs.length + 2) * 56 ≤ 140737488355328) (hlen : ∀ x ∈ xs, x.b.code.length * 8 ≤ 140737488351232) (hi : Nat) (hH : BHi hi v ys) :
    Calls Tryz.prog 10 #[v, .slice a xs.length ca] w fun e w' => e = .returned (.bool true) ∧ GK w0 w hi w' := by
  obtain ⟨g, cap, rfl, hc, hcm, hg1, hrow, hil, hap⟩ := hL
  have hg0 : w0.heap.size ≤ g ∧ g < hi := ⟨hg1, hH.1 g rfl⟩
  have HH : Hid (∀ y ∈ ys, ∀ z, (y.a.map (·.block)) = some z → z < hi) := hH.2
  clear hg1 hH
  have hyl : ys.length = xs.length := by have := congrArg List.length he; rwa [gOf_len, gOf_len] at this
  rw [hyl] at hc hrow ⊢
  have GL : GC w (some ⟨g, 0, none⟩) ys := ⟨(bcv_front hrow).1, fun y hy => by
    obtain ⟨-, h2, h3, h4, -⟩ := (hil y hy).cv
    exact ⟨h2, h3, h4⟩⟩
  have CS := bsameb_any (some ⟨g, 0, none⟩) a cap ca ys xs w GL (ha.keptNone G0) he (by omega) (fun y hy => by
    have : y.b ∈ gOf xs := by rw [← he]; exact List.mem_map.2 ⟨y, hy, rfl⟩
    obtain ⟨x, hx, hxb⟩ := List.mem_map.1 this
    have := hlen x hx
    rw [hxb] at this
    omega)
  rw [hyl] at CS
  have HA : Hid (GC w0 a xs) := ha
  have HI : Hid (∀ y ∈ ys, ILent w w0.heap.size (.slice y.a y.b.code.length y.ca) y.b.code) := hil
  have HP : Hid (Apart ys) := hap
  have HR : Hid (w.ownsRow w0.heap.size 56 8 (.slice (some ⟨g, 0, none⟩) (xs.length + 2) cap) (xs.length + 2) (flatB (ys ++ [m77, m77]))) := hrow
  have HY : Hid (ys.length = xs.length) := hyl
  have HE : Hid (gOf ys = gOf xs) := he
  have cm := (bcv_front hrow).2
  rw [hyl] at cm
  have m1 : w.cell? ⟨g, xs.length * 8 + 1, none⟩ = some (.int .i64 77) := cm.2 _ rfl 1 (by decide)
  have m2 : w.cell? ⟨g, xs.length * 8 + 9, none⟩ = some (.int .i64 77) := cm.2 _ rfl 9 (by decide)
  have m2' : w.cell? ⟨g, (xs.length + 1) * 8 + 1, none⟩ = some (.int .i64 77) := by rw [show (xs.length + 1) * 8 + 1 = xs.length * 8 + 9 by omega]; exact m2
  clear GL hil hap hrow hyl he ha cm m2
  have hcm0 := hcm
  unfold maxLen at hcm
  have hx : (xs.length : Int) + 2 ≤ (cap : Int) := by omega
  have hx1 : (xs.length : Int) < (xs.length : Int) + 2 := by omega
  have hx2 : (xs.length : Int) + 1 < (xs.length : Int) + 2 := by omega
  have hxn : ((xs.length : Int) + 2).toNat = xs.length + 2 := by omega
  have hxm : ((xs.length : Int) + 1).toNat = xs.length + 1 := by omega
  go_enter Tryz.func10, Tryz.ntmps10
  go_wp2_with fail
  refine CS.mono ?_
  rintro e w1 ⟨rfl, n1, rfl⟩
  clear CS
  go_upto_region 3 with fail
  have G1 : GK w0 w hi (w.drewN n1) := ⟨grown_trans G0 (grown_drewN w n1 none), (Hi.refl w hi).grow (grown_drewN w n1 none)⟩
  have HR1 : Hid ((w.drewN n1).ownsRow w0.heap.size 56 8 (.slice (some ⟨g, 0, none⟩) (xs.length + 2) cap) (xs.length + 2) (flatB (ys ++ [m77, m77]))) := owns_keptNone HR.out (grown_drewN _ _ none)
  have HI1 : Hid (∀ j (hj : j < ys.length), 0 ≤ j → ILent (w.drewN n1) w0.heap.size (.slice ys[j].a ys[j].b.code.length ys[j].ca) ys[j].b.code) := fun j hj _ => (HI.out _ (List.getElem_mem hj)).keptNone (grown_drewN _ _ none)
  clear HR HI m1 m2' G0
  generalize hw2 : w.drewN n1 = w2 at *
  clear hw2
  go_wp2
  go_loopw [6, 7] (fun ok i wr => ok = .bool true ∧ ∃ k : Nat, k ≤ xs.length ∧ i = .int .i64 k ∧ GK w0 w hi wr ∧ Hid (wr.ownsRow w0.heap.size 56 8 (.slice (some ⟨g, 0, none⟩) (xs.length + 2) cap) (xs.length + 2) (flatB (ys ++ [m77, m77]))) ∧ Hid (∀ j (hj : j < ys.length), k ≤ j → ILent wr w0.heap.size (.slice ys[j].a ys[j].b.code.length ys[j].ca) ys[j].b.code)) (fun _ i _ => xs.length - (intOf i).toNat)
  case atStart => exact ⟨rfl, 0, Nat.zero_le _, rfl, G1, HR1, HI1⟩
  case round =>
    clear G1 HR1 HI1
    obtain ⟨rfl, k, hk, rfl, G, HRr, HIr⟩ := hrel
    by_cases hlt : k < xs.length
    · have hl : (k : Int) < (xs.length : Int) := by omega
      have hky : k < ys.length := by have := HY.out; omega
      obtain ⟨b2, o2, hae, d2⟩ := (HA.out.1).blocks hlt
      have hb2 : b2 < w0.heap.size := by
        have := (HA.out.1).under hae (by intro e; have := congrArg List.length e; rw [flatB_len] at this; simp at this; omega)
        exact this
      have c0 := G.1.cell (d2 k hlt 0 _ rfl) (by simp)
      obtain ⟨b3, o3, hbe, d3⟩ := (bcv_front HRr.out).1.blocks hky
      simp only [Option.some.injEq, Addr.mk.injEq, and_true] at hbe
      obtain ⟨rfl, rfl⟩ := hbe
      have e0 := d3 k hky 0 _ rfl
      have hbb : ys[k].b = xs[k].b := by
        have := congrArg (fun z => z[k]?) HE.out
        simpa [gOf, hlt, hky] using this
      have hxk := ((HA.out.keptNone G.1).2 _ (List.getElem_mem hlt)).1
      have hmm := hlen _ (List.getElem_mem hlt)
      have hIk := HIr.out k hky (Nat.le_refl _)
      have HAPk : Hid (∀ j (hj : j < ys.length), k + 1 ≤ j → ∀ z, (ys[k].a.map (·.block)) = some z → (ys[j].a.map (·.block)) ≠ some z) := fun j hj hkj z hz => (List.pairwise_iff_getElem.1 HP.out) k j hky hj (by omega) z hz
      rw [hbb] at hIk e0
      rw [Nat.add_zero] at c0 e0
      rw [Nat.zero_add] at e0
      obtain ⟨-, hcvk, -, -, gk, hgk, hgk1, hgk2, hrowk⟩ := hIk.cv
      have HGK : Hid (ys[k].a = some ⟨gk, 0, none⟩) := hgk
      have hgkh : gk < hi := HH.out ys[k] (List.getElem_mem hky) gk (by rw [hgk]; rfl)
      rw [hgk] at e0
      obtain ⟨code, hcode⟩ : ∃ code, xs[k].b.code = code := ⟨_, rfl⟩
      rw [hcode] at c0 e0 hxk hmm hrowk
      generalize xs[k].a = xa at *
      generalize xs[k].ca = xc at *
      obtain ⟨yc, hyc⟩ : ∃ yc, ys[k].ca = yc := ⟨_, rfl⟩
      rw [hyc] at e0 hrowk
      have hgg : gk ≠ g := fun e => by
        subst e
        rcases hrowk.2 with ⟨hv, -⟩ | ⟨g2, cap2, cur, hv, -, hg, -⟩
        · cases hv
        · simp only [Value.slice.injEq, Option.some.injEq, Addr.mk.injEq, and_true] at hv
          obtain ⟨rfl, -, -⟩ := hv
          rcases HRr.out.2 with ⟨hv2, -⟩ | ⟨g3, cap3, cur3, hv2, -, hg3, -⟩
          · cases hv2
          · simp only [Value.slice.injEq, Option.some.injEq, Addr.mk.injEq, and_true] at hv2
            obtain ⟨rfl, -, -⟩ := hv2
            rw [hg] at hg3
            simp only [Option.some.injEq, Obj.cells.injEq] at hg3
            exact absurd hg3.2.1 (by decide)
      have CK := fun W (G' : wr.grownBy W none) => ikept_any gk yc xa xc code W (owns_mono (owns_keptNone hrowk G') (Nat.zero_le _)) (hxk.keptNone G') hmm
      have HCK : Hid (∀ W, wr.grownBy W none → Calls Tryz.prog 29 #[.slice (some ⟨gk, 0, none⟩) code.length yc, .slice xa code.length xc] W fun e w' => e = .returned (.bool true) ∧ W.grownBy w' (some gk)) := CK
      clear CK d2 d3 hIk hcvk hxk hbb hgk hrowk hcode hyc
      subst hae
      go_upto_region 6 with fail
      refine wp_region_held_drew (S := fun V => V.cell? ⟨g, k * 8, none⟩ = some (.slice (some ⟨gk, 0, none⟩) code.length yc) ∧ V.cell? ⟨b2, o2 + k * 8, none⟩ = some (.slice xa code.length xc) ∧ GK w0 w hi V) (by kernel_rfl) (⟨(grown_drewN wr 1 none).cell e0 (by simp), (grown_drewN wr 1 none).cell c0 (by simp), G.grow (grown_drewN wr 1 none)⟩) (fun hHeld => ?_)
      refine wpAnyH_take (i := 0) (v := .slice (some ⟨g, 0, none⟩) xs.length cap) rfl (by kernel_rfl) (by kernel_rfl) (by kernel_rfl) (fun _ _ _ h => h) (Or.inl ⟨by rfl, fun W hW => ?_⟩) hHeld ?_
      · clear hW
        go_simp
      try simp only [Act.put, List.getElem_toArray, List.getElem_cons_zero, List.setIfInBounds_toArray, List.set_cons_zero, List.set_cons_succ]
      refine wpAnyH_take (i := 1) (v := .int .i64 (k : Int)) rfl (by kernel_rfl) (by kernel_rfl) (by kernel_rfl) (fun _ _ _ h => h) (Or.inl ⟨by rfl, fun W hW => ?_⟩) hHeld ?_
      · clear hW
        go_simp
      try simp only [Act.put, List.getElem_toArray, List.getElem_cons_zero, List.getElem_cons_succ, List.setIfInBounds_toArray, List.set_cons_zero, List.set_cons_succ]
      refine wpAnyH_take (i := 2) (v := .pointer (some ⟨g, k * 8, none⟩)) rfl (by kernel_rfl) (by kernel_rfl) (by kernel_rfl) (fun _ _ _ h => h) (Or.inl ⟨by rfl, fun W hW => ?_⟩) hHeld ?_
      · clear hW
        go_simp
      try simp only [Act.put, List.getElem_toArray, List.getElem_cons_zero, List.getElem_cons_succ, List.setIfInBounds_toArray, List.set_cons_zero, List.set_cons_succ]
      refine wpAnyH_take (i := 3) (v := .pointer (some ⟨g, k * 8, none⟩)) rfl (by kernel_rfl) (by kernel_rfl) (by kernel_rfl) (fun _ _ _ h => h) (Or.inl ⟨by rfl, fun W hW => ?_⟩) hHeld ?_
      · clear hW
        go_simp
      try simp only [Act.put, List.getElem_toArray, List.getElem_cons_zero, List.getElem_cons_succ, List.setIfInBounds_toArray, List.set_cons_zero, List.set_cons_succ]
      refine wpAnyH_take (i := 4) (v := .slice (some ⟨gk, 0, none⟩) code.length yc) rfl (by kernel_rfl) (by kernel_rfl) (by kernel_rfl) (fun _ _ _ h => h) (Or.inl ⟨by rfl, fun W hW => ?_⟩) hHeld ?_
      · have q0 := hW.1
        clear hW
        go_simp
      try simp only [Act.put, List.getElem_toArray, List.getElem_cons_zero, List.getElem_cons_succ, List.setIfInBounds_toArray, List.set_cons_zero, List.set_cons_succ]
      refine wpAnyH_take (i := 5) (v := .slice (some ⟨b2, o2, none⟩) xs.length ca) rfl (by kernel_rfl) (by kernel_rfl) (by kernel_rfl) (fun _ _ _ h => h) (Or.inl ⟨by rfl, fun W hW => ?_⟩) hHeld ?_
      · clear hW
        go_simp
      try simp only [Act.put, List.getElem_toArray, List.getElem_cons_zero, List.getElem_cons_succ, List.setIfInBounds_toArray, List.set_cons_zero, List.set_cons_succ]
      refine wpAnyH_take (i := 6) (v := .int .i64 (k : Int)) rfl (by kernel_rfl) (by kernel_rfl) (by kernel_rfl) (fun _ _ _ h => h) (Or.inl ⟨by rfl, fun W hW => ?_⟩) hHeld ?_
      · clear hW
        go_simp
      try simp only [Act.put, List.getElem_toArray, List.getElem_cons_zero, List.getElem_cons_succ, List.setIfInBounds_toArray, List.set_cons_zero, List.set_cons_succ]
      refine wpAnyH_take (i := 7) (v := .pointer (some ⟨b2, o2 + k * 8, none⟩)) rfl (by kernel_rfl) (by kernel_rfl) (by kernel_rfl) (fun _ _ _ h => h) (Or.inl ⟨by rfl, fun W hW => ?_⟩) hHeld ?_
      · clear hW
        go_simp
      try simp only [Act.put, List.getElem_toArray, List.getElem_cons_zero, List.getElem_cons_succ, List.setIfInBounds_toArray, List.set_cons_zero, List.set_cons_succ]
      refine wpAnyH_take (i := 8) (v := .pointer (some ⟨b2, o2 + k * 8, none⟩)) rfl (by kernel_rfl) (by kernel_rfl) (by kernel_rfl) (fun _ _ _ h => h) (Or.inl ⟨by rfl, fun W hW => ?_⟩) hHeld ?_
      · clear hW
        go_simp
      try simp only [Act.put, List.getElem_toArray, List.getElem_cons_zero, List.getElem_cons_succ, List.setIfInBounds_toArray, List.set_cons_zero, List.set_cons_succ]
      refine wpAnyH_take (i := 9) (v := .slice xa code.length xc) rfl (by kernel_rfl) (by kernel_rfl) (by kernel_rfl) (fun _ _ _ h => h) (Or.inl ⟨by rfl, fun W hW => ?_⟩) hHeld ?_
      · have q0 := hW.2.1
        clear hW
        go_simp
      try simp only [Act.put, List.getElem_toArray, List.getElem_cons_zero, List.getElem_cons_succ, List.setIfInBounds_toArray, List.set_cons_zero, List.set_cons_succ]
      refine wpAnyH_ready (rs := [10]) (by kernel_rfl) (by simp) (AllReadyH.cons rfl (fun K hK => ?_) AllReadyH.nil)
      go_simp
      refine (HCK.out _ (grown_drewN wr 1 none)).mono ?_
      rintro e w5 ⟨rfl, K5⟩
      go_wp2_with fail
      refine hK.out _ _ (⟨K5.cell hHeld.1 (by simpa using Ne.symm hgg), K5.cell hHeld.2.1 (by simp; omega), hHeld.2.2.step K5 hgk1 hgkh⟩) (fun hHeld => ?_)
      clear hK K
      try simp only [Act.put, List.getElem_toArray, List.getElem_cons_zero, List.getElem_cons_succ, List.setIfInBounds_toArray, List.set_cons_zero, List.set_cons_succ]
      refine wpAnyH_take (i := 11) (v := .bool true) rfl (by kernel_rfl) (by kernel_rfl) (by kernel_rfl) (fun _ _ _ h => h) (Or.inl ⟨by rfl, fun W hW => ?_⟩) hHeld ?_
      · clear hW
        go_simp
      try simp only [Act.put, List.getElem_toArray, List.getElem_cons_zero, List.getElem_cons_succ, List.setIfInBounds_toArray, List.set_cons_zero, List.set_cons_succ]
      refine wpAnyH_take (i := 12) (v := .bool true) rfl (by kernel_rfl) (by kernel_rfl) (by kernel_rfl) (fun _ _ _ h => h) (Or.inl ⟨by rfl, fun W hW => ?_⟩) hHeld ?_
      · clear hW
        go_simp
      try simp only [Act.put, List.getElem_toArray, List.getElem_cons_zero, List.getElem_cons_succ, List.setIfInBounds_toArray, List.set_cons_zero, List.set_cons_succ]
      refine wpAnyH_take (i := 13) (v := .bool true) rfl (by kernel_rfl) (by kernel_rfl) (by kernel_rfl) (fun _ _ _ h => h) (Or.inl ⟨by rfl, fun W hW => ?_⟩) hHeld ?_
      · clear hW
        go_simp
      try simp only [Act.put, List.getElem_toArray, List.getElem_cons_zero, List.getElem_cons_succ, List.setIfInBounds_toArray, List.set_cons_zero, List.set_cons_succ]
      refine wpAnyH_take (i := 14) (v := .bool true) rfl (by kernel_rfl) (by kernel_rfl) (by kernel_rfl) (fun _ _ _ h => h) (Or.inl ⟨by rfl, fun W hW => ?_⟩) hHeld ?_
      · clear hW
        go_simp
      try simp only [Act.put, List.getElem_toArray, List.getElem_cons_zero, List.getElem_cons_succ, List.setIfInBounds_toArray, List.set_cons_zero, List.set_cons_succ]
      refine wpAnyH_done (by kernel_rfl) ?_ _

      have G5 := hHeld.2.2
      have K6 := grown_trans (grown_drewN wr 1 (some gk)) K5
      have HR5 : Hid (w5.ownsRow w0.heap.size 56 8 (.slice (some ⟨g, 0, none⟩) (xs.length + 2) cap) (xs.length + 2) (flatB (ys ++ [m77, m77]))) := World.ownsRow.kept HRr.out K6 (.inr (by simpa [Value.ownBlock] using Ne.symm hgg))
      have HI5 : Hid (∀ j (hj : j < ys.length), k + 1 ≤ j → ILent w5 w0.heap.size (.slice ys[j].a ys[j].b.code.length ys[j].ca) ys[j].b.code) := fun j hj hkj => (HIr.out j hj (by omega)).other K6 (HAPk.out j hj hkj gk (by rw [HGK.out]; rfl))
      clear hHeld HRr HIr HAPk HGK HCK K5 K6 c0 e0 G
      go_wp2
      go_roundw
      case rel => exact ⟨rfl, k + 1, by omega, by go_num, G5, HR5, HI5⟩
      case measure => simp [intOf]; omega
    · have hl : ¬ (k : Int) < (xs.length : Int) := by omega
      have R : BSq w0 w hi g (cap * 8) wr := ⟨(BlkN.ofRow HRr.out).1, G⟩
      clear HRr HIr G
      go_wp2
      clear hk hlt hl
      go_loopw [8] (fun i wr => ∃ k : Nat, k ≤ xs.length + 2 ∧ i = .int .i64 k ∧ BSq w0 w hi g (cap * 8) wr) (fun i _ => xs.length + 2 - (intOf i).toNat)
      case atStart => exact ⟨0, Nat.zero_le _, rfl, R⟩
      case round =>
        clear R
        obtain ⟨k, hk, rfl, R⟩ := hrel
        by_cases hlt : k < xs.length + 2
        · have hl : (k : Int) < (xs.length : Int) + 2 := by omega
          obtain ⟨u0, hu0⟩ := R.1.cell (i := k * 8) (by omega)
          have hf0 := R.1.free (k * 8)
          obtain ⟨u1, hu1⟩ := R.1.cell (i := k * 8 + 1) (by omega)
          have hf1 := R.1.free (k * 8 + 1)
          obtain ⟨u2, hu2⟩ := R.1.cell (i := k * 8 + 2) (by omega)
          have hf2 := R.1.free (k * 8 + 2)
          obtain ⟨u3, hu3⟩ := R.1.cell (i := k * 8 + 3) (by omega)
          have hf3 := R.1.free (k * 8 + 3)
          obtain ⟨u4, hu4⟩ := R.1.cell (i := k * 8 + 4) (by omega)
          have hf4 := R.1.free (k * 8 + 4)
          obtain ⟨u5, hu5⟩ := R.1.cell (i := k * 8 + 5) (by omega)
          have hf5 := R.1.free (k * 8 + 5)
          obtain ⟨u6, hu6⟩ := R.1.cell (i := k * 8 + 6) (by omega)
          have hf6 := R.1.free (k * 8 + 6)
          obtain ⟨u7, hu7⟩ := R.1.cell (i := k * 8 + 7) (by omega)
          have hf7 := R.1.free (k * 8 + 7)
          have R' := ((((((((R.set (p := ⟨g, k * 8, none⟩) hg0 (.slice none 0 0)).set (p := ⟨g, k * 8 + 1, none⟩) hg0 (.int .i64 (-7))).set (p := ⟨g, k * 8 + 2, none⟩) hg0 (.int .u16 0)).set (p := ⟨g, k * 8 + 3, none⟩) hg0 (.int .u8 0)).set (p := ⟨g, k * 8 + 4, none⟩) hg0 (.int .u8 0)).set (p := ⟨g, k * 8 + 5, none⟩) hg0 (.int .u32 0)).set (p := ⟨g, k * 8 + 6, none⟩) hg0 (.int .i64 7)).set (p := ⟨g, k * 8 + 7, none⟩) hg0 (.int .i64 0))
          clear R
          go_wp2
          go_roundw
          case rel => exact ⟨k + 1, by omega, by go_num, R'⟩
          case measure => simp [intOf]; omega
        · have hl : ¬ (k : Int) < (xs.length : Int) + 2 := by omega
          go_wp2
          go_ret
          exact ⟨rfl, R.2⟩

end Go.Proofs.YtpoleldfoahpoaaGreat
