/-
  Which blocks can be come to. No Go text here. Package graph as landed: one block of a program. Package graph as landed: the blocks of a program.
-/
import Derived.Test.YtelgfegkobkhiaaLotP7
import Derived.Test.YtelgfegkobkhiaaLotP28
import Derived.Test.YtelgfegkobkhiaaLotP10
import Derived.Test.YtelgfegkobkhiaaGrF
import Derived.Test.YtelgfegkobkhiaaLotP16
namespace Go.Proofs.Ytelgfegkobkhiaa
open Go.RowKit
set_option maxRecDepth 100000

theorem getD_set_b (bs : List Bool) (i j : Nat) (v : Bool) : (bs.set i v).getD j false = if i = j ∧ j < bs.length then v else bs.getD j false := by
  rw [List.getD_eq_getElem?_getD, List.getElem?_set, List.getD_eq_getElem?_getD]
  by_cases h : i = j
  · subst h
    by_cases hl : i < bs.length
    · simp [hl]
    · simp [hl]
  · simp [h]
/-- What holds while blocks are marked: the marks, those that are left to look at, the one that is looked at. -/
structure CmI (g : List Bk) (bs : List Bool) (ls : List Nat) (cur : Option Nat) : Prop where
  len : bs.length = g.length
  good : ∀ i, bs.getD i false = true → Come g i
  lst : ∀ i ∈ ls, Come g i
  now : ∀ c, cur = some c → Come g c
  zero : bs.getD 0 false = true ∨ 0 ∈ ls ∨ cur = some 0
  clos : ∀ i (hi : i < g.length), bs.getD i false = true → ∀ j ∈ nextL g[i], bs.getD j false = true ∨ j ∈ ls ∨ cur = some j

theorem CmI.first {g : List Bk} : CmI g (List.replicate g.length false) [0] none := by
  have hf : ∀ i, (List.replicate g.length false).getD i false = false := fun i => by
    rw [List.getD_eq_getElem?_getD, List.getElem?_replicate]
    split <;> rfl
  exact ⟨by simp, fun i h => (by rw [hf] at h; cases h), fun i hi => (by simp at hi; rw [hi]; exact .first), fun c h => (by cases h), .inr (.inl (by simp)), fun i _ h => (by rw [hf] at h; cases h)⟩
theorem CmI.pop {g : List Bk} {bs : List Bool} {ls : List Nat} {c : Nat} (h : CmI g bs (ls ++ [c]) none) : CmI g bs ls (some c) := by
  refine ⟨h.len, h.good, fun i hi => h.lst i (by simp [hi]), fun d hd => ?_, ?_, fun i hi hb j hj => ?_⟩
  · cases hd
    exact h.lst c (by simp)
  · rcases h.zero with e | e | e
    · exact .inl e
    · rcases List.mem_append.1 e with e | e
      · exact .inr (.inl e)
      · exact .inr (.inr (by simp at e; rw [e]))
    · cases e
  · rcases h.clos i hi hb j hj with e | e | e
    · exact .inl e
    · rcases List.mem_append.1 e with e | e
      · exact .inr (.inl e)
      · exact .inr (.inr (by simp at e; rw [e]))
    · cases e
theorem CmI.drop {g : List Bk} {bs : List Bool} {ls : List Nat} {c : Nat} (h : CmI g bs ls (some c)) (hc : bs.getD c false = true) : CmI g bs ls none := by
  refine ⟨h.len, h.good, h.lst, fun d hd => (by cases hd), ?_, fun i hi hb j hj => ?_⟩
  · rcases h.zero with e | e | e
    · exact .inl e
    · exact .inr (.inl e)
    · cases e
      exact .inl hc
  · rcases h.clos i hi hb j hj with e | e | e
    · exact .inl e
    · exact .inr (.inl e)
    · cases e
      exact .inl hc
/-- A block is marked; what follows on it is left to look at. -/
theorem CmI.mark {g : List Bk} {bs : List Bool} {ls ls' : List Nat} {cur' : Option Nat} {c : Nat} (h : CmI g bs ls (some c)) (hc : c < g.length) (hl : ∀ i, i ∈ ls' ↔ (i ∈ ls ∨ (i ∈ ls' ∧ i ∈ nextL g[c]))) (hsub : ∀ i ∈ ls, i ∈ ls') (hcur : ∀ d, cur' = some d → d ∈ nextL g[c])
    (hall : ∀ j ∈ nextL g[c], j ∈ ls' ∨ cur' = some j) : CmI g (bs.set c true) ls' cur' := by
  have hcc := h.now c rfl
  have hnx : ∀ j ∈ nextL g[c], Come g j := fun j hj => .next hcc hc hj
  have hlen := h.len
  have hm : ∀ j, bs.getD j false = true → (bs.set c true).getD j false = true := fun j hj => by
    rw [getD_set_b]
    split
    · rfl
    · exact hj
  have hself : (bs.set c true).getD c false = true := by
    rw [getD_set_b, if_pos ⟨rfl, by omega⟩]
  refine ⟨by rw [List.length_set]; exact hlen, fun i hi => ?_, fun i hi => ?_, fun d hd => hnx d (hcur d hd), ?_, fun i hi hb j hj => ?_⟩
  · rw [getD_set_b] at hi
    split at hi
    · rename_i hh
      rw [← hh.1]
      exact hcc
    · exact h.good i hi
  · rcases (hl i).1 hi with e | ⟨-, e⟩
    · exact h.lst i e
    · exact hnx i e
  · rcases h.zero with e | e | e
    · exact .inl (hm 0 e)
    · exact .inr (.inl (hsub 0 e))
    · cases e
      exact .inl hself
  · by_cases hic : i = c
    · subst hic
      rcases hall j hj with e | e
      · exact .inr (.inl e)
      · exact .inr (.inr e)
    · rw [getD_set_b, if_neg (fun hh => hic hh.1.symm)] at hb
      rcases h.clos i hi hb j hj with e | e | e
      · exact .inl (hm j e)
      · exact .inr (.inl (hsub j e))
      · cases e
        exact .inl hself
theorem CmI.over {g : List Bk} {bs : List Bool} (h : CmI g bs [] none) : bs.length = g.length ∧ ∀ i, bs.getD i false = true ↔ Come g i := by
  refine ⟨h.len, fun i => ⟨h.good i, fun hc => ?_⟩⟩
  induction hc with
  | first =>
    rcases h.zero with e | e | e
    · exact e
    · cases e
    · cases e
  | next _ hi hj ih =>
    rcases h.clos _ hi ih _ hj with e | e | e
    · exact e
    · cases e
    · cases e

/-- Two rows of marks that say the same are one. -/
theorem marks_eq {g : List Bk} {bs cs : List Bool} (h1 : bs.length = g.length ∧ ∀ i, bs.getD i false = true ↔ Come g i) (h2 : cs.length = g.length ∧ ∀ i, cs.getD i false = true ↔ Come g i) : bs = cs := by
  apply List.ext_getElem
  · rw [h1.1, h2.1]
  · intro i hi hj
    have e := (h1.2 i).trans (h2.2 i).symm
    rw [List.getD_eq_getElem?_getD, List.getD_eq_getElem?_getD, List.getElem?_eq_getElem hi, List.getElem?_eq_getElem hj] at e
    simp only [Option.getD_some] at e
    exact Bool.eq_iff_iff.2 e

/-- How many are not marked yet. -/
def unm (bs : List Bool) : Nat → Nat
  | 0 => 0
  | n + 1 => unm bs n + (if bs.getD n false = true then 0 else 1)
theorem unm_set_ge {bs : List Bool} {c : Nat} : ∀ {n : Nat}, n ≤ c → unm (bs.set c true) n = unm bs n
  | 0, _ => rfl
  | n + 1, h => by 
    have e : ¬ (c = n ∧ n < bs.length) := by omega
    rw [unm, unm, unm_set_ge (by omega), getD_set_b, if_neg e]
theorem unm_set {bs : List Bool} {c : Nat} (hc : bs.getD c false = false) (hl : c < bs.length) : ∀ {n : Nat}, c < n → unm (bs.set c true) n + 1 = unm bs n
  | 0, h => absurd h (by omega)
  | n + 1, h => by
    rw [unm, unm]
    by_cases hcn : c = n
    · subst hcn
      have e : (bs.set c true).getD c false = true := by rw [getD_set_b, if_pos (show c = c ∧ c < bs.length from ⟨rfl, hl⟩)]
      rw [unm_set_ge (Nat.le_refl _), e, hc]
      simp
    · have := unm_set hc hl (n := n) (by omega)
      have e : (bs.set c true).getD n false = bs.getD n false := by rw [getD_set_b, if_neg (show ¬ (c = n ∧ n < bs.length) by omega)]
      rw [e]
      omega
theorem unm_le (bs : List Bool) (n : Nat) : unm bs n ≤ n := by
  induction n with
  | zero => exact Nat.le_refl _
  | succ n ih =>
    rw [unm]
    split <;> omega
def unmW (gb : Nat) (w : World) : Nat → Nat
  | 0 => 0
  | n + 1 => unmW gb w n + (match w.cell? ⟨gb, n, none⟩ with
    | some (.bool false) => 1
    | _ => 0)
theorem unmW_eq {gb : Nat} {w : World} {bs : List Bool} : ∀ {n : Nat}, (∀ i, i < n → w.cell? ⟨gb, i, none⟩ = some (.bool (bs.getD i false))) → unmW gb w n = unm bs n
  | 0, _ => rfl
  | n + 1, h => by
    rw [unmW, unm, unmW_eq (fun i hi => h i (by omega)), h n (by omega)]
    cases bs.getD n false <;> rfl

/-- The document's own way: from the first on. -/
def reachGTo (g : List Bk) : Nat → List Bool
  | 0 => (List.replicate g.length false).set 0 true
  | k + 1 => if (reachGTo g k).getD k false = true then (nextL (g.getD k bk0)).foldl (fun bs j => bs.set j true) (reachGTo g k) else reachGTo g k
theorem fold_len (ls : List Nat) : ∀ bs : List Bool, (ls.foldl (fun bs j => bs.set j true) bs).length = bs.length := by
  induction ls with
  | nil => intro bs; rfl
  | cons j r ih => intro bs; rw [List.foldl_cons, ih, List.length_set]
theorem fold_get (ls : List Nat) : ∀ (bs : List Bool) (i : Nat), (ls.foldl (fun bs j => bs.set j true) bs).getD i false = true ↔ (bs.getD i false = true ∨ (i ∈ ls ∧ i < bs.length)) := by
  induction ls with
  | nil => intro bs i; simp
  | cons j r ih =>
    intro bs i
    rw [List.foldl_cons, ih, getD_set_b, List.length_set]
    by_cases h : j = i
    · subst h
      by_cases hl : j < bs.length
      · simp [hl]
      · simp [hl]
    · simp [h, Ne.symm h]
theorem reachG_len (g : List Bk) (k : Nat) : (reachGTo g k).length = g.length := by
  induction k with
  | zero => simp [reachGTo]
  | succ k ih =>
    rw [reachGTo]
    split
    · rw [fold_len, ih]
    · exact ih
theorem reachG_mono (g : List Bk) {k m : Nat} (h : k ≤ m) : ∀ i, (reachGTo g k).getD i false = true → (reachGTo g m).getD i false = true := by
  induction m with
  | zero => intro i hi; have : k = 0 := by omega
            subst this; exact hi
  | succ m ih =>
    intro i hi
    by_cases hk : k = m + 1
    · subst hk; exact hi
    · have := ih (by omega) i hi
      rw [reachGTo]
      split
      · rw [fold_get]; exact .inl this
      · exact this
theorem reachG_at {g : List Bk} {k : Nat} (hk : k < g.length) : g.getD k bk0 = g[k] := by rw [List.getD_eq_getElem?_getD, List.getElem?_eq_getElem hk]; rfl
theorem reachG_good {g : List Bk} : ∀ {k : Nat}, k ≤ g.length → ∀ i, (reachGTo g k).getD i false = true → Come g i
  | 0, _, i, h => by
    rw [reachGTo, getD_set_b] at h
    split at h
    · rename_i hh
      rw [← hh.1]
      exact .first
    · rw [List.getD_eq_getElem?_getD, List.getElem?_replicate] at h
      split at h <;> cases h
  | k + 1, hk, i, h => by
    rw [reachGTo] at h
    split at h
    · rename_i hb
      rw [fold_get] at h
      rcases h with h | ⟨h, -⟩
      · exact reachG_good (by omega) i h
      · rw [reachG_at (by omega)] at h
        exact .next (reachG_good (by omega) k hb) (by omega) h
    · exact reachG_good (by omega) i h
/-- Marks below the place that is looked at stay as they are. -/
theorem reachG_low {g : List Bk} (T : TakenG g) {k : Nat} (hk : k < g.length) {m : Nat} (hm : k ≤ m) (hmn : m ≤ g.length) : ∀ i, i ≤ k → (reachGTo g m).getD i false = true → (reachGTo g k).getD i false = true := by
  induction m with
  | zero => intro i _ h; have : k = 0 := by omega
            subst this; exact h
  | succ m ih =>
    intro i hi h
    by_cases hkm : k = m + 1
    · subst hkm; exact h
    · refine ih (by omega) (by omega) i hi ?_
      rw [reachGTo] at h
      split at h
      · rw [fold_get] at h
        rcases h with h | ⟨h, -⟩
        · exact h
        · rw [reachG_at (by omega)] at h
          have := (leads_next (T.ok m (by omega)).2.1 (T.ok m (by omega)).2.2 i h).1
          omega
      · exact h
theorem reachG_all {g : List Bk} (T : TakenG g) : (reachGTo g g.length).length = g.length ∧ ∀ i, (reachGTo g g.length).getD i false = true ↔ Come g i := by
  refine ⟨reachG_len _ _, fun i => ⟨reachG_good (Nat.le_refl _) i, fun hc => ?_⟩⟩
  induction hc with
  | first =>
    refine reachG_mono g (Nat.zero_le _) 0 ?_
    rw [reachGTo, getD_set_b, if_pos ⟨rfl, by simp; exact T.pos⟩]
  | @next i j _ hi hj ih =>
    have h1 := reachG_low T hi (Nat.le_of_lt hi) (Nat.le_refl _) i (Nat.le_refl _) ih
    refine reachG_mono g (show i + 1 ≤ g.length by omega) j ?_
    rw [reachGTo, if_pos h1, fold_get]
    refine .inr ⟨by rw [reachG_at hi]; exact hj, ?_⟩
    rw [reachG_len]
    exact (leads_next (T.ok i hi).2.1 (T.ok i hi).2.2 j hj).2
/-- P15.3. -/
def reachG (g : List Bk) : List Bool := if (gckG g).2 = 0 then reachGTo g g.length else []

end Go.Proofs.Ytelgfegkobkhiaa

namespace Go.Proofs.Ytelgfegkobkhiaa
open Go.RowKit
set_option maxRecDepth 100000

theorem step_store_rowG {P : Program} {ops : Array Oper} {o : Oper} {a : Act} {w : World} {K : Act → World → Prop} {Q : Exit → Act → World → Prop} {E : Prop}
    (hgd : o.guard = none) (ty : TypeId) (x y : Operand) (ho : o.op = .store ty x y) (g : Nat) (cells : Array Value) (hx : a.eval x = .pointer (some ⟨g, 0, none⟩)) (hy : a.eval y = .agg cells) (t : TypeId) (old : Array Value) (A : GVt w g t old)
    (hi : (P.info? ty).map (·.size) = some cells.size) (hold : old.size = cells.size) (h1 : cells.all (·.oneCell') = true) (hK : K (a.put o.dst undef) (w.setRow g cells)) :
    if Region.wanted o (yielded ops a.tmps) = true then Oper.wp P o a w K Q else E := by
  have hw : Region.wanted o (yielded ops a.tmps) = true := by simp [Region.wanted, hgd]
  rw [if_pos hw]
  exact wp_store_row ty x y ho g cells hx hy t old A hi hold h1 hK
theorem sizeBk : (Try.prog.info? 47).map (·.size) = some 8 := by kernel_rfl
theorem bk_all (a : Option Addr) (l k : Nat) (e y n c1 c2 c3 c4 : Int) : (#[.slice a l k, .int .i64 e, .int .u16 c1, .int .u8 c2, .int .u8 c3, .int .u32 c4, .int .i64 y, .int .i64 n] : Array Value).all (·.oneCell') = true := by simp [Value.oneCell']
theorem bld_go (c : Value) (hc : ∃ a n k, c = .slice a n k) (y : Int) (W : World) : (Instr.build 47 #[(0, c), (1, .int .i64 2), (3, .int .i64 y)]).run Try.prog W = .ok (.agg #[c, .int .i64 2, .int .u16 0, .int .u8 0, .int .u8 0, .int .u32 0, .int .i64 y, .int .i64 0]) W := by
  obtain ⟨a, n, k, rfl⟩ := hc
  kernel_rfl

/-- The block of the instructions from one place to another, both with it. -/
def blkV (xs : List In) (nm : Nat → Nat) (fr i : Nat) (x : In) : Bk :=
  if leavesB x = false then ⟨(xs.drop fr).take (i + 1 - fr), 2, in0, (nm (i + 1) : Int), 0⟩
  else if (classV x.code.toNat == 6) = true then ⟨(xs.drop fr).take (i - fr), 1, bareV x, 0, 0⟩
  else if ((x.code.toNat : Int) == 5) = true then ⟨(xs.drop fr).take (i - fr), 2, in0, (nm (yesG i x) : Int), 0⟩
  else ⟨(xs.drop fr).take (i - fr), 3, bareV x, (nm (yesG i x) : Int), (nm (noG i x) : Int)⟩
/-- What is handed out: a block, its Code in memory of its own. -/
def BlkP (w : World) (b : Bk) (e : Ending) (w' : World) : Prop := ∃ a' ca', e = .returned (bkV b a' ca') ∧ IOwns w' w.heap.size (.slice a' b.code.length ca') b.code ∧ w.grownBy w' none

theorem part15_len {xs : List In} {i l : Nat} (h : i + l ≤ xs.length) : ((xs.drop i).take l).length = l := by
  simp only [List.length_take, List.length_drop]
  omega

/-- Instructions stay where a block is written. -/
theorem own_insn {w w' : World} {base g : Nat} {v : Value} {ys : List In} {cs : Array Value} (h : IOwns w base v ys) (K : w.grownBy w' (some g)) (A : GVt w g 47 cs) : IOwns w' base v ys := World.ownsRow.kept h K (.inr (fun e => by
  rcases h.2 with ⟨hv, -⟩ | ⟨g2, cap2, cur, hv, -, hg, -⟩
  · rw [hv] at e; cases e
  · rw [hv] at e
    simp only [Value.ownBlock, Option.some.injEq] at e
    subst e
    unfold GVt at A
    rw [hg] at A
    simp only [Option.some.injEq, Obj.cells.injEq] at A
    exact absurd A.2.1 (by decide)))

end Go.Proofs.Ytelgfegkobkhiaa

namespace Go.Proofs.Ytelgfegkobkhiaa
open Go.RowKit
set_option maxRecDepth 100000

/-- Where the next block begins, and the blocks up to there. -/
def ofTo (xs : List In) (nm : Nat → Nat) : Nat → Nat × List Bk
  | 0 => (0, [])
  | k + 1 => if nm (k + 1) = nm k then ofTo xs nm k else (k + 1, (ofTo xs nm k).2 ++ [blkV xs nm (ofTo xs nm k).1 k (xs.getD k zIn)])
/-- P15.4. -/
def ofG (xs : List In) : List Bk := if (checkV xs).2 = 0 then (ofTo xs (numN (begTo xs xs.length)) xs.length).2 else []
def ofE (xs : List In) : Int := if (checkV xs).2 = 0 then 0 else 155
theorem ofTo_from (xs : List In) (nm : Nat → Nat) (k : Nat) : (ofTo xs nm k).1 ≤ k := by
  induction k with
  | zero => exact Nat.le_refl _
  | succ k ih => 
    rw [ofTo]
    split
    · omega
    · exact Nat.le_refl _
theorem ofTo_len (xs : List In) (nm : Nat → Nat) (k : Nat) : (ofTo xs nm k).2.length ≤ k := by
  induction k with
  | zero => exact Nat.le_refl _
  | succ k ih => 
    rw [ofTo]
    split
    · omega
    · simp only [List.length_append, List.length_singleton]
      omega

/-- Blocks that are owned, each Code in memory of its own. -/
def BLv (w : World) (base : Nat) (v : Value) (xs : List Bv) : Prop :=
  w.ownsRow base 47 8 v xs.length (flatB xs) ∧ (∀ x ∈ xs, IOwns w base (.slice x.a x.b.code.length x.ca) x.b.code) ∧ xs.Pairwise (fun x y => ∀ z, (x.a.map (·.block)) = some z → (y.a.map (·.block)) ≠ some z)
theorem BLv.nil (w : World) (base : Nat) : BLv w base (.slice none 0 0) [] := ⟨World.ownsRow_nil _ _ _ _, fun x hx => (by cases hx), List.Pairwise.nil⟩
theorem BLv.keptNone {w w' : World} {base : Nat} {v : Value} {xs : List Bv} (h : BLv w base v xs) (G : w.grownBy w' none) : BLv w' base v xs := ⟨owns_keptNone h.1 G, fun x hx => owns_keptNone (h.2.1 x hx) G, h.2.2⟩
theorem BLv.gc {w : World} {base : Nat} {v : Value} {xs : List Bv} (h : BLv w base v xs) : ∃ ao cap, v = .slice ao xs.length cap ∧ GC w ao xs ∧ (ao = none → cap = 0) := by
  obtain ⟨ao, cap, hv, hc, -, -, h0, -⟩ := cv_of_row h.1
  refine ⟨ao, cap, hv, ⟨hc, fun x hx => ?_⟩, h0⟩
  obtain ⟨a2, c2, hv2, hc2, hl2, -, h02, -⟩ := cv_of_row (h.2.1 x hx)
  simp only [Value.slice.injEq] at hv2
  obtain ⟨rfl, -, rfl⟩ := hv2
  exact ⟨hc2, hl2, h02⟩

theorem lit_block (w : World) (x : Bv) : CV (w.alloc (.cells (bkA x.b x.a x.ca) 47)) (some ⟨w.heap.size, 0, none⟩) (flatB [x]) := cv_lit w 47 (flatB [x])

/-- Rows of two kinds of elements: the one stays where the other is written. -/
theorem kinds15 {w w' : World} {base base' e e' size size' n n' : Nat} {v v' : Value} {vs vs' : List Value} (h : w.ownsRow base e size v n vs) (O : w.ownsRow base' e' size' v' n' vs') (he : e ≠ e') (K : w.grownBy w' v'.ownBlock) : w'.ownsRow base e size v n vs := by
  refine h.kept K ?_
  rcases h.2 with ⟨rfl, -⟩ | ⟨g, cap, cur, rfl, -, hg, -⟩
  · exact .inl rfl
  · right
    intro hh
    rcases O.2 with ⟨rfl, -⟩ | ⟨g', cap', cur', rfl, -, hg', -⟩
    · cases hh
    · simp only [Value.ownBlock, Option.some.injEq] at hh
      subst hh
      rw [hg] at hg'
      simp only [Option.some.injEq, Obj.cells.injEq] at hg'
      exact he hg'.2.1

theorem info47 : (Try.prog.info? 47).map (fun i => (i.zero, i.size, i.bytes)) = some (some (.agg #[.slice none 0 0, .int .i64 0, .int .u16 0, .int .u8 0, .int .u8 0, .int .u32 0, .int .i64 0, .int .i64 0]), 8, 56) := by kernel_rfl

/-- One block more. -/
theorem BLv.push {w w' : World} {base : Nat} {v v' : Value} {xs : List Bv} {x : Bv} (h : BLv w base v xs) (hx : IOwns w base (.slice x.a x.b.code.length x.ca) x.b.code) (hap : ∀ y ∈ xs, ∀ z, (y.a.map (·.block)) = some z → (x.a.map (·.block)) ≠ some z)
    (O : w'.ownsRow base 47 8 v' (xs.length + 1) (flatB xs ++ flatB [x])) (K : w.grownBy w' v.ownBlock) : BLv w' base v' (xs ++ [x]) := by
  refine ⟨by rw [List.length_append, flatB_append]; exact O, fun y hy => ?_, ?_⟩
  · have hne : (45 : Nat) ≠ 47 := by decide
    rcases List.mem_append.1 hy with hy | hy
    · exact kinds15 (h.2.1 y hy) h.1 hne K
    · simp only [List.mem_singleton] at hy
      subst hy
      exact kinds15 hx h.1 hne K
  · refine List.pairwise_append.2 ⟨h.2.2, List.pairwise_singleton _ _, fun y hy z hz => ?_⟩
    simp only [List.mem_singleton] at hz
    subst hz
    exact hap y hy

theorem bldb (x : Bv) (W : World) : (Instr.buildSlice 22 1 #[(0, bkV x.b x.a x.ca)]).run Try.prog W = .ok (.slice (some ⟨W.heap.size, 0, none⟩) 1 1) (W.alloc (.cells (bkA x.b x.a x.ca) 47)) := by kernel_rfl

/-- Blocks that are handed out. -/
def BlksP (w : World) (gs : List Bk) (e : Ending) (w' : World) : Prop := ∃ v vs, e = .returned v ∧ BLv w' w.heap.size v vs ∧ gOf vs = gs ∧ w.grownBy w' none

/-- What Of hands out. -/
def OfP (w : World) (xs : List In) (e : Ending) (w' : World) : Prop := ∃ v vs, e = .returned (.tuple #[v, .int .i64 (ofE xs)]) ∧ BLv w' w.heap.size v vs ∧ gOf vs = ofG xs ∧ w.grownBy w' none

end Go.Proofs.Ytelgfegkobkhiaa
