/-
  A row of lists, read. Lists of lists that are written over one by one; how great they are. Loads that were split one behind the other, their pieces in whatever order: no Go text here. Loads that were split one behind the other, as two lists: the pieces, and whose they are. No Go text here.
-/
import Derived.Test.YtkjofgnmjfngeaaLotBundleLost15
import Derived.Test.YtkjofgnmjfngeaaLotBundleLost22
import Derived.Test.YtkjofgnmjfngeaaLotBundleLost16
import Derived.Test.YtkjofgnmjfngeaaLotBundleLost6
namespace Go.Proofs.Ytkjofgnmjfngeaa
open Go.RowKit
set_option maxRecDepth 100000

/-- A row of slices reads as parts. -/
theorem LLv.parts {w : World} {base : Nat} {v : Value} {vs : List Value} {xss : List (List UInt8)} (h : LLv w base v vs xss) : ∃ (a : Option Addr) (ca : Nat) (ps : List Part), v = .slice a ps.length ca ∧ (a = none → ca = 0) ∧ CV w a (ps.map Part.v) ∧ (∀ p ∈ ps, p.ok w) ∧ ps.map (·.bs) = xss := by
  have key : ∀ i, i < xss.length → ∃ p : Part, vs.getD i undef = p.v ∧ p.bs = xss.getD i [] ∧ p.ok w := fun i hi => by
    have O := h.2.2.1 i hi
    obtain ⟨ao, ca, hv, -, -, -, h0, -⟩ := cv_of_row O
    obtain ⟨ao', ca', hv', C', -⟩ := O.shape
    rw [hv] at hv'
    simp only [Value.slice.injEq] at hv'
    obtain ⟨rfl, hl, rfl⟩ := hv'
    exact ⟨⟨ao, ca, xss.getD i []⟩, by rw [hv]; rfl, rfl, C', h0⟩
  obtain ⟨f, hf⟩ : ∃ f : Nat → Part, ∀ i, i < xss.length → vs.getD i undef = (f i).v ∧ (f i).bs = xss.getD i [] ∧ (f i).ok w :=
    ⟨fun i => if hi : i < xss.length then Classical.choose (key i hi) else ⟨none, 0, []⟩, fun i hi => by
      simp only [hi, dif_pos]
      exact Classical.choose_spec (key i hi)⟩
  have hlen : ((List.range xss.length).map f).length = xss.length := by simp
  have hvs : vs = ((List.range xss.length).map f).map Part.v := by
    apply List.ext_getElem
    · rw [List.length_map, hlen, h.2.1]
    · intro i h1 h2
      have hi : i < xss.length := by rw [← h.2.1]; exact h1
      have q := (hf i hi).1
      rw [List.getD_eq_getElem?_getD, List.getElem?_eq_getElem h1] at q
      simpa using q
  have hbs : ((List.range xss.length).map f).map (·.bs) = xss := by
    apply List.ext_getElem
    · simp
    · intro i h1 h2
      have q := (hf i h2).2.1
      rw [List.getD_eq_getElem?_getD, List.getElem?_eq_getElem h2] at q
      simpa using q
  obtain ⟨a, ca, hv, C, -, -, h0, -⟩ := cv_of_row h.1
  refine ⟨a, ca, (List.range xss.length).map f, ?_, h0, ?_, ?_, hbs⟩
  · rw [hv, hlen, h.2.1]
  · rw [← hvs]
    exact C
  · intro p hp
    rw [List.mem_map] at hp
    obtain ⟨i, hi, rfl⟩ := hp
    exact (hf i (List.mem_range.1 hi)).2.2

end Go.Proofs.Ytkjofgnmjfngeaa

namespace Go.Proofs.Ytkjofgnmjfngeaa
open Go.RowKit
set_option maxRecDepth 100000

/-- A row of slices, of which those from the k-th on have their bytes. -/
def XF (w : World) (base : Nat) (v : Value) (vs : List Value) (xss : List (List UInt8)) (k : Nat) : Prop :=
  w.ownsRow base 28 1 v vs.length vs ∧ vs.length = xss.length ∧ (∀ i, k ≤ i → i < xss.length → Owns w base (vs.getD i undef) (xss.getD i [])) ∧ ∀ i j, i < j → j < xss.length → ∀ x, (vs.getD i undef).ownBlock = some x → (vs.getD j undef).ownBlock ≠ some x
theorem LLv.xf {w : World} {base : Nat} {v : Value} {vs : List Value} {xss : List (List UInt8)} (h : LLv w base v vs xss) : XF w base v vs xss 0 := ⟨h.1, h.2.1, fun i _ hi => h.2.2.1 i hi, h.2.2.2⟩
theorem XF.keptNone {w w' : World} {base k : Nat} {v : Value} {vs : List Value} {xss : List (List UInt8)} (h : XF w base v vs xss k) (G : w.grownBy w' none) : XF w' base v vs xss k :=
  ⟨h.1.kept G (by cases v.ownBlock <;> simp), h.2.1, fun i h1 h2 => owns_keptNone (h.2.2.1 i h1 h2) G, h.2.2.2⟩
theorem XF.spoil {w w' : World} {base k : Nat} {v : Value} {vs : List Value} {xss : List (List UInt8)} (h : XF w base v vs xss k) (hk : k < xss.length) (K : w.grownBy w' (vs.getD k undef).ownBlock) (hT : (5 : Nat) ≠ 28) : XF w' base v vs xss (k + 1) := by
  refine ⟨ll_kinds h.1 (h.2.2.1 k (Nat.le_refl _) hk) (fun e => hT e.symm) K, h.2.1, fun i h1 h2 => World.ownsRow.kept (h.2.2.1 i (by omega) h2) K ?_, h.2.2.2⟩
  cases hz : (vs.getD i undef).ownBlock with
  | none => exact .inl rfl
  | some z =>
    right
    intro e
    exact h.2.2.2 k i (by omega) h2 z e.symm hz
theorem XF.item {w : World} {base k : Nat} {v : Value} {vs : List Value} {xss : List (List UInt8)} (h : XF w base v vs xss k) {i : Nat} (hk : k ≤ i) (hi : i < xss.length) : ∃ g cap ao ca, v = .slice (some ⟨g, 0, none⟩) xss.length cap ∧ w.cell? ⟨g, i, none⟩ = some (.slice ao (xss.getD i []).length ca) ∧ vs.getD i undef = .slice ao (xss.getD i []).length ca ∧ Cells w ao (xss.getD i []) ∧ Owns w base (.slice ao (xss.getD i []).length ca) (xss.getD i []) := by
  have O := h.2.2.1 i hk hi
  obtain ⟨ao, ca, hv, C, -⟩ := O.shape
  have hr := h.1
  rcases h.1.2 with ⟨-, h0⟩ | ⟨g, cap, cur, hv2, -⟩
  · have := h.2.1
    omega
  · rw [hv2] at hr
    have hc := hr.cellAt i (by have := h.2.1; omega)
    refine ⟨g, cap, ao, ca, by rw [hv2, h.2.1], ?_, hv, C, by rw [← hv]; exact O⟩
    rw [hc, ← hv, List.getD_eq_getElem?_getD, List.getElem?_eq_getElem (by have := h.2.1; omega)]
    rfl

theorem split_small (l : Lk) (b : List UInt8) (most : Int) (first : Nat) : (exV [] (splitX l b most first)).length ≤ 4096 ∧ ∀ p ∈ exV [] (splitX l b most first), p.length ≤ 70000 := by
  unfold splitX
  split
  · simp [exV]
  · split
    · simp [exV]
    · rename_i h1
      split
      · simp [exV]
      · split
        · simp [exV]
        · rename_i h3 h4
          simp only [exV, splitL, List.length_map, List.length_range, List.mem_map, List.mem_range]
          refine ⟨cnt_many (by omega) (by omega), ?_⟩
          rintro p ⟨i, -, rfl⟩
          have e1 := pc_len l b most.toNat first i
          have e2 := chunk_len b most.toNat i
          have e3 : szV l ≤ 4 := by unfold szV; split <;> omega
          omega

theorem LLv.avoid {w w' : World} {base : Nat} {v : Value} {vs : List Value} {xss : List (List UInt8)} {S : Nat → Prop} (h : LLv w base v vs xss) (G : GB w w' S) (h1 : ∀ x, v.ownBlock = some x → ¬ S x) (h2 : ∀ i, i < xss.length → ∀ x, (vs.getD i undef).ownBlock = some x → ¬ S x) : LLv w' base v vs xss :=
  ⟨G.owns h.1 h1, h.2.1, fun i hi => G.owns (h.2.2.1 i hi) (h2 i hi), h.2.2.2⟩
theorem BW.feedp_ok {wN W : World} {p : Value} {l : Lk} {u u' : Bs} {m m' : Nat} {r : List UInt8} {d : Bool} (h : BW wN p l u m m' W) (a : Option Addr) (ca : Nat) (b : List UInt8) (ha : Cells W a b) (hc0 : a = none → ca = 0) (hca : b.length ≤ ca) (hn : b.length ≤ 140737488355328) (hm : m' ≤ W.heap.size) (hap : ∀ ad, a = some ad → b ≠ [] → m ≤ ad.block ∧ ad.block < m') (hf : feedX l u b = .ok (u', r, d)) :
    Calls Try.prog 9 #[p, .slice a b.length ca] W fun e w' => ∃ x, e = .returned (.tuple #[x, .bool d, .int .i64 0]) ∧ Owns w' W.heap.size x r ∧ BW wN p l u' m m' w' ∧ Rest wN m m' W w' := by
  have k := h.feed0 a ca b ha hc0 hca hn hm hap
  rw [hf] at k
  exact k
theorem split_len {l : Lk} {b : List UInt8} {most first n : Nat} (hn : cntV b.length most = n) : (splitL l b most first).length = n := by rw [splitL, List.length_map, List.length_range, hn]
theorem split_get {l : Lk} {b : List UInt8} {most first n i : Nat} (hn : cntV b.length most = n) (hi : i < n) : (splitL l b most first).getD i [] = pcV l b most first i := by
  unfold splitL
  rw [List.getD_eq_getElem?_getD, List.getElem?_map, List.getElem?_range (by rw [hn]; exact hi)]
  rfl

end Go.Proofs.Ytkjofgnmjfngeaa

namespace Go.Proofs.Ytkjofgnmjfngeaa
open Go.RowKit
set_option maxRecDepth 100000

/-- How many pieces the first loads have. -/
def offV (ls : List (List UInt8)) (most i : Nat) : Nat := ((ls.take i).map fun b => cntV b.length most).sum
theorem off_succ (ls : List (List UInt8)) (most i : Nat) (hi : i < ls.length) : offV ls most (i + 1) = offV ls most i + cntV (ls[i].length) most := by
  unfold offV
  rw [List.take_succ_eq_append_getElem hi, List.map_append, List.sum_append]
  simp
theorem off_mono (ls : List (List UInt8)) (most i j : Nat) (hij : i ≤ j) (hj : j ≤ ls.length) : offV ls most i ≤ offV ls most j := by
  induction j with
  | zero =>
    have : i = 0 := by omega
    subst this
    exact Nat.le_refl _
  | succ j ih =>
    by_cases h : i = j + 1
    · subst h
      exact Nat.le_refl _
    · have := ih (by omega) (by omega)
      have := off_succ ls most j (by omega)
      omega
/-- A piece's place tells its load and its number there. -/
theorem off_one {ls : List (List UInt8)} {most i i' j j' : Nat} (hi : i < ls.length) (hi' : i' < ls.length) (hj : j < cntV ls[i].length most) (hj' : j' < cntV ls[i'].length most) (h : offV ls most i + j = offV ls most i' + j') : i = i' ∧ j = j' := by
  have e := off_succ ls most i hi
  have e' := off_succ ls most i' hi'
  have : i = i' := by
    by_cases h1 : i < i'
    · have := off_mono ls most (i + 1) i' h1 (by omega)
      omega
    · by_cases h2 : i' < i
      · have := off_mono ls most (i' + 1) i h2 (by omega)
        omega
      · omega
  subst this
  exact ⟨rfl, by omega⟩

/-- What a bundle may have, whatever pieces came. -/
def LostI (ls : List (List UInt8)) (most first : Nat) (u : Bs) : Prop :=
  (u.opn = false → u.has = []) ∧ (u.opn = true → ∃ (i j : Nat) (hi : i < ls.length), j + 1 < cntV ls[i].length most ∧ u.nxt = (first + (offV ls most i + (j + 1))) % 4096 ∧ u.has = ls[i].take ((j + 1) * most))

theorem mod_one {f a b : Nat} (ha : a < 4096) (hb : b < 4096) (h : (f + a) % 4096 = (f + b) % 4096) : a = b := by omega

/-- P9.5: each load that comes out is one of those. -/
theorem lost_step (l : Lk) (u : Bs) (ls : List (List UInt8)) (most first i j : Nat) (hl : spV l = 4096) (h1 : 1 ≤ most) (hN : offV ls most ls.length ≤ 4096) (hi : i < ls.length) (hb : ls[i].length ≤ 65535) (hj : j < cntV ls[i].length most) (hu : LostI ls most first u) :
    LostI ls most first (fedV (spV l) u ((first + (offV ls most i + j)) % 4096) (decide (j = 0)) (decide (j + 1 = cntV ls[i].length most)) (chunkV ls[i] most j)).1 ∧
    ((fedV (spV l) u ((first + (offV ls most i + j)) % 4096) (decide (j = 0)) (decide (j + 1 = cntV ls[i].length most)) (chunkV ls[i] most j)).2.2 = true → j + 1 = cntV ls[i].length most ∧ (fedV (spV l) u ((first + (offV ls most i + j)) % 4096) (decide (j = 0)) (decide (j + 1 = cntV ls[i].length most)) (chunkV ls[i] most j)).2.1 = ls[i]) := by
  rw [hl]
  have hoff := off_succ ls most i hi
  have hend := off_mono ls most (i + 1) ls.length (by omega) (Nat.le_refl _)
  -- what is gathered now, if the piece is taken
  have key : ∀ (g : (decide (j = 0) = true ∨ ((first + (offV ls most i + j)) % 4096 = u.nxt ∧ u.opn = true))),
      (if decide (j = 0) = true then chunkV ls[i] most j else if ((first + (offV ls most i + j)) % 4096 = u.nxt ∧ u.opn = true) then u.has ++ chunkV ls[i] most j else if (first + (offV ls most i + j)) % 4096 = u.nxt then u.has else []) = ls[i].take ((j + 1) * most)
      ∧ (if decide (j = 0) = true then chunkV ls[i] most j else u.has ++ chunkV ls[i] most j) = ls[i].take ((j + 1) * most) := by
    intro g
    by_cases h0 : j = 0
    · subst h0
      have e : chunkV ls[i] most 0 = ls[i].take ((0 + 1) * most) := by
        rw [← chunk_next]
        simp
      rw [if_pos (by simp), if_pos (by simp)]
      exact ⟨e, e⟩
    · have hd : ¬ decide (j = 0) = true := by simpa using h0
      have g2 := g.resolve_left hd
      obtain ⟨i', j', hi', c1, c2, c3⟩ := hu.2 g2.2
      have e := g2.1
      rw [c2] at e
      have hoff' := off_succ ls most i' hi'
      have hend' := off_mono ls most (i' + 1) ls.length (by omega) (Nat.le_refl _)
      have e2 := mod_one (by omega) (by omega) e
      obtain ⟨rfl, rfl⟩ := off_one hi hi' hj (by omega) e2
      rw [if_neg hd, if_neg hd, if_pos g2, c3, chunk_next]
      exact ⟨rfl, rfl⟩
  by_cases g : decide (j = 0) = true ∨ ((first + (offV ls most i + j)) % 4096 = u.nxt ∧ u.opn = true)
  · obtain ⟨k1, k2⟩ := key g
    have hln : ¬ 65535 < (ls[i].take ((j + 1) * most)).length := by rw [List.length_take]; omega
    unfold fedV
    rw [k1, if_neg hln, k2]
    by_cases he : j + 1 = cntV ls[i].length most
    · rw [if_pos ⟨g, by simpa using he⟩]
      exact ⟨⟨fun _ => rfl, fun e => by cases e⟩, fun _ => ⟨he, take_all h1 he⟩⟩
    · rw [if_neg (fun e => he (by simpa using e.2))]
      refine ⟨⟨fun e => ?_, fun _ => ⟨i, j, hi, by omega, ?_, rfl⟩⟩, fun e => by cases e⟩
      · simp only [decide_eq_false_iff_not] at e
        exact absurd g e
      · show ((first + (offV ls most i + j)) % 4096 + 1) % 4096 = _
        rw [mod_next, Nat.add_assoc]
  · have h0 : ¬ decide (j = 0) = true := fun e => g (.inl e)
    have h2 : ¬ ((first + (offV ls most i + j)) % 4096 = u.nxt ∧ u.opn = true) := fun e => g (.inr e)
    have hz : (if (first + (offV ls most i + j)) % 4096 = u.nxt then u.has else []) = [] := by
      split
      · rename_i hq
        cases ho : u.opn with
        | true => exact absurd ⟨hq, ho⟩ h2
        | false => exact hu.1 ho
      · rfl
    unfold fedV
    rw [if_neg h0, if_neg h2, hz, if_neg (by simp), if_neg (fun e => g e.1)]
    refine ⟨⟨fun _ => rfl, fun e => ?_⟩, fun e => by cases e⟩
    exact absurd (of_decide_eq_true e) g

end Go.Proofs.Ytkjofgnmjfngeaa

namespace Go.Proofs.Ytkjofgnmjfngeaa
open Go.RowKit
set_option maxRecDepth 100000

/-- The pieces of the first loads, and whose they are. -/
def pcsV (l : Lk) (ls : List (List UInt8)) (most first : Nat) : Nat → List (List UInt8)
  | 0 => []
  | i + 1 => pcsV l ls most first i ++ splitL l (ls.getD i []) most ((first + offV ls most i) % 4096)
def ofsV (ls : List (List UInt8)) (most : Nat) : Nat → List Int
  | 0 => []
  | i + 1 => ofsV ls most i ++ List.replicate (cntV (ls.getD i []).length most) (i : Int)

theorem getD_eq {ls : List (List UInt8)} {i : Nat} (hi : i < ls.length) : ls.getD i [] = ls[i] := by
  rw [List.getD_eq_getElem?_getD, List.getElem?_eq_getElem hi]
  rfl
theorem off_next (ls : List (List UInt8)) (most i : Nat) (hi : i < ls.length) : offV ls most (i + 1) = offV ls most i + cntV (ls.getD i []).length most := by
  rw [off_succ ls most i hi, getD_eq hi]
theorem pcs_len (l : Lk) (ls : List (List UInt8)) (most first : Nat) : ∀ n, n ≤ ls.length → (pcsV l ls most first n).length = offV ls most n
  | 0, _ => by simp [pcsV, offV]
  | n + 1, h => by
    rw [pcsV, List.length_append, pcs_len l ls most first n (by omega), off_next ls most n (by omega)]
    simp [splitL]
theorem ofs_len (ls : List (List UInt8)) (most : Nat) : ∀ n, n ≤ ls.length → (ofsV ls most n).length = offV ls most n
  | 0, _ => by simp [ofsV, offV]
  | n + 1, h => by
    rw [ofsV, List.length_append, ofs_len ls most n (by omega), off_next ls most n (by omega)]
    simp
/-- A place is some load's piece. -/
theorem off_find (ls : List (List UInt8)) (most : Nat) : ∀ n, n ≤ ls.length → ∀ k, k < offV ls most n → ∃ i j, i < n ∧ j < cntV (ls.getD i []).length most ∧ k = offV ls most i + j
  | 0, _, k, hk => by simp [offV] at hk
  | n + 1, h, k, hk => by
    by_cases h1 : k < offV ls most n
    · obtain ⟨i, j, hi, hj, e⟩ := off_find ls most n (by omega) k h1
      exact ⟨i, j, by omega, hj, e⟩
    · rw [off_next ls most n (by omega)] at hk
      exact ⟨n, k - offV ls most n, by omega, by omega, by omega⟩
theorem pcs_get (l : Lk) (ls : List (List UInt8)) (most first : Nat) : ∀ n, n ≤ ls.length → ∀ i j, i < n → j < cntV (ls.getD i []).length most → (pcsV l ls most first n).getD (offV ls most i + j) [] = pcV l (ls.getD i []) most ((first + offV ls most i) % 4096) j
  | 0, _, i, j, hi, _ => by omega
  | n + 1, h, i, j, hi, hj => by
    have hl := pcs_len l ls most first n (by omega)
    rw [pcsV, List.getD_eq_getElem?_getD]
    by_cases h1 : i = n
    · subst h1
      rw [List.getElem?_append_right (by omega), hl, Nat.add_sub_cancel_left]
      unfold splitL
      rw [List.getElem?_map, List.getElem?_range hj]
      rfl
    · have hm := off_mono ls most (i + 1) n (by omega) (by omega)
      rw [off_next ls most i (by omega)] at hm
      rw [List.getElem?_append_left (by omega), ← List.getD_eq_getElem?_getD]
      exact pcs_get l ls most first n (by omega) i j (by omega) hj
theorem ofs_get (ls : List (List UInt8)) (most : Nat) : ∀ n, n ≤ ls.length → ∀ i j, i < n → j < cntV (ls.getD i []).length most → (ofsV ls most n)[offV ls most i + j]? = some (i : Int)
  | 0, _, i, j, hi, _ => by omega
  | n + 1, h, i, j, hi, hj => by
    have hl := ofs_len ls most n (by omega)
    rw [ofsV]
    by_cases h1 : i = n
    · subst h1
      rw [List.getElem?_append_right (by omega), hl, Nat.add_sub_cancel_left, List.getElem?_replicate, if_pos hj]
    · have hm := off_mono ls most (i + 1) n (by omega) (by omega)
      rw [off_next ls most i (by omega)] at hm
      rw [List.getElem?_append_left (by omega)]
      exact ofs_get ls most n (by omega) i j (by omega) hj
theorem cnt_le (n most : Nat) (h : 1 ≤ most) : cntV n most ≤ n + 1 := by
  unfold cntV
  split
  · omega
  · have : (n + most - 1) / most < n + 1 := (Nat.div_lt_iff_lt_mul (by omega)).2 (by
      have : (n + 1) * most = n * most + most := Nat.succ_mul n most
      have : n ≤ n * most := Nat.le_mul_of_pos_right n h
      omega)
    omega
/-- No more pieces than bytes, and one for each load. -/
theorem off_bulk (ls : List (List UInt8)) (most n : Nat) (h : 1 ≤ most) : offV ls most n ≤ (ls.map fun b => b.length + 1).sum := by
  unfold offV
  induction ls generalizing n with
  | nil => simp
  | cons x r ih =>
    cases n with
    | zero => simp
    | succ n =>
      have := ih n
      have := cnt_le x.length most h
      simp only [List.take_succ_cons, List.map_cons, List.sum_cons]
      omega

/-- The piece's number. -/
theorem seq_at (first a j : Nat) : ((first + a) % 4096 + j) % 4096 = (first + (a + j)) % 4096 := by omega

/-- What a piece does to a bundle, whatever came ahead of it. -/
theorem lost_feed (l : Lk) (u : Bs) (ls : List (List UInt8)) (most first i j : Nat) (hl : spV l = 4096) (h0 : l.mp ≠ 0) (h1 : 1 ≤ most) (h2 : most ≤ 65527) (hN : offV ls most ls.length ≤ 4096) (hi : i < ls.length) (hb : (ls.getD i []).length ≤ 65535) (hj : j < cntV (ls.getD i []).length most) (hu : LostI ls most first u) :
    ∃ u' out d, feedX l u (pcV l (ls.getD i []) most ((first + offV ls most i) % 4096) j) = .ok (u', out, d) ∧ LostI ls most first u' ∧ (d = true → j + 1 = cntV (ls.getD i []).length most ∧ out = ls.getD i []) := by
  have hf := pc_feed l u (ls.getD i []) most ((first + offV ls most i) % 4096) j h0 h2
  rw [show ((first + offV ls most i) % 4096 + j) % spV l = (first + (offV ls most i + j)) % 4096 by rw [hl]; exact seq_at _ _ _] at hf
  rw [getD_eq hi] at hf hb hj ⊢
  obtain ⟨q1, q2⟩ := lost_step l u ls most first i j hl h1 hN hi hb hj hu
  exact ⟨_, _, _, hf, q1, q2⟩

end Go.Proofs.Ytkjofgnmjfngeaa
