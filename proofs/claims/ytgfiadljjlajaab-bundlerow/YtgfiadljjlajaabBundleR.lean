/-
  The document's own Split.
-/
import Derived.Test.YtgfiadljjlajaabBundleV
import Derived.Test.YtgfiadljjlajaabForgeR
import Derived.Test.YtgfiadljjlajaabFrameQ
import Derived.Test.YtgfiadljjlajaabLMem
namespace Go.Proofs.Ytgfiadljjlajaab
open Go.RowKit
set_option maxRecDepth 100000

/-- The test at the loop's head. -/
theorem cnt_iff {n most i : Nat} (hm : 1 ≤ most) (hi : 1 ≤ i) : i < cntV n most ↔ i * most < n := by
  constructor
  · intro h
    have := cnt_lt (n := n) (i := i - 1) hm (by omega)
    rw [show i - 1 + 1 = i by omega] at this
    exact this
  · intro h
    have := cnt_ge (n := n) hm
    have h2 : i * most < cntV n most * most := by omega
    exact Nat.lt_of_mul_lt_mul_right h2
theorem last_iff {n most i : Nat} (hm : 1 ≤ most) (hi : i < cntV n most) (hle : i * most ≤ n) : (i + 1 = cntV n most) ↔ n - i * most ≤ most := by
  have h1 := cnt_iff (n := n) (i := i + 1) hm (by omega)
  have h2 : (i + 1) * most = i * most + most := Nat.succ_mul _ _
  omega
theorem at_le {n most i : Nat} (hm : 1 ≤ most) (hi : i < cntV n most) : i * most ≤ n := by
  by_cases h0 : i = 0
  · subst h0; omega
  · have := (cnt_iff (n := n) hm (by omega)).1 hi
    omega

/-- A chunk, as a slice of the load. -/
theorem chunk_cells {w : World} {bb o ca k : Nat} {b : List UInt8} {most i : Nat} (h : Cells w (some ⟨bb, o, none⟩) b) (hk : i * most = k) (hle : k ≤ b.length) (hc : b.length ≤ ca) : Cells w (if ca = k then some ⟨bb, o, none⟩ else some ⟨bb, o + k, none⟩) (chunkV b most i) := by
  unfold chunkV
  rw [hk]
  by_cases hck : ca = k
  · have hd : b.drop k = [] := List.drop_eq_nil_of_le (by omega)
    rw [hd]
    exact ⟨fun _ => by simp, fun ad _ j hj => absurd hj (by simp)⟩
  · rw [if_neg hck]
    refine ⟨fun e => by simp at e, fun ad had j hj => ?_⟩
    obtain rfl := Option.some.inj had
    have hj2 : j < most ∧ j < b.length - k := by
      rw [List.length_take, List.length_drop] at hj
      omega
    have q := h.2 _ rfl (k + j) (by omega)
    rw [Addr.add_lit] at q ⊢
    rw [show o + k + j = o + (k + j) by omega, q]
    congr 2
    rw [List.getElem_take, List.getElem_drop]
theorem chunk_any {w : World} {a : Option Addr} {ca k : Nat} {b : List UInt8} {most i : Nat} (h : Cells w a b) (hk : i * most = k) (hle : k ≤ b.length) (hc : b.length ≤ ca) : Cells w (if ca = k then a else Option.map (fun x => x.add k) a) (chunkV b most i) := by
  cases b with
  | nil =>
    have e : chunkV [] most i = [] := by simp [chunkV]
    rw [e]
    exact ⟨fun _ => rfl, fun ad _ j hj => absurd hj (by simp)⟩
  | cons x xs =>
    obtain ⟨bb, o, rfl, -⟩ := h.addr (k := 0) (by simp)
    have q := chunk_cells h hk hle hc
    rw [show Option.map (fun x : Addr => x.add k) (some ⟨bb, o, none⟩) = some ⟨bb, o + k, none⟩ from congrArg some (Addr.add_lit _ _ _)]
    exact q
theorem chunk_size (b : List UInt8) (most i : Nat) (hm : 1 ≤ most) (hi : i < cntV b.length most) : (chunkV b most i).length = if i + 1 = cntV b.length most then b.length - i * most else most := by
  have h1 := last_iff hm hi (at_le hm hi)
  unfold chunkV
  rw [List.length_take, List.length_drop]
  split <;> omega

theorem infoS31 : (Try.prog.info? 31).map (fun i => (i.zero, i.size, i.bytes)) = some (some (.slice none 0 0), 1, 24) := by kernel_rfl

theorem below_all {w : World} {base : Nat} {v : Value} {vs : List Value} {xss : List (List UInt8)} (h : LLv w base v vs xss) : (∀ x, v.ownBlock = some x → x < w.heap.size) ∧ ∀ i, i < xss.length → ∀ x, (vs.getD i undef).ownBlock = some x → x < w.heap.size :=
  ⟨fun x hx => (h.1.lt x hx).2, fun i hi x hx => (World.ownsRow.lt (h.2.2.1 i hi) x hx).2⟩
/-- What is written from a block on that lies behind all of it. -/
theorem LLv.keptUp {w w1 w2 : World} {base g : Nat} {v f : Value} {vs : List Value} {xss : List (List UInt8)} {n : Nat} {ys : List Value} (h0 : LLv w base v vs xss) (h : LLv w1 base v vs xss) (hg : w.heap.size ≤ g) (O : w1.ownsRow g 5 1 f n ys) (K : w1.grownBy w2 f.ownBlock) : LLv w2 base v vs xss := by
  obtain ⟨b1, b2⟩ := below_all h0
  cases hf : f.ownBlock with
  | none =>
    rw [hf] at K
    exact h.keptNone K
  | some y =>
    have hy := (O.lt y hf).1
    rw [hf] at K
    exact h.keptNew K (fun x hx => by have := b1 x hx; omega) (fun i hi x hx => by have := b2 i hi x hx; omega)

end Go.Proofs.Ytgfiadljjlajaab
