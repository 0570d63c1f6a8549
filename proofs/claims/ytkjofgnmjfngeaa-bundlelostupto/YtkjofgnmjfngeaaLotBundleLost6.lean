/-
  What chapter 9 says of loads in pieces: no Go text here. The document's own Get. Instructions in memory: four cells each. SameInsns of two lists that read alike answers true.
-/
import Derived.Test.YtkjofgnmjfngeaaForgeV
import Derived.Test.YtkjofgnmjfngeaaBase
namespace Go.Proofs.Ytkjofgnmjfngeaa
open Go.RowKit
set_option maxRecDepth 100000

/-- What a bundle has: the number that is waited for, is a load gathered?, what is gathered. -/
structure Bs where
  nxt : Nat
  opn : Bool
  has : List UInt8

/-- P9.3, 1 to 4: what is left, the answer, is there one? -/
def fedV (sp : Nat) (u : Bs) (seq : Nat) (beg fin : Bool) (c : List UInt8) : Bs × List UInt8 × Bool :=
  if 65535 < (if beg = true then c else if (seq = u.nxt ∧ u.opn = true) then u.has ++ c else if seq = u.nxt then u.has else []).length then (⟨(seq + 1) % sp, false, []⟩, [], false)
  else if (beg = true ∨ (seq = u.nxt ∧ u.opn = true)) ∧ fin = true then (⟨(seq + 1) % sp, false, []⟩, (if beg = true then c else u.has ++ c), true)
  else (⟨(seq + 1) % sp, decide (beg = true ∨ (seq = u.nxt ∧ u.opn = true)), if beg = true then c else if (seq = u.nxt ∧ u.opn = true) then u.has ++ c else if seq = u.nxt then u.has else []⟩, [], false)
def feedX (l : Lk) (u : Bs) (b : List UInt8) : Except Int (Bs × List UInt8 × Bool) :=
  (pieceV l b).bind fun v => if v.multi = true then .ok (fedV (spV l) u v.seq v.beg v.fin (b.drop v.pos)) else .error 94

def mayB (l : Lk) : Bool := decide (checkF l = 0) && decide (l.mp ≠ 0)
/-- P9.1: how many pieces, a chunk, a piece. -/
def cntV (n most : Nat) : Nat := if n = 0 then 1 else (n + most - 1) / most
def chunkV (b : List UInt8) (most i : Nat) : List UInt8 := (b.drop (i * most)).take most
def pcV (l : Lk) (b : List UInt8) (most first i : Nat) : List UInt8 :=
  [255, 3, 0, 61] ++ (hdB l (decide (i = 0)) (decide (i + 1 = cntV b.length most)) ((first + i) % spV l) ++ chunkV b most i)
def splitL (l : Lk) (b : List UInt8) (most first : Nat) : List (List UInt8) := (List.range (cntV b.length most)).map (pcV l b most first)
def splitX (l : Lk) (b : List UInt8) (most : Int) (first : Nat) : Except Int (List (List UInt8)) :=
  if mayB l = false then .error 90
  else if most < 1 ∨ 65527 < most ∨ spV l ≤ first then .error 91
  else if 65535 < b.length then .error 92
  else if 4096 * most < (b.length : Int) then .error 93
  else .ok (splitL l b most.toNat first)
def newX (l : Lk) (next : Nat) : Except Int Bs := if mayB l = false then .error 90 else if spV l ≤ next then .error 91 else .ok ⟨next, false, []⟩

theorem sp_pos (l : Lk) : 0 < spV l := by unfold spV; split <;> omega
theorem cnt_pos (n most : Nat) (hm : 1 ≤ most) : 1 ≤ cntV n most := by
  unfold cntV
  split
  · exact Nat.le_refl _
  · exact (Nat.le_div_iff_mul_le (by omega)).2 (by omega)
/-- All but the last chunk are whole. -/
theorem cnt_lt {n most i : Nat} (hm : 1 ≤ most) (h : i + 1 < cntV n most) : (i + 1) * most < n := by
  unfold cntV at h
  split at h
  · omega
  · have h1 : (i + 2) * most ≤ n + most - 1 := (Nat.le_div_iff_mul_le (by omega)).1 h
    have h2 : (i + 2) * most = (i + 1) * most + most := by rw [show i + 2 = (i + 1) + 1 from rfl, Nat.succ_mul]
    omega
theorem cnt_ge {n most : Nat} (hm : 1 ≤ most) : n ≤ cntV n most * most := by
  unfold cntV
  split
  · omega
  · have h := Nat.lt_div_mul_add (a := n + most - 1) (b := most) (by omega)
    omega
theorem cnt_one {n most : Nat} (h : n ≤ most) (hm : 1 ≤ most) : cntV n most = 1 := by
  have h1 := cnt_pos n most hm
  by_cases h2 : 0 + 1 < cntV n most
  · have := cnt_lt hm h2
    omega
  · omega

theorem chunk_len (b : List UInt8) (most i : Nat) : (chunkV b most i).length ≤ most := by
  unfold chunkV
  rw [List.length_take]
  omega
theorem chunk_next (b : List UInt8) (most i : Nat) : b.take (i * most) ++ chunkV b most i = b.take ((i + 1) * most) := by
  rw [Nat.succ_mul, List.take_add]
  rfl
theorem take_all {b : List UInt8} {n most : Nat} (hm : 1 ≤ most) (h : n = cntV b.length most) : b.take (n * most) = b := by
  subst h
  exact List.take_of_length_le (cnt_ge hm)

theorem pc_len (l : Lk) (b : List UInt8) (most first i : Nat) : (pcV l b most first i).length = 4 + szV l + (chunkV b most i).length := by
  unfold pcV
  rw [List.length_append, List.length_append, hd_len]
  simp
  omega
theorem pc_drop (l : Lk) (b : List UInt8) (most first i : Nat) : (pcV l b most first i).drop (4 + szV l) = chunkV b most i := by
  unfold pcV
  rw [← List.append_assoc, List.drop_left' (by rw [List.length_append, hd_len]; simp)]

/-- A piece of a load is one. -/
theorem pc_piece (l : Lk) (b : List UInt8) (most first i : Nat) (h0 : l.mp ≠ 0) (hm : most ≤ 65527) :
    pieceV l (pcV l b most first i) = .ok ⟨61, true, decide (i = 0), decide (i + 1 = cntV b.length most), (first + i) % spV l, 4 + szV l, 0, 0, 0⟩ := by
  have hs : szV l ≤ 4 := by unfold szV; split <;> omega
  have hln := pc_len l b most first i
  have hck := chunk_len b most i
  have hp : plainV l (pcV l b most first i) = .ok 2 := by
    unfold plainV
    rw [if_pos ⟨by omega, rfl, rfl⟩]
  have hq : protoV l (pcV l b most first i) 2 = .ok (61, 4) := by
    have k : pcV l b most first i = [255, 3] ++ (be2 61 ++ (hdB l (decide (i = 0)) (decide (i + 1 = cntV b.length most)) ((first + i) % spV l) ++ chunkV b most i)) := rfl
    unfold protoV
    have e0 : bg (pcV l b most first i) 2 = 0 := rfl
    have e1 : bg (pcV l b most first i) (2 + 1) = 61 := rfl
    rw [e0, e1, if_neg (by omega), if_neg (by decide), if_neg (by omega), if_neg (by decide)]
  have hh := head_back l (decide (i = 0)) (decide (i + 1 = cntV b.length most)) ((first + i) % spV l) [255, 3, 0, 61] (chunkV b most i) (Nat.mod_lt _ (sp_pos l))
  unfold pieceV
  rw [if_neg (by omega), bind_of hp, bind_of hq, if_neg (by simp [h0])]
  have hh' : headV l (pcV l b most first i) (61, 4).2 = .ok (decide (i = 0), decide (i + 1 = cntV b.length most), (first + i) % spV l, 4 + szV l) := hh
  rw [bind_of hh']
theorem pc_feed (l : Lk) (u : Bs) (b : List UInt8) (most first i : Nat) (h0 : l.mp ≠ 0) (hm : most ≤ 65527) :
    feedX l u (pcV l b most first i) = .ok (fedV (spV l) u ((first + i) % spV l) (decide (i = 0)) (decide (i + 1 = cntV b.length most)) (chunkV b most i)) := by
  unfold feedX
  rw [bind_of (pc_piece l b most first i h0 hm), if_pos rfl, pc_drop]

theorem mod_next (a i n : Nat) : ((a + i) % n + 1) % n = (a + (i + 1)) % n := by
  rw [Nat.mod_add_mod, Nat.add_assoc]

/-- What a bundle has behind the first pieces of a load. -/
def rowS (l : Lk) (b : List UInt8) (most first i : Nat) : Bs :=
  if i < cntV b.length most then ⟨(first + i) % spV l, true, b.take (i * most)⟩ else ⟨(first + i) % spV l, false, []⟩

/-- P9.5: a load's pieces, in order. -/
theorem feed_row (l : Lk) (u : Bs) (b : List UInt8) (most first i : Nat) (h0 : l.mp ≠ 0) (h1 : 1 ≤ most) (hm : most ≤ 65527) (hb : b.length ≤ 65535) (hi : i < cntV b.length most) (hu : i = 0 ∨ u = rowS l b most first i) :
    feedX l u (pcV l b most first i) = .ok (rowS l b most first (i + 1), if i + 1 = cntV b.length most then b else [], decide (i + 1 = cntV b.length most)) := by
  rw [pc_feed l u b most first i h0 hm]
  have hcut : (if decide (i = 0) = true then chunkV b most i else if ((first + i) % spV l = u.nxt ∧ u.opn = true) then u.has ++ chunkV b most i else if (first + i) % spV l = u.nxt then u.has else []) = b.take ((i + 1) * most) := by
    rcases hu with rfl | rfl
    · rw [if_pos (by simp), ← chunk_next]
      simp
    · by_cases h : i = 0
      · subst h
        rw [if_pos (by simp), ← chunk_next]
        simp
      · rw [if_neg (by simpa using h), rowS, if_pos hi, if_pos ⟨rfl, rfl⟩, chunk_next]
  have hop : decide (i = 0) = true ∨ ((first + i) % spV l = u.nxt ∧ u.opn = true) := by
    rcases hu with rfl | rfl
    · exact .inl (by simp)
    · exact .inr (by rw [rowS, if_pos hi]; exact ⟨rfl, rfl⟩)
  have hout : (if decide (i = 0) = true then chunkV b most i else u.has ++ chunkV b most i) = b.take ((i + 1) * most) := by
    rcases hu with rfl | rfl
    · rw [if_pos (by simp), ← chunk_next]
      simp
    · by_cases h : i = 0
      · subst h
        rw [if_pos (by simp), ← chunk_next]
        simp
      · rw [if_neg (by simpa using h), rowS, if_pos hi, chunk_next]
  have hl : ¬ 65535 < (b.take ((i + 1) * most)).length := by rw [List.length_take]; omega
  unfold fedV
  rw [hcut, if_neg hl, hout, mod_next first i _]
  by_cases he : i + 1 = cntV b.length most
  · rw [if_pos ⟨hop, by simpa using he⟩, if_pos he, take_all h1 he, rowS, if_neg (by omega), decide_eq_true he]
  · rw [if_neg (fun e => he (by simpa using e.2)), if_neg he, rowS, if_pos (by omega), decide_eq_true hop, decide_eq_false he]

end Go.Proofs.Ytkjofgnmjfngeaa

namespace Go.Proofs.Ytkjofgnmjfngeaa
open Go.RowKit
set_option maxRecDepth 100000

end Go.Proofs.Ytkjofgnmjfngeaa

namespace Go.Proofs.Ytkjofgnmjfngeaa
open Go.RowKit
set_option maxRecDepth 100000

/-- An instruction. -/
structure In where
  code : UInt16
  jt : UInt8
  jf : UInt8
  k : UInt32

def In.cells (x : In) : List Value := [.int .u16 (x.code.toNat : Int), .int .u8 (x.jt.toNat : Int), .int .u8 (x.jf.toNat : Int), .int .u32 (x.k.toNat : Int)]

/-- The cells of a list of them. -/
def flat (xs : List In) : List Value := xs.flatMap In.cells

theorem flat_nil : flat [] = [] := rfl
theorem flat_cons (x : In) (xs : List In) : flat (x :: xs) = x.cells ++ flat xs := rfl
theorem flat_append (xs ys : List In) : flat (xs ++ ys) = flat xs ++ flat ys := by simp only [flat, List.flatMap_append]

theorem flat_len (xs : List In) : (flat xs).length = xs.length * 4 := by
  induction xs with
  | nil => rfl
  | cons x xs ih => rw [flat_cons, List.length_append, ih, List.length_cons]; simp [In.cells]; omega

theorem flat_get (xs : List In) (i j : Nat) (hi : i < xs.length) (hj : j < 4) : (flat xs)[i * 4 + j]? = (xs[i].cells)[j]? := by
  induction xs generalizing i with
  | nil => simp at hi
  | cons x xs ih =>
    rw [flat_cons]
    have hl : x.cells.length = 4 := rfl
    cases i with
    | zero => rw [List.getElem?_append_left (by omega)]; simp
    | succ i =>
      rw [List.getElem?_append_right (by omega), hl, show (i + 1) * 4 + j - 4 = i * 4 + j by omega, ih i (by simpa using hi)]
      simp

theorem flat_one (xs : List In) : ∀ u ∈ flat xs, u.oneCell' = true := by
  intro u hu
  obtain ⟨x, _, hx⟩ := List.mem_flatMap.1 hu
  simp only [In.cells, List.mem_cons, List.not_mem_nil, or_false] at hx
  rcases hx with rfl | rfl | rfl | rfl <;> rfl

theorem CV.insns {w : World} {ao : Option Addr} {xs : List In} (h : CV w ao (flat xs)) {k : Nat} (hk : k < xs.length) :
    ∃ b off, ao = some ⟨b, off, none⟩ ∧ ∀ i (hi : i < xs.length), w.cell? ⟨b, off + i * 4, none⟩ = some (.int .u16 (xs[i].code.toNat : Int)) ∧ w.cell? ⟨b, off + i * 4 + 1, none⟩ = some (.int .u8 (xs[i].jt.toNat : Int)) ∧
      w.cell? ⟨b, off + i * 4 + 2, none⟩ = some (.int .u8 (xs[i].jf.toNat : Int)) ∧ w.cell? ⟨b, off + i * 4 + 3, none⟩ = some (.int .u32 (xs[i].k.toNat : Int)) := by
  have hl := flat_len xs
  obtain ⟨b, off, hao, hc⟩ := h.addr (k := k * 4) (by omega)
  refine ⟨b, off, hao, fun i hi => ?_⟩
  have key : ∀ j (hj : j < 4), w.cell? ⟨b, off + i * 4 + j, none⟩ = (xs[i].cells)[j]? := fun j hj => by
    rw [← flat_get xs i j hi hj, Nat.add_assoc, hc (i * 4 + j) (by omega), List.getElem?_eq_getElem (by omega)]
  exact ⟨key 0 (by omega), key 1 (by omega), key 2 (by omega), key 3 (by omega)⟩

end Go.Proofs.Ytkjofgnmjfngeaa

namespace Go.Proofs.Ytkjofgnmjfngeaa
open Go.RowKit
set_option maxRecDepth 100000

end Go.Proofs.Ytkjofgnmjfngeaa
