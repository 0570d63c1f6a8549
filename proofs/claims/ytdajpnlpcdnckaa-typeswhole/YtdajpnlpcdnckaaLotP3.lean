/-
  Numbers as texts: no Go text here. Instructions in memory: four cells each. SameInsns of two lists that read alike answers true. CopyInsns, LendInsns, SpoilInsns, KeptInsns. The document's own Number; rows of texts.
-/
import Derived.Test.YtdajpnlpcdnckaaLotP2
namespace Go.Proofs.Ytdajpnlpcdnckaa
open Go.RowKit
set_option maxRecDepth 100000

def isDig (c : UInt8) : Bool := decide (48 ≤ c.toNat) && decide (c.toNat ≤ 57)

theorem dg_dig {n : Nat} (h : n < 10) : isDig (dg n) = true := by
  have := dg_nat h
  simp [isDig, this]; omega

/-- What Number says: the number that digits say behind v; none: there is another letter, or it is too great. -/
def numFrom (most : Nat) : Nat → List UInt8 → Option Nat
  | v, [] => some v
  | v, c :: r => if isDig c = true then (if most < 10 * v + (c.toNat - 48) then none else numFrom most (10 * v + (c.toNat - 48)) r) else none
def numberV (most : Nat) (s : List UInt8) : Option Nat := if s = [] ∨ (1 < s.length ∧ s.head? = some 48) then none else numFrom most 0 s

theorem numFrom_snoc (most v : Nat) (a : List UInt8) (c : UInt8) : numFrom most v (a ++ [c]) = (numFrom most v a).bind fun u => numFrom most u [c] := by
  induction a generalizing v with
  | nil => rfl
  | cons x a ih =>
    simp only [List.cons_append, numFrom]
    split
    · split
      · rfl
      · exact ih _
    · rfl

theorem numFrom_decZ (most n : Nat) (hn : n ≤ most) (h20 : n < 10 ^ 20) : numFrom most 0 (decZ n) = some n := by
  induction n using Nat.strongRecOn with
  | _ n ih =>
    by_cases h0 : n = 0
    · subst h0; rfl
    · rw [decZ_step n (by omega) h20, numFrom_snoc, ih (n / 10) (by omega) (by omega) (by omega)]
      have h10 : n % 10 < 10 := by omega
      have e := dg_nat h10
      have hv : 10 * (n / 10) + ((dg (n % 10)).toNat - 48) = n := by omega
      simp only [Option.bind_some, numFrom, dg_dig h10, hv]
      simp [show ¬ most < n by omega]

theorem decZ_head (n : Nat) (h0 : 0 < n) (h20 : n < 10 ^ 20) : ∃ c r, decZ n = c :: r ∧ c ≠ 48 ∧ isDig c = true := by
  induction n using Nat.strongRecOn with
  | _ n ih =>
    rw [decZ_step n h0 h20]
    by_cases h : n / 10 = 0
    · have h10 : n % 10 < 10 := by omega
      have e := dg_nat h10
      refine ⟨dg (n % 10), [], by simp [decZ, h], ?_, dg_dig h10⟩
      intro hc
      have := congrArg UInt8.toNat hc
      simp at this
      omega
    · obtain ⟨c, r, hr, hc⟩ := ih (n / 10) (by omega) (by omega) (by omega)
      exact ⟨c, r ++ [dg (n % 10)], by rw [hr]; rfl, hc⟩

theorem dec_pos (n : Nat) (h0 : 0 < n) : dec n = decZ n := by rw [decZ, if_neg (by omega)]

theorem dec_zero : dec 0 = [48] := by decide

theorem dec_ne (n : Nat) (h20 : n < 10 ^ 20) : dec n ≠ [] := by rw [dec_step n h20]; simp

theorem dec_dig (n : Nat) (h20 : n < 10 ^ 20) : ∀ c ∈ dec n, isDig c = true := by
  have key : ∀ n, n < 10 ^ 20 → ∀ c ∈ decZ n, isDig c = true := by
    intro n
    induction n using Nat.strongRecOn with
    | _ n ih =>
      intro h c hc
      by_cases h0 : n = 0
      · subst h0; simp [decZ] at hc
      · rw [decZ_step n (by omega) h] at hc
        rcases List.mem_append.1 hc with hc | hc
        · exact ih (n / 10) (by omega) (by omega) c hc
        · simp only [List.mem_singleton] at hc
          subst hc
          exact dg_dig (by omega)
  by_cases h0 : n = 0
  · subst h0; rw [dec_zero]; decide
  · rw [dec_pos n (by omega)]; exact key n h20

theorem numberV_dec (most n : Nat) (hn : n ≤ most) (h20 : n < 10 ^ 20) : numberV most (dec n) = some n := by
  by_cases h0 : n = 0
  · subst h0; rw [dec_zero]; simp [numberV, numFrom, isDig]
  · have hd := dec_pos n (by omega)
    obtain ⟨c, r, hr, hc, -⟩ := decZ_head n (by omega) h20
    rw [hd, numberV, if_neg, numFrom_decZ most n hn h20]
    rw [hr]
    simp [hc]

end Go.Proofs.Ytdajpnlpcdnckaa

namespace Go.Proofs.Ytdajpnlpcdnckaa
open Go.RowKit
set_option maxRecDepth 100000

/-- An instruction. -/
structure In where
  code : UInt16
  jt : UInt8
  jf : UInt8
  k : UInt32

def In.cells (x : In) : List Value := [.int .u16 (x.code.toNat : Int), .int .u8 (x.jt.toNat : Int), .int .u8 (x.jf.toNat : Int), .int .u32 (x.k.toNat : Int)]

/-- The cells of a list of them. -/
def flat (xs : List In) : List Value := xs.flatMap In.cells

theorem flat_nil : flat [] = [] := rfl
theorem flat_cons (x : In) (xs : List In) : flat (x :: xs) = x.cells ++ flat xs := rfl
theorem flat_append (xs ys : List In) : flat (xs ++ ys) = flat xs ++ flat ys := by simp only [flat, List.flatMap_append]

theorem flat_len (xs : List In) : (flat xs).length = xs.length * 4 := by
  induction xs with
  | nil => rfl
  | cons x xs ih => rw [flat_cons, List.length_append, ih, List.length_cons]; simp [In.cells]; omega

theorem flat_get (xs : List In) (i j : Nat) (hi : i < xs.length) (hj : j < 4) : (flat xs)[i * 4 + j]? = (xs[i].cells)[j]? := by
  induction xs generalizing i with
  | nil => simp at hi
  | cons x xs ih =>
    rw [flat_cons]
    have hl : x.cells.length = 4 := rfl
    cases i with
    | zero => rw [List.getElem?_append_left (by omega)]; simp
    | succ i =>
      rw [List.getElem?_append_right (by omega), hl, show (i + 1) * 4 + j - 4 = i * 4 + j by omega, ih i (by simpa using hi)]
      simp

theorem flat_one (xs : List In) : ∀ u ∈ flat xs, u.oneCell' = true := by
  intro u hu
  obtain ⟨x, _, hx⟩ := List.mem_flatMap.1 hu
  simp only [In.cells, List.mem_cons, List.not_mem_nil, or_false] at hx
  rcases hx with rfl | rfl | rfl | rfl <;> rfl

theorem CV.insns {w : World} {ao : Option Addr} {xs : List In} (h : CV w ao (flat xs)) {k : Nat} (hk : k < xs.length) :
    ∃ b off, ao = some ⟨b, off, none⟩ ∧ ∀ i (hi : i < xs.length), w.cell? ⟨b, off + i * 4, none⟩ = some (.int .u16 (xs[i].code.toNat : Int)) ∧ w.cell? ⟨b, off + i * 4 + 1, none⟩ = some (.int .u8 (xs[i].jt.toNat : Int)) ∧
      w.cell? ⟨b, off + i * 4 + 2, none⟩ = some (.int .u8 (xs[i].jf.toNat : Int)) ∧ w.cell? ⟨b, off + i * 4 + 3, none⟩ = some (.int .u32 (xs[i].k.toNat : Int)) := by
  have hl := flat_len xs
  obtain ⟨b, off, hao, hc⟩ := h.addr (k := k * 4) (by omega)
  refine ⟨b, off, hao, fun i hi => ?_⟩
  have key : ∀ j (hj : j < 4), w.cell? ⟨b, off + i * 4 + j, none⟩ = (xs[i].cells)[j]? := fun j hj => by
    rw [← flat_get xs i j hi hj, Nat.add_assoc, hc (i * 4 + j) (by omega), List.getElem?_eq_getElem (by omega)]
  exact ⟨key 0 (by omega), key 1 (by omega), key 2 (by omega), key 3 (by omega)⟩

end Go.Proofs.Ytdajpnlpcdnckaa

namespace Go.Proofs.Ytdajpnlpcdnckaa
open Go.RowKit
set_option maxRecDepth 100000

end Go.Proofs.Ytdajpnlpcdnckaa

namespace Go.Proofs.Ytdajpnlpcdnckaa
open Go.RowKit
set_option maxRecDepth 100000

theorem cv_of_row {w : World} {base e size n : Nat} {v : Value} {vs : List Value} (h : w.ownsRow base e size v n vs) :
    ∃ ao cap, v = .slice ao n cap ∧ CV w ao vs ∧ n ≤ cap ∧ cap ≤ maxLen ∧ (ao = none → cap = 0) ∧ (∀ ad, ao = some ad → base ≤ ad.block ∧ ad.block < w.heap.size) ∧ v.ownBlock = ao.map (·.block) := by
  have hl := h.lt
  have h0 := h.1
  rcases h.2 with ⟨rfl, hn⟩ | ⟨g, cap, cur, rfl, hb, hg, hc, hm, hs, ht⟩
  · subst hn
    refine ⟨none, 0, rfl, ⟨fun _ => List.eq_nil_of_length_eq_zero (by simpa using h0), fun ad had => (by cases had)⟩, by omega, Nat.zero_le _, fun _ => rfl, fun ad had => (by cases had), rfl⟩
  · refine ⟨some ⟨g, 0, none⟩, cap, rfl, ⟨fun h => (by cases h), fun ad had i hi => ?_⟩, hc, hm, fun h => (by cases h), fun ad had => ?_, rfl⟩
    · obtain rfl := Option.some.inj had
      exact h.cells (g := g) rfl i _ (by simp [hi])
    · obtain rfl := Option.some.inj had
      exact hl g rfl

theorem owns_head {w : World} {base e size n : Nat} {v : Value} {vs : List Value} (h : w.ownsRow base e size v n vs) (hn : 0 < n) :
    ∃ g cap, v = .slice (some ⟨g, 0, none⟩) n cap ∧ n ≤ cap ∧ cap ≤ maxLen ∧ base ≤ g ∧ g < w.heap.size := by
  have hl := h.lt
  rcases h.2 with ⟨rfl, hn⟩ | ⟨g, cap, cur, rfl, hb, hg, hc, hm, hs, ht⟩
  · omega
  · exact ⟨g, cap, rfl, hc, hm, (hl g rfl).1, (hl g rfl).2⟩

/-- 'append(dst, src...)': dst the call's own, src whatever is read: nil, empty or not: elements of several cells. -/
theorem wpList_append_cv {P : Program} {w : World} {ops : Array Oper} {rest : List Oper} {o : Oper} {a : Act} {Q : Exit → Act → World → Prop} (hgd : o.guard = none) (s x : Operand) (t : TypeId)
    (ho : o.op = .call { callee := .builtin .append, args := #[s, x], argTypes := #[t, t] })
    (e : TypeId) (i : TypeInfo) (z : Value) (size bytes : Nat) (ht : P.underlying t = some (.slice e)) (hi : P.info? e = some i) (hz : i.zero = some z) (hsize : i.size = size) (hby : i.bytes = bytes) (hzs : z.cells.size = size) (hsz : 0 < size)
    (base : Nat) (v : Value) (n : Nat) (vs : List Value) (hs : a.eval s = v) (hown : w.ownsRow base e size v n vs)
    (ao : Option Addr) (m c : Nat) (us : List Value) (hx : a.eval x = .slice ao m c) (hl : us.length = m * size) (hc0 : ao = none → c = 0) (hus : CV w ao us) (h1 : ∀ u ∈ us, u.oneCell' = true)
    (h63 : n + m ≤ maxLen) (hbytes : (n + m) * bytes ≤ 140737488355328) (hbase : base ≤ w.heap.size)
    (h : ∀ v' w', w'.ownsRow base e size v' (n + m) (vs ++ us) → w.grownBy w' v.ownBlock → wpList P ops Q rest (a.put o.dst v') w') : wpList P ops Q (o :: rest) a w := by
  cases ao with
  | none =>
    have e0 := hus.1 rfl
    subst e0
    have e1 := hc0 rfl
    subst e1
    have e2 : m = 0 := by
      rcases Nat.mul_eq_zero.1 hl.symm with h | h
      · exact h
      · omega
    subst e2
    refine wpList_append_own_none hgd s x t ho base e i size ht hi v n vs hs hown hx (h v w (by simpa using hown) (World.grownBy.refl _ _))
  | some ad =>
    refine wpList_append_own w hgd s x t ho base e i z size bytes ht hi hz hsize hby hzs hsz v n vs hs hown ad m c us hx hl ?_ h1 h63 hbytes hbase fun v' w' h1 h2 _ => h v' w' h1 h2
    intro j u hj
    obtain ⟨hlt, e⟩ := List.getElem?_eq_some_iff.1 hj
    rw [hus.2 ad rfl j hlt, e]

/-- The same behind a guard that says yes ('.. && f(append(x, y...))'). -/
theorem wpList_append_cvg {P : Program} {w : World} {ops : Array Oper} {rest : List Oper} {o : Oper} {a : Act} {Q : Exit → Act → World → Prop} (hw : Region.wanted o (yielded ops a.tmps) = true) (s x : Operand) (t : TypeId)
    (ho : o.op = .call { callee := .builtin .append, args := #[s, x], argTypes := #[t, t] })
    (e : TypeId) (i : TypeInfo) (z : Value) (size bytes : Nat) (ht : P.underlying t = some (.slice e)) (hi : P.info? e = some i) (hz : i.zero = some z) (hsize : i.size = size) (hby : i.bytes = bytes) (hzs : z.cells.size = size) (hsz : 0 < size)
    (base : Nat) (v : Value) (n : Nat) (vs : List Value) (hs : a.eval s = v) (hown : w.ownsRow base e size v n vs)
    (ao : Option Addr) (m c : Nat) (us : List Value) (hx : a.eval x = .slice ao m c) (hl : us.length = m * size) (hc0 : ao = none → c = 0) (hus : CV w ao us) (h1 : ∀ u ∈ us, u.oneCell' = true)
    (h63 : n + m ≤ maxLen) (hbytes : (n + m) * bytes ≤ 140737488355328) (hbase : base ≤ w.heap.size)
    (h : ∀ v' w', w'.ownsRow base e size v' (n + m) (vs ++ us) → w.grownBy w' v.ownBlock → wpList P ops Q rest (a.put o.dst v') w') : wpList P ops Q (o :: rest) a w := by
  cases ao with
  | none =>
    have e0 := hus.1 rfl
    subst e0
    have e1 := hc0 rfl
    subst e1
    have e2 : m = 0 := by
      rcases Nat.mul_eq_zero.1 hl.symm with h | h
      · exact h
      · omega
    subst e2
    refine BigFrame.wpList_want hw fun K hK => ?_
    have hrun := run_append_owned_none (P := P) (w := w) base t o.type e i size ht hi v n vs hown
    unfold Oper.wp
    simp [execOp, ho, resolve, invoke, builtin, hs, hx, hrun, Result.andThen]
    exact hK _ _ (h v w (by simpa using hown) (World.grownBy.refl _ _))
  | some ad =>
    refine BigFrame.wpList_want hw fun K hK => wp_append_own w s x t ho base e i z size bytes ht hi hz hsize hby hzs hsz v n vs hs hown ad m c us hx hl ?_ h1 h63 hbytes hbase fun v' w' h1 h2 _ => hK _ _ (h v' w' h1 h2)
    intro j u hj
    obtain ⟨hlt, e⟩ := List.getElem?_eq_some_iff.1 hj
    rw [hus.2 ad rfl j hlt, e]

/-- The mark. -/
def mark : In := ⟨7, 0, 0, 77⟩

theorem marks3 : flat [mark, mark, mark] = [.int .u16 7, .int .u8 0, .int .u8 0, .int .u32 77, .int .u16 7, .int .u8 0, .int .u8 0, .int .u32 77, .int .u16 7, .int .u8 0, .int .u8 0, .int .u32 77] := by simp [flat, In.cells, mark]
theorem marks1 : flat [mark] = [.int .u16 7, .int .u8 0, .int .u8 0, .int .u32 77] := by simp [flat, In.cells, mark]

/-- A block of cells that may be written. -/
def BlkN (w : World) (e : TypeId) (g n : Nat) : Prop := ∃ cur : Array Value, w.heap[g]? = some (.cells cur e (0, 0)) ∧ cur.size = n

theorem BlkN.cell {w : World} {e : TypeId} {g n : Nat} (h : BlkN w e g n) {i : Nat} (hi : i < n) : ∃ u, w.cell? ⟨g, i, none⟩ = some u := by
  obtain ⟨cur, hh, hs⟩ := h
  refine ⟨cur[i], ?_⟩
  rw [cell_of_row w g i cur _ _ hh]
  simp

theorem BlkN.free {w : World} {e : TypeId} {g n : Nat} (h : BlkN w e g n) (i : Nat) : w.frozen? ⟨g, i, none⟩ = false := by
  obtain ⟨cur, hh, hs⟩ := h
  simp [World.frozen?, hh]

theorem BlkN.lt {w : World} {e : TypeId} {g n : Nat} (h : BlkN w e g n) : g < w.heap.size := by
  obtain ⟨cur, hh, hs⟩ := h
  exact (Array.getElem?_eq_some_iff.1 hh).1

theorem BlkN.setCell {w : World} {e : TypeId} {g n : Nat} (h : BlkN w e g n) (a : Addr) (u : Value) : BlkN (w.setCell a u) e g n := by
  obtain ⟨cur, hh, hs⟩ := h
  by_cases e : g = a.block
  · subst e
    by_cases hsp : a.spot.isSome = true
    · refine ⟨cur, ?_, hs⟩
      simp only [World.setCell, Array.getElem?_modify, hh]
      simp [hsp]
    · refine ⟨cur.setIfInBounds a.off u, ?_, by simpa using hs⟩
      simp only [World.setCell, Array.getElem?_modify, hh]
      simp [hsp]
  · exact ⟨cur, by rw [Below.heap_setCell _ _ _ _ e]; exact hh, hs⟩

theorem BlkN.kept {w w' : World} {e : TypeId} {g n : Nat} {row : Option Nat} (h : BlkN w e g n) (hg : w.grownBy w' row) (hne : some g ≠ row) : BlkN w' e g n := by
  have hl := h.lt
  obtain ⟨cur, hh, hs⟩ := h
  exact ⟨cur, by rw [hg.block g hl hne]; exact hh, hs⟩

theorem BlkN.ofRow {w : World} {base e size g n cap : Nat} {xs : List Value} (h : w.ownsRow base e size (.slice (some ⟨g, 0, none⟩) n cap) n xs) : BlkN w e g (cap * size) ∧ n ≤ cap ∧ cap ≤ maxLen := by
  rcases h.2 with ⟨h, _⟩ | ⟨g', cap', cur, hv, hb, hg, hc, hm, hs, ht⟩
  · cases h
  · simp only [Value.slice.injEq, Option.some.injEq, Addr.mk.injEq] at hv
    obtain ⟨⟨rfl, _⟩, _, rfl⟩ := hv
    exact ⟨⟨cur, hg, hs⟩, hc, hm⟩

theorem BlkN.row {w : World} {e size g cap : Nat} (h : BlkN w e g (cap * size)) (n : Nat) (hn : n ≤ cap) (hm : cap ≤ maxLen) : ∃ xs : List Value, w.ownsRow 0 e size (.slice (some ⟨g, 0, none⟩) n cap) n xs := by
  obtain ⟨cur, hh, hs⟩ := h
  have hle : n * size ≤ cap * size := Nat.mul_le_mul_right _ hn
  exact ⟨cur.toList.take (n * size), by rw [List.length_take, Array.length_toList, hs]; omega, .inr ⟨g, cap, cur, rfl, Nat.zero_le _, hh, hn, hm, hs, rfl⟩⟩

/-- 'append(x, ..)', x at its block's head: it stays there, or lies in a new block. -/
theorem wpList_append_blkN {P : Program} {w : World} {ops : Array Oper} {rest : List Oper} {o : Oper} {a : Act} {Q : Exit → Act → World → Prop} (hgd : o.guard = none) (s x : Operand) (t : TypeId)
    (ho : o.op = .call { callee := .builtin .append, args := #[s, x], argTypes := #[t, t] })
    (e : TypeId) (i : TypeInfo) (z : Value) (size bytes : Nat) (ht : P.underlying t = some (.slice e)) (hi : P.info? e = some i) (hz : i.zero = some z) (hsize : i.size = size) (hby : i.bytes = bytes) (hzs : z.cells.size = size) (hsz : 0 < size)
    (g n cap : Nat) (hs : a.eval s = .slice (some ⟨g, 0, none⟩) n cap) (hb : BlkN w e g (cap * size)) (hn : n ≤ cap) (hm : cap ≤ maxLen)
    (ad : Addr) (m c : Nat) (us : List Value) (hx : a.eval x = .slice (some ad) m c) (hl : us.length = m * size) (hus : CV w (some ad) us) (h1 : ∀ u ∈ us, u.oneCell' = true)
    (h63 : n + m ≤ maxLen) (hbytes : (n + m) * bytes ≤ 140737488355328)
    (h : ∀ g' cap' w', (g' = g ∨ w.heap.size ≤ g') → BlkN w' e g (cap * size) → BlkN w' e g' (cap' * size) → n + m ≤ cap' → cap' ≤ maxLen → w.grownBy w' (some g) → wpList P ops Q rest (a.put o.dst (.slice (some ⟨g', 0, none⟩) (n + m) cap')) w') : wpList P ops Q (o :: rest) a w := by
  obtain ⟨xs, hrow⟩ := hb.row n hn hm
  have hcells : ∀ j u, us[j]? = some u → w.cell? (ad.add j) = some u := by
    intro j u hj
    obtain ⟨hlt, e⟩ := List.getElem?_eq_some_iff.1 hj
    rw [hus.2 ad rfl j hlt, e]
  by_cases hr : n + m ≤ cap
  · refine wpList_append_fits w hgd s x t ho 0 e i size ht hi hsize g n cap xs hs hrow ad m c us hx hl hcells h1 hr ?_
    intro w' h1 h2
    have k := BlkN.ofRow h1
    exact h g cap w' (.inl rfl) k.1 k.1 k.2.1 k.2.2 h2
  · refine wpList_append_grows w hgd s x t ho e i z size bytes ht hi hz hsize hby hzs hsz (some ⟨g, 0, none⟩) n cap xs hs (by simp) hrow.1 ?_ ad m c us hx hl hcells h1 (by omega) h63 hbytes ?_
    · intro b hb' j u hj
      obtain rfl := Option.some.inj hb'
      exact hrow.cells (g := g) rfl j u hj
    · intro v' w' h1 h2
      rcases h1.2 with ⟨rfl, hn0⟩ | ⟨g', cap', cur, rfl, hbb, hgg, hc, hmm, hss, htt⟩
      · omega
      · exact h g' cap' w' (.inr hbb) (hb.kept h2 (by simp)) ⟨cur, hgg, hss⟩ hc hmm (grown_mono h2)

end Go.Proofs.Ytdajpnlpcdnckaa

namespace Go.Proofs.Ytdajpnlpcdnckaa
open Go.RowKit
set_option maxRecDepth 100000

/-- The letters of a text. -/
def sl (s : ByteArray) : List UInt8 := s.data.toList

theorem sl_len (s : ByteArray) : (sl s).length = s.size := by simp [sl]
theorem sl_str (xs : List UInt8) : sl ⟨xs.toArray⟩ = xs := rfl
theorem str_sl (s : ByteArray) : Value.string s = str (sl s) := by simp [sl, str]
theorem sl_drop (s : ByteArray) (k : Nat) (hk : k < s.size) : (sl s).drop k = s[k] :: (sl s).drop (k + 1) := by
  rw [List.drop_eq_getElem_cons (by rw [sl_len]; exact hk)]
  rfl

theorem ret_num {a b : Int} {x y : Bool} (h : a = b) (h' : x = y) : Ending.returned (.tuple #[.int .u64 a, .bool x]) = .returned (.tuple #[.int .u64 b, .bool y]) := by rw [h, h']

theorem sl_extract (s : ByteArray) (i k : Nat) : sl (s.extract i k) = ((sl s).drop i).take (k - i) := by
  simp [sl, ByteArray.data_extract, Array.toList_extract, List.extract]

theorem numFrom_le {most : Nat} : ∀ (v : Nat) (d : List UInt8) (n : Nat), v ≤ most → numFrom most v d = some n → n ≤ most
  | v, [], n, hv, h => by simp [numFrom] at h; omega
  | v, c :: d, n, hv, h => by
    rw [numFrom] at h
    split at h
    · split at h
      · cases h
      · exact numFrom_le _ d n (by omega) h
    · cases h

theorem numberV_le {most n : Nat} {d : List UInt8} (h : numberV most d = some n) : n ≤ most := by
  unfold numberV at h
  split at h
  · cases h
  · exact numFrom_le 0 d n (Nat.zero_le _) h

theorem sl_at (s : ByteArray) (j : Nat) (hj : j < s.size) : (sl s)[j]? = some s[j] := by
  rw [List.getElem?_eq_getElem (by rw [sl_len]; exact hj)]
  rfl
theorem take_grow (s : ByteArray) (g j : Nat) (hgj : g ≤ j) (hj : j < s.size) : ((sl s).drop g).take (j + 1 - g) = ((sl s).drop g).take (j - g) ++ [s[j]] := by
  rw [show j + 1 - g = (j - g) + 1 by omega, List.take_add_one, List.getElem?_drop, show g + (j - g) = j by omega, sl_at s j hj]
  rfl

theorem info9 : (Try.prog.info? 9).map (fun i => (i.zero, i.size, i.bytes)) = some (some (.string ⟨#[]⟩), 1, 16) := by kernel_rfl

abbrev SOwns (w : World) (base : Nat) (v : Value) (ls : List (List UInt8)) : Prop := w.ownsRow base 9 1 v ls.length (ls.map str)

end Go.Proofs.Ytdajpnlpcdnckaa
