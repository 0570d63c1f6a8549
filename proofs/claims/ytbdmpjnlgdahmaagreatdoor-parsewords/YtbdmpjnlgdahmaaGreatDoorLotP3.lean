/-
  Instructions in memory: four cells each. SameInsns of two lists that read alike answers true. CopyInsns, LendInsns, SpoilInsns, KeptInsns. The document's own Number; rows of texts. Hex, the document's and the program's: two digits a byte.
-/
import Derived.Test.YtbdmpjnlgdahmaaGreatDoorLotP2
import Derived.Laws.IdiomStrings
namespace Go.Proofs.YtbdmpjnlgdahmaaGreatDoor
open Go.RowKit
set_option maxRecDepth 100000

/-- An instruction. -/
structure In where
  code : UInt16
  jt : UInt8
  jf : UInt8
  k : UInt32

def In.cells (x : In) : List Value := [.int .u16 (x.code.toNat : Int), .int .u8 (x.jt.toNat : Int), .int .u8 (x.jf.toNat : Int), .int .u32 (x.k.toNat : Int)]

/-- The cells of a list of them. -/
def flat (xs : List In) : List Value := xs.flatMap In.cells

theorem flat_nil : flat [] = [] := rfl
theorem flat_cons (x : In) (xs : List In) : flat (x :: xs) = x.cells ++ flat xs := rfl
theorem flat_append (xs ys : List In) : flat (xs ++ ys) = flat xs ++ flat ys := by simp only [flat, List.flatMap_append]

theorem flat_len (xs : List In) : (flat xs).length = xs.length * 4 := by
  induction xs with
  | nil => rfl
  | cons x xs ih => rw [flat_cons, List.length_append, ih, List.length_cons]; simp [In.cells]; omega

theorem flat_get (xs : List In) (i j : Nat) (hi : i < xs.length) (hj : j < 4) : (flat xs)[i * 4 + j]? = (xs[i].cells)[j]? := by
  induction xs generalizing i with
  | nil => simp at hi
  | cons x xs ih =>
    rw [flat_cons]
    have hl : x.cells.length = 4 := rfl
    cases i with
    | zero => rw [List.getElem?_append_left (by omega)]; simp
    | succ i =>
      rw [List.getElem?_append_right (by omega), hl, show (i + 1) * 4 + j - 4 = i * 4 + j by omega, ih i (by simpa using hi)]
      simp

theorem flat_one (xs : List In) : ∀ u ∈ flat xs, u.oneCell' = true := by
  intro u hu
  obtain ⟨x, _, hx⟩ := List.mem_flatMap.1 hu
  simp only [In.cells, List.mem_cons, List.not_mem_nil, or_false] at hx
  rcases hx with rfl | rfl | rfl | rfl <;> rfl

theorem CV.insns {w : World} {ao : Option Addr} {xs : List In} (h : CV w ao (flat xs)) {k : Nat} (hk : k < xs.length) :
    ∃ b off, ao = some ⟨b, off, none⟩ ∧ ∀ i (hi : i < xs.length), w.cell? ⟨b, off + i * 4, none⟩ = some (.int .u16 (xs[i].code.toNat : Int)) ∧ w.cell? ⟨b, off + i * 4 + 1, none⟩ = some (.int .u8 (xs[i].jt.toNat : Int)) ∧
      w.cell? ⟨b, off + i * 4 + 2, none⟩ = some (.int .u8 (xs[i].jf.toNat : Int)) ∧ w.cell? ⟨b, off + i * 4 + 3, none⟩ = some (.int .u32 (xs[i].k.toNat : Int)) := by
  have hl := flat_len xs
  obtain ⟨b, off, hao, hc⟩ := h.addr (k := k * 4) (by omega)
  refine ⟨b, off, hao, fun i hi => ?_⟩
  have key : ∀ j (hj : j < 4), w.cell? ⟨b, off + i * 4 + j, none⟩ = (xs[i].cells)[j]? := fun j hj => by
    rw [← flat_get xs i j hi hj, Nat.add_assoc, hc (i * 4 + j) (by omega), List.getElem?_eq_getElem (by omega)]
  exact ⟨key 0 (by omega), key 1 (by omega), key 2 (by omega), key 3 (by omega)⟩

end Go.Proofs.YtbdmpjnlgdahmaaGreatDoor

namespace Go.Proofs.YtbdmpjnlgdahmaaGreatDoor
open Go.RowKit
set_option maxRecDepth 100000

end Go.Proofs.YtbdmpjnlgdahmaaGreatDoor

namespace Go.Proofs.YtbdmpjnlgdahmaaGreatDoor
open Go.RowKit
set_option maxRecDepth 100000

theorem cv_of_row {w : World} {base e size n : Nat} {v : Value} {vs : List Value} (h : w.ownsRow base e size v n vs) :
    ∃ ao cap, v = .slice ao n cap ∧ CV w ao vs ∧ n ≤ cap ∧ cap ≤ maxLen ∧ (ao = none → cap = 0) ∧ (∀ ad, ao = some ad → base ≤ ad.block ∧ ad.block < w.heap.size) ∧ v.ownBlock = ao.map (·.block) := by
  have hl := h.lt
  have h0 := h.1
  rcases h.2 with ⟨rfl, hn⟩ | ⟨g, cap, cur, rfl, hb, hg, hc, hm, hs, ht⟩
  · subst hn
    refine ⟨none, 0, rfl, ⟨fun _ => List.eq_nil_of_length_eq_zero (by simpa using h0), fun ad had => (by cases had)⟩, by omega, Nat.zero_le _, fun _ => rfl, fun ad had => (by cases had), rfl⟩
  · refine ⟨some ⟨g, 0, none⟩, cap, rfl, ⟨fun h => (by cases h), fun ad had i hi => ?_⟩, hc, hm, fun h => (by cases h), fun ad had => ?_, rfl⟩
    · obtain rfl := Option.some.inj had
      exact h.cells (g := g) rfl i _ (by simp [hi])
    · obtain rfl := Option.some.inj had
      exact hl g rfl

theorem owns_head {w : World} {base e size n : Nat} {v : Value} {vs : List Value} (h : w.ownsRow base e size v n vs) (hn : 0 < n) :
    ∃ g cap, v = .slice (some ⟨g, 0, none⟩) n cap ∧ n ≤ cap ∧ cap ≤ maxLen ∧ base ≤ g ∧ g < w.heap.size := by
  have hl := h.lt
  rcases h.2 with ⟨rfl, hn⟩ | ⟨g, cap, cur, rfl, hb, hg, hc, hm, hs, ht⟩
  · omega
  · exact ⟨g, cap, rfl, hc, hm, (hl g rfl).1, (hl g rfl).2⟩

/-- 'append(dst, src...)': dst the call's own, src whatever is read: nil, empty or not: elements of several cells. -/
theorem wpList_append_cv {P : Program} {w : World} {ops : Array Oper} {rest : List Oper} {o : Oper} {a : Act} {Q : Exit → Act → World → Prop} (hgd : o.guard = none) (s x : Operand) (t : TypeId)
    (ho : o.op = .call { callee := .builtin .append, args := #[s, x], argTypes := #[t, t] })
    (e : TypeId) (i : TypeInfo) (z : Value) (size bytes : Nat) (ht : P.underlying t = some (.slice e)) (hi : P.info? e = some i) (hz : i.zero = some z) (hsize : i.size = size) (hby : i.bytes = bytes) (hzs : z.cells.size = size) (hsz : 0 < size)
    (base : Nat) (v : Value) (n : Nat) (vs : List Value) (hs : a.eval s = v) (hown : w.ownsRow base e size v n vs)
    (ao : Option Addr) (m c : Nat) (us : List Value) (hx : a.eval x = .slice ao m c) (hl : us.length = m * size) (hc0 : ao = none → c = 0) (hus : CV w ao us) (h1 : ∀ u ∈ us, u.oneCell' = true)
    (h63 : n + m ≤ maxLen) (hbytes : (n + m) * bytes ≤ 140737488355328) (hbase : base ≤ w.heap.size)
    (h : ∀ v' w', w'.ownsRow base e size v' (n + m) (vs ++ us) → w.grownBy w' v.ownBlock → wpList P ops Q rest (a.put o.dst v') w') : wpList P ops Q (o :: rest) a w := by
  cases ao with
  | none =>
    have e0 := hus.1 rfl
    subst e0
    have e1 := hc0 rfl
    subst e1
    have e2 : m = 0 := by
      rcases Nat.mul_eq_zero.1 hl.symm with h | h
      · exact h
      · omega
    subst e2
    refine wpList_append_own_none hgd s x t ho base e i size ht hi v n vs hs hown hx (h v w (by simpa using hown) (World.grownBy.refl _ _))
  | some ad =>
    refine wpList_append_own w hgd s x t ho base e i z size bytes ht hi hz hsize hby hzs hsz v n vs hs hown ad m c us hx hl ?_ h1 h63 hbytes hbase fun v' w' h1 h2 _ => h v' w' h1 h2
    intro j u hj
    obtain ⟨hlt, e⟩ := List.getElem?_eq_some_iff.1 hj
    rw [hus.2 ad rfl j hlt, e]

/-- The same behind a guard that says yes ('.. && f(append(x, y...))'). -/
theorem wpList_append_cvg {P : Program} {w : World} {ops : Array Oper} {rest : List Oper} {o : Oper} {a : Act} {Q : Exit → Act → World → Prop} (hw : Region.wanted o (yielded ops a.tmps) = true) (s x : Operand) (t : TypeId)
    (ho : o.op = .call { callee := .builtin .append, args := #[s, x], argTypes := #[t, t] })
    (e : TypeId) (i : TypeInfo) (z : Value) (size bytes : Nat) (ht : P.underlying t = some (.slice e)) (hi : P.info? e = some i) (hz : i.zero = some z) (hsize : i.size = size) (hby : i.bytes = bytes) (hzs : z.cells.size = size) (hsz : 0 < size)
    (base : Nat) (v : Value) (n : Nat) (vs : List Value) (hs : a.eval s = v) (hown : w.ownsRow base e size v n vs)
    (ao : Option Addr) (m c : Nat) (us : List Value) (hx : a.eval x = .slice ao m c) (hl : us.length = m * size) (hc0 : ao = none → c = 0) (hus : CV w ao us) (h1 : ∀ u ∈ us, u.oneCell' = true)
    (h63 : n + m ≤ maxLen) (hbytes : (n + m) * bytes ≤ 140737488355328) (hbase : base ≤ w.heap.size)
    (h : ∀ v' w', w'.ownsRow base e size v' (n + m) (vs ++ us) → w.grownBy w' v.ownBlock → wpList P ops Q rest (a.put o.dst v') w') : wpList P ops Q (o :: rest) a w := by
  cases ao with
  | none =>
    have e0 := hus.1 rfl
    subst e0
    have e1 := hc0 rfl
    subst e1
    have e2 : m = 0 := by
      rcases Nat.mul_eq_zero.1 hl.symm with h | h
      · exact h
      · omega
    subst e2
    refine BigFrame.wpList_want hw fun K hK => ?_
    have hrun := run_append_owned_none (P := P) (w := w) base t o.type e i size ht hi v n vs hown
    unfold Oper.wp
    simp [execOp, ho, resolve, invoke, builtin, hs, hx, hrun, Result.andThen]
    exact hK _ _ (h v w (by simpa using hown) (World.grownBy.refl _ _))
  | some ad =>
    refine BigFrame.wpList_want hw fun K hK => wp_append_own w s x t ho base e i z size bytes ht hi hz hsize hby hzs hsz v n vs hs hown ad m c us hx hl ?_ h1 h63 hbytes hbase fun v' w' h1 h2 _ => hK _ _ (h v' w' h1 h2)
    intro j u hj
    obtain ⟨hlt, e⟩ := List.getElem?_eq_some_iff.1 hj
    rw [hus.2 ad rfl j hlt, e]

/-- The mark. -/
def mark : In := ⟨7, 0, 0, 77⟩

theorem marks3 : flat [mark, mark, mark] = [.int .u16 7, .int .u8 0, .int .u8 0, .int .u32 77, .int .u16 7, .int .u8 0, .int .u8 0, .int .u32 77, .int .u16 7, .int .u8 0, .int .u8 0, .int .u32 77] := by simp [flat, In.cells, mark]
theorem marks1 : flat [mark] = [.int .u16 7, .int .u8 0, .int .u8 0, .int .u32 77] := by simp [flat, In.cells, mark]

/-- A block of cells that may be written. -/
def BlkN (w : World) (e : TypeId) (g n : Nat) : Prop := ∃ cur : Array Value, w.heap[g]? = some (.cells cur e (0, 0)) ∧ cur.size = n

theorem BlkN.cell {w : World} {e : TypeId} {g n : Nat} (h : BlkN w e g n) {i : Nat} (hi : i < n) : ∃ u, w.cell? ⟨g, i, none⟩ = some u := by
  obtain ⟨cur, hh, hs⟩ := h
  refine ⟨cur[i], ?_⟩
  rw [cell_of_row w g i cur _ _ hh]
  simp

theorem BlkN.free {w : World} {e : TypeId} {g n : Nat} (h : BlkN w e g n) (i : Nat) : w.frozen? ⟨g, i, none⟩ = false := by
  obtain ⟨cur, hh, hs⟩ := h
  simp [World.frozen?, hh]

theorem BlkN.lt {w : World} {e : TypeId} {g n : Nat} (h : BlkN w e g n) : g < w.heap.size := by
  obtain ⟨cur, hh, hs⟩ := h
  exact (Array.getElem?_eq_some_iff.1 hh).1

theorem BlkN.setCell {w : World} {e : TypeId} {g n : Nat} (h : BlkN w e g n) (a : Addr) (u : Value) : BlkN (w.setCell a u) e g n := by
  obtain ⟨cur, hh, hs⟩ := h
  by_cases e : g = a.block
  · subst e
    by_cases hsp : a.spot.isSome = true
    · refine ⟨cur, ?_, hs⟩
      simp only [World.setCell, Array.getElem?_modify, hh]
      simp [hsp]
    · refine ⟨cur.setIfInBounds a.off u, ?_, by simpa using hs⟩
      simp only [World.setCell, Array.getElem?_modify, hh]
      simp [hsp]
  · exact ⟨cur, by rw [Below.heap_setCell _ _ _ _ e]; exact hh, hs⟩

theorem BlkN.kept {w w' : World} {e : TypeId} {g n : Nat} {row : Option Nat} (h : BlkN w e g n) (hg : w.grownBy w' row) (hne : some g ≠ row) : BlkN w' e g n := by
  have hl := h.lt
  obtain ⟨cur, hh, hs⟩ := h
  exact ⟨cur, by rw [hg.block g hl hne]; exact hh, hs⟩

theorem BlkN.ofRow {w : World} {base e size g n cap : Nat} {xs : List Value} (h : w.ownsRow base e size (.slice (some ⟨g, 0, none⟩) n cap) n xs) : BlkN w e g (cap * size) ∧ n ≤ cap ∧ cap ≤ maxLen := by
  rcases h.2 with ⟨h, _⟩ | ⟨g', cap', cur, hv, hb, hg, hc, hm, hs, ht⟩
  · cases h
  · simp only [Value.slice.injEq, Option.some.injEq, Addr.mk.injEq] at hv
    obtain ⟨⟨rfl, _⟩, _, rfl⟩ := hv
    exact ⟨⟨cur, hg, hs⟩, hc, hm⟩

theorem BlkN.row {w : World} {e size g cap : Nat} (h : BlkN w e g (cap * size)) (n : Nat) (hn : n ≤ cap) (hm : cap ≤ maxLen) : ∃ xs : List Value, w.ownsRow 0 e size (.slice (some ⟨g, 0, none⟩) n cap) n xs := by
  obtain ⟨cur, hh, hs⟩ := h
  have hle : n * size ≤ cap * size := Nat.mul_le_mul_right _ hn
  exact ⟨cur.toList.take (n * size), by rw [List.length_take, Array.length_toList, hs]; omega, .inr ⟨g, cap, cur, rfl, Nat.zero_le _, hh, hn, hm, hs, rfl⟩⟩

/-- 'append(x, ..)', x at its block's head: it stays there, or lies in a new block. -/
theorem wpList_append_blkN {P : Program} {w : World} {ops : Array Oper} {rest : List Oper} {o : Oper} {a : Act} {Q : Exit → Act → World → Prop} (hgd : o.guard = none) (s x : Operand) (t : TypeId)
    (ho : o.op = .call { callee := .builtin .append, args := #[s, x], argTypes := #[t, t] })
    (e : TypeId) (i : TypeInfo) (z : Value) (size bytes : Nat) (ht : P.underlying t = some (.slice e)) (hi : P.info? e = some i) (hz : i.zero = some z) (hsize : i.size = size) (hby : i.bytes = bytes) (hzs : z.cells.size = size) (hsz : 0 < size)
    (g n cap : Nat) (hs : a.eval s = .slice (some ⟨g, 0, none⟩) n cap) (hb : BlkN w e g (cap * size)) (hn : n ≤ cap) (hm : cap ≤ maxLen)
    (ad : Addr) (m c : Nat) (us : List Value) (hx : a.eval x = .slice (some ad) m c) (hl : us.length = m * size) (hus : CV w (some ad) us) (h1 : ∀ u ∈ us, u.oneCell' = true)
    (h63 : n + m ≤ maxLen) (hbytes : (n + m) * bytes ≤ 140737488355328)
    (h : ∀ g' cap' w', (g' = g ∨ w.heap.size ≤ g') → BlkN w' e g (cap * size) → BlkN w' e g' (cap' * size) → n + m ≤ cap' → cap' ≤ maxLen → w.grownBy w' (some g) → wpList P ops Q rest (a.put o.dst (.slice (some ⟨g', 0, none⟩) (n + m) cap')) w') : wpList P ops Q (o :: rest) a w := by
  obtain ⟨xs, hrow⟩ := hb.row n hn hm
  have hcells : ∀ j u, us[j]? = some u → w.cell? (ad.add j) = some u := by
    intro j u hj
    obtain ⟨hlt, e⟩ := List.getElem?_eq_some_iff.1 hj
    rw [hus.2 ad rfl j hlt, e]
  by_cases hr : n + m ≤ cap
  · refine wpList_append_fits w hgd s x t ho 0 e i size ht hi hsize g n cap xs hs hrow ad m c us hx hl hcells h1 hr ?_
    intro w' h1 h2
    have k := BlkN.ofRow h1
    exact h g cap w' (.inl rfl) k.1 k.1 k.2.1 k.2.2 h2
  · refine wpList_append_grows w hgd s x t ho e i z size bytes ht hi hz hsize hby hzs hsz (some ⟨g, 0, none⟩) n cap xs hs (by simp) hrow.1 ?_ ad m c us hx hl hcells h1 (by omega) h63 hbytes ?_
    · intro b hb' j u hj
      obtain rfl := Option.some.inj hb'
      exact hrow.cells (g := g) rfl j u hj
    · intro v' w' h1 h2
      rcases h1.2 with ⟨rfl, hn0⟩ | ⟨g', cap', cur, rfl, hbb, hgg, hc, hmm, hss, htt⟩
      · omega
      · exact h g' cap' w' (.inr hbb) (hb.kept h2 (by simp)) ⟨cur, hgg, hss⟩ hc hmm (grown_mono h2)

end Go.Proofs.YtbdmpjnlgdahmaaGreatDoor

namespace Go.Proofs.YtbdmpjnlgdahmaaGreatDoor
open Go.RowKit
set_option maxRecDepth 100000

/-- The letters of a text. -/
def sl (s : ByteArray) : List UInt8 := s.data.toList

theorem sl_len (s : ByteArray) : (sl s).length = s.size := by simp [sl]
theorem sl_str (xs : List UInt8) : sl ⟨xs.toArray⟩ = xs := rfl
theorem str_sl (s : ByteArray) : Value.string s = str (sl s) := by simp [sl, str]
theorem sl_drop (s : ByteArray) (k : Nat) (hk : k < s.size) : (sl s).drop k = s[k] :: (sl s).drop (k + 1) := by
  rw [List.drop_eq_getElem_cons (by rw [sl_len]; exact hk)]
  rfl

theorem ret_num {a b : Int} {x y : Bool} (h : a = b) (h' : x = y) : Ending.returned (.tuple #[.int .u64 a, .bool x]) = .returned (.tuple #[.int .u64 b, .bool y]) := by rw [h, h']

set_option maxHeartbeats 1000000 in
theorem refnumber_any (s : ByteArray) (most : Nat) (w : World) (hs : s.size ≤ 9223372036854775807) (hm : most ≤ 1000000000000000000) :
    Calls Tryz.prog 84 #[.string s, .int .u64 most] w fun e w' => e = .returned (.tuple #[.int .u64 (((numberV most (sl s)).getD 0 : Nat) : Int), .bool (numberV most (sl s)).isSome]) ∧ w = w' := by
  by_cases h0 : s.size = 0
  · have e : numberV most (sl s) = none := by
      have : sl s = [] := List.eq_nil_of_length_eq_zero (by rw [sl_len]; exact h0)
      simp [numberV, this]
    rw [e]
    go_enter Tryz.func84, Tryz.ntmps84
    go_wp2
    all_goals (go_ret2; exact ⟨rfl, rfl⟩)
  · obtain ⟨b, r, hbr⟩ : ∃ b r, sl s = b :: r := by
      cases h : sl s with
      | nil => have := sl_len s; rw [h] at this; simp at this; omega
      | cons b r => exact ⟨b, r, rfl⟩
    have hb0 : s[0]'(by omega) = b := by
      have := sl_drop s 0 (by omega)
      rw [hbr] at this
      simpa using this.symm
    have hnb : (s.size == 0) = false := by simp [h0]
    by_cases hlead : 1 < s.size ∧ b = 48
    · have e : numberV most (sl s) = none := by
        rw [numberV, if_pos]
        rw [hbr]
        right
        have := sl_len s
        rw [hbr] at this
        exact ⟨by omega, by rw [hlead.2]; rfl⟩
      rw [e]
      obtain ⟨h1, rfl⟩ := hlead
      have h1' : (1 : Int) < (s.size : Int) := by omega
      go_enter Tryz.func84, Tryz.ntmps84
      go_wp2
      all_goals (go_ret2; exact ⟨rfl, rfl⟩)
    · have e : numberV most (sl s) = numFrom most 0 (sl s) := by
        rw [numberV, if_neg]
        rw [hbr]
        have := sl_len s
        rw [hbr] at this
        simp only [reduceCtorEq, List.head?_cons, Option.some.injEq, false_or]
        intro ⟨x, y⟩
        exact hlead ⟨by omega, y⟩
      rw [e]
      have HE : Hid (numFrom most 0 (sl s) = numFrom most 0 (sl s)) := rfl
      generalize hans : numFrom most 0 (sl s) = ans at *
      have HA : Hid (numFrom most 0 (sl s) = ans) := hans
      clear e hans HE
      have hz : ((s.size : Int) == 0) = false := by rw [beq_eq_false_iff_ne]; omega
      have hcase : (¬ (1 : Int) < (s.size : Int)) ∨ ((1 : Int) < (s.size : Int) ∧ ((b.toNat : Int) == 48) = false) := by
        by_cases h1 : 1 < s.size
        · refine .inr ⟨by omega, ?_⟩
          rw [beq_eq_false_iff_ne]
          intro hb
          refine hlead ⟨h1, UInt8.toNat_inj.1 ?_⟩
          simp
          omega
        · exact .inl (by omega)
      clear hlead hbr
      rcases hcase with hca | ⟨hca, hcb⟩
      all_goals
        go_enter Tryz.func84, Tryz.ntmps84
        go_wp2
        try clear hcb
        clear hca hb0 hz hnb
        go_loop [6, 7] (fun x i => ∃ k v : Nat, k ≤ s.size ∧ v ≤ most ∧ i = .int .i64 k ∧ x = .int .u64 v ∧ numFrom most v ((sl s).drop k) = ans) (fun _ i => s.size - (intOf i).toNat)
        case atStart => exact ⟨0, 0, Nat.zero_le _, Nat.zero_le _, rfl, rfl, HA.out⟩
        case round =>
          obtain ⟨k, v, hk, hv, rfl, rfl, hi⟩ := hrel
          have HI : Hid (numFrom most v ((sl s).drop k) = ans) := hi
          clear hi
          by_cases hlt : k < s.size
          · have hki : (k : Int) < (s.size : Int) := by omega
            have HD := sl_drop s k hlt
            have HS : Hid ((sl s).drop k = s[k] :: (sl s).drop (k + 1)) := HD
            clear HD
            have hb := s[k].toNat_lt
            by_cases hd : isDig s[k] = true
            · have hd1 : 48 ≤ s[k].toNat := by simp [isDig] at hd; omega
              have hd2 : s[k].toNat ≤ 57 := by simp [isDig] at hd; omega
              by_cases hbig : most < 10 * v + (s[k].toNat - 48)
              · have hans : ans = none := by rw [← HI.out, HS.out, numFrom]; simp [hd, hbig]
                rw [hans]
                go_wp2
                go_ret2
                exact ⟨rfl, rfl⟩
              · have hnext : numFrom most (10 * v + (s[k].toNat - 48)) ((sl s).drop (k + 1)) = ans := by rw [← HI.out, HS.out, numFrom]; simp [hd, hbig]
                have HN : Hid (numFrom most (10 * v + (s[k].toNat - 48)) ((sl s).drop (k + 1)) = ans) := hnext
                clear hnext
                go_wp2
                go_round
                case rel => exact ⟨k + 1, 10 * v + (s[k].toNat - 48), by omega, by omega, by go_num, by rw [show ((10 * v + (s[k].toNat - 48) : Nat) : Int) = 10 * (v : Int) + ((s[k].toNat : Int) - 48) by omega], HN.out⟩
                case measure => simp [intOf]; omega
            · have hans : ans = none := by rw [← HI.out, HS.out, numFrom]; simp [hd]
              have hd' : s[k].toNat < 48 ∨ 57 < s[k].toNat := by simp [isDig] at hd; omega
              rw [hans]
              rcases hd' with hd' | hd'
              all_goals
                go_wp2
                all_goals (first | (exfalso; omega) | (go_ret2; exact ⟨rfl, rfl⟩))
          · obtain rfl : k = s.size := by omega
            have hans : ans = some v := by
              rw [← HI.out, List.drop_eq_nil_of_le (by rw [sl_len]; omega)]; rfl
            rw [hans]
            go_wp2
            go_ret2
            exact ⟨rfl, rfl⟩

theorem sl_extract (s : ByteArray) (i k : Nat) : sl (s.extract i k) = ((sl s).drop i).take (k - i) := by
  simp [sl, ByteArray.data_extract, Array.toList_extract, List.extract]

theorem numFrom_le {most : Nat} : ∀ (v : Nat) (d : List UInt8) (n : Nat), v ≤ most → numFrom most v d = some n → n ≤ most
  | v, [], n, hv, h => by simp [numFrom] at h; omega
  | v, c :: d, n, hv, h => by
    rw [numFrom] at h
    split at h
    · split at h
      · cases h
      · exact numFrom_le _ d n (by omega) h
    · cases h

theorem numberV_le {most n : Nat} {d : List UInt8} (h : numberV most d = some n) : n ≤ most := by
  unfold numberV at h
  split at h
  · cases h
  · exact numFrom_le 0 d n (Nat.zero_le _) h

theorem sl_at (s : ByteArray) (j : Nat) (hj : j < s.size) : (sl s)[j]? = some s[j] := by
  rw [List.getElem?_eq_getElem (by rw [sl_len]; exact hj)]
  rfl
theorem take_grow (s : ByteArray) (g j : Nat) (hgj : g ≤ j) (hj : j < s.size) : ((sl s).drop g).take (j + 1 - g) = ((sl s).drop g).take (j - g) ++ [s[j]] := by
  rw [show j + 1 - g = (j - g) + 1 by omega, List.take_add_one, List.getElem?_drop, show g + (j - g) = j by omega, sl_at s j hj]
  rfl

theorem info9 : (Tryz.prog.info? 9).map (fun i => (i.zero, i.size, i.bytes)) = some (some (.string ⟨#[]⟩), 1, 16) := by kernel_rfl

abbrev SOwns (w : World) (base : Nat) (v : Value) (ls : List (List UInt8)) : Prop := w.ownsRow base 9 1 v ls.length (ls.map str)

end Go.Proofs.YtbdmpjnlgdahmaaGreatDoor

namespace Go.Proofs.YtbdmpjnlgdahmaaGreatDoor
open Go.RowKit
set_option maxRecDepth 100000

/-- A digit of base 16. -/
def hexD (n : Nat) : UInt8 := if n < 10 then UInt8.ofNat (48 + n) else UInt8.ofNat (87 + n)

/-- What Hex says. -/
def hexS (xs : List UInt8) : List UInt8 := xs.flatMap fun c => [hexD (c.toNat / 16), hexD (c.toNat % 16)]

theorem hexS_succ (xs : List UInt8) (k : Nat) (hk : k < xs.length) : hexS (xs.take (k + 1)) = hexS (xs.take k) ++ [hexD (xs[k].toNat / 16), hexD (xs[k].toNat % 16)] := by
  rw [List.take_succ_eq_append_getElem hk]; simp only [hexS, List.flatMap_append, List.flatMap_cons, List.flatMap_nil, List.append_nil]

theorem hexS_len (xs : List UInt8) : (hexS xs).length = 2 * xs.length := by
  induction xs with
  | nil => rfl
  | cons x xs ih => simp only [hexS, List.flatMap_cons, List.length_append, List.length_cons, List.length_nil] at *; omega

/-- 'string(b)', b the call's own. -/
theorem run_str {P : Program} {w : World} {base : Nat} {v : Value} {ys : List UInt8} (h : Owns w base v ys) (src dst : TypeId) (hs : P.underlying src = some (.slice 5)) (he : P.underlying 5 = some (.int .u8)) (hd : P.underlying dst = some .string) :
    (convert src dst v).run P w = .ok (.string ⟨ys.toArray⟩) w := by
  obtain ⟨ao, cap, rfl, hc, _⟩ := h.shape
  cases ao with
  | none =>
    have e := hc.1 rfl
    subst e
    show (convert src dst (.slice none 0 cap)).run P w = _
    rw [run_convert_bytes_string w src dst 5 none 0 cap hs he hd]
    simp [Conv.bytesToString]
    rfl
  | some ad => exact run_convert_bytes_back w src dst 5 ad cap ys hs he hd (fun j hj => hc.2 ad rfl j hj)

/-- The sixteen digits. -/
def hexT : ByteArray := ⟨#[48, 49, 50, 51, 52, 53, 54, 55, 56, 57, 97, 98, 99, 100, 101, 102]⟩

theorem hexT_at (i : Nat) (h : i < hexT.size) : hexT[i] = hexD i := by
  have h' : i < 16 := h
  have key : ∀ j : Fin 16, hexT[j.val]'(j.isLt) = hexD j.val := by decide +kernel
  exact key ⟨i, h'⟩

set_option maxHeartbeats 1000000 in
theorem refhex_any (a : Option Addr) (ca : Nat) (xs : List UInt8) (w : World) (ha : Cells w a xs) (hn : xs.length ≤ 70368744177664) :
    Calls Tryz.prog 126 #[.slice a xs.length ca] w fun e w' => e = .returned (.string ⟨(hexS xs).toArray⟩) ∧ w.grownBy w' none := by
  obtain ⟨i0, hi, hz0, hz1, hz2⟩ := info_parts info5
  have H : Hid (Cells w a xs) := ha
  clear ha
  go_enter Tryz.func126, Tryz.ntmps126
  go_wp2
  go_loopw [3, 4] (fun v i wr => ∃ k : Nat, k ≤ xs.length ∧ i = .int .i64 k ∧ Owns wr w.heap.size v (hexS (xs.take k)) ∧ w.grownBy wr none) (fun _ i _ => xs.length - (intOf i).toNat)
  case atStart => exact ⟨0, Nat.zero_le _, rfl, World.ownsRow_nil _ _ _ _, World.grownBy.refl _ _⟩
  case round =>
    obtain ⟨k, hk, rfl, O, G⟩ := hrel
    by_cases hlt : k < xs.length
    · obtain ⟨b, o, rfl, hc⟩ := H.out.addr hlt
      have c0 := hc k hlt
      have c1 : wr.cell? ⟨b, o + k, none⟩ = some (.int .u8 (xs[k].toNat : Int)) := G.cell c0 (by simp)
      have hx := xs[k].toNat_lt
      have HJ : Hid (hexS (xs.take (k + 1)) = hexS (xs.take k) ++ [hexD (xs[k].toNat / 16), hexD (xs[k].toNat % 16)]) := hexS_succ xs k hlt
      generalize xs[k].toNat = c at *
      have d1 : (0 : Int) ≤ (c : Int) / 16 := by omega
      have d2 : (c : Int) / 16 < 16 := by omega
      have d3 : bits .and .u8 (c : Int) 15 = (c : Int) % 16 := u8_and15 (c : Int) (by omega) (by omega)
      have d4 : (0 : Int) ≤ (c : Int) % 16 := by omega
      have d5 : (c : Int) % 16 < 16 := by omega
      have e1 : (⟨#[48, 49, 50, 51, 52, 53, 54, 55, 56, 57, 97, 98, 99, 100, 101, 102]⟩ : ByteArray)[((c : Int) / 16).toNat]'(by show _ < 16; omega) = hexD (c / 16) := hexT_at _ _
      have e2 : (⟨#[48, 49, 50, 51, 52, 53, 54, 55, 56, 57, 97, 98, 99, 100, 101, 102]⟩ : ByteArray)[((c : Int) % 16).toNat]'(by show _ < 16; omega) = hexD (c % 16) := hexT_at _ _
      have hlen : (hexS (xs.take k)).length + 2 ≤ 140737488355328 := by rw [hexS_len, List.length_take]; omega
      have hl : (k : Int) < (xs.length : Int) := by omega
      clear hc c0
      go_wp2
      go_region_law (refine step_append_rd rfl (.tmp 11) (.tmp 24) 126 rfl i0 Tryz.underlying126 hi hz0 hz1 hz2 w.heap.size u3 (hexS (xs.take k)) (by simp [Act.eval]) (by first | exact (O.alloc _).drew | exact O.drew.alloc _) ⟨wr.heap.size, 0, none⟩ 2 [hexD (c / 16), hexD (c % 16)] (by simp [Act.eval]) (by exact cells_lit wr [hexD (c / 16), hexD (c % 16)]) (by simpa using hlen) (by have := G.size; simp; omega) ?_; intro v' w' h1 h2)
      all_goals
        rename_i v' w' h1 h2
        have G' : w.grownBy w' none := grown_trans_new G (grown_trans (grown_alloc_drew wr _ _) h2) (fun x hx => (O.lt x hx).1)
        rw [← HJ.out] at h1
        clear h2 G O
        go_wp2
        go_roundw
        case rel => exact ⟨k + 1, by omega, by go_num, h1, G'⟩
        case measure => simp [intOf]; omega
    · obtain rfl : k = xs.length := by omega
      rw [List.take_length] at O
      have hcv := run_str (P := Tryz.prog) O 126 9 Tryz.underlying126 Tryz.underlying5 Tryz.underlying9
      go_wp2
      go_ret
      exact ⟨rfl, G⟩

end Go.Proofs.YtbdmpjnlgdahmaaGreatDoor
