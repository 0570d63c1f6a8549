/-
  CopyInsns, LendInsns, SpoilInsns, KeptInsns. The document's own Check. The document's own Check, walked. Lists of bools: SameBools, SpoilBools.
-/
import Derived.Test.YtencoknpocipbaaLotP2
import Derived.Handy
namespace Go.Proofs.Ytencoknpocipbaa
open Go.RowKit
set_option maxRecDepth 100000

theorem info46 : (Try.prog.info? 46).map (fun i => (i.zero, i.size, i.bytes)) = some (some (.agg #[.int .u16 0, .int .u8 0, .int .u8 0, .int .u32 0]), 4, 8) := by kernel_rfl

/-- An owned row of instructions. -/
abbrev IOwns (w : World) (base : Nat) (v : Value) (xs : List In) : Prop := w.ownsRow base 46 4 v xs.length (flat xs)

theorem cv_of_row {w : World} {base e size n : Nat} {v : Value} {vs : List Value} (h : w.ownsRow base e size v n vs) :
    ∃ ao cap, v = .slice ao n cap ∧ CV w ao vs ∧ n ≤ cap ∧ cap ≤ maxLen ∧ (ao = none → cap = 0) ∧ (∀ ad, ao = some ad → base ≤ ad.block ∧ ad.block < w.heap.size) ∧ v.ownBlock = ao.map (·.block) := by
  have hl := h.lt
  have h0 := h.1
  rcases h.2 with ⟨rfl, hn⟩ | ⟨g, cap, cur, rfl, hb, hg, hc, hm, hs, ht⟩
  · subst hn
    refine ⟨none, 0, rfl, ⟨fun _ => List.eq_nil_of_length_eq_zero (by simpa using h0), fun ad had => (by cases had)⟩, by omega, Nat.zero_le _, fun _ => rfl, fun ad had => (by cases had), rfl⟩
  · refine ⟨some ⟨g, 0, none⟩, cap, rfl, ⟨fun h => (by cases h), fun ad had i hi => ?_⟩, hc, hm, fun h => (by cases h), fun ad had => ?_, rfl⟩
    · obtain rfl := Option.some.inj had
      exact h.cells (g := g) rfl i _ (by simp [hi])
    · obtain rfl := Option.some.inj had
      exact hl g rfl

theorem owns_head {w : World} {base e size n : Nat} {v : Value} {vs : List Value} (h : w.ownsRow base e size v n vs) (hn : 0 < n) :
    ∃ g cap, v = .slice (some ⟨g, 0, none⟩) n cap ∧ n ≤ cap ∧ cap ≤ maxLen ∧ base ≤ g ∧ g < w.heap.size := by
  have hl := h.lt
  rcases h.2 with ⟨rfl, hn⟩ | ⟨g, cap, cur, rfl, hb, hg, hc, hm, hs, ht⟩
  · omega
  · exact ⟨g, cap, rfl, hc, hm, (hl g rfl).1, (hl g rfl).2⟩

/-- 'append(dst, src...)': dst the call's own, src whatever is read: nil, empty or not: elements of several cells. -/
theorem wpList_append_cv {P : Program} {w : World} {ops : Array Oper} {rest : List Oper} {o : Oper} {a : Act} {Q : Exit → Act → World → Prop} (hgd : o.guard = none) (s x : Operand) (t : TypeId)
    (ho : o.op = .call { callee := .builtin .append, args := #[s, x], argTypes := #[t, t] })
    (e : TypeId) (i : TypeInfo) (z : Value) (size bytes : Nat) (ht : P.underlying t = some (.slice e)) (hi : P.info? e = some i) (hz : i.zero = some z) (hsize : i.size = size) (hby : i.bytes = bytes) (hzs : z.cells.size = size) (hsz : 0 < size)
    (base : Nat) (v : Value) (n : Nat) (vs : List Value) (hs : a.eval s = v) (hown : w.ownsRow base e size v n vs)
    (ao : Option Addr) (m c : Nat) (us : List Value) (hx : a.eval x = .slice ao m c) (hl : us.length = m * size) (hc0 : ao = none → c = 0) (hus : CV w ao us) (h1 : ∀ u ∈ us, u.oneCell' = true)
    (h63 : n + m ≤ maxLen) (hbytes : (n + m) * bytes ≤ 140737488355328) (hbase : base ≤ w.heap.size)
    (h : ∀ v' w', w'.ownsRow base e size v' (n + m) (vs ++ us) → w.grownBy w' v.ownBlock → wpList P ops Q rest (a.put o.dst v') w') : wpList P ops Q (o :: rest) a w := by
  cases ao with
  | none =>
    have e0 := hus.1 rfl
    subst e0
    have e1 := hc0 rfl
    subst e1
    have e2 : m = 0 := by
      rcases Nat.mul_eq_zero.1 hl.symm with h | h
      · exact h
      · omega
    subst e2
    refine wpList_append_own_none hgd s x t ho base e i size ht hi v n vs hs hown hx (h v w (by simpa using hown) (World.grownBy.refl _ _))
  | some ad =>
    refine wpList_append_own w hgd s x t ho base e i z size bytes ht hi hz hsize hby hzs hsz v n vs hs hown ad m c us hx hl ?_ h1 h63 hbytes hbase fun v' w' h1 h2 _ => h v' w' h1 h2
    intro j u hj
    obtain ⟨hlt, e⟩ := List.getElem?_eq_some_iff.1 hj
    rw [hus.2 ad rfl j hlt, e]

/-- The same behind a guard that says yes ('.. && f(append(x, y...))'). -/
theorem wpList_append_cvg {P : Program} {w : World} {ops : Array Oper} {rest : List Oper} {o : Oper} {a : Act} {Q : Exit → Act → World → Prop} (hw : Region.wanted o (yielded ops a.tmps) = true) (s x : Operand) (t : TypeId)
    (ho : o.op = .call { callee := .builtin .append, args := #[s, x], argTypes := #[t, t] })
    (e : TypeId) (i : TypeInfo) (z : Value) (size bytes : Nat) (ht : P.underlying t = some (.slice e)) (hi : P.info? e = some i) (hz : i.zero = some z) (hsize : i.size = size) (hby : i.bytes = bytes) (hzs : z.cells.size = size) (hsz : 0 < size)
    (base : Nat) (v : Value) (n : Nat) (vs : List Value) (hs : a.eval s = v) (hown : w.ownsRow base e size v n vs)
    (ao : Option Addr) (m c : Nat) (us : List Value) (hx : a.eval x = .slice ao m c) (hl : us.length = m * size) (hc0 : ao = none → c = 0) (hus : CV w ao us) (h1 : ∀ u ∈ us, u.oneCell' = true)
    (h63 : n + m ≤ maxLen) (hbytes : (n + m) * bytes ≤ 140737488355328) (hbase : base ≤ w.heap.size)
    (h : ∀ v' w', w'.ownsRow base e size v' (n + m) (vs ++ us) → w.grownBy w' v.ownBlock → wpList P ops Q rest (a.put o.dst v') w') : wpList P ops Q (o :: rest) a w := by
  cases ao with
  | none =>
    have e0 := hus.1 rfl
    subst e0
    have e1 := hc0 rfl
    subst e1
    have e2 : m = 0 := by
      rcases Nat.mul_eq_zero.1 hl.symm with h | h
      · exact h
      · omega
    subst e2
    refine BigFrame.wpList_want hw fun K hK => ?_
    have hrun := run_append_owned_none (P := P) (w := w) base t o.type e i size ht hi v n vs hown
    unfold Oper.wp
    simp [execOp, ho, resolve, invoke, builtin, hs, hx, hrun, Result.andThen]
    exact hK _ _ (h v w (by simpa using hown) (World.grownBy.refl _ _))
  | some ad =>
    refine BigFrame.wpList_want hw fun K hK => wp_append_own w s x t ho base e i z size bytes ht hi hz hsize hby hzs hsz v n vs hs hown ad m c us hx hl ?_ h1 h63 hbytes hbase fun v' w' h1 h2 _ => hK _ _ (h v' w' h1 h2)
    intro j u hj
    obtain ⟨hlt, e⟩ := List.getElem?_eq_some_iff.1 hj
    rw [hus.2 ad rfl j hlt, e]

set_option maxRecDepth 100000 in
set_option maxHeartbeats 400000 in
theorem icopy_any (a : Option Addr) (ca : Nat) (xs : List In) (w : World) (ha : CV w a (flat xs)) (hc0 : a = none → ca = 0) (hm : xs.length * 8 ≤ 140737488355328) :
    Calls Try.prog 5 #[.slice a xs.length ca] w fun e w' => ∃ v, e = .returned v ∧ IOwns w' w.heap.size v xs ∧ w.grownBy w' none := by
  obtain ⟨i0, hi, hz0, hz1, hz2⟩ := info_parts info46
  have H : Hid (CV w a (flat xs)) := ha
  clear ha
  go_enter Try.func5, Try.ntmps5
  go_wp2_with (at_builtin; refine wpList_append_cv rfl (.tmp 3) (.tmp 4) 22 rfl 46 i0 _ 4 8 Try.underlying22 hi hz0 hz1 hz2 rfl (by decide) w.heap.size _ 0 [] rfl ?q1 a xs.length ca (flat xs) rfl (flat_len xs) hc0 ?q2 (flat_one xs) ?q3 ?q4 ?q5 ?q6)
  case q1 => exact World.ownsRow_made w #[] 0 (Nat.le_refl _) (Nat.zero_le _) rfl
  case q2 => exact H.out.keptNone (World.grownBy_alloc _ _ _)
  case q3 => unfold maxLen; omega
  case q4 => omega
  case q5 => simp
  case q6 =>
    intro v' w' h1 h2
    have G : w.grownBy w' none := grown_trans_new (World.grownBy_alloc w _ _) h2 (by intro x hx; simp [Value.ownBlock] at hx; omega)
    have O : IOwns w' w.heap.size v' xs := by simpa using h1
    clear h2 h1
    go_wp2
    go_ret
    exact ⟨v', rfl, O, G⟩

/-- The mark. -/
def mark : In := ⟨7, 0, 0, 77⟩

/-- What was lent: instructions with three marked ones behind them. -/
def ILent (w : World) (base : Nat) (v : Value) (xs : List In) : Prop :=
  ∃ g cap, v = .slice (some ⟨g, 0, none⟩) xs.length cap ∧ xs.length + 3 ≤ cap ∧ cap ≤ maxLen ∧ base ≤ g ∧ g < w.heap.size ∧ w.ownsRow base 46 4 (.slice (some ⟨g, 0, none⟩) (xs.length + 3) cap) (xs.length + 3) (flat (xs ++ [mark, mark, mark]))

theorem marks3 : flat [mark, mark, mark] = [.int .u16 7, .int .u8 0, .int .u8 0, .int .u32 77, .int .u16 7, .int .u8 0, .int .u8 0, .int .u32 77, .int .u16 7, .int .u8 0, .int .u8 0, .int .u32 77] := by simp [flat, In.cells, mark]
theorem marks1 : flat [mark] = [.int .u16 7, .int .u8 0, .int .u8 0, .int .u32 77] := by simp [flat, In.cells, mark]

/-- A block of cells that may be written. -/
def BlkN (w : World) (e : TypeId) (g n : Nat) : Prop := ∃ cur : Array Value, w.heap[g]? = some (.cells cur e (0, 0)) ∧ cur.size = n

theorem BlkN.cell {w : World} {e : TypeId} {g n : Nat} (h : BlkN w e g n) {i : Nat} (hi : i < n) : ∃ u, w.cell? ⟨g, i, none⟩ = some u := by
  obtain ⟨cur, hh, hs⟩ := h
  refine ⟨cur[i], ?_⟩
  rw [cell_of_row w g i cur _ _ hh]
  simp

theorem BlkN.free {w : World} {e : TypeId} {g n : Nat} (h : BlkN w e g n) (i : Nat) : w.frozen? ⟨g, i, none⟩ = false := by
  obtain ⟨cur, hh, hs⟩ := h
  simp [World.frozen?, hh]

theorem BlkN.lt {w : World} {e : TypeId} {g n : Nat} (h : BlkN w e g n) : g < w.heap.size := by
  obtain ⟨cur, hh, hs⟩ := h
  exact (Array.getElem?_eq_some_iff.1 hh).1

theorem BlkN.setCell {w : World} {e : TypeId} {g n : Nat} (h : BlkN w e g n) (a : Addr) (u : Value) : BlkN (w.setCell a u) e g n := by
  obtain ⟨cur, hh, hs⟩ := h
  by_cases e : g = a.block
  · subst e
    by_cases hsp : a.spot.isSome = true
    · refine ⟨cur, ?_, hs⟩
      simp only [World.setCell, Array.getElem?_modify, hh]
      simp [hsp]
    · refine ⟨cur.setIfInBounds a.off u, ?_, by simpa using hs⟩
      simp only [World.setCell, Array.getElem?_modify, hh]
      simp [hsp]
  · exact ⟨cur, by rw [Below.heap_setCell _ _ _ _ e]; exact hh, hs⟩

theorem BlkN.kept {w w' : World} {e : TypeId} {g n : Nat} {row : Option Nat} (h : BlkN w e g n) (hg : w.grownBy w' row) (hne : some g ≠ row) : BlkN w' e g n := by
  have hl := h.lt
  obtain ⟨cur, hh, hs⟩ := h
  exact ⟨cur, by rw [hg.block g hl hne]; exact hh, hs⟩

theorem BlkN.ofRow {w : World} {base e size g n cap : Nat} {xs : List Value} (h : w.ownsRow base e size (.slice (some ⟨g, 0, none⟩) n cap) n xs) : BlkN w e g (cap * size) ∧ n ≤ cap ∧ cap ≤ maxLen := by
  rcases h.2 with ⟨h, _⟩ | ⟨g', cap', cur, hv, hb, hg, hc, hm, hs, ht⟩
  · cases h
  · simp only [Value.slice.injEq, Option.some.injEq, Addr.mk.injEq] at hv
    obtain ⟨⟨rfl, _⟩, _, rfl⟩ := hv
    exact ⟨⟨cur, hg, hs⟩, hc, hm⟩

theorem BlkN.row {w : World} {e size g cap : Nat} (h : BlkN w e g (cap * size)) (n : Nat) (hn : n ≤ cap) (hm : cap ≤ maxLen) : ∃ xs : List Value, w.ownsRow 0 e size (.slice (some ⟨g, 0, none⟩) n cap) n xs := by
  obtain ⟨cur, hh, hs⟩ := h
  have hle : n * size ≤ cap * size := Nat.mul_le_mul_right _ hn
  exact ⟨cur.toList.take (n * size), by rw [List.length_take, Array.length_toList, hs]; omega, .inr ⟨g, cap, cur, rfl, Nat.zero_le _, hh, hn, hm, hs, rfl⟩⟩

/-- 'append(x, ..)', x at its block's head: it stays there, or lies in a new block. -/
theorem wpList_append_blkN {P : Program} {w : World} {ops : Array Oper} {rest : List Oper} {o : Oper} {a : Act} {Q : Exit → Act → World → Prop} (hgd : o.guard = none) (s x : Operand) (t : TypeId)
    (ho : o.op = .call { callee := .builtin .append, args := #[s, x], argTypes := #[t, t] })
    (e : TypeId) (i : TypeInfo) (z : Value) (size bytes : Nat) (ht : P.underlying t = some (.slice e)) (hi : P.info? e = some i) (hz : i.zero = some z) (hsize : i.size = size) (hby : i.bytes = bytes) (hzs : z.cells.size = size) (hsz : 0 < size)
    (g n cap : Nat) (hs : a.eval s = .slice (some ⟨g, 0, none⟩) n cap) (hb : BlkN w e g (cap * size)) (hn : n ≤ cap) (hm : cap ≤ maxLen)
    (ad : Addr) (m c : Nat) (us : List Value) (hx : a.eval x = .slice (some ad) m c) (hl : us.length = m * size) (hus : CV w (some ad) us) (h1 : ∀ u ∈ us, u.oneCell' = true)
    (h63 : n + m ≤ maxLen) (hbytes : (n + m) * bytes ≤ 140737488355328)
    (h : ∀ g' cap' w', (g' = g ∨ w.heap.size ≤ g') → BlkN w' e g (cap * size) → BlkN w' e g' (cap' * size) → n + m ≤ cap' → cap' ≤ maxLen → w.grownBy w' (some g) → wpList P ops Q rest (a.put o.dst (.slice (some ⟨g', 0, none⟩) (n + m) cap')) w') : wpList P ops Q (o :: rest) a w := by
  obtain ⟨xs, hrow⟩ := hb.row n hn hm
  have hcells : ∀ j u, us[j]? = some u → w.cell? (ad.add j) = some u := by
    intro j u hj
    obtain ⟨hlt, e⟩ := List.getElem?_eq_some_iff.1 hj
    rw [hus.2 ad rfl j hlt, e]
  by_cases hr : n + m ≤ cap
  · refine wpList_append_fits w hgd s x t ho 0 e i size ht hi hsize g n cap xs hs hrow ad m c us hx hl hcells h1 hr ?_
    intro w' h1 h2
    have k := BlkN.ofRow h1
    exact h g cap w' (.inl rfl) k.1 k.1 k.2.1 k.2.2 h2
  · refine wpList_append_grows w hgd s x t ho e i z size bytes ht hi hz hsize hby hzs hsz (some ⟨g, 0, none⟩) n cap xs hs (by simp) hrow.1 ?_ ad m c us hx hl hcells h1 (by omega) h63 hbytes ?_
    · intro b hb' j u hj
      obtain rfl := Option.some.inj hb'
      exact hrow.cells (g := g) rfl j u hj
    · intro v' w' h1 h2
      rcases h1.2 with ⟨rfl, hn0⟩ | ⟨g', cap', cur, rfl, hbb, hgg, hc, hmm, hss, htt⟩
      · omega
      · exact h g' cap' w' (.inr hbb) (hb.kept h2 (by simp)) ⟨cur, hgg, hss⟩ hc hmm (grown_mono h2)

/-- The two loops of SpoilInsns, behind its append. -/
def ISpoilRel (w : World) (row : Option Nat) (g g' n n' : Nat) (wr : World) : Prop := BlkN wr 46 g n ∧ BlkN wr 46 g' n' ∧ w.grownBy wr row
theorem ISpoilRel.set {w wr : World} {row : Option Nat} {g g' n n' : Nat} (h : ISpoilRel w row g g' n n' wr) {p : Addr} (hp : row = some p.block ∨ w.heap.size ≤ p.block) (u : Value) : ISpoilRel w row g g' n n' (wr.setCell p u) :=
  ⟨h.1.setCell _ _, h.2.1.setCell _ _, grown_setCell h.2.2 _ _ hp⟩

theorem icv_front {w : World} {base g cap n : Nat} {xs ys : List In} (h : w.ownsRow base 46 4 (.slice (some ⟨g, 0, none⟩) n cap) n (flat (xs ++ ys))) : CV w (some ⟨g, 0, none⟩) (flat xs) ∧ CV w (some ⟨g, xs.length * 4, none⟩) (flat ys) := by
  have hl := flat_len xs
  refine ⟨⟨fun h => (by cases h), fun ad had i hi => ?_⟩, ⟨fun h => (by cases h), fun ad had i hi => ?_⟩⟩
  · obtain rfl := Option.some.inj had
    refine h.cells (g := g) rfl i _ ?_
    rw [flat_append, List.getElem?_append_left hi]
    simp [hi]
  · obtain rfl := Option.some.inj had
    have := h.cells (g := g) rfl ((flat xs).length + i) ((flat ys)[i]) (by rw [flat_append, List.getElem?_append_right (by omega)]; simp [hi])
    rw [Addr.add_lit, Nat.zero_add, hl] at this
    rw [Addr.add_lit]
    exact this

end Go.Proofs.Ytencoknpocipbaa

namespace Go.Proofs.Ytencoknpocipbaa
open Go.RowKit
set_option maxRecDepth 100000

def memB (c : Int) : Bool := c == 2 || c == 3 || c == 96 || c == 97
def divB (c : Int) : Bool := c == 52 || c == 148
def shfB (c : Int) : Bool := c == 100 || c == 116
def retB (c : Int) : Bool := c == 6 || c == 22

/-- What is wrong with an instruction by itself. -/
def faultV (c : Int) (k : Nat) : Int :=
  if knownB c = false then 42 else if (memB c && decide (16 ≤ k)) = true then 43 else if (divB c && k == 0) = true then 44 else if (shfB c && decide (31 < k)) = true then 45 else 0

end Go.Proofs.Ytencoknpocipbaa

namespace Go.Proofs.Ytencoknpocipbaa
open Go.RowKit
set_option maxRecDepth 100000

/-- Does a jump go too far? room: how many instructions stand behind. -/
def jumpBad (c : Int) (t f k room : Nat) : Bool := (c == 5 && decide (room ≤ k)) || (jumpB c && (decide (room ≤ t) || decide (room ≤ f)))
/-- What is wrong with the instruction at place i of n. -/
def badV (n i : Nat) (x : In) : Int := if faultV x.code.toNat x.k.toNat = 0 then (if jumpBad x.code.toNat x.jt.toNat x.jf.toNat x.k.toNat (n - 1 - i) = true then 46 else 0) else faultV x.code.toNat x.k.toNat
/-- The first place where something is wrong. -/
def firstBad (n : Nat) : Nat → List In → Option (Nat × Int)
  | _, [] => none
  | i, x :: r => if badV n i x = 0 then firstBad n (i + 1) r else some (i, badV n i x)
def lastB (xs : List In) : Bool := match xs.getLast? with
  | some x => retB x.code.toNat
  | none => false
/-- What is said behind the search. -/
def endV (xs : List In) : Option (Nat × Int) → Nat × Int
  | some r => r
  | none => if lastB xs = true then (0, 0) else (xs.length - 1, 47)
/-- P4.1. -/
def checkV (xs : List In) : Nat × Int := if xs.length = 0 then (0, 40) else if 4096 < xs.length then (4096, 41) else endV xs (firstBad xs.length 0 xs)

theorem jump_not5 {c : Int} (h : (c == 5) = true) : jumpB c = false := by
  have e := eq_of_beq h
  subst e
  decide

end Go.Proofs.Ytencoknpocipbaa

namespace Go.Proofs.Ytencoknpocipbaa
open Go.RowKit
set_option maxRecDepth 100000

theorem info4 : (Try.prog.info? 4).map (fun i => (i.zero, i.size, i.bytes)) = some (some (.bool false), 1, 1) := by kernel_rfl

abbrev BOwns (w : World) (base : Nat) (v : Value) (bs : List Bool) : Prop := w.ownsRow base 4 1 v bs.length (bs.map Value.bool)

theorem CV.bools {w : World} {ao : Option Addr} {bs : List Bool} (h : CV w ao (bs.map Value.bool)) {k : Nat} (hk : k < bs.length) :
    ∃ b off, ao = some ⟨b, off, none⟩ ∧ ∀ i (hi : i < bs.length), w.cell? ⟨b, off + i, none⟩ = some (.bool bs[i]) := by
  obtain ⟨b, off, hao, hc⟩ := h.addr (k := k) (by simpa using hk)
  exact ⟨b, off, hao, fun i hi => by rw [hc i (by simpa using hi)]; simp⟩

/-- The two loops of SpoilBools, behind its append. -/
def BSpoilRel (w : World) (row : Option Nat) (g g' n n' : Nat) (wr : World) : Prop := BlkN wr 4 g n ∧ BlkN wr 4 g' n' ∧ w.grownBy wr row

theorem BSpoilRel.set {w wr : World} {row : Option Nat} {g g' n n' : Nat} (h : BSpoilRel w row g g' n n' wr) {p : Addr} (hp : row = some p.block ∨ w.heap.size ≤ p.block) (u : Value) : BSpoilRel w row g g' n n' (wr.setCell p u) :=
  ⟨h.1.setCell _ _, h.2.1.setCell _ _, grown_setCell h.2.2 _ _ hp⟩

end Go.Proofs.Ytencoknpocipbaa
