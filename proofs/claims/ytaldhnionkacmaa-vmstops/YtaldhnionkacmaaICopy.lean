/-
  CopyInsns, LendInsns, SpoilInsns, KeptInsns.
-/
import Derived.Test.YtaldhnionkacmaaISame
namespace Go.Proofs.Ytaldhnionkacmaa
open Go.RowKit
set_option maxRecDepth 100000

theorem info47 : (Try.prog.info? 47).map (fun i => (i.zero, i.size, i.bytes)) = some (some (.agg #[.int .u16 0, .int .u8 0, .int .u8 0, .int .u32 0]), 4, 8) := by kernel_rfl

/-- An owned row of instructions. -/
abbrev IOwns (w : World) (base : Nat) (v : Value) (xs : List In) : Prop := w.ownsRow base 47 4 v xs.length (flat xs)

theorem cv_of_row {w : World} {base e size n : Nat} {v : Value} {vs : List Value} (h : w.ownsRow base e size v n vs) :
    ∃ ao cap, v = .slice ao n cap ∧ CV w ao vs ∧ n ≤ cap ∧ cap ≤ maxLen ∧ (ao = none → cap = 0) ∧ (∀ ad, ao = some ad → base ≤ ad.block ∧ ad.block < w.heap.size) ∧ v.ownBlock = ao.map (·.block) := by
  have hl := h.lt
  have h0 := h.1
  rcases h.2 with ⟨rfl, hn⟩ | ⟨g, cap, cur, rfl, hb, hg, hc, hm, hs, ht⟩
  · subst hn
    refine ⟨none, 0, rfl, ⟨fun _ => List.eq_nil_of_length_eq_zero (by simpa using h0), fun ad had => (by cases had)⟩, by omega, Nat.zero_le _, fun _ => rfl, fun ad had => (by cases had), rfl⟩
  · refine ⟨some ⟨g, 0, none⟩, cap, rfl, ⟨fun h => (by cases h), fun ad had i hi => ?_⟩, hc, hm, fun h => (by cases h), fun ad had => ?_, rfl⟩
    · obtain rfl := Option.some.inj had
      exact h.cells (g := g) rfl i _ (by simp [hi])
    · obtain rfl := Option.some.inj had
      exact hl g rfl

theorem owns_head {w : World} {base e size n : Nat} {v : Value} {vs : List Value} (h : w.ownsRow base e size v n vs) (hn : 0 < n) :
    ∃ g cap, v = .slice (some ⟨g, 0, none⟩) n cap ∧ n ≤ cap ∧ cap ≤ maxLen ∧ base ≤ g ∧ g < w.heap.size := by
  have hl := h.lt
  rcases h.2 with ⟨rfl, hn⟩ | ⟨g, cap, cur, rfl, hb, hg, hc, hm, hs, ht⟩
  · omega
  · exact ⟨g, cap, rfl, hc, hm, (hl g rfl).1, (hl g rfl).2⟩

/-- 'append(dst, src...)': dst the call's own, src whatever is read: nil, empty or not: elements of several cells. -/
theorem wpList_append_cv {P : Program} {w : World} {ops : Array Oper} {rest : List Oper} {o : Oper} {a : Act} {Q : Exit → Act → World → Prop} (hgd : o.guard = none) (s x : Operand) (t : TypeId)
    (ho : o.op = .call { callee := .builtin .append, args := #[s, x], argTypes := #[t, t] })
    (e : TypeId) (i : TypeInfo) (z : Value) (size bytes : Nat) (ht : P.underlying t = some (.slice e)) (hi : P.info? e = some i) (hz : i.zero = some z) (hsize : i.size = size) (hby : i.bytes = bytes) (hzs : z.cells.size = size) (hsz : 0 < size)
    (base : Nat) (v : Value) (n : Nat) (vs : List Value) (hs : a.eval s = v) (hown : w.ownsRow base e size v n vs)
    (ao : Option Addr) (m c : Nat) (us : List Value) (hx : a.eval x = .slice ao m c) (hl : us.length = m * size) (hc0 : ao = none → c = 0) (hus : CV w ao us) (h1 : ∀ u ∈ us, u.oneCell' = true)
    (h63 : n + m ≤ maxLen) (hbytes : (n + m) * bytes ≤ 140737488355328) (hbase : base ≤ w.heap.size)
    (h : ∀ v' w', w'.ownsRow base e size v' (n + m) (vs ++ us) → w.grownBy w' v.ownBlock → wpList P ops Q rest (a.put o.dst v') w') : wpList P ops Q (o :: rest) a w := by
  cases ao with
  | none =>
    have e0 := hus.1 rfl
    subst e0
    have e1 := hc0 rfl
    subst e1
    have e2 : m = 0 := by
      rcases Nat.mul_eq_zero.1 hl.symm with h | h
      · exact h
      · omega
    subst e2
    refine wpList_append_own_none hgd s x t ho base e i size ht hi v n vs hs hown hx (h v w (by simpa using hown) (World.grownBy.refl _ _))
  | some ad =>
    refine wpList_append_own w hgd s x t ho base e i z size bytes ht hi hz hsize hby hzs hsz v n vs hs hown ad m c us hx hl ?_ h1 h63 hbytes hbase fun v' w' h1 h2 _ => h v' w' h1 h2
    intro j u hj
    obtain ⟨hlt, e⟩ := List.getElem?_eq_some_iff.1 hj
    rw [hus.2 ad rfl j hlt, e]

/-- The same behind a guard that says yes ('.. && f(append(x, y...))'). -/
theorem wpList_append_cvg {P : Program} {w : World} {ops : Array Oper} {rest : List Oper} {o : Oper} {a : Act} {Q : Exit → Act → World → Prop} (hw : Region.wanted o (yielded ops a.tmps) = true) (s x : Operand) (t : TypeId)
    (ho : o.op = .call { callee := .builtin .append, args := #[s, x], argTypes := #[t, t] })
    (e : TypeId) (i : TypeInfo) (z : Value) (size bytes : Nat) (ht : P.underlying t = some (.slice e)) (hi : P.info? e = some i) (hz : i.zero = some z) (hsize : i.size = size) (hby : i.bytes = bytes) (hzs : z.cells.size = size) (hsz : 0 < size)
    (base : Nat) (v : Value) (n : Nat) (vs : List Value) (hs : a.eval s = v) (hown : w.ownsRow base e size v n vs)
    (ao : Option Addr) (m c : Nat) (us : List Value) (hx : a.eval x = .slice ao m c) (hl : us.length = m * size) (hc0 : ao = none → c = 0) (hus : CV w ao us) (h1 : ∀ u ∈ us, u.oneCell' = true)
    (h63 : n + m ≤ maxLen) (hbytes : (n + m) * bytes ≤ 140737488355328) (hbase : base ≤ w.heap.size)
    (h : ∀ v' w', w'.ownsRow base e size v' (n + m) (vs ++ us) → w.grownBy w' v.ownBlock → wpList P ops Q rest (a.put o.dst v') w') : wpList P ops Q (o :: rest) a w := by
  cases ao with
  | none =>
    have e0 := hus.1 rfl
    subst e0
    have e1 := hc0 rfl
    subst e1
    have e2 : m = 0 := by
      rcases Nat.mul_eq_zero.1 hl.symm with h | h
      · exact h
      · omega
    subst e2
    refine BigFrame.wpList_want hw fun K hK => ?_
    have hrun := run_append_owned_none (P := P) (w := w) base t o.type e i size ht hi v n vs hown
    unfold Oper.wp
    simp [execOp, ho, resolve, invoke, builtin, hs, hx, hrun, Result.andThen]
    exact hK _ _ (h v w (by simpa using hown) (World.grownBy.refl _ _))
  | some ad =>
    refine BigFrame.wpList_want hw fun K hK => wp_append_own w s x t ho base e i z size bytes ht hi hz hsize hby hzs hsz v n vs hs hown ad m c us hx hl ?_ h1 h63 hbytes hbase fun v' w' h1 h2 _ => hK _ _ (h v' w' h1 h2)
    intro j u hj
    obtain ⟨hlt, e⟩ := List.getElem?_eq_some_iff.1 hj
    rw [hus.2 ad rfl j hlt, e]

set_option maxRecDepth 100000 in
set_option maxHeartbeats 400000 in
theorem icopy_any (a : Option Addr) (ca : Nat) (xs : List In) (w : World) (ha : CV w a (flat xs)) (hc0 : a = none → ca = 0) (hm : xs.length * 8 ≤ 140737488355328) :
    Calls Try.prog 17 #[.slice a xs.length ca] w fun e w' => ∃ v, e = .returned v ∧ IOwns w' w.heap.size v xs ∧ w.grownBy w' none := by
  obtain ⟨i0, hi, hz0, hz1, hz2⟩ := info_parts info47
  have H : Hid (CV w a (flat xs)) := ha
  clear ha
  go_enter Try.func17, Try.ntmps17
  go_wp2_with (at_builtin; refine wpList_append_cv rfl (.tmp 3) (.tmp 4) 22 rfl 47 i0 _ 4 8 Try.underlying22 hi hz0 hz1 hz2 rfl (by decide) w.heap.size _ 0 [] rfl ?q1 a xs.length ca (flat xs) rfl (flat_len xs) hc0 ?q2 (flat_one xs) ?q3 ?q4 ?q5 ?q6)
  case q1 => exact World.ownsRow_made w #[] 0 (Nat.le_refl _) (Nat.zero_le _) rfl
  case q2 => exact H.out.keptNone (World.grownBy_alloc _ _ _)
  case q3 => unfold maxLen; omega
  case q4 => omega
  case q5 => simp
  case q6 =>
    intro v' w' h1 h2
    have G : w.grownBy w' none := grown_trans_new (World.grownBy_alloc w _ _) h2 (by intro x hx; simp [Value.ownBlock] at hx; omega)
    have O : IOwns w' w.heap.size v' xs := by simpa using h1
    clear h2 h1
    go_wp2
    go_ret
    exact ⟨v', rfl, O, G⟩

/-- The mark. -/
def mark : In := ⟨7, 0, 0, 77⟩

/-- What was lent: instructions with three marked ones behind them. -/
def ILent (w : World) (base : Nat) (v : Value) (xs : List In) : Prop :=
  ∃ g cap, v = .slice (some ⟨g, 0, none⟩) xs.length cap ∧ xs.length + 3 ≤ cap ∧ cap ≤ maxLen ∧ base ≤ g ∧ g < w.heap.size ∧ w.ownsRow base 47 4 (.slice (some ⟨g, 0, none⟩) (xs.length + 3) cap) (xs.length + 3) (flat (xs ++ [mark, mark, mark]))

theorem marks3 : flat [mark, mark, mark] = [.int .u16 7, .int .u8 0, .int .u8 0, .int .u32 77, .int .u16 7, .int .u8 0, .int .u8 0, .int .u32 77, .int .u16 7, .int .u8 0, .int .u8 0, .int .u32 77] := by simp [flat, In.cells, mark]
theorem marks1 : flat [mark] = [.int .u16 7, .int .u8 0, .int .u8 0, .int .u32 77] := by simp [flat, In.cells, mark]

set_option maxRecDepth 100000 in
set_option maxHeartbeats 400000 in
theorem ilend_any (a : Option Addr) (ca : Nat) (xs : List In) (w : World) (ha : CV w a (flat xs)) (hc0 : a = none → ca = 0) (hm : xs.length * 8 ≤ 140737488351232) :
    Calls Try.prog 10 #[.slice a xs.length ca] w fun e w' => ∃ v, e = .returned v ∧ ILent w' w.heap.size v xs ∧ w.grownBy w' none := by
  obtain ⟨i0, hi, hz0, hz1, hz2⟩ := info_parts info47
  go_enter Try.func10, Try.ntmps10
  go_wp2_with fail
  refine (icopy_any a ca xs _ ha hc0 (by omega)).mono ?_
  rintro e w1 ⟨v, rfl, h1, h2⟩
  clear ha
  go_wp2_with (at_builtin; refine wpList_append_cv rfl (.tmp 5) (.tmp 9) 22 rfl 47 i0 _ 4 8 Try.underlying22 hi hz0 hz1 hz2 rfl (by decide) w.heap.size _ xs.length (flat xs) rfl ?q1 (some ⟨w1.heap.size, 0, none⟩) 3 3 (flat [mark, mark, mark]) rfl rfl (by simp) ?q2 (flat_one _) ?q3 ?q4 ?q5 ?q6)
  case q1 => exact h1.alloc _
  case q2 => rw [marks3]; exact cv_lit w1 _ _
  case q3 => unfold maxLen; omega
  case q4 => omega
  case q5 => have := h2.size; simp; omega
  case q6 =>
    intro v' w' h3 h4
    have G : w.grownBy w' none := grown_trans_new h2 (grown_trans (World.grownBy_alloc w1 _ _) h4) (fun x hx => (h1.lt x hx).1)
    rw [← flat_append] at h3
    obtain ⟨g, cap, hv, hc, hcm, hg1, hg2⟩ := owns_head h3 (by omega)
    subst hv
    have R : ILent w' w.heap.size (.slice (some ⟨g, 0, none⟩) xs.length cap) xs := ⟨g, cap, rfl, hc, hcm, hg1, hg2, h3⟩
    clear h4 h3 h2 h1
    unfold maxLen at hcm
    have hx : (xs.length : Int) ≤ (cap : Int) := by omega
    go_wp2
    go_ret
    exact ⟨_, rfl, R, G⟩

/-- A block of cells that may be written. -/
def BlkN (w : World) (e : TypeId) (g n : Nat) : Prop := ∃ cur : Array Value, w.heap[g]? = some (.cells cur e (0, 0)) ∧ cur.size = n

theorem BlkN.cell {w : World} {e : TypeId} {g n : Nat} (h : BlkN w e g n) {i : Nat} (hi : i < n) : ∃ u, w.cell? ⟨g, i, none⟩ = some u := by
  obtain ⟨cur, hh, hs⟩ := h
  refine ⟨cur[i], ?_⟩
  rw [cell_of_row w g i cur _ _ hh]
  simp

theorem BlkN.free {w : World} {e : TypeId} {g n : Nat} (h : BlkN w e g n) (i : Nat) : w.frozen? ⟨g, i, none⟩ = false := by
  obtain ⟨cur, hh, hs⟩ := h
  simp [World.frozen?, hh]

theorem BlkN.lt {w : World} {e : TypeId} {g n : Nat} (h : BlkN w e g n) : g < w.heap.size := by
  obtain ⟨cur, hh, hs⟩ := h
  exact (Array.getElem?_eq_some_iff.1 hh).1

theorem BlkN.setCell {w : World} {e : TypeId} {g n : Nat} (h : BlkN w e g n) (a : Addr) (u : Value) : BlkN (w.setCell a u) e g n := by
  obtain ⟨cur, hh, hs⟩ := h
  by_cases e : g = a.block
  · subst e
    by_cases hsp : a.spot.isSome = true
    · refine ⟨cur, ?_, hs⟩
      simp only [World.setCell, Array.getElem?_modify, hh]
      simp [hsp]
    · refine ⟨cur.setIfInBounds a.off u, ?_, by simpa using hs⟩
      simp only [World.setCell, Array.getElem?_modify, hh]
      simp [hsp]
  · exact ⟨cur, by rw [Below.heap_setCell _ _ _ _ e]; exact hh, hs⟩

theorem BlkN.kept {w w' : World} {e : TypeId} {g n : Nat} {row : Option Nat} (h : BlkN w e g n) (hg : w.grownBy w' row) (hne : some g ≠ row) : BlkN w' e g n := by
  have hl := h.lt
  obtain ⟨cur, hh, hs⟩ := h
  exact ⟨cur, by rw [hg.block g hl hne]; exact hh, hs⟩

theorem BlkN.ofRow {w : World} {base e size g n cap : Nat} {xs : List Value} (h : w.ownsRow base e size (.slice (some ⟨g, 0, none⟩) n cap) n xs) : BlkN w e g (cap * size) ∧ n ≤ cap ∧ cap ≤ maxLen := by
  rcases h.2 with ⟨h, _⟩ | ⟨g', cap', cur, hv, hb, hg, hc, hm, hs, ht⟩
  · cases h
  · simp only [Value.slice.injEq, Option.some.injEq, Addr.mk.injEq] at hv
    obtain ⟨⟨rfl, _⟩, _, rfl⟩ := hv
    exact ⟨⟨cur, hg, hs⟩, hc, hm⟩

theorem BlkN.row {w : World} {e size g cap : Nat} (h : BlkN w e g (cap * size)) (n : Nat) (hn : n ≤ cap) (hm : cap ≤ maxLen) : ∃ xs : List Value, w.ownsRow 0 e size (.slice (some ⟨g, 0, none⟩) n cap) n xs := by
  obtain ⟨cur, hh, hs⟩ := h
  have hle : n * size ≤ cap * size := Nat.mul_le_mul_right _ hn
  exact ⟨cur.toList.take (n * size), by rw [List.length_take, Array.length_toList, hs]; omega, .inr ⟨g, cap, cur, rfl, Nat.zero_le _, hh, hn, hm, hs, rfl⟩⟩

/-- 'append(x, ..)', x at its block's head: it stays there, or lies in a new block. -/
theorem wpList_append_blkN {P : Program} {w : World} {ops : Array Oper} {rest : List Oper} {o : Oper} {a : Act} {Q : Exit → Act → World → Prop} (hgd : o.guard = none) (s x : Operand) (t : TypeId)
    (ho : o.op = .call { callee := .builtin .append, args := #[s, x], argTypes := #[t, t] })
    (e : TypeId) (i : TypeInfo) (z : Value) (size bytes : Nat) (ht : P.underlying t = some (.slice e)) (hi : P.info? e = some i) (hz : i.zero = some z) (hsize : i.size = size) (hby : i.bytes = bytes) (hzs : z.cells.size = size) (hsz : 0 < size)
    (g n cap : Nat) (hs : a.eval s = .slice (some ⟨g, 0, none⟩) n cap) (hb : BlkN w e g (cap * size)) (hn : n ≤ cap) (hm : cap ≤ maxLen)
    (ad : Addr) (m c : Nat) (us : List Value) (hx : a.eval x = .slice (some ad) m c) (hl : us.length = m * size) (hus : CV w (some ad) us) (h1 : ∀ u ∈ us, u.oneCell' = true)
    (h63 : n + m ≤ maxLen) (hbytes : (n + m) * bytes ≤ 140737488355328)
    (h : ∀ g' cap' w', (g' = g ∨ w.heap.size ≤ g') → BlkN w' e g (cap * size) → BlkN w' e g' (cap' * size) → n + m ≤ cap' → cap' ≤ maxLen → w.grownBy w' (some g) → wpList P ops Q rest (a.put o.dst (.slice (some ⟨g', 0, none⟩) (n + m) cap')) w') : wpList P ops Q (o :: rest) a w := by
  obtain ⟨xs, hrow⟩ := hb.row n hn hm
  have hcells : ∀ j u, us[j]? = some u → w.cell? (ad.add j) = some u := by
    intro j u hj
    obtain ⟨hlt, e⟩ := List.getElem?_eq_some_iff.1 hj
    rw [hus.2 ad rfl j hlt, e]
  by_cases hr : n + m ≤ cap
  · refine wpList_append_fits w hgd s x t ho 0 e i size ht hi hsize g n cap xs hs hrow ad m c us hx hl hcells h1 hr ?_
    intro w' h1 h2
    have k := BlkN.ofRow h1
    exact h g cap w' (.inl rfl) k.1 k.1 k.2.1 k.2.2 h2
  · refine wpList_append_grows w hgd s x t ho e i z size bytes ht hi hz hsize hby hzs hsz (some ⟨g, 0, none⟩) n cap xs hs (by simp) hrow.1 ?_ ad m c us hx hl hcells h1 (by omega) h63 hbytes ?_
    · intro b hb' j u hj
      obtain rfl := Option.some.inj hb'
      exact hrow.cells (g := g) rfl j u hj
    · intro v' w' h1 h2
      rcases h1.2 with ⟨rfl, hn0⟩ | ⟨g', cap', cur, rfl, hbb, hgg, hc, hmm, hss, htt⟩
      · omega
      · exact h g' cap' w' (.inr hbb) (hb.kept h2 (by simp)) ⟨cur, hgg, hss⟩ hc hmm (grown_mono h2)

/-- The two loops of SpoilInsns, behind its append. -/
def ISpoilRel (w : World) (row : Option Nat) (g g' n n' : Nat) (wr : World) : Prop := BlkN wr 47 g n ∧ BlkN wr 47 g' n' ∧ w.grownBy wr row
theorem ISpoilRel.set {w wr : World} {row : Option Nat} {g g' n n' : Nat} (h : ISpoilRel w row g g' n n' wr) {p : Addr} (hp : row = some p.block ∨ w.heap.size ≤ p.block) (u : Value) : ISpoilRel w row g g' n n' (wr.setCell p u) :=
  ⟨h.1.setCell _ _, h.2.1.setCell _ _, grown_setCell h.2.2 _ _ hp⟩

set_option maxRecDepth 100000 in
set_option maxHeartbeats 1000000 in
theorem ispoil_any (g n cap : Nat) (w : World) (hb : BlkN w 47 g (cap * 4)) (hn : n ≤ cap) (hcm : cap ≤ maxLen) (hm : (n + 1) * 8 ≤ 140737488355328) :
    Calls Try.prog 31 #[.slice (some ⟨g, 0, none⟩) n cap] w fun e w' => e = .returned (.tuple #[]) ∧ w.grownBy w' (some g) := by
  obtain ⟨i0, hi, hz0, hz1, hz2⟩ := info_parts info47
  have H : Hid (BlkN w 47 g (cap * 4)) := hb
  clear hb
  go_enter Try.func31, Try.ntmps31
  go_wp2_with (at_builtin; refine wpList_append_blkN rfl (.tmp 5) (.tmp 7) 22 rfl 47 i0 _ 4 8 Try.underlying22 hi hz0 hz1 hz2 rfl (by decide) g n cap rfl ?q1 hn hcm ⟨w.heap.size, 0, none⟩ 1 1 (flat [mark]) rfl rfl ?q2 (flat_one _) ?q3 ?q4 ?q5)
  case q1 => exact H.out.kept (World.grownBy_alloc _ _ none) (by simp)
  case q2 => rw [marks1]; exact cv_lit w _ _
  case q3 => unfold maxLen; omega
  case q4 => omega
  case q5 =>
    intro g' cap' w1 hg' hb1 hb2 hc' hcm' hgr
    have R : ISpoilRel w (some g) g g' (cap * 4) (cap' * 4) w1 := ⟨hb1, hb2, grown_trans (World.grownBy_alloc _ _ _) hgr⟩
    have hp : some g = some g' ∨ w.heap.size ≤ g' := by
      rcases hg' with e | e
      · exact .inl (by rw [e])
      · right; omega
    clear hg' hb1 hb2 hgr
    unfold maxLen at hcm hcm'
    go_wp2
    go_loopw [3] (fun i wr => ∃ k : Nat, k ≤ n + 1 ∧ i = .int .i64 k ∧ ISpoilRel w (some g) g g' (cap * 4) (cap' * 4) wr) (fun i _ => n + 1 - (intOf i).toNat)
    case atStart => exact ⟨0, Nat.zero_le _, rfl, R⟩
    case round =>
      clear R
      obtain ⟨k, hk, rfl, R⟩ := hrel
      by_cases hlt : k < n + 1
      · obtain ⟨u0, hu0⟩ := R.2.1.cell (i := k * 4) (by omega)
        obtain ⟨u1, hu1⟩ := R.2.1.cell (i := k * 4 + 1) (by omega)
        obtain ⟨u2, hu2⟩ := R.2.1.cell (i := k * 4 + 2) (by omega)
        obtain ⟨u3, hu3⟩ := R.2.1.cell (i := k * 4 + 3) (by omega)
        have hf0 := R.2.1.free (k * 4)
        have hf1 := R.2.1.free (k * 4 + 1)
        have hf2 := R.2.1.free (k * 4 + 2)
        have hf3 := R.2.1.free (k * 4 + 3)
        have R' := (((R.set (p := ⟨g', k * 4, none⟩) hp (.int .u16 7)).set (p := ⟨g', k * 4 + 1, none⟩) hp (.int .u8 0)).set (p := ⟨g', k * 4 + 2, none⟩) hp (.int .u8 0)).set (p := ⟨g', k * 4 + 3, none⟩) hp (.int .u32 77)
        clear R
        go_wp2
        go_roundw
        case rel => exact ⟨k + 1, by omega, by go_num, R'⟩
        case measure => simp [intOf]; omega
      · go_wp2
        clear hk hlt
        go_loopw [4] (fun i wr => ∃ k : Nat, k ≤ n ∧ i = .int .i64 k ∧ ISpoilRel w (some g) g g' (cap * 4) (cap' * 4) wr) (fun i _ => n - (intOf i).toNat)
        case atStart => exact ⟨0, Nat.zero_le _, rfl, R⟩
        case round =>
          clear R
          obtain ⟨k, hk, rfl, R⟩ := hrel
          by_cases hlt : k < n
          · obtain ⟨u0, hu0⟩ := R.1.cell (i := k * 4) (by omega)
            obtain ⟨u1, hu1⟩ := R.1.cell (i := k * 4 + 1) (by omega)
            obtain ⟨u2, hu2⟩ := R.1.cell (i := k * 4 + 2) (by omega)
            obtain ⟨u3, hu3⟩ := R.1.cell (i := k * 4 + 3) (by omega)
            have hf0 := R.1.free (k * 4)
            have hf1 := R.1.free (k * 4 + 1)
            have hf2 := R.1.free (k * 4 + 2)
            have hf3 := R.1.free (k * 4 + 3)
            have R' := (((R.set (p := ⟨g, k * 4, none⟩) (.inl rfl) (.int .u16 7)).set (p := ⟨g, k * 4 + 1, none⟩) (.inl rfl) (.int .u8 0)).set (p := ⟨g, k * 4 + 2, none⟩) (.inl rfl) (.int .u8 0)).set (p := ⟨g, k * 4 + 3, none⟩) (.inl rfl) (.int .u32 77)
            clear R
            go_wp2
            go_roundw
            case rel => exact ⟨k + 1, by omega, by go_num, R'⟩
            case measure => simp [intOf]; omega
          · go_wp2
            go_end0
            exact ⟨rfl, R.2.2⟩

set_option maxRecDepth 100000 in
set_option maxHeartbeats 1000000 in
theorem ispoil_nil (w : World) :
    Calls Try.prog 31 #[.slice none 0 0] w fun e w' => e = .returned (.tuple #[]) ∧ w.grownBy w' none := by
  obtain ⟨i0, hi, hz0, hz1, hz2⟩ := info_parts info47
  go_enter Try.func31, Try.ntmps31
  go_wp2_with (at_builtin; refine wpList_append_cv rfl (.tmp 5) (.tmp 7) 22 rfl 47 i0 _ 4 8 Try.underlying22 hi hz0 hz1 hz2 rfl (by decide) w.heap.size _ 0 [] rfl ?q1 (some ⟨w.heap.size, 0, none⟩) 1 1 (flat [mark]) rfl rfl (by simp) ?q2 (flat_one _) ?q3 ?q4 ?q5 ?q6)
  case q1 => exact World.ownsRow_nil _ _ _ _
  case q2 => rw [marks1]; exact cv_lit w _ _
  case q3 => unfold maxLen; omega
  case q4 => omega
  case q5 => simp
  case q6 =>
    intro v' w1 h1 h2
    obtain ⟨g', cap', hv, hc, hcm, hg1, hg2⟩ := owns_head h1 (by omega)
    subst hv
    have hb2 : BlkN w1 47 g' (cap' * 4) := (BlkN.ofRow (n := 1) h1).1
    have hgr : w.grownBy w1 none := grown_trans (World.grownBy_alloc _ _ _) h2
    have R : ISpoilRel w none g' g' (cap' * 4) (cap' * 4) w1 := ⟨hb2, hb2, hgr⟩
    have hp : none = some g' ∨ w.heap.size ≤ g' := .inr hg1
    clear hb2 hgr h1 h2
    unfold maxLen at hcm
    go_wp2
    go_loopw [3] (fun i wr => ∃ k : Nat, k ≤ 1 ∧ i = .int .i64 k ∧ ISpoilRel w none g' g' (cap' * 4) (cap' * 4) wr) (fun i _ => 1 - (intOf i).toNat)
    case atStart => exact ⟨0, Nat.zero_le _, rfl, R⟩
    case round =>
      clear R
      obtain ⟨k, hk, rfl, R⟩ := hrel
      by_cases hlt : k < 1
      · obtain rfl : k = 0 := by omega
        obtain ⟨u0, hu0⟩ := R.2.1.cell (i := 0) (by omega)
        obtain ⟨u1, hu1⟩ := R.2.1.cell (i := 1) (by omega)
        obtain ⟨u2, hu2⟩ := R.2.1.cell (i := 2) (by omega)
        obtain ⟨u3, hu3⟩ := R.2.1.cell (i := 3) (by omega)
        have hf0 := R.2.1.free 0
        have hf1 := R.2.1.free 1
        have hf2 := R.2.1.free 2
        have hf3 := R.2.1.free 3
        have R' := (((R.set (p := ⟨g', 0, none⟩) hp (.int .u16 7)).set (p := ⟨g', 1, none⟩) hp (.int .u8 0)).set (p := ⟨g', 2, none⟩) hp (.int .u8 0)).set (p := ⟨g', 3, none⟩) hp (.int .u32 77)
        clear R
        go_wp2
        go_roundw
        case rel => exact ⟨1, by omega, by go_num, R'⟩
        case measure => simp [intOf]
      · obtain rfl : k = 1 := by omega
        go_wp2
        refine wp_loop_rounds 1 ?_
        rw [rounds_succ]
        go_wp2
        go_end0
        exact ⟨rfl, R.2.2⟩

theorem icv_front {w : World} {base g cap n : Nat} {xs ys : List In} (h : w.ownsRow base 47 4 (.slice (some ⟨g, 0, none⟩) n cap) n (flat (xs ++ ys))) : CV w (some ⟨g, 0, none⟩) (flat xs) ∧ CV w (some ⟨g, xs.length * 4, none⟩) (flat ys) := by
  have hl := flat_len xs
  refine ⟨⟨fun h => (by cases h), fun ad had i hi => ?_⟩, ⟨fun h => (by cases h), fun ad had i hi => ?_⟩⟩
  · obtain rfl := Option.some.inj had
    refine h.cells (g := g) rfl i _ ?_
    rw [flat_append, List.getElem?_append_left hi]
    simp [hi]
  · obtain rfl := Option.some.inj had
    have := h.cells (g := g) rfl ((flat xs).length + i) ((flat ys)[i]) (by rw [flat_append, List.getElem?_append_right (by omega)]; simp [hi])
    rw [Addr.add_lit, Nat.zero_add, hl] at this
    rw [Addr.add_lit]
    exact this

set_option maxRecDepth 100000 in
set_option maxHeartbeats 1000000 in
theorem ikept_any (g cap : Nat) (ao : Option Addr) (ca : Nat) (xs : List In) (w : World) (hL : w.ownsRow 0 47 4 (.slice (some ⟨g, 0, none⟩) (xs.length + 3) cap) (xs.length + 3) (flat (xs ++ [mark, mark, mark])))
    (ha : CV w ao (flat xs)) (hm : xs.length * 8 ≤ 140737488351232) :
    Calls Try.prog 13 #[.slice (some ⟨g, 0, none⟩) xs.length cap, .slice ao xs.length ca] w fun e w' => e = .returned (.bool true) ∧ w.grownBy w' (some g) := by
  obtain ⟨hB, hc, hcm⟩ := BlkN.ofRow hL
  obtain ⟨c1, c2⟩ := icv_front hL
  clear hL
  have HB : Hid (BlkN w 47 g (cap * 4)) := hB
  have HC : Hid (CV w (some ⟨g, xs.length * 4, none⟩) (flat [mark, mark, mark])) := c2
  clear hB c2
  have hcm0 := hcm
  unfold maxLen at hcm
  have hx : (xs.length : Int) + 3 ≤ (cap : Int) := by omega
  go_enter Try.func13, Try.ntmps13
  go_wp2_with fail
  refine (isame_any _ ao _ ca xs _ c1 ha (by omega)).mono ?_
  rintro e w1 ⟨rfl, n1, rfl⟩
  clear c1 ha
  go_wp2_with fail
  have G1 : w.grownBy ((w.drewN n1).alloc (.cells #[.int .u16 7, .int .u8 0, .int .u8 0, .int .u32 77, .int .u16 7, .int .u8 0, .int .u8 0, .int .u32 77, .int .u16 7, .int .u8 0, .int .u8 0, .int .u32 77] 47)) none := grown_trans (grown_drewN w n1 none) (World.grownBy_alloc _ _ _)
  have C1 := HC.out.keptNone G1
  have C2 : CV ((w.drewN n1).alloc (.cells #[.int .u16 7, .int .u8 0, .int .u8 0, .int .u32 77, .int .u16 7, .int .u8 0, .int .u8 0, .int .u32 77, .int .u16 7, .int .u8 0, .int .u8 0, .int .u32 77] 47)) (some ⟨w.heap.size, 0, none⟩) (flat [mark, mark, mark]) := by rw [marks3]; exact cv_lit (w.drewN n1) _ _
  have B1 := HB.out.kept G1 (by simp)
  generalize (w.drewN n1).alloc (.cells #[.int .u16 7, .int .u8 0, .int .u8 0, .int .u32 77, .int .u16 7, .int .u8 0, .int .u8 0, .int .u32 77, .int .u16 7, .int .u8 0, .int .u8 0, .int .u32 77] 47) = w2 at *
  refine (isame_any _ _ _ _ [mark, mark, mark] _ C1 C2 (by simp)).mono ?_
  rintro e w3 ⟨rfl, n2, rfl⟩
  clear C1 C2
  have G2 : w.grownBy (w2.drewN n2) none := grown_trans G1 (grown_drewN _ _ _)
  have B2 : BlkN (w2.drewN n2) 47 g (cap * 4) := B1
  clear G1 B1
  generalize w2.drewN n2 = w3 at *
  go_wp2_with fail
  refine (ispoil_any g (xs.length + 3) cap _ B2 hc hcm0 (by omega)).mono ?_
  rintro e w4 ⟨rfl, G3⟩
  have G4 : w.grownBy w4 (some g) := grown_trans (grown_mono G2) G3
  clear G3 G2 B2
  go_wp2
  go_ret
  exact ⟨rfl, G4⟩

theorem ispoil_own {base : Nat} {v : Value} {xs : List In} (w : World) (h : IOwns w base v xs) (hm : (xs.length + 1) * 8 ≤ 140737488355328) :
    Calls Try.prog 31 #[v] w fun e w' => e = .returned (.tuple #[]) ∧ w.grownBy w' v.ownBlock := by
  rcases h.2 with ⟨rfl, _⟩ | ⟨g, cap, cur, rfl, hb, hg, hc, hcm, hs, ht⟩
  · exact ispoil_nil w
  · exact ispoil_any g xs.length cap w ⟨cur, hg, hs⟩ hc hcm hm

end Go.Proofs.Ytaldhnionkacmaa
