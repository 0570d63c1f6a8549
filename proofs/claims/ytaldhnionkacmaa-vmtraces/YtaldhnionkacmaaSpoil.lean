/-
  SpoilBytes writes its own block alone; KeptBytes tells that what was lent is as it was.
-/
import Derived.Test.YtaldhnionkacmaaCopy
namespace Go.Proofs.Ytaldhnionkacmaa
open Go.RowKit
set_option maxRecDepth 100000

/-- A block of bytes that may be written. -/
def Blk (w : World) (g cap : Nat) : Prop := ∃ cur : Array Value, w.heap[g]? = some (.cells cur 5 (0, 0)) ∧ cur.size = cap

theorem Blk.cell {w : World} {g cap : Nat} (h : Blk w g cap) {i : Nat} (hi : i < cap) : ∃ u, w.cell? ⟨g, i, none⟩ = some u := by
  obtain ⟨cur, hh, hs⟩ := h
  refine ⟨cur[i], ?_⟩
  rw [cell_of_row w g i cur _ _ hh]
  simp

theorem Blk.free {w : World} {g cap : Nat} (h : Blk w g cap) (i : Nat) : w.frozen? ⟨g, i, none⟩ = false := by
  obtain ⟨cur, hh, hs⟩ := h
  simp [World.frozen?, hh]

theorem Blk.lt {w : World} {g cap : Nat} (h : Blk w g cap) : g < w.heap.size := by
  obtain ⟨cur, hh, hs⟩ := h
  exact (Array.getElem?_eq_some_iff.1 hh).1

theorem Blk.setCell {w : World} {g cap : Nat} (h : Blk w g cap) (a : Addr) (u : Value) : Blk (w.setCell a u) g cap := by
  obtain ⟨cur, hh, hs⟩ := h
  by_cases e : g = a.block
  · subst e
    by_cases hsp : a.spot.isSome = true
    · refine ⟨cur, ?_, hs⟩
      simp only [World.setCell, Array.getElem?_modify, hh]
      simp [hsp]
    · refine ⟨cur.setIfInBounds a.off u, ?_, by simpa using hs⟩
      simp only [World.setCell, Array.getElem?_modify, hh]
      simp [hsp]
  · exact ⟨cur, by rw [Below.heap_setCell _ _ _ _ e]; exact hh, hs⟩

theorem Blk.kept {w w' : World} {g cap : Nat} {row : Option Nat} (h : Blk w g cap) (hg : w.grownBy w' row) (hne : some g ≠ row) : Blk w' g cap := by
  have hl := h.lt
  obtain ⟨cur, hh, hs⟩ := h
  exact ⟨cur, by rw [hg.block g hl hne]; exact hh, hs⟩

theorem Blk.ofRow {w : World} {base g n cap : Nat} {xs : List Value} (h : w.ownsRow base 5 1 (.slice (some ⟨g, 0, none⟩) n cap) n xs) : Blk w g cap ∧ n ≤ cap ∧ cap ≤ maxLen := by
  rcases h.2 with ⟨h, _⟩ | ⟨g', cap', cur, hv, hb, hg, hc, hm, hs, ht⟩
  · cases h
  · simp only [Value.slice.injEq, Option.some.injEq, Addr.mk.injEq] at hv
    obtain ⟨⟨rfl, _⟩, _, rfl⟩ := hv
    exact ⟨⟨cur, hg, by simpa using hs⟩, hc, hm⟩

theorem grown_set1 (w : World) (p : Addr) (u : Value) : w.grownBy (w.setCell p u) (some p.block) :=
  ⟨rfl, rfl, rfl, by simp, fun i _ hne => Below.heap_setCell _ _ _ _ (fun e => hne (by rw [e]))⟩

theorem grown_setCell {a w : World} {row : Option Nat} (h : a.grownBy w row) (p : Addr) (u : Value) (hp : row = some p.block ∨ a.heap.size ≤ p.block) : a.grownBy (w.setCell p u) row := by
  rcases hp with e | e
  · subst e
    exact grown_trans h (grown_set1 w p u)
  · exact grown_trans_new h (grown_set1 w p u) (by intro x hx; obtain rfl := Option.some.inj hx; exact e)

theorem Blk.row {w : World} {g cap : Nat} (h : Blk w g cap) (n : Nat) (hn : n ≤ cap) (hm : cap ≤ maxLen) : ∃ xs : List Value, w.ownsRow 0 5 1 (.slice (some ⟨g, 0, none⟩) n cap) n xs := by
  obtain ⟨cur, hh, hs⟩ := h
  exact ⟨cur.toList.take (n * 1), by simp; omega, .inr ⟨g, cap, cur, rfl, Nat.zero_le _, hh, hn, hm, by simpa using hs, rfl⟩⟩

/-- 'append(x, ..)', x at its block's head: it stays there, or lies in a new block. -/
theorem wpList_append_blk {P : Program} {w : World} {ops : Array Oper} {rest : List Oper} {o : Oper} {a : Act} {Q : Exit → Act → World → Prop} (hgd : o.guard = none) (s x : Operand) (t : TypeId)
    (ho : o.op = .call { callee := .builtin .append, args := #[s, x], argTypes := #[t, t] })
    (i : TypeInfo) (ht : P.underlying t = some (.slice 5)) (hi : P.info? 5 = some i) (hz : i.zero = some (.int .u8 0)) (hsize : i.size = 1) (hby : i.bytes = 1)
    (g n cap : Nat) (hs : a.eval s = .slice (some ⟨g, 0, none⟩) n cap) (hb : Blk w g cap) (hn : n ≤ cap) (hm : cap ≤ maxLen)
    (ad : Addr) (c : Nat) (ys : List UInt8) (hx : a.eval x = .slice (some ad) ys.length c) (hys : Cells w (some ad) ys)
    (hbytes : n + ys.length ≤ 140737488355328)
    (h : ∀ g' cap' w', (g' = g ∨ w.heap.size ≤ g') → Blk w' g cap → Blk w' g' cap' → n + ys.length ≤ cap' → cap' ≤ maxLen → w.grownBy w' (some g) → wpList P ops Q rest (a.put o.dst (.slice (some ⟨g', 0, none⟩) (n + ys.length) cap')) w') : wpList P ops Q (o :: rest) a w := by
  obtain ⟨xs, hrow⟩ := hb.row n hn hm
  have hcells : ∀ j u, (ys.map bv)[j]? = some u → w.cell? (ad.add j) = some u := by
    intro j u hj
    obtain ⟨hlt, e⟩ := List.getElem?_eq_some_iff.1 hj
    simp only [List.length_map] at hlt
    rw [hys.2 ad rfl j hlt, ← e]
    simp
  by_cases hr : n + ys.length ≤ cap
  · refine wpList_append_fits w hgd s x t ho 0 5 i 1 ht hi hsize g n cap xs hs hrow ad ys.length c (ys.map bv) hx (by simp) hcells (bv_one ys) hr ?_
    intro w' h1 h2
    have k := Blk.ofRow h1
    exact h g cap w' (.inl rfl) k.1 k.1 k.2.1 k.2.2 h2
  · refine wpList_append_grows w hgd s x t ho 5 i (.int .u8 0) 1 1 ht hi hz hsize hby rfl (by decide) (some ⟨g, 0, none⟩) n cap xs hs (by simp) hrow.1 ?_ ad ys.length c (ys.map bv) hx (by simp) hcells (bv_one ys) (by omega) (by unfold maxLen; omega) (by omega) ?_
    · intro b hb' j u hj
      obtain rfl := Option.some.inj hb'
      exact hrow.cells (g := g) rfl j u hj
    · intro v' w' h1 h2
      rcases h1.2 with ⟨rfl, hn0⟩ | ⟨g', cap', cur, rfl, hbb, hgg, hc, hmm, hss, htt⟩
      · omega
      · exact h g' cap' w' (.inr hbb) (hb.kept h2 (by simp)) ⟨cur, hgg, by simpa using hss⟩ hc hmm (grown_mono h2)

/-- The two loops of SpoilBytes, behind its append. -/
def SpoilRel (w : World) (row : Option Nat) (g g' cap cap' : Nat) (wr : World) : Prop := Blk wr g cap ∧ Blk wr g' cap' ∧ w.grownBy wr row

theorem SpoilRel.store1 {w wr : World} {row : Option Nat} {g g' cap cap' : Nat} (h : SpoilRel w row g g' cap cap' wr) (hp : row = some g ∨ w.heap.size ≤ g) (i : Nat) (u : Value) : SpoilRel w row g g' cap cap' (wr.setCell ⟨g, i, none⟩ u) :=
  ⟨h.1.setCell _ _, h.2.1.setCell _ _, grown_setCell h.2.2 _ _ hp⟩

theorem SpoilRel.store2 {w wr : World} {row : Option Nat} {g g' cap cap' : Nat} (h : SpoilRel w row g g' cap cap' wr) (hp : row = some g' ∨ w.heap.size ≤ g') (i : Nat) (u : Value) : SpoilRel w row g g' cap cap' (wr.setCell ⟨g', i, none⟩ u) :=
  ⟨h.1.setCell _ _, h.2.1.setCell _ _, grown_setCell h.2.2 _ _ hp⟩

set_option maxHeartbeats 1000000 in
theorem spoil_any (g n cap : Nat) (w : World) (hb : Blk w g cap) (hn : n ≤ cap) (hcm : cap ≤ maxLen) (hm : n + 1 ≤ 140737488355328) :
    Calls Try.prog 33 #[.slice (some ⟨g, 0, none⟩) n cap] w fun e w' => e = .returned (.tuple #[]) ∧ w.grownBy w' (some g) := by
  obtain ⟨i0, hi, hz0, hz1, hz2⟩ := info_parts info5
  have H : Hid (Blk w g cap) := hb
  clear hb
  go_enter Try.func33, Try.ntmps33
  go_wp2_with (at_builtin; refine wpList_append_blk rfl (.tmp 5) (.tmp 6) 23 rfl i0 Try.underlying23 hi hz0 hz1 hz2 g n cap rfl ?q1 hn hcm ⟨w.heap.size, 0, none⟩ 1 [201] rfl ?q2 ?q3 ?q4)
  case q1 => exact H.out.kept (World.grownBy_alloc _ _ none) (by simp)
  case q2 => exact cells_lit w [201]
  case q3 => simpa using hm
  case q4 =>
    intro g' cap' w1 hg' hb1 hb2 hc' hcm' hgr
    have R : SpoilRel w (some g) g g' cap cap' w1 := ⟨hb1, hb2, grown_trans (World.grownBy_alloc _ _ _) hgr⟩
    have hp : some g = some g' ∨ w.heap.size ≤ g' := by
      rcases hg' with e | e
      · exact .inl (by rw [e])
      · right; omega
    clear hg' hb1 hb2 hgr
    unfold maxLen at hcm hcm'
    go_wp2
    go_loopw [3] (fun i wr => ∃ k : Nat, k ≤ n + 1 ∧ i = .int .i64 k ∧ SpoilRel w (some g) g g' cap cap' wr) (fun i _ => n + 1 - (intOf i).toNat)
    case atStart => exact ⟨0, Nat.zero_le _, rfl, R⟩
    case round =>
      obtain ⟨k, hk, rfl, R⟩ := hrel
      by_cases hlt : k < n + 1
      · obtain ⟨u, hu⟩ := R.2.1.cell (i := k) (by omega)
        have hf := R.2.1.free k
        have R' := R.store2 hp k (.int .u8 201)
        clear R
        go_wp2
        go_roundw
        case rel => exact ⟨k + 1, by omega, by go_num, R'⟩
        case measure => simp [intOf]; omega
      · go_wp2
        clear hk hlt
        go_loopw [4] (fun i wr => ∃ k : Nat, k ≤ n ∧ i = .int .i64 k ∧ SpoilRel w (some g) g g' cap cap' wr) (fun i _ => n - (intOf i).toNat)
        case atStart => exact ⟨0, Nat.zero_le _, rfl, R⟩
        case round =>
          clear R
          obtain ⟨k, hk, rfl, R⟩ := hrel
          by_cases hlt : k < n
          · obtain ⟨u, hu⟩ := R.1.cell (i := k) (by omega)
            have hf := R.1.free k
            have R' := R.store1 (.inl rfl) k (.int .u8 201)
            clear R
            go_wp2
            go_roundw
            case rel => exact ⟨k + 1, by omega, by go_num, R'⟩
            case measure => simp [intOf]; omega
          · go_wp2
            go_end0
            exact ⟨rfl, R.2.2⟩

set_option maxHeartbeats 1000000 in
theorem spoil_nil (w : World) :
    Calls Try.prog 33 #[.slice none 0 0] w fun e w' => e = .returned (.tuple #[]) ∧ w.grownBy w' none := by
  obtain ⟨i0, hi, hz0, hz1, hz2⟩ := info_parts info5
  go_enter Try.func33, Try.ntmps33
  go_wp2_with (at_builtin; refine wpList_append_rd rfl (.tmp 5) (.tmp 6) 23 rfl i0 Try.underlying23 hi hz0 hz1 hz2 w.heap.size _ [] rfl ?q1 (some ⟨w.heap.size, 0, none⟩) 1 [201] rfl (by simp) ?q2 ?q3 ?q4 ?q5)
  case q1 => exact World.ownsRow_nil _ _ _ _
  case q2 => exact cells_lit w [201]
  case q3 => simp
  case q4 => simp
  case q5 =>
    intro v' w1 h1 h2
    obtain ⟨g', cap', hv, hc, hcm, hg1, hg2⟩ := h1.headL (by simp)
    simp only [List.length_cons, List.length_nil, Nat.zero_add] at hv hc
    subst hv
    have hb2 : Blk w1 g' cap' := (Blk.ofRow (n := 1) h1).1
    have hgr : w.grownBy w1 none := grown_trans (World.grownBy_alloc _ _ _) h2
    have R : SpoilRel w none g' g' cap' cap' w1 := ⟨hb2, hb2, hgr⟩
    have hp : none = some g' ∨ w.heap.size ≤ g' := .inr hg1
    clear hb2 hgr h1 h2
    unfold maxLen at hcm
    go_wp2
    go_loopw [3] (fun i wr => ∃ k : Nat, k ≤ 1 ∧ i = .int .i64 k ∧ SpoilRel w none g' g' cap' cap' wr) (fun i _ => 1 - (intOf i).toNat)
    case atStart => exact ⟨0, Nat.zero_le _, rfl, R⟩
    case round =>
      clear R
      obtain ⟨k, hk, rfl, R⟩ := hrel
      by_cases hlt : k < 1
      · obtain rfl : k = 0 := by omega
        obtain ⟨u, hu⟩ := R.2.1.cell (i := 0) (by omega)
        have hf := R.2.1.free 0
        have R' := R.store2 hp 0 (.int .u8 201)
        clear R
        go_wp2
        go_roundw
        case rel => exact ⟨1, by omega, by go_num, R'⟩
        case measure => simp [intOf]
      · obtain rfl : k = 1 := by omega
        go_wp2
        refine wp_loop_rounds 1 ?_
        rw [rounds_succ]
        go_wp2
        go_end0
        exact ⟨rfl, R.2.2⟩

/-- The first bytes of an owned row, and those behind. -/
theorem cells_front {w : World} {base g cap n : Nat} {xs ys : List UInt8} (h : w.ownsRow base 5 1 (.slice (some ⟨g, 0, none⟩) n cap) n ((xs ++ ys).map bv)) : Cells w (some ⟨g, 0, none⟩) xs ∧ Cells w (some ⟨g, xs.length, none⟩) ys := by
  refine ⟨⟨fun h => (by cases h), fun ad had i hi => ?_⟩, ⟨fun h => (by cases h), fun ad had i hi => ?_⟩⟩
  · obtain rfl := Option.some.inj had
    refine h.cells (g := g) rfl i _ ?_
    rw [List.map_append, List.getElem?_append_left (by simpa using hi)]
    simp [hi]
  · obtain rfl := Option.some.inj had
    have := h.cells (g := g) rfl (xs.length + i) (bv ys[i]) (by simp [hi])
    rw [Addr.add_lit, Nat.zero_add] at this
    rw [Addr.add_lit]
    exact this

set_option maxHeartbeats 1000000 in
theorem kept_any (g cap : Nat) (ao : Option Addr) (ca : Nat) (xs : List UInt8) (w : World) (hL : w.ownsRow 0 5 1 (.slice (some ⟨g, 0, none⟩) (xs.length + 3) cap) (xs.length + 3) ((xs ++ [201, 201, 201]).map bv))
    (ha : Cells w ao xs) (hm : xs.length ≤ 140737488351232) :
    Calls Try.prog 14 #[.slice (some ⟨g, 0, none⟩) xs.length cap, .slice ao xs.length ca] w fun e w' => e = .returned (.bool true) ∧ w.grownBy w' (some g) := by
  obtain ⟨hB, hc, hcm⟩ := Blk.ofRow hL
  obtain ⟨c1, c2⟩ := cells_front hL
  clear hL
  have HB : Hid (Blk w g cap) := hB
  have HC : Hid (Cells w (some ⟨g, xs.length, none⟩) [201, 201, 201]) := c2
  clear hB c2
  have hcm0 := hcm
  unfold maxLen at hcm
  have hx : (xs.length : Int) + 3 ≤ (cap : Int) := by omega
  go_enter Try.func14, Try.ntmps14
  go_wp2_with fail
  refine (same_any _ ao _ ca xs _ c1 ha (by omega)).mono ?_
  rintro e w1 ⟨rfl, n1, rfl⟩
  clear c1 ha
  go_wp2_with fail
  have G1 : w.grownBy ((w.drewN n1).alloc (.cells #[.int .u8 201, .int .u8 201, .int .u8 201] 5)) none := grown_trans (grown_drewN w n1 none) (World.grownBy_alloc _ _ _)
  have C1 := HC.out.keptNone G1
  have C2 : Cells ((w.drewN n1).alloc (.cells #[.int .u8 201, .int .u8 201, .int .u8 201] 5)) (some ⟨w.heap.size, 0, none⟩) [201, 201, 201] := cells_lit (w.drewN n1) [201, 201, 201]
  have B1 := HB.out.kept G1 (by simp)
  generalize (w.drewN n1).alloc (.cells #[.int .u8 201, .int .u8 201, .int .u8 201] 5) = w2 at *
  refine (same_any _ _ _ _ [201, 201, 201] _ C1 C2 (by simp)).mono ?_
  rintro e w3 ⟨rfl, n2, rfl⟩
  clear C1 C2
  have G2 : w.grownBy (w2.drewN n2) none := grown_trans G1 (grown_drewN _ _ _)
  have B2 : Blk (w2.drewN n2) g cap := B1
  clear G1 B1
  generalize w2.drewN n2 = w3 at *
  go_wp2_with fail
  refine (spoil_any g (xs.length + 3) cap _ B2 hc hcm0 (by omega)).mono ?_
  rintro e w4 ⟨rfl, G3⟩
  have G4 : w.grownBy w4 (some g) := grown_trans (grown_mono G2) G3
  clear G3 G2 B2
  go_wp2
  go_ret
  exact ⟨rfl, G4⟩

end Go.Proofs.Ytaldhnionkacmaa
