/-
  Lists of ints: SameInts, SpoilInts.
-/
import Derived.Test.YtaldhnionkacmaaICopy
namespace Go.Proofs.Ytaldhnionkacmaa
open Go.RowKit
set_option maxRecDepth 100000

theorem infoI3 : (Try.prog.info? 3).map (fun i => (i.zero, i.size, i.bytes)) = some (some (.int .i64 0), 1, 8) := by kernel_rfl

def iv (z : Int) : Value := .int .i64 z

abbrev ZOwns (w : World) (base : Nat) (v : Value) (bs : List Int) : Prop := w.ownsRow base 3 1 v bs.length (bs.map iv)

theorem CV.ints {w : World} {ao : Option Addr} {bs : List Int} (h : CV w ao (bs.map iv)) {k : Nat} (hk : k < bs.length) :
    ∃ b off, ao = some ⟨b, off, none⟩ ∧ ∀ i (hi : i < bs.length), w.cell? ⟨b, off + i, none⟩ = some (.int .i64 bs[i]) := by
  obtain ⟨b, off, hao, hc⟩ := h.addr (k := k) (by simpa using hk)
  exact ⟨b, off, hao, fun i hi => by rw [hc i (by simpa using hi)]; simp [iv]⟩

set_option maxHeartbeats 400000 in
theorem zsame_any (a b : Option Addr) (ca cb : Nat) (xs : List Int) (w : World) (ha : CV w a (xs.map iv)) (hb : CV w b (xs.map iv)) (hm : xs.length ≤ 9223372036854775807) :
    Calls Try.prog 19 #[.slice a xs.length ca, .slice b xs.length cb] w fun e w' => e = .returned (.bool true) ∧ ∃ n, w' = w.drewN n := by
  have hne : ((xs.length : Int) != (xs.length : Int)) = false := by simp
  go_enter Try.func19, Try.ntmps19
  go_wp2
  go_loopw [5] (fun i wr => ∃ k : Nat, k ≤ xs.length ∧ i = .int .i64 k ∧ ∃ n, wr = w.drewN n) (fun i _ => xs.length - (intOf i).toNat)
  case atStart => exact ⟨0, Nat.zero_le _, rfl, 0, rfl⟩
  case round =>
    obtain ⟨k, hk, rfl, n, rfl⟩ := hrel
    by_cases hlt : k < xs.length
    · obtain ⟨b1, o1, rfl, h1⟩ := ha.ints hlt
      obtain ⟨b2, o2, rfl, h2⟩ := hb.ints hlt
      have c1 := h1 k hlt
      have c2 := h2 k hlt
      clear ha hb h1 h2
      generalize xs[k] = z at *
      have hl : (k : Int) < (xs.length : Int) := by omega
      go_wp2
      go_quiet (fail)
      go_wp2
      go_roundw
      case rel => exact ⟨k + 1, by omega, by go_num, _, by rfl⟩
      case measure => simp [intOf]; omega
    · go_wp2
      go_ret
      exact ⟨rfl, n, rfl⟩

/-- The two loops of SpoilInts, behind its append. -/
def ZSpoilRel (w : World) (row : Option Nat) (g g' n n' : Nat) (wr : World) : Prop := BlkN wr 3 g n ∧ BlkN wr 3 g' n' ∧ w.grownBy wr row

theorem ZSpoilRel.set {w wr : World} {row : Option Nat} {g g' n n' : Nat} (h : ZSpoilRel w row g g' n n' wr) {p : Addr} (hp : row = some p.block ∨ w.heap.size ≤ p.block) (u : Value) : ZSpoilRel w row g g' n n' (wr.setCell p u) :=
  ⟨h.1.setCell _ _, h.2.1.setCell _ _, grown_setCell h.2.2 _ _ hp⟩

set_option maxHeartbeats 1000000 in
theorem zspoil_any (g n cap : Nat) (w : World) (hb : BlkN w 3 g (cap * 1)) (hn : n ≤ cap) (hcm : cap ≤ maxLen) (hm : (n + 1) * 8 ≤ 140737488355328) :
    Calls Try.prog 20 #[.slice (some ⟨g, 0, none⟩) n cap] w fun e w' => e = .returned (.tuple #[]) ∧ w.grownBy w' (some g) := by
  obtain ⟨i0, hi, hz0, hz1, hz2⟩ := info_parts infoI3
  have H : Hid (BlkN w 3 g (cap * 1)) := hb
  clear hb
  go_enter Try.func20, Try.ntmps20
  go_wp2_with (at_builtin; refine wpList_append_blkN rfl (.tmp 5) (.tmp 6) 27 rfl 3 i0 (.int .i64 0) 1 8 Try.underlying27 hi hz0 hz1 hz2 rfl (by decide) g n cap rfl ?q1 hn hcm ⟨w.heap.size, 0, none⟩ 1 1 [.int .i64 (-77)] rfl rfl ?q2 (by simp [Value.oneCell']) ?q3 ?q4 ?q5)
  case q1 => exact H.out.kept (World.grownBy_alloc _ _ none) (by simp)
  case q2 => exact cv_lit w _ _
  case q3 => unfold maxLen; omega
  case q4 => omega
  case q5 =>
    intro g' cap' w1 hg' hb1 hb2 hc' hcm' hgr
    have R : ZSpoilRel w (some g) g g' (cap * 1) (cap' * 1) w1 := ⟨by rw [Nat.mul_one]; exact hb1, by rw [Nat.mul_one]; exact hb2, grown_trans (World.grownBy_alloc _ _ _) hgr⟩
    have hp : some g = some g' ∨ w.heap.size ≤ g' := by
      rcases hg' with e | e
      · exact .inl (by rw [e])
      · right; omega
    clear hg' hb1 hb2 hgr
    unfold maxLen at hcm hcm'
    go_wp2
    go_loopw [3] (fun i wr => ∃ k : Nat, k ≤ n + 1 ∧ i = .int .i64 k ∧ ZSpoilRel w (some g) g g' (cap * 1) (cap' * 1) wr) (fun i _ => n + 1 - (intOf i).toNat)
    case atStart => exact ⟨0, Nat.zero_le _, rfl, R⟩
    case round =>
      clear R
      obtain ⟨k, hk, rfl, R⟩ := hrel
      by_cases hlt : k < n + 1
      · obtain ⟨u0, hu0⟩ := R.2.1.cell (i := k) (by omega)
        have hf0 := R.2.1.free k
        have R' := R.set (p := ⟨g', k, none⟩) hp (.int .i64 (-77))
        clear R
        go_wp2
        go_roundw
        case rel => exact ⟨k + 1, by omega, by go_num, R'⟩
        case measure => simp [intOf]; omega
      · go_wp2
        clear hk hlt
        go_loopw [4] (fun i wr => ∃ k : Nat, k ≤ n ∧ i = .int .i64 k ∧ ZSpoilRel w (some g) g g' (cap * 1) (cap' * 1) wr) (fun i _ => n - (intOf i).toNat)
        case atStart => exact ⟨0, Nat.zero_le _, rfl, R⟩
        case round =>
          clear R
          obtain ⟨k, hk, rfl, R⟩ := hrel
          by_cases hlt : k < n
          · obtain ⟨u0, hu0⟩ := R.1.cell (i := k) (by omega)
            have hf0 := R.1.free k
            have R' := R.set (p := ⟨g, k, none⟩) (.inl rfl) (.int .i64 (-77))
            clear R
            go_wp2
            go_roundw
            case rel => exact ⟨k + 1, by omega, by go_num, R'⟩
            case measure => simp [intOf]; omega
          · go_wp2
            go_end0
            exact ⟨rfl, R.2.2⟩

set_option maxHeartbeats 1000000 in
theorem zspoil_nil (w : World) :
    Calls Try.prog 20 #[.slice none 0 0] w fun e w' => e = .returned (.tuple #[]) ∧ w.grownBy w' none := by
  obtain ⟨i0, hi, hz0, hz1, hz2⟩ := info_parts infoI3
  go_enter Try.func20, Try.ntmps20
  go_wp2_with (at_builtin; refine wpList_append_cv rfl (.tmp 5) (.tmp 6) 27 rfl 3 i0 (.int .i64 0) 1 8 Try.underlying27 hi hz0 hz1 hz2 rfl (by decide) w.heap.size _ 0 [] rfl ?q1 (some ⟨w.heap.size, 0, none⟩) 1 1 [.int .i64 (-77)] rfl rfl (by simp) ?q2 (by simp [Value.oneCell']) ?q3 ?q4 ?q5 ?q6)
  case q1 => exact World.ownsRow_nil _ _ _ _
  case q2 => exact cv_lit w _ _
  case q3 => unfold maxLen; omega
  case q4 => omega
  case q5 => simp
  case q6 =>
    intro v' w1 h1 h2
    obtain ⟨g', cap', hv, hc, hcm, hg1, hg2⟩ := owns_head h1 (by omega)
    subst hv
    have hb2 : BlkN w1 3 g' (cap' * 1) := (BlkN.ofRow (n := 1) h1).1
    have hgr : w.grownBy w1 none := grown_trans (World.grownBy_alloc _ _ _) h2
    have R : ZSpoilRel w none g' g' (cap' * 1) (cap' * 1) w1 := ⟨hb2, hb2, hgr⟩
    have hp : none = some g' ∨ w.heap.size ≤ g' := .inr hg1
    clear hb2 hgr h1 h2
    unfold maxLen at hcm
    go_wp2
    go_loopw [3] (fun i wr => ∃ k : Nat, k ≤ 1 ∧ i = .int .i64 k ∧ ZSpoilRel w none g' g' (cap' * 1) (cap' * 1) wr) (fun i _ => 1 - (intOf i).toNat)
    case atStart => exact ⟨0, Nat.zero_le _, rfl, R⟩
    case round =>
      clear R
      obtain ⟨k, hk, rfl, R⟩ := hrel
      by_cases hlt : k < 1
      · obtain rfl : k = 0 := by omega
        obtain ⟨u0, hu0⟩ := R.2.1.cell (i := 0) (by omega)
        have hf0 := R.2.1.free 0
        have R' := R.set (p := ⟨g', 0, none⟩) hp (.int .i64 (-77))
        clear R
        go_wp2
        go_roundw
        case rel => exact ⟨1, by omega, by go_num, R'⟩
        case measure => simp [intOf]
      · obtain rfl : k = 1 := by omega
        go_wp2
        refine wp_loop_rounds 1 ?_
        rw [rounds_succ]
        go_wp2
        go_end0
        exact ⟨rfl, R.2.2⟩

theorem zspoil_own {base : Nat} {v : Value} {xs : List Int} (w : World) (h : ZOwns w base v xs) (hm : (xs.length + 1) * 8 ≤ 140737488355328) :
    Calls Try.prog 20 #[v] w fun e w' => e = .returned (.tuple #[]) ∧ w.grownBy w' v.ownBlock := by
  rcases h.2 with ⟨rfl, _⟩ | ⟨g, cap, cur, rfl, hb, hg, hc, hcm, hs, ht⟩
  · exact zspoil_nil w
  · exact zspoil_any g xs.length cap w ⟨cur, hg, hs⟩ hc hcm hm

end Go.Proofs.Ytaldhnionkacmaa
