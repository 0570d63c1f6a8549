/-
  Tokens in memory: four cells each; SameTokens, SpoilTokens.
-/
import Derived.Test.YthmfpodibgheiaaDoorLexV
import Derived.Test.YthmfpodibgheiaaDoorICopy
import Derived.Test.YthmfpodibgheiaaDoorCopy
namespace Go.Proofs.YthmfpodibgheiaaDoor
open Go.RowKit
set_option maxRecDepth 100000

def Tk.cells (x : Tk) : List Value := [.int .i64 (x.kind : Int), .int .i64 (x.pos : Int), str x.text, .int .u32 (x.num : Int)]

/-- The cells of a list of them. -/
def flatT (xs : List Tk) : List Value := xs.flatMap Tk.cells

theorem flatT_nil : flatT [] = [] := rfl
theorem flatT_cons (x : Tk) (xs : List Tk) : flatT (x :: xs) = x.cells ++ flatT xs := rfl
theorem flatT_append (xs ys : List Tk) : flatT (xs ++ ys) = flatT xs ++ flatT ys := by simp only [flatT, List.flatMap_append]

theorem flatT_len (xs : List Tk) : (flatT xs).length = xs.length * 4 := by
  induction xs with
  | nil => rfl
  | cons x xs ih => rw [flatT_cons, List.length_append, ih, List.length_cons]; simp [Tk.cells]; omega

theorem flatT_get (xs : List Tk) (i j : Nat) (hi : i < xs.length) (hj : j < 4) : (flatT xs)[i * 4 + j]? = (xs[i].cells)[j]? := by
  induction xs generalizing i with
  | nil => simp at hi
  | cons x xs ih =>
    rw [flatT_cons]
    have hl : x.cells.length = 4 := rfl
    cases i with
    | zero => rw [List.getElem?_append_left (by omega)]; simp
    | succ i =>
      rw [List.getElem?_append_right (by omega), hl, show (i + 1) * 4 + j - 4 = i * 4 + j by omega, ih i (by simpa using hi)]
      simp

theorem flatT_one (xs : List Tk) : ∀ u ∈ flatT xs, u.oneCell' = true := by
  intro u hu
  obtain ⟨x, _, hx⟩ := List.mem_flatMap.1 hu
  simp only [Tk.cells, List.mem_cons, List.not_mem_nil, or_false] at hx
  rcases hx with rfl | rfl | rfl | rfl <;> rfl

theorem CV.toks {w : World} {ao : Option Addr} {xs : List Tk} (h : CV w ao (flatT xs)) {k : Nat} (hk : k < xs.length) :
    ∃ b off, ao = some ⟨b, off, none⟩ ∧ ∀ i (hi : i < xs.length), w.cell? ⟨b, off + i * 4, none⟩ = some (.int .i64 (xs[i].kind : Int)) ∧ w.cell? ⟨b, off + i * 4 + 1, none⟩ = some (.int .i64 (xs[i].pos : Int)) ∧
      w.cell? ⟨b, off + i * 4 + 2, none⟩ = some (str xs[i].text) ∧ w.cell? ⟨b, off + i * 4 + 3, none⟩ = some (.int .u32 (xs[i].num : Int)) := by
  have hl := flatT_len xs
  obtain ⟨b, off, hao, hc⟩ := h.addr (k := k * 4) (by omega)
  refine ⟨b, off, hao, fun i hi => ?_⟩
  have key : ∀ j (hj : j < 4), w.cell? ⟨b, off + i * 4 + j, none⟩ = (xs[i].cells)[j]? := fun j hj => by
    rw [← flatT_get xs i j hi hj, Nat.add_assoc, hc (i * 4 + j) (by omega), List.getElem?_eq_getElem (by omega)]
  exact ⟨key 0 (by omega), key 1 (by omega), key 2 (by omega), key 3 (by omega)⟩

set_option maxHeartbeats 400000 in
theorem tsame_any (a b : Option Addr) (ca cb : Nat) (xs : List Tk) (w : World) (ha : CV w a (flatT xs)) (hb : CV w b (flatT xs)) (hm : xs.length ≤ 9223372036854775807) :
    Calls Tryd.prog 11 #[.slice a xs.length ca, .slice b xs.length cb] w fun e w' => e = .returned (.bool true) ∧ ∃ n, w' = w.drewN n := by
  have hne : ((xs.length : Int) != (xs.length : Int)) = false := by simp
  go_enter Tryd.func11, Tryd.ntmps11
  go_wp2
  go_loopw [5] (fun i wr => ∃ k : Nat, k ≤ xs.length ∧ i = .int .i64 k ∧ ∃ n, wr = w.drewN n) (fun i _ => xs.length - (intOf i).toNat)
  case atStart => exact ⟨0, Nat.zero_le _, rfl, 0, rfl⟩
  case round =>
    obtain ⟨k, hk, rfl, n, rfl⟩ := hrel
    by_cases hlt : k < xs.length
    · obtain ⟨b1, o1, rfl, h1⟩ := ha.toks hlt
      obtain ⟨b2, o2, rfl, h2⟩ := hb.toks hlt
      obtain ⟨c1, c2, c3, c4⟩ := h1 k hlt
      obtain ⟨d1, d2, d3, d4⟩ := h2 k hlt
      clear ha hb h1 h2
      generalize xs[k] = x at *
      obtain ⟨xk, xp, xt, xn⟩ := x
      simp only at *
      generalize (⟨xt.toArray⟩ : ByteArray) = xb at *
      have hl : (k : Int) < (xs.length : Int) := by omega
      go_wp2
      go_quiet (fail)
      go_wp2
      go_roundw
      case rel => exact ⟨k + 1, by omega, by go_num, _, by rfl⟩
      case measure => simp [intOf]; omega
    · go_wp2
      go_ret
      exact ⟨rfl, n, rfl⟩

theorem info32 : (Tryd.prog.info? 32).map (fun i => (i.zero, i.size, i.bytes)) = some (some (.agg #[.int .i64 0, .int .i64 0, .string .empty, .int .u32 0]), 4, 40) := by kernel_rfl
/-- An owned row of tokens. -/
abbrev TOwns (w : World) (base : Nat) (v : Value) (xs : List Tk) : Prop := w.ownsRow base 32 4 v xs.length (flatT xs)

/-- The two loops of SpoilTokens, behind its append. -/
def TSpoilRel (w : World) (row : Option Nat) (g g' n n' : Nat) (wr : World) : Prop := BlkN wr 32 g n ∧ BlkN wr 32 g' n' ∧ w.grownBy wr row
theorem TSpoilRel.set {w wr : World} {row : Option Nat} {g g' n n' : Nat} (h : TSpoilRel w row g g' n n' wr) {p : Addr} (hp : row = some p.block ∨ w.heap.size ≤ p.block) (u : Value) : TSpoilRel w row g g' n n' (wr.setCell p u) :=
  ⟨h.1.setCell _ _, h.2.1.setCell _ _, grown_setCell h.2.2 _ _ hp⟩

set_option maxRecDepth 100000 in
set_option maxHeartbeats 1000000 in
theorem tspoil_any (g n cap : Nat) (w : World) (hb : BlkN w 32 g (cap * 4)) (hn : n ≤ cap) (hcm : cap ≤ maxLen) (hm : (n + 1) * 40 ≤ 140737488355328) :
    Calls Tryd.prog 12 #[.slice (some ⟨g, 0, none⟩) n cap] w fun e w' => e = .returned (.tuple #[]) ∧ w.grownBy w' (some g) := by
  obtain ⟨i0, hi, hz0, hz1, hz2⟩ := info_parts info32
  have H : Hid (BlkN w 32 g (cap * 4)) := hb
  clear hb
  go_enter Tryd.func12, Tryd.ntmps12
  go_wp2_with (at_builtin; refine wpList_append_blkN rfl (.tmp 5) (.tmp 7) 22 rfl 32 i0 _ 4 40 Tryd.underlying22 hi hz0 hz1 hz2 rfl (by decide) g n cap rfl ?q1 hn hcm ⟨w.heap.size, 0, none⟩ 1 1 ([.int .i64 77, .int .i64 (-7), str [], .int .u32 0]) rfl rfl ?q2 (by simp [Value.oneCell']) ?q3 ?q4 ?q5)
  case q1 => exact H.out.kept (World.grownBy_alloc _ _ none) (by simp)
  case q2 => exact cv_lit w _ _
  case q3 => unfold maxLen; omega
  case q4 => omega
  case q5 =>
    intro g' cap' w1 hg' hb1 hb2 hc' hcm' hgr
    have R : TSpoilRel w (some g) g g' (cap * 4) (cap' * 4) w1 := ⟨hb1, hb2, grown_trans (World.grownBy_alloc _ _ _) hgr⟩
    have hp : some g = some g' ∨ w.heap.size ≤ g' := by
      rcases hg' with e | e
      · exact .inl (by rw [e])
      · right; omega
    clear hg' hb1 hb2 hgr
    unfold maxLen at hcm hcm'
    go_wp2
    go_loopw [3] (fun i wr => ∃ k : Nat, k ≤ n + 1 ∧ i = .int .i64 k ∧ TSpoilRel w (some g) g g' (cap * 4) (cap' * 4) wr) (fun i _ => n + 1 - (intOf i).toNat)
    case atStart => exact ⟨0, Nat.zero_le _, rfl, R⟩
    case round =>
      clear R
      obtain ⟨k, hk, rfl, R⟩ := hrel
      by_cases hlt : k < n + 1
      · obtain ⟨u0, hu0⟩ := R.2.1.cell (i := k * 4) (by omega)
        obtain ⟨u1, hu1⟩ := R.2.1.cell (i := k * 4 + 1) (by omega)
        obtain ⟨u2, hu2⟩ := R.2.1.cell (i := k * 4 + 2) (by omega)
        obtain ⟨u3, hu3⟩ := R.2.1.cell (i := k * 4 + 3) (by omega)
        have hf0 := R.2.1.free (k * 4)
        have hf1 := R.2.1.free (k * 4 + 1)
        have hf2 := R.2.1.free (k * 4 + 2)
        have hf3 := R.2.1.free (k * 4 + 3)
        have R' := (((R.set (p := ⟨g', k * 4, none⟩) hp (.int .i64 77)).set (p := ⟨g', k * 4 + 1, none⟩) hp (.int .i64 (-7))).set (p := ⟨g', k * 4 + 2, none⟩) hp (.string .empty)).set (p := ⟨g', k * 4 + 3, none⟩) hp (.int .u32 0)
        clear R
        go_wp2
        go_roundw
        case rel => exact ⟨k + 1, by omega, by go_num, R'⟩
        case measure => simp [intOf]; omega
      · go_wp2
        clear hk hlt
        go_loopw [4] (fun i wr => ∃ k : Nat, k ≤ n ∧ i = .int .i64 k ∧ TSpoilRel w (some g) g g' (cap * 4) (cap' * 4) wr) (fun i _ => n - (intOf i).toNat)
        case atStart => exact ⟨0, Nat.zero_le _, rfl, R⟩
        case round =>
          clear R
          obtain ⟨k, hk, rfl, R⟩ := hrel
          by_cases hlt : k < n
          · obtain ⟨u0, hu0⟩ := R.1.cell (i := k * 4) (by omega)
            obtain ⟨u1, hu1⟩ := R.1.cell (i := k * 4 + 1) (by omega)
            obtain ⟨u2, hu2⟩ := R.1.cell (i := k * 4 + 2) (by omega)
            obtain ⟨u3, hu3⟩ := R.1.cell (i := k * 4 + 3) (by omega)
            have hf0 := R.1.free (k * 4)
            have hf1 := R.1.free (k * 4 + 1)
            have hf2 := R.1.free (k * 4 + 2)
            have hf3 := R.1.free (k * 4 + 3)
            have R' := (((R.set (p := ⟨g, k * 4, none⟩) (.inl rfl) (.int .i64 77)).set (p := ⟨g, k * 4 + 1, none⟩) (.inl rfl) (.int .i64 (-7))).set (p := ⟨g, k * 4 + 2, none⟩) (.inl rfl) (.string .empty)).set (p := ⟨g, k * 4 + 3, none⟩) (.inl rfl) (.int .u32 0)
            clear R
            go_wp2
            go_roundw
            case rel => exact ⟨k + 1, by omega, by go_num, R'⟩
            case measure => simp [intOf]; omega
          · go_wp2
            go_end0
            exact ⟨rfl, R.2.2⟩

set_option maxRecDepth 100000 in
set_option maxHeartbeats 1000000 in
theorem tspoil_nil (w : World) :
    Calls Tryd.prog 12 #[.slice none 0 0] w fun e w' => e = .returned (.tuple #[]) ∧ w.grownBy w' none := by
  obtain ⟨i0, hi, hz0, hz1, hz2⟩ := info_parts info32
  go_enter Tryd.func12, Tryd.ntmps12
  go_wp2_with (at_builtin; refine wpList_append_cv rfl (.tmp 5) (.tmp 7) 22 rfl 32 i0 _ 4 40 Tryd.underlying22 hi hz0 hz1 hz2 rfl (by decide) w.heap.size _ 0 [] rfl ?q1 (some ⟨w.heap.size, 0, none⟩) 1 1 ([.int .i64 77, .int .i64 (-7), str [], .int .u32 0]) rfl rfl (by simp) ?q2 (by simp [Value.oneCell']) ?q3 ?q4 ?q5 ?q6)
  case q1 => exact World.ownsRow_nil _ _ _ _
  case q2 => exact cv_lit w _ _
  case q3 => unfold maxLen; omega
  case q4 => omega
  case q5 => simp
  case q6 =>
    intro v' w1 h1 h2
    obtain ⟨g', cap', hv, hc, hcm, hg1, hg2⟩ := owns_head h1 (by omega)
    subst hv
    have hb2 : BlkN w1 32 g' (cap' * 4) := (BlkN.ofRow (n := 1) h1).1
    have hgr : w.grownBy w1 none := grown_trans (World.grownBy_alloc _ _ _) h2
    have R : TSpoilRel w none g' g' (cap' * 4) (cap' * 4) w1 := ⟨hb2, hb2, hgr⟩
    have hp : none = some g' ∨ w.heap.size ≤ g' := .inr hg1
    clear hb2 hgr h1 h2
    unfold maxLen at hcm
    go_wp2
    go_loopw [3] (fun i wr => ∃ k : Nat, k ≤ 1 ∧ i = .int .i64 k ∧ TSpoilRel w none g' g' (cap' * 4) (cap' * 4) wr) (fun i _ => 1 - (intOf i).toNat)
    case atStart => exact ⟨0, Nat.zero_le _, rfl, R⟩
    case round =>
      clear R
      obtain ⟨k, hk, rfl, R⟩ := hrel
      by_cases hlt : k < 1
      · obtain rfl : k = 0 := by omega
        obtain ⟨u0, hu0⟩ := R.2.1.cell (i := 0) (by omega)
        obtain ⟨u1, hu1⟩ := R.2.1.cell (i := 1) (by omega)
        obtain ⟨u2, hu2⟩ := R.2.1.cell (i := 2) (by omega)
        obtain ⟨u3, hu3⟩ := R.2.1.cell (i := 3) (by omega)
        have hf0 := R.2.1.free 0
        have hf1 := R.2.1.free 1
        have hf2 := R.2.1.free 2
        have hf3 := R.2.1.free 3
        have R' := (((R.set (p := ⟨g', 0, none⟩) hp (.int .i64 77)).set (p := ⟨g', 1, none⟩) hp (.int .i64 (-7))).set (p := ⟨g', 2, none⟩) hp (.string .empty)).set (p := ⟨g', 3, none⟩) hp (.int .u32 0)
        clear R
        go_wp2
        go_roundw
        case rel => exact ⟨1, by omega, by go_num, R'⟩
        case measure => simp [intOf]
      · obtain rfl : k = 1 := by omega
        go_wp2
        refine wp_loop_rounds 1 ?_
        rw [rounds_succ]
        go_wp2
        go_end0
        exact ⟨rfl, R.2.2⟩

theorem tspoil_own {base : Nat} {v : Value} {xs : List Tk} (w : World) (h : TOwns w base v xs) (hm : (xs.length + 1) * 40 ≤ 140737488355328) :
    Calls Tryd.prog 12 #[v] w fun e w' => e = .returned (.tuple #[]) ∧ w.grownBy w' v.ownBlock := by
  rcases h.2 with ⟨rfl, _⟩ | ⟨g, cap, cur, rfl, hb, hg, hc, hcm, hs, ht⟩
  · exact tspoil_nil w
  · exact tspoil_any g xs.length cap w ⟨cur, hg, hs⟩ hc hcm hm

end Go.Proofs.YthmfpodibgheiaaDoor
