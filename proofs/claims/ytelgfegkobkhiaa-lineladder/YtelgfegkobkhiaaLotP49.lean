/-
  SpoilBlocks: blocks and their Codes are written over. SpoilInsns: its block stays one; SpoilBlocks. Low: a number without its sign.
-/
import Derived.Test.YtelgfegkobkhiaaGrY
import Derived.Test.YtelgfegkobkhiaaGrX
import Derived.Test.YtelgfegkobkhiaaLotP2
namespace Go.Proofs.Ytelgfegkobkhiaa
open Go.RowKit
set_option maxRecDepth 100000

/-- Nothing is written but new memory, and what lies from a place on. -/
def Lo (w : World) (lo hi : Nat) (w' : World) : Prop := w'.os = w.os ∧ w'.tape = w.tape ∧ w'.output = w.output ∧ w.heap.size ≤ w'.heap.size ∧ ∀ i, i < w.heap.size → ¬ (lo ≤ i ∧ i < hi) → w'.heap[i]? = w.heap[i]?
theorem Lo.refl (w : World) (lo hi : Nat) : Lo w lo hi w := ⟨rfl, rfl, rfl, Nat.le_refl _, fun _ _ _ => rfl⟩
theorem Lo.grow {w w1 w2 : World} {lo hi : Nat} (h : Lo w lo hi w1) (K : w1.grownBy w2 none) : Lo w lo hi w2 :=
  ⟨K.os.trans h.1, K.tape.trans h.2.1, K.output.trans h.2.2.1, Nat.le_trans h.2.2.2.1 K.size, fun i h1 h2 => (K.block i (Nat.lt_of_lt_of_le h1 h.2.2.2.1) (by simp)).trans (h.2.2.2.2 i h1 h2)⟩
theorem Lo.step {w w1 w2 : World} {lo hi z : Nat} (h : Lo w lo hi w1) (K : w1.grownBy w2 (some z)) (h1 : lo ≤ z) (h2 : z < hi) : Lo w lo hi w2 :=
  ⟨K.os.trans h.1, K.tape.trans h.2.1, K.output.trans h.2.2.1, Nat.le_trans h.2.2.2.1 K.size, fun i hi1 hi2 => (K.block i (Nat.lt_of_lt_of_le hi1 h.2.2.2.1) (by simp; omega)).trans (h.2.2.2.2 i hi1 hi2)⟩
theorem Lo.own {w w1 w2 : World} {lo hi : Nat} {v : Value} (h : Lo w lo hi w1) (K : w1.grownBy w2 v.ownBlock) (hv : ∀ z, v.ownBlock = some z → lo ≤ z ∧ z < hi) : Lo w lo hi w2 := by
  cases hq : v.ownBlock with
  | none => rw [hq] at K; exact h.grow K
  | some z => rw [hq] at K; exact h.step K (hv z hq).1 (hv z hq).2
theorem Lo.grown {w w' : World} {lo hi : Nat} (h : Lo w lo hi w') {w0 : World} (G : w0.grownBy w none) (hl : w0.heap.size ≤ lo) : w0.grownBy w' none :=
  ⟨h.1.trans G.os, h.2.1.trans G.tape, h.2.2.1.trans G.output, Nat.le_trans G.size h.2.2.2.1, fun i h1 h2 => (h.2.2.2.2 i (Nat.lt_of_lt_of_le h1 G.size) (by omega)).trans (G.block i h1 h2)⟩
theorem Lo.owns {w w' : World} {lo hi base e size n : Nat} {v : Value} {vs : List Value} (h : Lo w lo hi w') (O : w.ownsRow base e size v n vs) (hv : ∀ x, v.ownBlock = some x → ¬ (lo ≤ x ∧ x < hi)) : w'.ownsRow base e size v n vs := by
  refine ⟨O.1, ?_⟩
  rcases O.2 with h0 | ⟨g, cap, cur, hv', hb, hg, r⟩
  · exact .inl h0
  · right
    refine ⟨g, cap, cur, hv', hb, ?_, r⟩
    have hlt : g < w.heap.size := by
      by_cases hh : g < w.heap.size
      · exact hh
      · rw [Array.getElem?_eq_none (by omega)] at hg; cases hg
    rw [h.2.2.2.2 g hlt (hv g (by rw [hv']; rfl)), hg]

end Go.Proofs.Ytelgfegkobkhiaa

namespace Go.Proofs.Ytelgfegkobkhiaa
open Go.RowKit
set_option maxRecDepth 100000

set_option maxRecDepth 100000 in
set_option maxHeartbeats 1000000 in
theorem ispoil2_any (g n cap : Nat) (w : World) (hb : BlkN w 45 g (cap * 4)) (hn : n ≤ cap) (hcm : cap ≤ maxLen) (hm : (n + 1) * 8 ≤ 140737488355328) :
    Calls Try.prog 16 #[.slice (some ⟨g, 0, none⟩) n cap] w fun e w' => e = .returned (.tuple #[]) ∧ w.grownBy w' (some g) ∧ BlkN w' 45 g (cap * 4) := by
  obtain ⟨i0, hi, hz0, hz1, hz2⟩ := info_parts info45
  have H : Hid (BlkN w 45 g (cap * 4)) := hb
  clear hb
  go_enter Try.func16, Try.ntmps16
  go_wp2_with (at_builtin; refine wpList_append_blkN rfl (.tmp 5) (.tmp 7) 26 rfl 45 i0 _ 4 8 Try.underlying26 hi hz0 hz1 hz2 rfl (by decide) g n cap rfl ?q1 hn hcm ⟨w.heap.size, 0, none⟩ 1 1 (flat [mark]) rfl rfl ?q2 (flat_one _) ?q3 ?q4 ?q5)
  case q1 => exact H.out.kept (World.grownBy_alloc _ _ none) (by simp)
  case q2 => rw [marks1]; exact cv_lit w _ _
  case q3 => unfold maxLen; omega
  case q4 => omega
  case q5 =>
    intro g' cap' w1 hg' hb1 hb2 hc' hcm' hgr
    have R : ISpoilRel w (some g) g g' (cap * 4) (cap' * 4) w1 := ⟨hb1, hb2, grown_trans (World.grownBy_alloc _ _ _) hgr⟩
    have hp : some g = some g' ∨ w.heap.size ≤ g' := by
      rcases hg' with e | e
      · exact .inl (by rw [e])
      · right; omega
    clear hg' hb1 hb2 hgr
    unfold maxLen at hcm hcm'
    go_wp2
    go_loopw [3] (fun i wr => ∃ k : Nat, k ≤ n + 1 ∧ i = .int .i64 k ∧ ISpoilRel w (some g) g g' (cap * 4) (cap' * 4) wr) (fun i _ => n + 1 - (intOf i).toNat)
    case atStart => exact ⟨0, Nat.zero_le _, rfl, R⟩
    case round =>
      clear R
      obtain ⟨k, hk, rfl, R⟩ := hrel
      by_cases hlt : k < n + 1
      · obtain ⟨u0, hu0⟩ := R.2.1.cell (i := k * 4) (by omega)
        obtain ⟨u1, hu1⟩ := R.2.1.cell (i := k * 4 + 1) (by omega)
        obtain ⟨u2, hu2⟩ := R.2.1.cell (i := k * 4 + 2) (by omega)
        obtain ⟨u3, hu3⟩ := R.2.1.cell (i := k * 4 + 3) (by omega)
        have hf0 := R.2.1.free (k * 4)
        have hf1 := R.2.1.free (k * 4 + 1)
        have hf2 := R.2.1.free (k * 4 + 2)
        have hf3 := R.2.1.free (k * 4 + 3)
        have R' := (((R.set (p := ⟨g', k * 4, none⟩) hp (.int .u16 7)).set (p := ⟨g', k * 4 + 1, none⟩) hp (.int .u8 0)).set (p := ⟨g', k * 4 + 2, none⟩) hp (.int .u8 0)).set (p := ⟨g', k * 4 + 3, none⟩) hp (.int .u32 77)
        clear R
        go_wp2
        go_roundw
        case rel => exact ⟨k + 1, by omega, by go_num, R'⟩
        case measure => simp [intOf]; omega
      · go_wp2
        clear hk hlt
        go_loopw [4] (fun i wr => ∃ k : Nat, k ≤ n ∧ i = .int .i64 k ∧ ISpoilRel w (some g) g g' (cap * 4) (cap' * 4) wr) (fun i _ => n - (intOf i).toNat)
        case atStart => exact ⟨0, Nat.zero_le _, rfl, R⟩
        case round =>
          clear R
          obtain ⟨k, hk, rfl, R⟩ := hrel
          by_cases hlt : k < n
          · obtain ⟨u0, hu0⟩ := R.1.cell (i := k * 4) (by omega)
            obtain ⟨u1, hu1⟩ := R.1.cell (i := k * 4 + 1) (by omega)
            obtain ⟨u2, hu2⟩ := R.1.cell (i := k * 4 + 2) (by omega)
            obtain ⟨u3, hu3⟩ := R.1.cell (i := k * 4 + 3) (by omega)
            have hf0 := R.1.free (k * 4)
            have hf1 := R.1.free (k * 4 + 1)
            have hf2 := R.1.free (k * 4 + 2)
            have hf3 := R.1.free (k * 4 + 3)
            have R' := (((R.set (p := ⟨g, k * 4, none⟩) (.inl rfl) (.int .u16 7)).set (p := ⟨g, k * 4 + 1, none⟩) (.inl rfl) (.int .u8 0)).set (p := ⟨g, k * 4 + 2, none⟩) (.inl rfl) (.int .u8 0)).set (p := ⟨g, k * 4 + 3, none⟩) (.inl rfl) (.int .u32 77)
            clear R
            go_wp2
            go_roundw
            case rel => exact ⟨k + 1, by omega, by go_num, R'⟩
            case measure => simp [intOf]; omega
          · go_wp2
            go_end0
            exact ⟨rfl, R.2.2, R.1⟩

/-- A Code that can be written over. -/
def SpI (w : World) (v : Value) : Prop := v = .slice none 0 0 ∨ ∃ g n cap, v = .slice (some ⟨g, 0, none⟩) n cap ∧ BlkN w 45 g (cap * 4) ∧ n ≤ cap ∧ cap ≤ maxLen ∧ (n + 1) * 8 ≤ 140737488355328
theorem SpI.of {w : World} {base : Nat} {v : Value} {xs : List In} (h : IOwns w base v xs) (hm : (xs.length + 1) * 8 ≤ 140737488355328) : SpI w v := by
  rcases h.2 with ⟨rfl, _⟩ | ⟨g, cap, cur, rfl, hb, hg, hc, hcm, hs, ht⟩
  · exact .inl rfl
  · exact .inr ⟨g, xs.length, cap, rfl, ⟨cur, hg, hs⟩, hc, hcm, hm⟩
theorem SpI.kept {w w' : World} {v : Value} {row : Option Nat} (h : SpI w v) (K : w.grownBy w' row) (hr : ∀ z, v.ownBlock = some z → row ≠ some z) : SpI w' v := by
  rcases h with h | ⟨g, n, cap, rfl, hb, h1, h2, h3⟩
  · exact .inl h
  · exact .inr ⟨g, n, cap, rfl, hb.kept K (Ne.symm (hr g rfl)), h1, h2, h3⟩
theorem spi_any {v : Value} (w : World) (h : SpI w v) : Calls Try.prog 16 #[v] w fun e w' => e = .returned (.tuple #[]) ∧ w.grownBy w' v.ownBlock ∧ SpI w' v := by
  rcases h with rfl | ⟨g, n, cap, rfl, hb, h1, h2, h3⟩
  · refine (ispoil_nil w).mono ?_
    rintro e w' ⟨rfl, K⟩
    exact ⟨rfl, K, .inl rfl⟩
  · refine (ispoil2_any g n cap w hb h1 h2 h3).mono ?_
    rintro e w' ⟨rfl, K, B⟩
    exact ⟨rfl, K, .inr ⟨g, n, cap, rfl, B, h1, h2, h3⟩⟩
theorem own15' (a : Option Addr) (n c : Nat) : (Value.slice a n c).ownBlock = a.map (·.block) := by cases a <;> rfl

def spB : Bv := ⟨⟨[], -7, in0, 7, 0⟩, none, 0⟩
theorem flatB_set8' (y : Bv) : ∀ (xs : List Bv) (k : Nat), k < xs.length → ((((((((flatB xs).set (k * 8) (.slice y.a y.b.code.length y.ca)).set (k * 8 + 1) (.int .i64 y.b.en)).set (k * 8 + 2) (.int .u16 (y.b.last.code.toNat : Int))).set (k * 8 + 3) (.int .u8 (y.b.last.jt.toNat : Int))).set (k * 8 + 4) (.int .u8 (y.b.last.jf.toNat : Int))).set (k * 8 + 5) (.int .u32 (y.b.last.k.toNat : Int))).set (k * 8 + 6) (.int .i64 y.b.yes)).set (k * 8 + 7) (.int .i64 y.b.no) = flatB (xs.set k y)
  | [], k, h => absurd h (by simp)
  | x :: r, 0, _ => by
    rw [List.set_cons_zero, flatB_cons, flatB_cons]
    simp [Bv.cells]
  | x :: r, k + 1, h => by
    have ih := flatB_set8' y r k (by simpa using h)
    rw [List.set_cons_succ, flatB_cons, flatB_cons, ← ih]
    rw [show (k + 1) * 8 = k * 8 + 8 by omega]
    simp [Bv.cells, Nat.add_right_comm]


end Go.Proofs.Ytelgfegkobkhiaa

namespace Go.Proofs.Ytelgfegkobkhiaa
open Go.RowKit
set_option maxRecDepth 100000

/-- The number's 63 low bits. -/
def lowV (x : Int) : Nat := (BitVec.ofInt IntKind.i64.bits x).toNat % 2 ^ 63

theorem lowV_lt (x : Int) : lowV x < 2 ^ 63 := Nat.mod_lt _ (by decide)

theorem low_bits (x : Int) : bits .and .i64 x 9223372036854775807 = (lowV x : Int) := by
  have hm : (9223372036854775807 : Int) = ((2 ^ 63 - 1 : Nat) : Int) := by decide
  rw [hm]
  have h64 : IntKind.i64.bits = 64 := rfl
  simp only [bits, BitVec.ofInt_natCast, BitVec.toNat_and, BitVec.toNat_ofNat, h64]
  rw [show (2 ^ 63 - 1) % 2 ^ 64 = 2 ^ 63 - 1 by decide, Nat.and_two_pow_sub_one_eq_mod]
  have h := lowV_lt x
  unfold lowV at h ⊢
  generalize (BitVec.ofInt IntKind.i64.bits x).toNat % 2 ^ 63 = n at *
  rw [IntKind.wrap_i64]
  omega

set_option maxHeartbeats 400000 in
theorem low_any (x : Int) (w : World) : Calls Try.prog 19 #[.int .i64 x] w fun e w' => e = .returned (.int .i64 (lowV x : Int)) ∧ w = w' := by
  go_enter Try.func19, Try.ntmps19
  go_wp2
  go_ret
  exact ⟨ret_int (low_bits x), rfl⟩

end Go.Proofs.Ytelgfegkobkhiaa
