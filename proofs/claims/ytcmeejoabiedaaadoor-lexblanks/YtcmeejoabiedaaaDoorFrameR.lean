/-
  The document's own Check, Plain, Proto, Head.
-/
import Derived.Test.YtcmeejoabiedaaaDoorFrameV
import Derived.Test.YtcmeejoabiedaaaDoorGetR
import Derived.Test.YtcmeejoabiedaaaDoorICopy
import Derived.Handy
namespace Go.Proofs.YtcmeejoabiedaaaDoor
open Go.RowKit
set_option maxRecDepth 100000

def lkA (l : Lk) : Array Value := #[.bool l.acfc, .bool l.pfc, .int .i64 l.mp]
def exV {α : Type} (d : α) : Except Int α → α
  | .ok a => a
  | .error _ => d
def exE {α : Type} : Except Int α → Int
  | .ok _ => 0
  | .error e => e

theorem Cells.bgc {w : World} {ao : Option Addr} {b : List UInt8} (h : Cells w ao b) {k : Nat} (hk : k < b.length) : ∃ bb off, ao = some ⟨bb, off, none⟩ ∧ ∀ i, i < b.length → w.cell? ⟨bb, off + i, none⟩ = some (.int .u8 (bg b i : Int)) := by
  obtain ⟨bb, off, hao, hc⟩ := h.addr hk
  refine ⟨bb, off, hao, fun i hi => ?_⟩
  rw [hc i hi, bg, List.getD_eq_getElem?_getD, List.getElem?_eq_getElem hi]
  rfl

theorem beq_nat {x k : Nat} (h : x = k) : ((x : Int) == (k : Int)) = true := by rw [h]; simp
theorem beq_nat_no {x k : Nat} (h : x ≠ k) : ((x : Int) == (k : Int)) = false := by rw [beq_eq_false_iff_ne]; omega

/-- The bits of a header. -/
theorem mod_and (h k : Nat) (hh : h < 4294967296) (hk : k ≤ 32) : bits .and .u32 (h : Int) ((2 ^ k - 1 : Nat) : Int) = ((h % 2 ^ k : Nat) : Int) := by
  have hlt : 2 ^ k ≤ 2 ^ 32 := Nat.pow_le_pow_right (by decide) hk
  have := u32_and_nat h (2 ^ k - 1) hh (by omega)
  rw [this, Nat.and_two_pow_sub_one_eq_mod]
theorem clear_top (h k : Nat) (hk : k < 32) (hh : h < 2 ^ (k + 1)) : h &&& (4294967295 - 2 ^ k) = h % 2 ^ k := by
  have hp : 2 ^ k < 2 ^ 32 := Nat.pow_lt_pow_right (by decide) hk
  apply Nat.eq_of_testBit_eq
  intro i
  rw [Nat.testBit_and, show 4294967295 - 2 ^ k = 2 ^ 32 - (2 ^ k + 1) by omega, Nat.testBit_two_pow_sub_succ hp, Nat.testBit_mod_two_pow, Nat.testBit_two_pow]
  by_cases hi : k + 1 ≤ i
  · have : h.testBit i = false := Nat.testBit_lt_two_pow (Nat.lt_of_lt_of_le hh (Nat.pow_le_pow_right (by decide) hi))
    rw [this]; simp
  · by_cases e : i = k
    · subst e; simp
    · have h1 : i < k := by omega
      have h2 : i < 32 := by omega
      have h3 : ¬ k = i := fun e' => e e'.symm
      simp [h1, h2, h3]
theorem notop (h k : Nat) (hk : k < 32) (hh : h < 2 ^ (k + 1)) (h32 : h < 4294967296) : bits .andNot .u32 (h : Int) ((2 ^ k : Nat) : Int) = ((h % 2 ^ k : Nat) : Int) := by
  have hp : 2 ^ k < 2 ^ 32 := Nat.pow_lt_pow_right (by decide) hk
  rw [u32_andNot_nat h (2 ^ k) h32 (by omega), clear_top h k hk hh]
theorem and_two (h k : Nat) : h &&& 2 ^ k = if h.testBit k = true then 2 ^ k else 0 := by
  apply Nat.eq_of_testBit_eq
  intro i
  rw [Nat.testBit_and, Nat.testBit_two_pow]
  by_cases e : k = i
  · subst e
    cases hb : h.testBit k <;> simp
  · cases hb : h.testBit k <;> simp [e]
theorem bit_of (h k : Nat) (hk : k < 32) (h32 : h < 4294967296) : (bits .and .u32 (h : Int) ((2 ^ k : Nat) : Int) != 0) = decide (h / 2 ^ k % 2 = 1) := by
  have hp : 2 ^ k < 2 ^ 32 := Nat.pow_lt_pow_right (by decide) hk
  have hpos : 0 < 2 ^ k := Nat.pos_of_ne_zero (by simp)
  rw [u32_and_nat h (2 ^ k) h32 (by omega), and_two, ← Nat.testBit_eq_decide_div_mod_eq]
  cases h.testBit k with
  | false => rfl
  | true =>
    rw [if_pos rfl, bne_iff_ne]
    omega

/-- Five results. -/
theorem results_tmp5 {fn : Func} {t u v x y : Tmp} (h : fn.results = #[.tmp t, .tmp u, .tmp v, .tmp x, .tmp y]) (tmps : Array Value) (P : Program) (w : World) :
    (results fn tmps).run P w = .ok (.tuple #[tmps.getD t undef, tmps.getD u undef, tmps.getD v undef, tmps.getD x undef, tmps.getD y undef]) w := by
  simp [results, h]

end Go.Proofs.YtcmeejoabiedaaaDoor
