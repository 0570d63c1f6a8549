/-
  The document's own Step, of whatever instruction.
-/
import Derived.Test.YtaldhnionkacmaaVmC2
namespace Go.Proofs.Ytaldhnionkacmaa
open Go.RowKit
set_option maxRecDepth 100000

theorem beq_no {c : Int} {n : Int} (h : ¬ c = n) : (c == n) = false := by rw [beq_eq_false_iff_ne]; exact h

set_option maxHeartbeats 1000000 in
theorem refstep_any (b : Option Addr) (cb : Nat) (pk : List UInt8) (g base : Nat) (M : Mc) (c : Int) (t f k : Nat) (w : World) (hm : MAt w 59 base g M) (hk : k ≤ 4294967295) (hC : Cells w b pk) (hp : pk.length ≤ 65536) (hM : M.ok) :
    Calls Try.prog 27 #[.pointer (some ⟨g, 0, none⟩), .agg #[.int .u16 c, .int .u8 t, .int .u8 f, .int .u32 k], .slice b pk.length cb] w fun e w' => StepPost w 59 base g (stepV c k pk M).1 (stepV c k pk M).2 e w' := by
  have hp2 : pk.length ≤ 4294967295 := by omega
  by_cases q0 : c = 0
  · subst q0; have e : stepV 0 k pk M = (⟨k, M.x, M.m⟩, 0) := by simp [stepV]
    rw [e]; exact step_0 b cb pk g base M t f k w hm hk
  by_cases q32 : c = 32
  · subst q32; have e : stepV 32 k pk M = (⟨(readAtV pk k (sizeV 32)).1, M.x, M.m⟩, (readAtV pk k (sizeV 32)).2) := by simp [stepV]
    rw [e]; exact step_32 b cb pk g base M t f k w hm hk hC hp
  by_cases q40 : c = 40
  · subst q40; have e : stepV 40 k pk M = (⟨(readAtV pk k (sizeV 40)).1, M.x, M.m⟩, (readAtV pk k (sizeV 40)).2) := by simp [stepV]
    rw [e]; exact step_40 b cb pk g base M t f k w hm hk hC hp
  by_cases q48 : c = 48
  · subst q48; have e : stepV 48 k pk M = (⟨(readAtV pk k (sizeV 48)).1, M.x, M.m⟩, (readAtV pk k (sizeV 48)).2) := by simp [stepV]
    rw [e]; exact step_48 b cb pk g base M t f k w hm hk hC hp
  by_cases q64 : c = 64
  · subst q64; have e : stepV 64 k pk M = (⟨(readAtV pk (k + M.x) (sizeV 64)).1, M.x, M.m⟩, (readAtV pk (k + M.x) (sizeV 64)).2) := by simp [stepV]
    rw [e]; exact step_64 b cb pk g base M t f k w hm hk hC hp hM
  by_cases q72 : c = 72
  · subst q72; have e : stepV 72 k pk M = (⟨(readAtV pk (k + M.x) (sizeV 72)).1, M.x, M.m⟩, (readAtV pk (k + M.x) (sizeV 72)).2) := by simp [stepV]
    rw [e]; exact step_72 b cb pk g base M t f k w hm hk hC hp hM
  by_cases q80 : c = 80
  · subst q80; have e : stepV 80 k pk M = (⟨(readAtV pk (k + M.x) (sizeV 80)).1, M.x, M.m⟩, (readAtV pk (k + M.x) (sizeV 80)).2) := by simp [stepV]
    rw [e]; exact step_80 b cb pk g base M t f k w hm hk hC hp hM
  by_cases q96 : c = 96
  · subst q96; have e : stepV 96 k pk M = (⟨M.m.getD (k % 16) 0, M.x, M.m⟩, 0) := by simp [stepV]
    rw [e]; exact step_96 b cb pk g base M t f k w hm hk hM
  by_cases q128 : c = 128
  · subst q128; have e : stepV 128 k pk M = (⟨pk.length, M.x, M.m⟩, 0) := by simp [stepV]
    rw [e]; exact step_128 b cb pk g base M t f k w hm hk hp2
  by_cases q1 : c = 1
  · subst q1; have e : stepV 1 k pk M = (⟨M.a, k, M.m⟩, 0) := by simp [stepV]
    rw [e]; exact step_1 b cb pk g base M t f k w hm hk
  by_cases q97 : c = 97
  · subst q97; have e : stepV 97 k pk M = (⟨M.a, M.m.getD (k % 16) 0, M.m⟩, 0) := by simp [stepV]
    rw [e]; exact step_97 b cb pk g base M t f k w hm hk hM
  by_cases q129 : c = 129
  · subst q129; have e : stepV 129 k pk M = (⟨M.a, pk.length, M.m⟩, 0) := by simp [stepV]
    rw [e]; exact step_129 b cb pk g base M t f k w hm hk hp2
  by_cases q177 : c = 177
  · subst q177; have e : stepV 177 k pk M = (⟨M.a, 4 * ((readAtV pk k 1).1 % 16), M.m⟩, (readAtV pk k 1).2) := by simp [stepV]
    rw [e]; exact step_177 b cb pk g base M t f k w hm hk hC hp
  by_cases q2 : c = 2
  · subst q2; have e : stepV 2 k pk M = (⟨M.a, M.x, M.m.set (k % 16) M.a⟩, 0) := by simp [stepV]
    rw [e]; exact step_2 b cb pk g base M t f k w hm hk hM
  by_cases q3 : c = 3
  · subst q3; have e : stepV 3 k pk M = (⟨M.a, M.x, M.m.set (k % 16) M.x⟩, 0) := by simp [stepV]
    rw [e]; exact step_3 b cb pk g base M t f k w hm hk hM
  by_cases q132 : c = 132
  · subst q132; have e : stepV 132 k pk M = (⟨(4294967296 - M.a) % 4294967296, M.x, M.m⟩, 0) := by simp [stepV]
    rw [e]; exact step_132 b cb pk g base M t f k w hm hk hM
  by_cases q7 : c = 7
  · subst q7; have e : stepV 7 k pk M = (⟨M.a, M.a, M.m⟩, 0) := by simp [stepV]
    rw [e]; exact step_7 b cb pk g base M t f k w hm hk
  by_cases q135 : c = 135
  · subst q135; have e : stepV 135 k pk M = (⟨M.x, M.x, M.m⟩, 0) := by simp [stepV]
    rw [e]; exact step_135 b cb pk g base M t f k w hm hk
  have e : stepV c k pk M = (⟨(operV (bits .andNot .u16 c 8) M.a (sideV c k M.x)).1, M.x, M.m⟩, (operV (bits .andNot .u16 c 8) M.a (sideV c k M.x)).2) := by
    simp [stepV, q0, q32, q40, q48, q64, q72, q80, q96, q128, q1, q97, q129, q177, q2, q3, q132, q7, q135]
  rw [e]
  cases hb : byxB c with
  | true => exact step_op_true b cb pk g base M c t f k w hm hk hM hb (beq_no q0) (beq_no q32) (beq_no q40) (beq_no q48) (beq_no q64) (beq_no q72) (beq_no q80) (beq_no q96) (beq_no q128) (beq_no q1) (beq_no q97) (beq_no q129) (beq_no q177) (beq_no q2) (beq_no q3) (beq_no q132) (beq_no q7) (beq_no q135)
  | false => exact step_op_false b cb pk g base M c t f k w hm hk hM hb (beq_no q0) (beq_no q32) (beq_no q40) (beq_no q48) (beq_no q64) (beq_no q72) (beq_no q80) (beq_no q96) (beq_no q128) (beq_no q1) (beq_no q97) (beq_no q129) (beq_no q177) (beq_no q2) (beq_no q3) (beq_no q132) (beq_no q7) (beq_no q135)

end Go.Proofs.Ytaldhnionkacmaa
