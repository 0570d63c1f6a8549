/-
  The landed run: its beginning.
-/
import Derived.Test.YtencoknpocipbaaLotP35
import Derived.Test.YtencoknpocipbaaLotP11
import Derived.Test.YtencoknpocipbaaGrL
namespace Go.Proofs.Ytencoknpocipbaa
open Go.RowKit
set_option maxRecDepth 100000

def runA (a b : Option Addr) (m ca n cb d q : Nat) : Array Value := #[.int .u32 0, .int .u32 0, .int .u32 0, .int .u32 0, .int .u32 0, .int .u32 0, .int .u32 0, .int .u32 0, .int .u32 0, .int .u32 0, .int .u32 0, .int .u32 0, .int .u32 0, .int .u32 0, .int .u32 0, .int .u32 0, .int .u32 0, .int .u32 0, .slice b n cb, .int .i64 0, .slice (some ⟨d, 0, none⟩) 178 178, .slice (some ⟨q, 0, none⟩) 78 78, .slice a m ca, .int .i64 0, .bool false, .int .u32 0, .int .i64 0, .int .i64 0]
def runZ : Array Value := #[.int .u32 0, .int .u32 0, .int .u32 0, .int .u32 0, .int .u32 0, .int .u32 0, .int .u32 0, .int .u32 0, .int .u32 0, .int .u32 0, .int .u32 0, .int .u32 0, .int .u32 0, .int .u32 0, .int .u32 0, .int .u32 0, .int .u32 0, .int .u32 0, .slice none 0 0, .int .i64 0, .slice none 0 0, .slice none 0 0, .slice none 0 0, .int .i64 0, .bool false, .int .u32 0, .int .i64 0, .int .i64 0]
theorem runA_all (a b : Option Addr) (m ca n cb d q : Nat) : (runA a b m ca n cb d q).all (·.oneCell') = true := by simp [runA, Value.oneCell']
theorem runZ_all : runZ.all (·.oneCell') = true := by simp [runZ, Value.oneCell']

theorem size87 : (Try.prog.info? 87).map (·.size) = some 28 := by kernel_rfl

/-- A run at its beginning. -/
def run0 (a b : Option Addr) (m ca n cb d q : Nat) : Vn := ⟨mc0, .slice b n cb, 0, .slice (some ⟨d, 0, none⟩) 178 178, .slice (some ⟨q, 0, none⟩) 78 78, .slice a m ca, 0, false, 0, 0, 0⟩
theorem run0_arr (a b : Option Addr) (m ca n cb d q : Nat) : (run0 a b m ca n cb d q).arr = runA a b m ca n cb d q := rfl

theorem loop0 {a b : Option Addr} {m ca n cb d q : Nat} (w w1 : World) (U : w.grownBy w1 none) (hd : d < w1.heap.size) (hq : q < w1.heap.size) (T : DTab w1 d) (Q : QTab w1 q) :
    LoopI w (w1.alloc (.cells (runA a b m ca n cb d q) 87)) w1.heap.size d q a b ca cb m n (run0 a b m ca n cb d q) := by
  have K : w1.grownBy (w1.alloc (.cells (runA a b m ca n cb d q) 87)) none := World.grownBy_alloc _ _ _
  exact ⟨⟨GVt.alloc w1 87 (runA a b m ca n cb d q), rfl⟩, rfl, rfl, rfl, rfl, T.grown K (by simp), Q.grown K (by simp), by omega, by omega, grown_trans U K, U.size⟩
theorem LoopI.rebase {w W wr : World} {g d q : Nat} {a b : Option Addr} {ca cb n m : Nat} {R : Vn} (L : LoopI W wr g d q a b ca cb n m R) (K : w.grownBy W none) : LoopI w wr g d q a b ca cb n m R :=
  ⟨L.at', L.hd, L.hq, L.hp, L.hk, L.dt, L.qt, L.dg, L.qg, grown_trans K L.up, Nat.le_trans K.size L.new⟩

set_option maxHeartbeats 1000000 in
theorem vgthrough_any (a b : Option Addr) (m ca n cb : Nat) (w : World) :
    Calls Try.prog 35 #[.slice a m ca, .slice b n cb] w fun e w' => ∃ g d q, e = .returned (.pointer (some ⟨g, 0, none⟩)) ∧ LoopI w w' g d q a b ca cb m n (run0 a b m ca n cb d q) := by
  go_enter Try.func35, Try.ntmps35
  go_wp2_with fail
  refine (gover_any b n cb _).mono ?_
  rintro e w1 ⟨d, q, rfl, T, Q, hd, hq, K⟩
  simp only [machA]
  go_wp2
  go_ret
  exact ⟨w1.heap.size, d, q, rfl, loop0 w w1 K (tab_lt T) (qtab_lt Q) T Q⟩

/-- What a run begins with. -/
def BeginPost (w : World) (a b : Option Addr) (m ca n cb : Nat) (E : Int) (e : Ending) (w' : World) : Prop :=
  (E = 0 ∧ ∃ g d q, e = .returned (.tuple #[.pointer (some ⟨g, 0, none⟩), .int .i64 0]) ∧ LoopI w w' g d q a b ca cb m n (run0 a b m ca n cb d q)) ∨ (E ≠ 0 ∧ e = .returned (.tuple #[.pointer none, .int .i64 E]) ∧ w.grownBy w' none)

set_option maxHeartbeats 1000000 in
theorem begin_any (a b : Option Addr) (ca cb : Nat) (xs : List In) (pk : List UInt8) (w : World) (ha : CV w a (flat xs)) :
    Calls Try.prog 20 #[.slice a xs.length ca, .slice b pk.length cb] w fun e w' => BeginPost w a b xs.length ca pk.length cb (runE xs pk) e w' := by
  obtain ⟨P, E, hPE⟩ : ∃ P E, checkV xs = (P, E) := ⟨_, _, rfl⟩
  have HC : Calls Try.prog 4 #[.slice a xs.length ca] w fun e w' => e = .returned (.tuple #[.int .i64 (P : Int), .int .i64 E]) ∧ w.grownBy w' none := by
    have k := check_any a ca xs w ha
    rw [hPE] at k
    exact k
  clear ha
  by_cases hE : E = 0
  · subst hE
    by_cases hl : 65536 < pk.length
    · have e : runE xs pk = 51 := by simp [runE, hPE, hl]
      rw [e]
      have hl' : (65536 : Int) < (pk.length : Int) := by omega
      clear hPE
      go_enter Try.func20, Try.ntmps20
      go_wp2_with fail
      refine HC.mono ?_
      rintro e w1 ⟨rfl, K1⟩
      clear HC
      go_wp2
      go_ret2
      exact .inr ⟨by decide, rfl, K1⟩
    · have e : runE xs pk = 0 := by simp [runE, hPE, hl]
      rw [e]
      have hl' : ¬ ((65536 : Int) < (pk.length : Int)) := by omega
      clear hPE
      go_enter Try.func20, Try.ntmps20
      go_wp2_with fail
      refine HC.mono ?_
      rintro e w1 ⟨rfl, K1⟩
      clear HC
      go_wp2_with fail
      refine (vgthrough_any a b xs.length ca pk.length cb _).mono ?_
      rintro e w2 ⟨g, d, q, rfl, L⟩
      have HL : Hid (LoopI w w2 g d q a b ca cb xs.length pk.length (run0 a b xs.length ca pk.length cb d q)) := L.rebase K1
      clear L
      go_wp2
      go_ret2
      exact .inl ⟨rfl, g, d, q, rfl, HL.out⟩
  · have e : runE xs pk = 50 := by simp [runE, hPE, hE]
    rw [e]
    have hEb : (E != 0) = true := by rw [bne_iff_ne]; exact hE
    clear hPE hE
    go_enter Try.func20, Try.ntmps20
    go_wp2_with fail
    refine HC.mono ?_
    rintro e w1 ⟨rfl, K1⟩
    clear HC
    go_wp2
    go_ret2
    exact .inr ⟨by decide, rfl, K1⟩

end Go.Proofs.Ytencoknpocipbaa
