/-
  The landed run: its beginning.
-/
import Derived.Test.YtaldhnionkacmabVmJ3
import Derived.Test.YtaldhnionkacmabCheckP
namespace Go.Proofs.Ytaldhnionkacmab
open Go.RowKit
set_option maxRecDepth 100000

def machA (b : Option Addr) (n cb d q : Nat) : Array Value := #[.int .u32 0, .int .u32 0, .int .u32 0, .int .u32 0, .int .u32 0, .int .u32 0, .int .u32 0, .int .u32 0, .int .u32 0, .int .u32 0, .int .u32 0, .int .u32 0, .int .u32 0, .int .u32 0, .int .u32 0, .int .u32 0, .int .u32 0, .int .u32 0, .slice b n cb, .int .i64 0, .slice (some ⟨d, 0, none⟩) 178 178, .slice (some ⟨q, 0, none⟩) 78 78]
def machZ : Array Value := #[.int .u32 0, .int .u32 0, .int .u32 0, .int .u32 0, .int .u32 0, .int .u32 0, .int .u32 0, .int .u32 0, .int .u32 0, .int .u32 0, .int .u32 0, .int .u32 0, .int .u32 0, .int .u32 0, .int .u32 0, .int .u32 0, .int .u32 0, .int .u32 0, .slice none 0 0, .int .i64 0, .slice none 0 0, .slice none 0 0]
def runA (a b : Option Addr) (m ca n cb d q : Nat) : Array Value := #[.int .u32 0, .int .u32 0, .int .u32 0, .int .u32 0, .int .u32 0, .int .u32 0, .int .u32 0, .int .u32 0, .int .u32 0, .int .u32 0, .int .u32 0, .int .u32 0, .int .u32 0, .int .u32 0, .int .u32 0, .int .u32 0, .int .u32 0, .int .u32 0, .slice b n cb, .int .i64 0, .slice (some ⟨d, 0, none⟩) 178 178, .slice (some ⟨q, 0, none⟩) 78 78, .slice a m ca, .int .i64 0, .bool false, .int .u32 0, .int .i64 0, .int .i64 0]
def runZ : Array Value := #[.int .u32 0, .int .u32 0, .int .u32 0, .int .u32 0, .int .u32 0, .int .u32 0, .int .u32 0, .int .u32 0, .int .u32 0, .int .u32 0, .int .u32 0, .int .u32 0, .int .u32 0, .int .u32 0, .int .u32 0, .int .u32 0, .int .u32 0, .int .u32 0, .slice none 0 0, .int .i64 0, .slice none 0 0, .slice none 0 0, .slice none 0 0, .int .i64 0, .bool false, .int .u32 0, .int .i64 0, .int .i64 0]
theorem machA_all (b : Option Addr) (n cb d q : Nat) : (machA b n cb d q).all (·.oneCell') = true := by simp [machA, Value.oneCell']
theorem runA_all (a b : Option Addr) (m ca n cb d q : Nat) : (runA a b m ca n cb d q).all (·.oneCell') = true := by simp [runA, Value.oneCell']
theorem runZ_all : runZ.all (·.oneCell') = true := by simp [runZ, Value.oneCell']

theorem size62 : (Try.prog.info? 62).map (·.size) = some 22 := by kernel_rfl

theorem size64 : (Try.prog.info? 64).map (·.size) = some 28 := by kernel_rfl

set_option maxHeartbeats 1000000 in
theorem over_any (b : Option Addr) (n cb : Nat) (w : World) :
    Calls Try.prog 22 #[.slice b n cb] w fun e w' => ∃ d q, e = .returned (.agg (machA b n cb d q)) ∧ DTab w' d ∧ QTab w' q ∧ w.heap.size ≤ d ∧ w.heap.size ≤ q ∧ w.grownBy w' none := by
  have V0 := GVt.alloc w 62 machZ
  have G0 : w.grownBy (w.alloc (.cells machZ 62)) none := World.grownBy_alloc _ _ _
  have HS : Hid (∀ d q, (Try.prog.info? 62).map (·.size) = some (machA b n cb d q).size) := fun _ _ => size62
  go_enter Try.func22, Try.ntmps22
  go_upto_region 1 with fail
  rw [show w.alloc (.cells #[.int .u32 0, .int .u32 0, .int .u32 0, .int .u32 0, .int .u32 0, .int .u32 0, .int .u32 0, .int .u32 0, .int .u32 0, .int .u32 0, .int .u32 0, .int .u32 0, .int .u32 0, .int .u32 0, .int .u32 0, .int .u32 0, .int .u32 0, .int .u32 0, .slice none 0 0, .int .i64 0, .slice none 0 0, .slice none 0 0] 62) = w.alloc (.cells machZ 62) from rfl]
  obtain ⟨A, hA⟩ : ∃ A, w.heap.size = A := ⟨_, rfl⟩
  rw [hA] at V0 ⊢
  have HA : Hid (w.heap.size ≤ A ∧ A < (w.alloc (.cells machZ 62)).heap.size) := ⟨by omega, V0.lt⟩
  clear hA
  generalize w.alloc (.cells machZ 62) = wa at *
  have HG0 : Hid (w.grownBy wa none) := G0
  have HV0 : Hid (GVt wa A 62 machZ) := V0
  clear G0 V0
  go_wp2_with fail
  refine (deeds_any _).mono ?_
  rintro e w1 ⟨d, rfl, T1, hd, K1⟩
  have HD : Hid (DTab w1 d ∧ wa.heap.size ≤ d ∧ wa.grownBy w1 none) := ⟨T1, hd, K1⟩
  clear T1 hd K1
  go_wp2_with fail
  refine (questions5_any _).mono ?_
  rintro e w2 ⟨q, rfl, T2, hq, K2⟩
  have HQ : Hid (QTab w2 q ∧ w1.heap.size ≤ q ∧ w1.grownBy w2 none) := ⟨T2, hq, K2⟩
  have V2 := (HV0.out.kept HD.out.2.2).kept K2
  clear T2 hq K2
  go_wp2_with (refine wpList_store_row rfl 62 (.tmp 2) (.tmp 6) rfl A (machA b n cb d q) rfl rfl 62 _ V2 (HS.out _ _) rfl (machA_all _ _ _ _ _) ?_)
  have VR := V2.setRow (machA b n cb d q)
  have KR : w2.grownBy (w2.setRow A (machA b n cb d q)) (some A) := gvgrown_setRow (World.grownBy.refl _ _) _ _ (.inl rfl)
  refine bodyPost_ret (results_cell_row rfl _ _ A _ (machA b n cb d q) (0, 0) _ rfl VR Try.underlying62 rfl (HS.out _ _)) rfl ?_
  have s1 := HD.out.2.2.size
  have s0 := HG0.out.size
  have a1 := HA.out.2
  have d1 := HD.out.2.1
  have q1 := HQ.out.2.1
  refine ⟨d, q, rfl, (HD.out.1.grown HQ.out.2.2 (by simp)).grown KR ?_, HQ.out.1.grown KR ?_, by omega, by omega, gvgrown_setRow (grown_trans HG0.out (grown_trans HD.out.2.2 HQ.out.2.2)) _ _ (.inr HA.out.1)⟩
  · intro e
    obtain rfl := Option.some.inj e
    omega
  · intro e
    obtain rfl := Option.some.inj e
    omega

theorem tab_lt {w : World} {d : Nat} (h : DTab w d) : d < w.heap.size := h.1.elim fun _ hc => hc.lt
theorem qtab_lt {w : World} {d : Nat} (h : QTab w d) : d < w.heap.size := h.1.elim fun _ hc => hc.lt

/-- A run at its beginning. -/
def run0 (a b : Option Addr) (m ca n cb d q : Nat) : Rn := ⟨mc0, .slice b n cb, 0, .slice (some ⟨d, 0, none⟩) 178 178, .slice (some ⟨q, 0, none⟩) 78 78, .slice a m ca, 0, false, 0, 0, 0⟩
theorem run0_arr (a b : Option Addr) (m ca n cb d q : Nat) : (run0 a b m ca n cb d q).arr = runA a b m ca n cb d q := rfl

theorem loop0 {a b : Option Addr} {m ca n cb d q : Nat} (w w1 : World) (U : w.grownBy w1 none) (hd : d < w1.heap.size) (hq : q < w1.heap.size) (T : DTab w1 d) (Q : QTab w1 q) :
    LoopI w (w1.alloc (.cells (runA a b m ca n cb d q) 64)) w1.heap.size d q a b ca cb m n (run0 a b m ca n cb d q) := by
  have K : w1.grownBy (w1.alloc (.cells (runA a b m ca n cb d q) 64)) none := World.grownBy_alloc _ _ _
  exact ⟨⟨GVt.alloc w1 64 (runA a b m ca n cb d q), rfl⟩, rfl, rfl, rfl, rfl, T.grown K (by simp), Q.grown K (by simp), by omega, by omega, grown_trans U K, U.size⟩
theorem LoopI.rebase {w W wr : World} {g d q : Nat} {a b : Option Addr} {ca cb n m : Nat} {R : Rn} (L : LoopI W wr g d q a b ca cb n m R) (K : w.grownBy W none) : LoopI w wr g d q a b ca cb n m R :=
  ⟨L.at', L.hd, L.hq, L.hp, L.hk, L.dt, L.qt, L.dg, L.qg, grown_trans K L.up, Nat.le_trans K.size L.new⟩

set_option maxHeartbeats 1000000 in
theorem through_any (a b : Option Addr) (m ca n cb : Nat) (w : World) :
    Calls Try.prog 17 #[.slice a m ca, .slice b n cb] w fun e w' => ∃ g d q, e = .returned (.pointer (some ⟨g, 0, none⟩)) ∧ LoopI w w' g d q a b ca cb m n (run0 a b m ca n cb d q) := by
  go_enter Try.func17, Try.ntmps17
  go_wp2_with fail
  refine (over_any b n cb _).mono ?_
  rintro e w1 ⟨d, q, rfl, T, Q, hd, hq, K⟩
  simp only [machA]
  go_wp2
  go_ret
  exact ⟨w1.heap.size, d, q, rfl, loop0 w w1 K (tab_lt T) (qtab_lt Q) T Q⟩

/-- What a run begins with. -/
def BeginPost (w : World) (a b : Option Addr) (m ca n cb : Nat) (E : Int) (e : Ending) (w' : World) : Prop :=
  (E = 0 ∧ ∃ g d q, e = .returned (.tuple #[.pointer (some ⟨g, 0, none⟩), .int .i64 0]) ∧ LoopI w w' g d q a b ca cb m n (run0 a b m ca n cb d q)) ∨ (E ≠ 0 ∧ e = .returned (.tuple #[.pointer none, .int .i64 E]) ∧ w.grownBy w' none)

set_option maxHeartbeats 1000000 in
theorem begin_any (a b : Option Addr) (ca cb : Nat) (xs : List In) (pk : List UInt8) (w : World) (ha : CV w a (flat xs)) :
    Calls Try.prog 11 #[.slice a xs.length ca, .slice b pk.length cb] w fun e w' => BeginPost w a b xs.length ca pk.length cb (runE xs pk) e w' := by
  obtain ⟨P, E, hPE⟩ : ∃ P E, checkV xs = (P, E) := ⟨_, _, rfl⟩
  have HC : Calls Try.prog 16 #[.slice a xs.length ca] w fun e w' => e = .returned (.tuple #[.int .i64 (P : Int), .int .i64 E]) ∧ w.grownBy w' none := by
    have k := check_any a ca xs w ha
    rw [hPE] at k
    exact k
  clear ha
  by_cases hE : E = 0
  · subst hE
    by_cases hl : 65536 < pk.length
    · have e : runE xs pk = 51 := by simp [runE, hPE, hl]
      rw [e]
      have hl' : (65536 : Int) < (pk.length : Int) := by omega
      clear hPE
      go_enter Try.func11, Try.ntmps11
      go_wp2_with fail
      refine HC.mono ?_
      rintro e w1 ⟨rfl, K1⟩
      clear HC
      go_wp2
      go_ret2
      exact .inr ⟨by decide, rfl, K1⟩
    · have e : runE xs pk = 0 := by simp [runE, hPE, hl]
      rw [e]
      have hl' : ¬ ((65536 : Int) < (pk.length : Int)) := by omega
      clear hPE
      go_enter Try.func11, Try.ntmps11
      go_wp2_with fail
      refine HC.mono ?_
      rintro e w1 ⟨rfl, K1⟩
      clear HC
      go_wp2_with fail
      refine (through_any a b xs.length ca pk.length cb _).mono ?_
      rintro e w2 ⟨g, d, q, rfl, L⟩
      have HL : Hid (LoopI w w2 g d q a b ca cb xs.length pk.length (run0 a b xs.length ca pk.length cb d q)) := L.rebase K1
      clear L
      go_wp2
      go_ret2
      exact .inl ⟨rfl, g, d, q, rfl, HL.out⟩
  · have e : runE xs pk = 50 := by simp [runE, hPE, hE]
    rw [e]
    have hEb : (E != 0) = true := by rw [bne_iff_ne]; exact hE
    clear hPE hE
    go_enter Try.func11, Try.ntmps11
    go_wp2_with fail
    refine HC.mono ?_
    rintro e w1 ⟨rfl, K1⟩
    clear HC
    go_wp2
    go_ret2
    exact .inr ⟨by decide, rfl, K1⟩

end Go.Proofs.Ytaldhnionkacmab
