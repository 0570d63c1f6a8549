/-
  The landed run: its beginning.
-/
import Derived.Test.YthffbogejcbdiaaLotP34
import Derived.Test.YthffbogejcbdiaaLotP11
import Derived.Test.YthffbogejcbdiaaGrL
namespace Go.Proofs.Ythffbogejcbdiaa
open Go.RowKit
set_option maxRecDepth 100000

def runA (a b : Option Addr) (m ca n cb d q : Nat) : Array Value := #[.int .u32 0, .int .u32 0, .int .u32 0, .int .u32 0, .int .u32 0, .int .u32 0, .int .u32 0, .int .u32 0, .int .u32 0, .int .u32 0, .int .u32 0, .int .u32 0, .int .u32 0, .int .u32 0, .int .u32 0, .int .u32 0, .int .u32 0, .int .u32 0, .slice b n cb, .int .i64 0, .slice (some ⟨d, 0, none⟩) 178 178, .slice (some ⟨q, 0, none⟩) 78 78, .slice a m ca, .int .i64 0, .bool false, .int .u32 0, .int .i64 0, .int .i64 0]
def runZ : Array Value := #[.int .u32 0, .int .u32 0, .int .u32 0, .int .u32 0, .int .u32 0, .int .u32 0, .int .u32 0, .int .u32 0, .int .u32 0, .int .u32 0, .int .u32 0, .int .u32 0, .int .u32 0, .int .u32 0, .int .u32 0, .int .u32 0, .int .u32 0, .int .u32 0, .slice none 0 0, .int .i64 0, .slice none 0 0, .slice none 0 0, .slice none 0 0, .int .i64 0, .bool false, .int .u32 0, .int .i64 0, .int .i64 0]
theorem runA_all (a b : Option Addr) (m ca n cb d q : Nat) : (runA a b m ca n cb d q).all (·.oneCell') = true := by simp [runA, Value.oneCell']
theorem runZ_all : runZ.all (·.oneCell') = true := by simp [runZ, Value.oneCell']

theorem size61 : (Try.prog.info? 61).map (·.size) = some 28 := by kernel_rfl

/-- What a run begins with. -/
def BeginPost (w : World) (a b : Option Addr) (m ca n cb : Nat) (E : Int) (e : Ending) (w' : World) : Prop :=
  w.grownBy w' none ∧ ((E = 0 ∧ ∃ d q, e = .returned (.tuple #[.agg (runA a b m ca n cb d q), .int .i64 0]) ∧ DTab w' d ∧ QTab w' q ∧ w.heap.size ≤ d ∧ w.heap.size ≤ q ∧ d < w'.heap.size ∧ q < w'.heap.size) ∨ (E ≠ 0 ∧ e = .returned (.tuple #[.agg runZ, .int .i64 E])))

set_option maxHeartbeats 1000000 in
theorem begin_any (a b : Option Addr) (ca cb : Nat) (xs : List In) (pk : List UInt8) (w : World) (ha : CV w a (flat xs)) :
    Calls Try.prog 20 #[.slice a xs.length ca, .slice b pk.length cb] w fun e w' => BeginPost w a b xs.length ca pk.length cb (runE xs pk) e w' := by
  have V0 := VAt.alloc w 61 runZ
  have G0 : w.grownBy (w.alloc (.cells runZ 61)) none := World.grownBy_alloc _ _ _
  have HS : Hid (∀ d q, (Try.prog.info? 61).map (·.size) = some (runA a b xs.length ca pk.length cb d q).size) := fun _ _ => size61
  have HZ : Hid ((Try.prog.info? 61).map (·.size) = some runZ.size) := size61
  obtain ⟨P, E, hPE⟩ : ∃ P E, checkV xs = (P, E) := ⟨_, _, rfl⟩
  have HC : Hid (∀ (W : World), w.grownBy W none → Calls Try.prog 4 #[.slice a xs.length ca] W fun e w' => e = .returned (.tuple #[.int .i64 (P : Int), .int .i64 E]) ∧ W.grownBy w' none) := fun W h => by
    have k := check_any a ca xs W (ha.keptNone h)
    rw [hPE] at k
    exact k
  clear ha
  by_cases hE : E = 0
  · subst hE
    by_cases hl : 65536 < pk.length
    · have e : runE xs pk = 51 := by simp [runE, hPE, hl]
      rw [e]
      have hl' : (65536 : Int) < (pk.length : Int) := by omega
      clear hPE
      go_enter Try.func20, Try.ntmps20
      go_upto_region 1 with fail
      rw [show w.alloc (.cells #[.int .u32 0, .int .u32 0, .int .u32 0, .int .u32 0, .int .u32 0, .int .u32 0, .int .u32 0, .int .u32 0, .int .u32 0, .int .u32 0, .int .u32 0, .int .u32 0, .int .u32 0, .int .u32 0, .int .u32 0, .int .u32 0, .int .u32 0, .int .u32 0, .slice none 0 0, .int .i64 0, .slice none 0 0, .slice none 0 0, .slice none 0 0, .int .i64 0, .bool false, .int .u32 0, .int .i64 0, .int .i64 0] 61) = w.alloc (.cells runZ 61) from rfl]
      obtain ⟨A, hA⟩ : ∃ A, w.heap.size = A := ⟨_, rfl⟩
      rw [hA] at V0 ⊢
      have HA : Hid (w.heap.size ≤ A) := Nat.le_of_eq hA
      clear hA
      generalize w.alloc (.cells runZ 61) = wa at *
      have HG0 : Hid (w.grownBy wa none) := G0
      have HV0 : Hid (VAt wa A 61 runZ) := V0
      clear G0 V0
      go_wp2_with fail
      refine (HC.out _ HG0.out).mono ?_
      rintro e w1 ⟨rfl, K1⟩
      clear HC
      have G2 := grown_trans HG0.out K1
      have V2 := HV0.out.kept K1
      clear K1
      go_wp2_with (refine wpList_store_row rfl 61 (.tmp 4) (.tmp 19) rfl A runZ rfl rfl 61 _ V2 HZ.out rfl runZ_all ?_)
      refine bodyPost_ret (ret_row rfl _ _ A runZ _ rfl (V2.setRow _) Try.underlying61 rfl HZ.out) rfl ?_
      exact ⟨vgrown_setRow G2 _ _ (.inr HA.out), .inr ⟨by decide, rfl⟩⟩
    · have e : runE xs pk = 0 := by simp [runE, hPE, hl]
      rw [e]
      have hl' : ¬ ((65536 : Int) < (pk.length : Int)) := by omega
      clear hPE
      go_enter Try.func20, Try.ntmps20
      go_upto_region 1 with fail
      rw [show w.alloc (.cells #[.int .u32 0, .int .u32 0, .int .u32 0, .int .u32 0, .int .u32 0, .int .u32 0, .int .u32 0, .int .u32 0, .int .u32 0, .int .u32 0, .int .u32 0, .int .u32 0, .int .u32 0, .int .u32 0, .int .u32 0, .int .u32 0, .int .u32 0, .int .u32 0, .slice none 0 0, .int .i64 0, .slice none 0 0, .slice none 0 0, .slice none 0 0, .int .i64 0, .bool false, .int .u32 0, .int .i64 0, .int .i64 0] 61) = w.alloc (.cells runZ 61) from rfl]
      obtain ⟨A, hA⟩ : ∃ A, w.heap.size = A := ⟨_, rfl⟩
      rw [hA] at V0 ⊢
      have HA : Hid (w.heap.size ≤ A) := Nat.le_of_eq hA
      clear hA
      generalize w.alloc (.cells runZ 61) = wa at *
      have HG0 : Hid (w.grownBy wa none) := G0
      have HV0 : Hid (VAt wa A 61 runZ) := V0
      clear G0 V0
      go_wp2_with fail
      refine (HC.out _ HG0.out).mono ?_
      rintro e w1 ⟨rfl, K1⟩
      clear HC
      have HG1 : Hid (w.grownBy w1 none) := grown_trans HG0.out K1
      have HV1 : Hid (VAt w1 A 61 runZ) := HV0.out.kept K1
      clear K1
      go_wp2_with fail
      refine (over_any b pk.length cb _).mono ?_
      rintro e w2 ⟨d, q, rfl, T2, Q2, hd, hq, K2⟩
      have HT2 : Hid (DTab w2 d ∧ QTab w2 q ∧ w1.heap.size ≤ d ∧ w1.heap.size ≤ q ∧ w1.grownBy w2 none) := ⟨T2, Q2, hd, hq, K2⟩
      have V2 := HV1.out.kept K2
      clear T2 Q2 hd hq K2
      simp only [machA]
      go_wp2_with (refine wpList_store_row rfl 61 (.tmp 4) (.tmp 23) rfl A (runA a b xs.length ca pk.length cb d q) rfl rfl 61 _ V2 (HS.out _ _) rfl (runA_all _ _ _ _ _ _ _ _) ?_)
      have KR : w2.grownBy (w2.setRow A (runA a b xs.length ca pk.length cb d q)) (some A) := vgrown_setRow (World.grownBy.refl _ _) _ _ (.inl rfl)
      refine bodyPost_ret (ret_row rfl _ _ A (runA a b xs.length ca pk.length cb d q) _ rfl (V2.setRow _) Try.underlying61 rfl (HS.out _ _)) rfl ?_
      obtain ⟨T2, Q2, hd, hq, K2⟩ := HT2.out
      have s1 := HG1.out.size
      have a1 := HV1.out.lt
      have hdl := tab_lt T2
      have hql := qtab_lt Q2
      refine ⟨vgrown_setRow (grown_trans HG1.out K2) _ _ (.inr HA.out), .inl ⟨rfl, d, q, rfl, T2.grown KR (fun e => by obtain rfl := Option.some.inj e; omega), Q2.grown KR (fun e => by obtain rfl := Option.some.inj e; omega), by omega, by omega, by rw [setRow_size]; exact hdl, by rw [setRow_size]; exact hql⟩⟩
  · have e : runE xs pk = 50 := by simp [runE, hPE, hE]
    rw [e]
    have hEb : (E != 0) = true := by rw [bne_iff_ne]; exact hE
    clear hPE hE
    go_enter Try.func20, Try.ntmps20
    go_upto_region 1 with fail
    rw [show w.alloc (.cells #[.int .u32 0, .int .u32 0, .int .u32 0, .int .u32 0, .int .u32 0, .int .u32 0, .int .u32 0, .int .u32 0, .int .u32 0, .int .u32 0, .int .u32 0, .int .u32 0, .int .u32 0, .int .u32 0, .int .u32 0, .int .u32 0, .int .u32 0, .int .u32 0, .slice none 0 0, .int .i64 0, .slice none 0 0, .slice none 0 0, .slice none 0 0, .int .i64 0, .bool false, .int .u32 0, .int .i64 0, .int .i64 0] 61) = w.alloc (.cells runZ 61) from rfl]
    obtain ⟨A, hA⟩ : ∃ A, w.heap.size = A := ⟨_, rfl⟩
    rw [hA] at V0 ⊢
    have HA : Hid (w.heap.size ≤ A) := Nat.le_of_eq hA
    clear hA
    generalize w.alloc (.cells runZ 61) = wa at *
    have HG0 : Hid (w.grownBy wa none) := G0
    have HV0 : Hid (VAt wa A 61 runZ) := V0
    clear G0 V0
    go_wp2_with fail
    refine (HC.out _ HG0.out).mono ?_
    rintro e w1 ⟨rfl, K1⟩
    clear HC
    have G2 := grown_trans HG0.out K1
    have V2 := HV0.out.kept K1
    clear K1
    go_wp2_with (refine wpList_store_row rfl 61 (.tmp 4) (.tmp 15) rfl A runZ rfl rfl 61 _ V2 HZ.out rfl runZ_all ?_)
    refine bodyPost_ret (ret_row rfl _ _ A runZ _ rfl (V2.setRow _) Try.underlying61 rfl HZ.out) rfl ?_
    exact ⟨vgrown_setRow G2 _ _ (.inr HA.out), .inr ⟨by decide, rfl⟩⟩

end Go.Proofs.Ythffbogejcbdiaa
