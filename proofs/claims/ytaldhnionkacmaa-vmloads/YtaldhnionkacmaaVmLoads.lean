/-
  For every list of bytes (its capacity at most 2^47 - 4096 bytes, as the form itself says of each argument) and every two numbers of 32 bits riddlelaw5.VmLoads returns true and leaves what was there as it was: no condition of ours.
-/
import Derived.Test.YtaldhnionkacmaaOpenI
import Derived.Test.YtaldhnionkacmaaAwake5
import Derived.Test.YtaldhnionkacmaaVmY
import Derived.Test.YtaldhnionkacmaaGetW
import Derived.Deep.DeepCutAuto
import Derived.Deep.RegionHeld3
namespace Go.Proofs.Ytaldhnionkacmaa
open Go.ChangeShapes Go.WideShapes Go.ChangeAt Go.RowKit
open Go.ChangeMaps (open_string shut_string)
set_option maxRecDepth 100000
namespace vmLoads

theorem flatL {x c k : Nat} (hx : x ≤ 4294967295) (hc : c ≤ 255) (hk : k ≤ 4294967295) : flat (loadP x c k) = [.int .u16 1, .int .u8 0, .int .u8 0, .int .u32 (x : Int), .int .u16 (c : Int), .int .u8 0, .int .u8 0, .int .u32 (k : Int), .int .u16 22, .int .u8 0, .int .u8 0, .int .u32 0] := by
  simp only [loadP, flat, List.flatMap_cons, List.flatMap_nil, mkV_cells (show (1 : Nat) ≤ 65535 by omega) (show (0 : Nat) ≤ 255 by omega) (show (0 : Nat) ≤ 255 by omega) hx, mkV_cells (show c ≤ 65535 by omega) (show (0 : Nat) ≤ 255 by omega) (show (0 : Nat) ≤ 255 by omega) hk, mkV_cells (show (22 : Nat) ≤ 65535 by omega) (show (0 : Nat) ≤ 255 by omega) (show (0 : Nat) ≤ 255 by omega) (show (0 : Nat) ≤ 4294967295 by omega)]
  rfl

theorem flatM {k : Nat} (hk : k ≤ 4294967295) : flat (mshP k) = [.int .u16 177, .int .u8 0, .int .u8 0, .int .u32 (k : Int), .int .u16 135, .int .u8 0, .int .u8 0, .int .u32 0, .int .u16 22, .int .u8 0, .int .u8 0, .int .u32 0] := by
  simp only [mshP, flat, List.flatMap_cons, List.flatMap_nil, mkV_cells (show (177 : Nat) ≤ 65535 by omega) (show (0 : Nat) ≤ 255 by omega) (show (0 : Nat) ≤ 255 by omega) hk, mkV_cells (show (135 : Nat) ≤ 65535 by omega) (show (0 : Nat) ≤ 255 by omega) (show (0 : Nat) ≤ 255 by omega) (show (0 : Nat) ≤ 4294967295 by omega), mkV_cells (show (22 : Nat) ≤ 65535 by omega) (show (0 : Nat) ≤ 255 by omega) (show (0 : Nat) ≤ 255 by omega) (show (0 : Nat) ≤ 4294967295 by omega)]
  rfl

/-- What is kept from round to round: the codes. -/
def LRel (w : World) (O P : Nat) (wr : World) : Prop :=
  CV wr (some ⟨O, 0, none⟩) [.int .u16 48, .int .u16 40, .int .u16 32] ∧ CV wr (some ⟨P, 0, none⟩) [.int .u16 80, .int .u16 72, .int .u16 64] ∧ w.grownBy wr none
/-- The places, too. -/
def FRel (w : World) (O P F x k : Nat) (wr : World) : Prop := LRel w O P wr ∧ CV wr (some ⟨F, 0, none⟩) [.int .u64 (k : Int), .int .u64 ((x : Int) + (k : Int))]

theorem LRel.kept {w wr w' : World} {O P : Nat} (h : LRel w O P wr) (K : wr.grownBy w' none) : LRel w O P w' := ⟨h.1.keptNone K, h.2.1.keptNone K, grown_trans h.2.2 K⟩
theorem FRel.kept {w wr w' : World} {O P F x k : Nat} (h : FRel w O P F x k wr) (K : wr.grownBy w' none) : FRel w O P F x k w' := ⟨h.1.kept K, h.2.keptNone K⟩

/-- The verdict, too. -/
def KF (w : World) (O P F x k B v : Nat) (f m : Int) (wr : World) : Prop := FRel w O P F x k wr ∧ V3 wr B v f m
theorem KF.kept {w wr w' : World} {O P F x k B v : Nat} {f m : Int} (h : KF w O P F x k B v f m wr) (K : wr.grownBy w' none) : KF w O P F x k B v f m w' := ⟨h.1.kept K, h.2.keptNone K⟩

theorem u8and (u : Nat) (hu : u < 256) : bits .and .u8 (u : Int) 15 = ((u % 16 : Nat) : Int) := by
  have h := u8_and_nat u 15 hu (by omega)
  rw [show ((15 : Nat) : Int) = 15 by rfl] at h
  rw [h, show (15 : Nat) = 2 ^ 4 - 1 by rfl, Nat.and_two_pow_sub_one_eq_mod]

theorem cv_at {w : World} {g : Nat} {vs : List Value} (h : CV w (some ⟨g, 0, none⟩) vs) (i : Nat) (v : Value) (hv : vs[i]? = some v) : w.cell? ⟨g, i, none⟩ = some v := by
  obtain ⟨hi, he⟩ := List.getElem?_eq_some_iff.1 hv
  have := h.2 _ rfl i hi
  rw [Addr.add_lit, Nat.zero_add] at this
  rw [this, he]

theorem runL {p : List In} {n : Nat} (hp : p.length = n) {v : Nat} {f m : Int} {pk : List UInt8} (hE : runE p pk = 0) {l : List Nat} (hV : runV p pk = (v, f, l)) (hn : (l.length : Int) = m) (a b : Option Addr) (ca cb : Nat) (W : World) (h : CV W a (flat p)) (hb : Cells W b pk) :
    Calls Try.prog 12 #[.slice a n ca, .slice b pk.length cb] W fun e w' => RunEnd W v f m 0 e w' := by
  have k := run_any a b ca cb p pk W h hb
  rw [hE, hV, hp] at k
  rw [← hn]
  exact k

/-- What a load comes to: the run's answer, and Get's. -/
theorem load_all {x c k S p : Nat} {pk : List UInt8} (hl : pk.length ≤ 5000) (h : runE (loadP x c k) pk = 0 ∧ runV (loadP x c k) pk = if okB pk.length p S = true then (numAt pk p S, 0, [0, 1, 2]) else (0, 1, [0, 1])) :
    ∃ (v : Nat) (f m : Int) (ok : Bool) (gv : Nat), ((ok = true → v = gv ∧ f = 0 ∧ m = 3) ∧ (ok = false → v = 0 ∧ f = 1 ∧ m = 2) ∧ (1048576 ≤ p → ok = false ∧ gv = 0)) ∧
      (∀ (a b : Option Addr) (ca cb : Nat) (W : World), CV W a (flat (loadP x c k)) → Cells W b pk → Calls Try.prog 12 #[.slice a 3 ca, .slice b pk.length cb] W fun e w' => RunEnd W v f m 0 e w') ∧
      (∀ (b : Option Addr) (cb : Nat) (W : World), Cells W b pk → Calls Try.prog 23 #[.slice b pk.length cb, .int .i64 (p : Int), .int .i64 (S : Int)] W fun e w' => e = .returned (.tuple #[.int .u32 (gv : Int), .bool ok]) ∧ W = w') := by
  obtain ⟨hE, hV⟩ := h
  cases hok : okB pk.length p S with
  | true =>
    rw [if_pos hok] at hV
    have hy := okB_yes hok
    refine ⟨numAt pk p S, 0, 3, true, numAt pk p S, ⟨fun _ => ⟨rfl, rfl, rfl⟩, fun h => (by cases h), fun h => by omega⟩, runL rfl hE hV rfl, fun b cb W h => ?_⟩
    have q := get_any b cb pk p S W h (by omega)
    rw [hok, getV, if_pos hok] at q
    exact q
  | false =>
    rw [if_neg (by rw [hok]; simp)] at hV
    refine ⟨0, 1, 2, false, 0, ⟨fun h => (by cases h), fun _ => ⟨rfl, rfl, rfl⟩, fun _ => ⟨rfl, rfl⟩⟩, runL rfl hE hV rfl, fun b cb W h => ?_⟩
    have q := get_any b cb pk p S W h (by omega)
    rw [hok, getV, if_neg (by rw [hok]; simp)] at q
    exact q

/-- What is laid out as a program of one load. -/
abbrev LC (x c k : Nat) : Array Value := #[.int .u16 1, .int .u8 0, .int .u8 0, .int .u32 (x : Int), .int .u16 (c : Int), .int .u8 0, .int .u8 0, .int .u32 (k : Int), .int .u16 22, .int .u8 0, .int .u8 0, .int .u32 0]

set_option maxHeartbeats 2000000 in
theorem walk (a : Option Addr) (ca : Nat) (pk : List UInt8) (x k : Nat) (w : World) (ha : Cells w a pk) (hc0 : a = none → ca = 0) (hn : pk.length ≤ 140737488351232) (hx : x ≤ 4294967295) (hk : k ≤ 4294967295) :
    Calls Try.prog 8 #[.slice a pk.length ca, .int .u32 (x : Int), .int .u32 (k : Int)] w fun e w' => e = .returned (.bool true) ∧ w.grownBy w' none := by
  have H : Hid (Cells w a pk) := ha
  clear ha
  by_cases hl : 5000 < pk.length
  · have hl' : (5000 : Int) < (pk.length : Int) := by omega
    go_enter Try.func8, Try.ntmps8
    go_wp2_with fail
    refine (awake5_any _).mono ?_
    rintro e w1 ⟨rfl, G1⟩
    go_wp2
    go_ret
    exact ⟨rfl, G1⟩
  · have hl' : ¬ ((5000 : Int) < (pk.length : Int)) := by omega
    have hl5 : pk.length ≤ 5000 := by omega
    obtain ⟨A0, A1, A2⟩ := abs_run (x := x) (k := k) hl5 hx hk
    obtain ⟨I0, I1, I2⟩ := ind_run (x := x) (k := k) hl5 hx hk
    have HA0 : Hid _ := A0
    have HA1 : Hid _ := A1
    have HA2 : Hid _ := A2
    have HI0 : Hid _ := I0
    have HI1 : Hid _ := I1
    have HI2 : Hid _ := I2
    clear A0 A1 A2 I0 I1 I2
    go_enter Try.func8, Try.ntmps8
    go_upto_region 4 with fail
    have G0 : w.grownBy (w.alloc (.cells #[.int .u16 48, .int .u16 40, .int .u16 32] 45)) none := World.grownBy_alloc _ _ _
    have O0 : CV (w.alloc (.cells #[.int .u16 48, .int .u16 40, .int .u16 32] 45)) (some ⟨w.heap.size, 0, none⟩) [.int .u16 48, .int .u16 40, .int .u16 32] := cv_lit w _ _
    generalize w.alloc (.cells #[.int .u16 48, .int .u16 40, .int .u16 32] 45) = wo at *
    generalize w.heap.size = O at *
    go_upto_region 5 with fail
    have R0 : LRel w O wo.heap.size (wo.alloc (.cells #[.int .u16 80, .int .u16 72, .int .u16 64] 45)) := ⟨O0.keptNone (World.grownBy_alloc _ _ _), cv_lit wo _ _, grown_trans G0 (World.grownBy_alloc _ _ _)⟩
    clear G0 O0
    generalize wo.alloc (.cells #[.int .u16 80, .int .u16 72, .int .u16 64] 45) = wq at *
    generalize wo.heap.size = P at *
    go_wp2
    go_loopw [10] (fun i wr => ∃ n : Nat, n ≤ 3 ∧ i = .int .i64 n ∧ LRel w O P wr) (fun i _ => 3 - (intOf i).toNat)
    case atStart => exact ⟨0, by omega, rfl, R0⟩
    case round =>
      clear R0
      obtain ⟨n, hn3, rfl, R⟩ := hrel
      by_cases hlt : n < 3
      · rcases (show n = 0 ∨ n = 1 ∨ n = 2 by omega) with rfl | rfl | rfl
        · rw [show ((0 : Nat) : Int) = 0 from rfl]
          go_upto_region 10 with fail
          have R1 : FRel w O P wr.heap.size x k (wr.alloc (.cells #[.int .u64 (k : Int), .int .u64 ((x : Int) + (k : Int))] 51)) := ⟨R.kept (World.grownBy_alloc _ _ _), cv_lit wr _ _⟩
          clear R
          generalize wr.alloc (.cells #[.int .u64 (k : Int), .int .u64 ((x : Int) + (k : Int))] 51) = wf at *
          generalize wr.heap.size = F at *
          go_wp2
          go_loopw [12] (fun i wr => ∃ n : Nat, n ≤ 2 ∧ i = .int .i64 n ∧ FRel w O P F x k wr) (fun i _ => 2 - (intOf i).toNat)
          case atStart => exact ⟨0, by omega, rfl, R1⟩
          case round =>
            clear R1
            obtain ⟨n, hn2, rfl, R⟩ := hrel
            by_cases hlt2 : n < 2
            · rcases (show n = 0 ∨ n = 1 by omega) with rfl | rfl
              · skip
                have co := cv_at R.1.1 0 (.int .u16 48) rfl
                have cq := cv_at R.1.2.1 0 (.int .u16 80) rfl
                obtain ⟨v, f, m, ok, gv, hT, HRUN, HGET⟩ := load_all (S := 1) (p := k) hl5 HA0.out
                go_upto_region 16 with fail
                clear co cq
                have HFL : Hid (flat (loadP x 48 k) = (LC x 48 k).toList) := flatL hx (by omega) hk
                have R1 := R.kept (World.grownBy_alloc wr (.cells (LC x 48 k) 47) none)
                have C1 : CV (wr.alloc (.cells (LC x 48 k) 47)) (some ⟨wr.heap.size, 0, none⟩) (flat (loadP x 48 k)) := by
                  rw [HFL.out]
                  exact cv_lit wr _ _
                have HR1 : Hid (FRel w O P F x k (wr.alloc (.cells (LC x 48 k) 47))) := R1
                have HC1 : Hid (CV (wr.alloc (.cells (LC x 48 k) 47)) (some ⟨wr.heap.size, 0, none⟩) (flat (loadP x 48 k))) := C1
                clear R1 C1 R
                go_wp2_with fail
                refine (copy_any a ca pk _ (H.out.keptNone HR1.out.1.2.2) hc0 (by omega)).mono ?_
                rintro e w2 ⟨v2, rfl, O2, K2⟩
                obtain ⟨ao2, cap2, rfl, P2, -⟩ := O2.rd
                have R2 := HR1.out.kept K2
                have C2 := HC1.out.keptNone K2
                clear HR1 HC1 O2 K2
                go_wp2_with fail
                refine (HRUN _ _ _ _ _ C2 P2).mono ?_
                rintro e w3 ⟨rfl, K3⟩
                have R3 := R2.kept K3
                clear R2 C2 P2 K3 HRUN
                go_upto_region 17 with fail
                have R4 := R3.kept (World.grownBy_alloc w3 (.cells #[.int .u32 (v : Int), .int .i64 f, .int .i64 m] 26) none)
                have V4 := v3_alloc w3 26 v f m
                generalize w3.alloc (.cells #[.int .u32 (v : Int), .int .i64 f, .int .i64 m] 26) = w4 at *
                generalize w3.heap.size = B4 at *
                clear R3
                have cf := cv_at R4.2 0 (.int .u64 (k : Int)) rfl
                have HKF : Hid (KF w O P F x k B4 v f m w4) := ⟨R4, V4⟩
                have HCW : Hid (Cells w4 a pk) := H.out.keptNone R4.1.2.2
                by_cases hp1 : (k : Int) < 1048576
                · skip
                  have hd1 : decide ((k : Int) < 1048576) = true := decide_eq_true hp1
                  have hd2 : decide (k < 1048576) = true := decide_eq_true (by omega)
                  have HW1 : Hid (IntKind.i64.wrap (k : Int) = (k : Int)) := by show IntKind.i64.wrap _ = _; rw [IntKind.wrap_i64]; omega
                  have HW2 : Hid (IntKind.i64.wrap 1 = 1) := by show IntKind.i64.wrap _ = _; rw [IntKind.wrap_i64]; rfl
                  have HG2 : Hid (∀ (b : Option Addr) (cb : Nat) (W : World), Cells W b pk → Calls Try.prog 23 #[.slice b pk.length cb, .int .i64 (k : Int), .int .i64 1] W fun e w' => e = .returned (.tuple #[.int .u32 (gv : Int), .bool ok]) ∧ W = w') := HGET
                  go_upto_if 72 with fail
                  go_cut [16, 17] (fun p q wx => p = .int .u32 (gv : Int) ∧ q = .bool ok ∧ FRel w O P F x k wx ∧ V3 wx B4 v f m)
                  case first =>
                    clear HGET hT
                    go_wp2
                    go_region_held3 (fun W => W.cell? ⟨F, 0, none⟩ = some (.int .u64 (k : Int)) ∧ KF w O P F x k B4 v f m W) (first | exact ⟨cv_at (by assumption : KF w O P F x k B4 v f m _).1.2 0 (.int .u64 (k : Int)) rfl, by assumption⟩ | exact ⟨cf, HKF.out.kept (grown_drewN w4 1 none)⟩) (first | (go_at_call 18; refine (copy_any a ca pk _ (by exact HCW.out) hc0 (by omega)).mono ?_; rintro e w' ⟨v', rfl, O', K'⟩; obtain ⟨ao', cap', rfl, P', -⟩ := O'.rd; have KF' := HKF.out.kept (grown_trans (grown_drewN w4 1 none) K'); clear O') | (go_at_call 23; rw [HW1.out, HW2.out]; refine (HG2.out _ _ _ (by exact P')).mono ?_; rintro e w' ⟨rfl, rfl⟩))
                    all_goals
                      go_wp2
                      go_meet
                      exact ⟨rfl, rfl, KF'.1, KF'.2⟩
                  case rest =>
                    obtain ⟨rfl, rfl, R5, V5⟩ := hcut
                    obtain ⟨y0, y1, y2⟩ := V5
                    clear cf R4 V4 HCW HGET HKF
                    cases ok with
                    | true =>
                      obtain ⟨rfl, rfl, rfl⟩ := hT.1 rfl
                      clear hT
                      go_wp2
                      go_roundw
                      case rel => exact ⟨1, by omega, by go_num, R5⟩
                      case measure => simp [intOf]
                    | false =>
                      obtain ⟨rfl, rfl, rfl⟩ := hT.2.1 rfl
                      clear hT
                      go_wp2
                      go_roundw
                      case rel => exact ⟨1, by omega, by go_num, R5⟩
                      case measure => simp [intOf]
                · obtain ⟨hok0, hgv0⟩ := hT.2.2 (by omega)
                  subst hok0 hgv0
                  have hd1 : decide ((k : Int) < 1048576) = false := decide_eq_false hp1
                  have hd2 : decide (k < 1048576) = false := decide_eq_false (by omega)
                  go_upto_if 72 with fail
                  go_cut [16, 17] (fun p q wx => p = .int .u32 0 ∧ q = .bool false ∧ FRel w O P F x k wx ∧ V3 wx B4 v f m)
                  case first =>
                    go_wp2
                    go_meet
                    exact ⟨rfl, rfl, R4, V4⟩
                  case rest =>
                    obtain ⟨rfl, rfl, R5, V5⟩ := hcut
                    obtain ⟨y0, y1, y2⟩ := V5
                    clear cf R4 V4 HCW HGET HKF
                    obtain ⟨rfl, rfl, rfl⟩ := hT.2.1 rfl
                    clear hT
                    go_wp2
                    go_roundw
                    case rel => exact ⟨1, by omega, by go_num, R5⟩
                    case measure => simp [intOf]
              · skip
                have co := cv_at R.1.1 0 (.int .u16 48) rfl
                have cq := cv_at R.1.2.1 0 (.int .u16 80) rfl
                obtain ⟨v, f, m, ok, gv, hT, HRUN, HGET⟩ := load_all (S := 1) (p := (k + x)) hl5 HI0.out
                go_upto_region 16 with fail
                clear co cq
                have HFL : Hid (flat (loadP x 80 k) = (LC x 80 k).toList) := flatL hx (by omega) hk
                have R1 := R.kept (World.grownBy_alloc wr (.cells (LC x 80 k) 47) none)
                have C1 : CV (wr.alloc (.cells (LC x 80 k) 47)) (some ⟨wr.heap.size, 0, none⟩) (flat (loadP x 80 k)) := by
                  rw [HFL.out]
                  exact cv_lit wr _ _
                have HR1 : Hid (FRel w O P F x k (wr.alloc (.cells (LC x 80 k) 47))) := R1
                have HC1 : Hid (CV (wr.alloc (.cells (LC x 80 k) 47)) (some ⟨wr.heap.size, 0, none⟩) (flat (loadP x 80 k))) := C1
                clear R1 C1 R
                go_wp2_with fail
                refine (copy_any a ca pk _ (H.out.keptNone HR1.out.1.2.2) hc0 (by omega)).mono ?_
                rintro e w2 ⟨v2, rfl, O2, K2⟩
                obtain ⟨ao2, cap2, rfl, P2, -⟩ := O2.rd
                have R2 := HR1.out.kept K2
                have C2 := HC1.out.keptNone K2
                clear HR1 HC1 O2 K2
                go_wp2_with fail
                refine (HRUN _ _ _ _ _ C2 P2).mono ?_
                rintro e w3 ⟨rfl, K3⟩
                have R3 := R2.kept K3
                clear R2 C2 P2 K3 HRUN
                go_upto_region 17 with fail
                have R4 := R3.kept (World.grownBy_alloc w3 (.cells #[.int .u32 (v : Int), .int .i64 f, .int .i64 m] 26) none)
                have V4 := v3_alloc w3 26 v f m
                generalize w3.alloc (.cells #[.int .u32 (v : Int), .int .i64 f, .int .i64 m] 26) = w4 at *
                generalize w3.heap.size = B4 at *
                clear R3
                have cf := cv_at R4.2 1 (.int .u64 ((x : Int) + (k : Int))) rfl
                have HKF : Hid (KF w O P F x k B4 v f m w4) := ⟨R4, V4⟩
                have HCW : Hid (Cells w4 a pk) := H.out.keptNone R4.1.2.2
                by_cases hp1 : ((x : Int) + (k : Int)) < 1048576
                · skip
                  have hd1 : decide (((x : Int) + (k : Int)) < 1048576) = true := decide_eq_true hp1
                  have hd2 : decide (x + k < 1048576) = true := decide_eq_true (by omega)
                  have HW1 : Hid (IntKind.i64.wrap ((x : Int) + (k : Int)) = ((x : Int) + (k : Int))) := by show IntKind.i64.wrap _ = _; rw [IntKind.wrap_i64]; omega
                  have HW2 : Hid (IntKind.i64.wrap 1 = 1) := by show IntKind.i64.wrap _ = _; rw [IntKind.wrap_i64]; rfl
                  have HG2 : Hid (∀ (b : Option Addr) (cb : Nat) (W : World), Cells W b pk → Calls Try.prog 23 #[.slice b pk.length cb, .int .i64 ((x : Int) + (k : Int)), .int .i64 1] W fun e w' => e = .returned (.tuple #[.int .u32 (gv : Int), .bool ok]) ∧ W = w') := by rw [show ((x : Int) + (k : Int)) = ((k + x : Nat) : Int) by omega]; exact HGET
                  go_upto_if 72 with fail
                  go_cut [16, 17] (fun p q wx => p = .int .u32 (gv : Int) ∧ q = .bool ok ∧ FRel w O P F x k wx ∧ V3 wx B4 v f m)
                  case first =>
                    clear HGET hT
                    go_wp2
                    go_region_held3 (fun W => W.cell? ⟨F, 1, none⟩ = some (.int .u64 ((x : Int) + (k : Int))) ∧ KF w O P F x k B4 v f m W) (first | exact ⟨cv_at (by assumption : KF w O P F x k B4 v f m _).1.2 1 (.int .u64 ((x : Int) + (k : Int))) rfl, by assumption⟩ | exact ⟨cf, HKF.out.kept (grown_drewN w4 1 none)⟩) (first | (go_at_call 18; refine (copy_any a ca pk _ (by exact HCW.out) hc0 (by omega)).mono ?_; rintro e w' ⟨v', rfl, O', K'⟩; obtain ⟨ao', cap', rfl, P', -⟩ := O'.rd; have KF' := HKF.out.kept (grown_trans (grown_drewN w4 1 none) K'); clear O') | (go_at_call 23; rw [HW1.out, HW2.out]; refine (HG2.out _ _ _ (by exact P')).mono ?_; rintro e w' ⟨rfl, rfl⟩))
                    all_goals
                      go_wp2
                      go_meet
                      exact ⟨rfl, rfl, KF'.1, KF'.2⟩
                  case rest =>
                    obtain ⟨rfl, rfl, R5, V5⟩ := hcut
                    obtain ⟨y0, y1, y2⟩ := V5
                    clear cf R4 V4 HCW HGET HKF
                    cases ok with
                    | true =>
                      obtain ⟨rfl, rfl, rfl⟩ := hT.1 rfl
                      clear hT
                      go_wp2
                      go_roundw
                      case rel => exact ⟨2, by omega, by go_num, R5⟩
                      case measure => simp [intOf]
                    | false =>
                      obtain ⟨rfl, rfl, rfl⟩ := hT.2.1 rfl
                      clear hT
                      go_wp2
                      go_roundw
                      case rel => exact ⟨2, by omega, by go_num, R5⟩
                      case measure => simp [intOf]
                · obtain ⟨hok0, hgv0⟩ := hT.2.2 (by omega)
                  subst hok0 hgv0
                  have hd1 : decide (((x : Int) + (k : Int)) < 1048576) = false := decide_eq_false hp1
                  have hd2 : decide (x + k < 1048576) = false := decide_eq_false (by omega)
                  go_upto_if 72 with fail
                  go_cut [16, 17] (fun p q wx => p = .int .u32 0 ∧ q = .bool false ∧ FRel w O P F x k wx ∧ V3 wx B4 v f m)
                  case first =>
                    go_wp2
                    go_meet
                    exact ⟨rfl, rfl, R4, V4⟩
                  case rest =>
                    obtain ⟨rfl, rfl, R5, V5⟩ := hcut
                    obtain ⟨y0, y1, y2⟩ := V5
                    clear cf R4 V4 HCW HGET HKF
                    obtain ⟨rfl, rfl, rfl⟩ := hT.2.1 rfl
                    clear hT
                    go_wp2
                    go_roundw
                    case rel => exact ⟨2, by omega, by go_num, R5⟩
                    case measure => simp [intOf]
            · obtain rfl : n = 2 := by omega
              go_wp2
              go_roundw
              case rel => exact ⟨1, by omega, by go_num, R.1⟩
              case measure => simp [intOf]
        · rw [show ((1 : Nat) : Int) = 1 from rfl]
          go_upto_region 10 with fail
          have R1 : FRel w O P wr.heap.size x k (wr.alloc (.cells #[.int .u64 (k : Int), .int .u64 ((x : Int) + (k : Int))] 51)) := ⟨R.kept (World.grownBy_alloc _ _ _), cv_lit wr _ _⟩
          clear R
          generalize wr.alloc (.cells #[.int .u64 (k : Int), .int .u64 ((x : Int) + (k : Int))] 51) = wf at *
          generalize wr.heap.size = F at *
          go_wp2
          go_loopw [12] (fun i wr => ∃ n : Nat, n ≤ 2 ∧ i = .int .i64 n ∧ FRel w O P F x k wr) (fun i _ => 2 - (intOf i).toNat)
          case atStart => exact ⟨0, by omega, rfl, R1⟩
          case round =>
            clear R1
            obtain ⟨n, hn2, rfl, R⟩ := hrel
            by_cases hlt2 : n < 2
            · rcases (show n = 0 ∨ n = 1 by omega) with rfl | rfl
              · skip
                have co := cv_at R.1.1 1 (.int .u16 40) rfl
                have cq := cv_at R.1.2.1 1 (.int .u16 72) rfl
                obtain ⟨v, f, m, ok, gv, hT, HRUN, HGET⟩ := load_all (S := 2) (p := k) hl5 HA1.out
                go_upto_region 16 with fail
                clear co cq
                have HFL : Hid (flat (loadP x 40 k) = (LC x 40 k).toList) := flatL hx (by omega) hk
                have R1 := R.kept (World.grownBy_alloc wr (.cells (LC x 40 k) 47) none)
                have C1 : CV (wr.alloc (.cells (LC x 40 k) 47)) (some ⟨wr.heap.size, 0, none⟩) (flat (loadP x 40 k)) := by
                  rw [HFL.out]
                  exact cv_lit wr _ _
                have HR1 : Hid (FRel w O P F x k (wr.alloc (.cells (LC x 40 k) 47))) := R1
                have HC1 : Hid (CV (wr.alloc (.cells (LC x 40 k) 47)) (some ⟨wr.heap.size, 0, none⟩) (flat (loadP x 40 k))) := C1
                clear R1 C1 R
                go_wp2_with fail
                refine (copy_any a ca pk _ (H.out.keptNone HR1.out.1.2.2) hc0 (by omega)).mono ?_
                rintro e w2 ⟨v2, rfl, O2, K2⟩
                obtain ⟨ao2, cap2, rfl, P2, -⟩ := O2.rd
                have R2 := HR1.out.kept K2
                have C2 := HC1.out.keptNone K2
                clear HR1 HC1 O2 K2
                go_wp2_with fail
                refine (HRUN _ _ _ _ _ C2 P2).mono ?_
                rintro e w3 ⟨rfl, K3⟩
                have R3 := R2.kept K3
                clear R2 C2 P2 K3 HRUN
                go_upto_region 17 with fail
                have R4 := R3.kept (World.grownBy_alloc w3 (.cells #[.int .u32 (v : Int), .int .i64 f, .int .i64 m] 26) none)
                have V4 := v3_alloc w3 26 v f m
                generalize w3.alloc (.cells #[.int .u32 (v : Int), .int .i64 f, .int .i64 m] 26) = w4 at *
                generalize w3.heap.size = B4 at *
                clear R3
                have cf := cv_at R4.2 0 (.int .u64 (k : Int)) rfl
                have HKF : Hid (KF w O P F x k B4 v f m w4) := ⟨R4, V4⟩
                have HCW : Hid (Cells w4 a pk) := H.out.keptNone R4.1.2.2
                by_cases hp1 : (k : Int) < 1048576
                · skip
                  have hd1 : decide ((k : Int) < 1048576) = true := decide_eq_true hp1
                  have hd2 : decide (k < 1048576) = true := decide_eq_true (by omega)
                  have HW1 : Hid (IntKind.i64.wrap (k : Int) = (k : Int)) := by show IntKind.i64.wrap _ = _; rw [IntKind.wrap_i64]; omega
                  have HW2 : Hid (IntKind.i64.wrap 2 = 2) := by show IntKind.i64.wrap _ = _; rw [IntKind.wrap_i64]; rfl
                  have HG2 : Hid (∀ (b : Option Addr) (cb : Nat) (W : World), Cells W b pk → Calls Try.prog 23 #[.slice b pk.length cb, .int .i64 (k : Int), .int .i64 2] W fun e w' => e = .returned (.tuple #[.int .u32 (gv : Int), .bool ok]) ∧ W = w') := HGET
                  go_upto_if 72 with fail
                  go_cut [16, 17] (fun p q wx => p = .int .u32 (gv : Int) ∧ q = .bool ok ∧ FRel w O P F x k wx ∧ V3 wx B4 v f m)
                  case first =>
                    clear HGET hT
                    go_wp2
                    go_region_held3 (fun W => W.cell? ⟨F, 0, none⟩ = some (.int .u64 (k : Int)) ∧ KF w O P F x k B4 v f m W) (first | exact ⟨cv_at (by assumption : KF w O P F x k B4 v f m _).1.2 0 (.int .u64 (k : Int)) rfl, by assumption⟩ | exact ⟨cf, HKF.out.kept (grown_drewN w4 1 none)⟩) (first | (go_at_call 18; refine (copy_any a ca pk _ (by exact HCW.out) hc0 (by omega)).mono ?_; rintro e w' ⟨v', rfl, O', K'⟩; obtain ⟨ao', cap', rfl, P', -⟩ := O'.rd; have KF' := HKF.out.kept (grown_trans (grown_drewN w4 1 none) K'); clear O') | (go_at_call 23; rw [HW1.out, HW2.out]; refine (HG2.out _ _ _ (by exact P')).mono ?_; rintro e w' ⟨rfl, rfl⟩))
                    all_goals
                      go_wp2
                      go_meet
                      exact ⟨rfl, rfl, KF'.1, KF'.2⟩
                  case rest =>
                    obtain ⟨rfl, rfl, R5, V5⟩ := hcut
                    obtain ⟨y0, y1, y2⟩ := V5
                    clear cf R4 V4 HCW HGET HKF
                    cases ok with
                    | true =>
                      obtain ⟨rfl, rfl, rfl⟩ := hT.1 rfl
                      clear hT
                      go_wp2
                      go_roundw
                      case rel => exact ⟨1, by omega, by go_num, R5⟩
                      case measure => simp [intOf]
                    | false =>
                      obtain ⟨rfl, rfl, rfl⟩ := hT.2.1 rfl
                      clear hT
                      go_wp2
                      go_roundw
                      case rel => exact ⟨1, by omega, by go_num, R5⟩
                      case measure => simp [intOf]
                · obtain ⟨hok0, hgv0⟩ := hT.2.2 (by omega)
                  subst hok0 hgv0
                  have hd1 : decide ((k : Int) < 1048576) = false := decide_eq_false hp1
                  have hd2 : decide (k < 1048576) = false := decide_eq_false (by omega)
                  go_upto_if 72 with fail
                  go_cut [16, 17] (fun p q wx => p = .int .u32 0 ∧ q = .bool false ∧ FRel w O P F x k wx ∧ V3 wx B4 v f m)
                  case first =>
                    go_wp2
                    go_meet
                    exact ⟨rfl, rfl, R4, V4⟩
                  case rest =>
                    obtain ⟨rfl, rfl, R5, V5⟩ := hcut
                    obtain ⟨y0, y1, y2⟩ := V5
                    clear cf R4 V4 HCW HGET HKF
                    obtain ⟨rfl, rfl, rfl⟩ := hT.2.1 rfl
                    clear hT
                    go_wp2
                    go_roundw
                    case rel => exact ⟨1, by omega, by go_num, R5⟩
                    case measure => simp [intOf]
              · skip
                have co := cv_at R.1.1 1 (.int .u16 40) rfl
                have cq := cv_at R.1.2.1 1 (.int .u16 72) rfl
                obtain ⟨v, f, m, ok, gv, hT, HRUN, HGET⟩ := load_all (S := 2) (p := (k + x)) hl5 HI1.out
                go_upto_region 16 with fail
                clear co cq
                have HFL : Hid (flat (loadP x 72 k) = (LC x 72 k).toList) := flatL hx (by omega) hk
                have R1 := R.kept (World.grownBy_alloc wr (.cells (LC x 72 k) 47) none)
                have C1 : CV (wr.alloc (.cells (LC x 72 k) 47)) (some ⟨wr.heap.size, 0, none⟩) (flat (loadP x 72 k)) := by
                  rw [HFL.out]
                  exact cv_lit wr _ _
                have HR1 : Hid (FRel w O P F x k (wr.alloc (.cells (LC x 72 k) 47))) := R1
                have HC1 : Hid (CV (wr.alloc (.cells (LC x 72 k) 47)) (some ⟨wr.heap.size, 0, none⟩) (flat (loadP x 72 k))) := C1
                clear R1 C1 R
                go_wp2_with fail
                refine (copy_any a ca pk _ (H.out.keptNone HR1.out.1.2.2) hc0 (by omega)).mono ?_
                rintro e w2 ⟨v2, rfl, O2, K2⟩
                obtain ⟨ao2, cap2, rfl, P2, -⟩ := O2.rd
                have R2 := HR1.out.kept K2
                have C2 := HC1.out.keptNone K2
                clear HR1 HC1 O2 K2
                go_wp2_with fail
                refine (HRUN _ _ _ _ _ C2 P2).mono ?_
                rintro e w3 ⟨rfl, K3⟩
                have R3 := R2.kept K3
                clear R2 C2 P2 K3 HRUN
                go_upto_region 17 with fail
                have R4 := R3.kept (World.grownBy_alloc w3 (.cells #[.int .u32 (v : Int), .int .i64 f, .int .i64 m] 26) none)
                have V4 := v3_alloc w3 26 v f m
                generalize w3.alloc (.cells #[.int .u32 (v : Int), .int .i64 f, .int .i64 m] 26) = w4 at *
                generalize w3.heap.size = B4 at *
                clear R3
                have cf := cv_at R4.2 1 (.int .u64 ((x : Int) + (k : Int))) rfl
                have HKF : Hid (KF w O P F x k B4 v f m w4) := ⟨R4, V4⟩
                have HCW : Hid (Cells w4 a pk) := H.out.keptNone R4.1.2.2
                by_cases hp1 : ((x : Int) + (k : Int)) < 1048576
                · skip
                  have hd1 : decide (((x : Int) + (k : Int)) < 1048576) = true := decide_eq_true hp1
                  have hd2 : decide (x + k < 1048576) = true := decide_eq_true (by omega)
                  have HW1 : Hid (IntKind.i64.wrap ((x : Int) + (k : Int)) = ((x : Int) + (k : Int))) := by show IntKind.i64.wrap _ = _; rw [IntKind.wrap_i64]; omega
                  have HW2 : Hid (IntKind.i64.wrap 2 = 2) := by show IntKind.i64.wrap _ = _; rw [IntKind.wrap_i64]; rfl
                  have HG2 : Hid (∀ (b : Option Addr) (cb : Nat) (W : World), Cells W b pk → Calls Try.prog 23 #[.slice b pk.length cb, .int .i64 ((x : Int) + (k : Int)), .int .i64 2] W fun e w' => e = .returned (.tuple #[.int .u32 (gv : Int), .bool ok]) ∧ W = w') := by rw [show ((x : Int) + (k : Int)) = ((k + x : Nat) : Int) by omega]; exact HGET
                  go_upto_if 72 with fail
                  go_cut [16, 17] (fun p q wx => p = .int .u32 (gv : Int) ∧ q = .bool ok ∧ FRel w O P F x k wx ∧ V3 wx B4 v f m)
                  case first =>
                    clear HGET hT
                    go_wp2
                    go_region_held3 (fun W => W.cell? ⟨F, 1, none⟩ = some (.int .u64 ((x : Int) + (k : Int))) ∧ KF w O P F x k B4 v f m W) (first | exact ⟨cv_at (by assumption : KF w O P F x k B4 v f m _).1.2 1 (.int .u64 ((x : Int) + (k : Int))) rfl, by assumption⟩ | exact ⟨cf, HKF.out.kept (grown_drewN w4 1 none)⟩) (first | (go_at_call 18; refine (copy_any a ca pk _ (by exact HCW.out) hc0 (by omega)).mono ?_; rintro e w' ⟨v', rfl, O', K'⟩; obtain ⟨ao', cap', rfl, P', -⟩ := O'.rd; have KF' := HKF.out.kept (grown_trans (grown_drewN w4 1 none) K'); clear O') | (go_at_call 23; rw [HW1.out, HW2.out]; refine (HG2.out _ _ _ (by exact P')).mono ?_; rintro e w' ⟨rfl, rfl⟩))
                    all_goals
                      go_wp2
                      go_meet
                      exact ⟨rfl, rfl, KF'.1, KF'.2⟩
                  case rest =>
                    obtain ⟨rfl, rfl, R5, V5⟩ := hcut
                    obtain ⟨y0, y1, y2⟩ := V5
                    clear cf R4 V4 HCW HGET HKF
                    cases ok with
                    | true =>
                      obtain ⟨rfl, rfl, rfl⟩ := hT.1 rfl
                      clear hT
                      go_wp2
                      go_roundw
                      case rel => exact ⟨2, by omega, by go_num, R5⟩
                      case measure => simp [intOf]
                    | false =>
                      obtain ⟨rfl, rfl, rfl⟩ := hT.2.1 rfl
                      clear hT
                      go_wp2
                      go_roundw
                      case rel => exact ⟨2, by omega, by go_num, R5⟩
                      case measure => simp [intOf]
                · obtain ⟨hok0, hgv0⟩ := hT.2.2 (by omega)
                  subst hok0 hgv0
                  have hd1 : decide (((x : Int) + (k : Int)) < 1048576) = false := decide_eq_false hp1
                  have hd2 : decide (x + k < 1048576) = false := decide_eq_false (by omega)
                  go_upto_if 72 with fail
                  go_cut [16, 17] (fun p q wx => p = .int .u32 0 ∧ q = .bool false ∧ FRel w O P F x k wx ∧ V3 wx B4 v f m)
                  case first =>
                    go_wp2
                    go_meet
                    exact ⟨rfl, rfl, R4, V4⟩
                  case rest =>
                    obtain ⟨rfl, rfl, R5, V5⟩ := hcut
                    obtain ⟨y0, y1, y2⟩ := V5
                    clear cf R4 V4 HCW HGET HKF
                    obtain ⟨rfl, rfl, rfl⟩ := hT.2.1 rfl
                    clear hT
                    go_wp2
                    go_roundw
                    case rel => exact ⟨2, by omega, by go_num, R5⟩
                    case measure => simp [intOf]
            · obtain rfl : n = 2 := by omega
              go_wp2
              go_roundw
              case rel => exact ⟨2, by omega, by go_num, R.1⟩
              case measure => simp [intOf]
        · rw [show ((2 : Nat) : Int) = 2 from rfl]
          go_upto_region 10 with fail
          have R1 : FRel w O P wr.heap.size x k (wr.alloc (.cells #[.int .u64 (k : Int), .int .u64 ((x : Int) + (k : Int))] 51)) := ⟨R.kept (World.grownBy_alloc _ _ _), cv_lit wr _ _⟩
          clear R
          generalize wr.alloc (.cells #[.int .u64 (k : Int), .int .u64 ((x : Int) + (k : Int))] 51) = wf at *
          generalize wr.heap.size = F at *
          go_wp2
          go_loopw [12] (fun i wr => ∃ n : Nat, n ≤ 2 ∧ i = .int .i64 n ∧ FRel w O P F x k wr) (fun i _ => 2 - (intOf i).toNat)
          case atStart => exact ⟨0, by omega, rfl, R1⟩
          case round =>
            clear R1
            obtain ⟨n, hn2, rfl, R⟩ := hrel
            by_cases hlt2 : n < 2
            · rcases (show n = 0 ∨ n = 1 by omega) with rfl | rfl
              · skip
                have co := cv_at R.1.1 2 (.int .u16 32) rfl
                have cq := cv_at R.1.2.1 2 (.int .u16 64) rfl
                obtain ⟨v, f, m, ok, gv, hT, HRUN, HGET⟩ := load_all (S := 4) (p := k) hl5 HA2.out
                go_upto_region 16 with fail
                clear co cq
                have HFL : Hid (flat (loadP x 32 k) = (LC x 32 k).toList) := flatL hx (by omega) hk
                have R1 := R.kept (World.grownBy_alloc wr (.cells (LC x 32 k) 47) none)
                have C1 : CV (wr.alloc (.cells (LC x 32 k) 47)) (some ⟨wr.heap.size, 0, none⟩) (flat (loadP x 32 k)) := by
                  rw [HFL.out]
                  exact cv_lit wr _ _
                have HR1 : Hid (FRel w O P F x k (wr.alloc (.cells (LC x 32 k) 47))) := R1
                have HC1 : Hid (CV (wr.alloc (.cells (LC x 32 k) 47)) (some ⟨wr.heap.size, 0, none⟩) (flat (loadP x 32 k))) := C1
                clear R1 C1 R
                go_wp2_with fail
                refine (copy_any a ca pk _ (H.out.keptNone HR1.out.1.2.2) hc0 (by omega)).mono ?_
                rintro e w2 ⟨v2, rfl, O2, K2⟩
                obtain ⟨ao2, cap2, rfl, P2, -⟩ := O2.rd
                have R2 := HR1.out.kept K2
                have C2 := HC1.out.keptNone K2
                clear HR1 HC1 O2 K2
                go_wp2_with fail
                refine (HRUN _ _ _ _ _ C2 P2).mono ?_
                rintro e w3 ⟨rfl, K3⟩
                have R3 := R2.kept K3
                clear R2 C2 P2 K3 HRUN
                go_upto_region 17 with fail
                have R4 := R3.kept (World.grownBy_alloc w3 (.cells #[.int .u32 (v : Int), .int .i64 f, .int .i64 m] 26) none)
                have V4 := v3_alloc w3 26 v f m
                generalize w3.alloc (.cells #[.int .u32 (v : Int), .int .i64 f, .int .i64 m] 26) = w4 at *
                generalize w3.heap.size = B4 at *
                clear R3
                have cf := cv_at R4.2 0 (.int .u64 (k : Int)) rfl
                have HKF : Hid (KF w O P F x k B4 v f m w4) := ⟨R4, V4⟩
                have HCW : Hid (Cells w4 a pk) := H.out.keptNone R4.1.2.2
                by_cases hp1 : (k : Int) < 1048576
                · skip
                  have hd1 : decide ((k : Int) < 1048576) = true := decide_eq_true hp1
                  have hd2 : decide (k < 1048576) = true := decide_eq_true (by omega)
                  have HW1 : Hid (IntKind.i64.wrap (k : Int) = (k : Int)) := by show IntKind.i64.wrap _ = _; rw [IntKind.wrap_i64]; omega
                  have HW2 : Hid (IntKind.i64.wrap 4 = 4) := by show IntKind.i64.wrap _ = _; rw [IntKind.wrap_i64]; rfl
                  have HG2 : Hid (∀ (b : Option Addr) (cb : Nat) (W : World), Cells W b pk → Calls Try.prog 23 #[.slice b pk.length cb, .int .i64 (k : Int), .int .i64 4] W fun e w' => e = .returned (.tuple #[.int .u32 (gv : Int), .bool ok]) ∧ W = w') := HGET
                  go_upto_if 72 with fail
                  go_cut [16, 17] (fun p q wx => p = .int .u32 (gv : Int) ∧ q = .bool ok ∧ FRel w O P F x k wx ∧ V3 wx B4 v f m)
                  case first =>
                    clear HGET hT
                    go_wp2
                    go_region_held3 (fun W => W.cell? ⟨F, 0, none⟩ = some (.int .u64 (k : Int)) ∧ KF w O P F x k B4 v f m W) (first | exact ⟨cv_at (by assumption : KF w O P F x k B4 v f m _).1.2 0 (.int .u64 (k : Int)) rfl, by assumption⟩ | exact ⟨cf, HKF.out.kept (grown_drewN w4 1 none)⟩) (first | (go_at_call 18; refine (copy_any a ca pk _ (by exact HCW.out) hc0 (by omega)).mono ?_; rintro e w' ⟨v', rfl, O', K'⟩; obtain ⟨ao', cap', rfl, P', -⟩ := O'.rd; have KF' := HKF.out.kept (grown_trans (grown_drewN w4 1 none) K'); clear O') | (go_at_call 23; rw [HW1.out, HW2.out]; refine (HG2.out _ _ _ (by exact P')).mono ?_; rintro e w' ⟨rfl, rfl⟩))
                    all_goals
                      go_wp2
                      go_meet
                      exact ⟨rfl, rfl, KF'.1, KF'.2⟩
                  case rest =>
                    obtain ⟨rfl, rfl, R5, V5⟩ := hcut
                    obtain ⟨y0, y1, y2⟩ := V5
                    clear cf R4 V4 HCW HGET HKF
                    cases ok with
                    | true =>
                      obtain ⟨rfl, rfl, rfl⟩ := hT.1 rfl
                      clear hT
                      go_wp2
                      go_roundw
                      case rel => exact ⟨1, by omega, by go_num, R5⟩
                      case measure => simp [intOf]
                    | false =>
                      obtain ⟨rfl, rfl, rfl⟩ := hT.2.1 rfl
                      clear hT
                      go_wp2
                      go_roundw
                      case rel => exact ⟨1, by omega, by go_num, R5⟩
                      case measure => simp [intOf]
                · obtain ⟨hok0, hgv0⟩ := hT.2.2 (by omega)
                  subst hok0 hgv0
                  have hd1 : decide ((k : Int) < 1048576) = false := decide_eq_false hp1
                  have hd2 : decide (k < 1048576) = false := decide_eq_false (by omega)
                  go_upto_if 72 with fail
                  go_cut [16, 17] (fun p q wx => p = .int .u32 0 ∧ q = .bool false ∧ FRel w O P F x k wx ∧ V3 wx B4 v f m)
                  case first =>
                    go_wp2
                    go_meet
                    exact ⟨rfl, rfl, R4, V4⟩
                  case rest =>
                    obtain ⟨rfl, rfl, R5, V5⟩ := hcut
                    obtain ⟨y0, y1, y2⟩ := V5
                    clear cf R4 V4 HCW HGET HKF
                    obtain ⟨rfl, rfl, rfl⟩ := hT.2.1 rfl
                    clear hT
                    go_wp2
                    go_roundw
                    case rel => exact ⟨1, by omega, by go_num, R5⟩
                    case measure => simp [intOf]
              · skip
                have co := cv_at R.1.1 2 (.int .u16 32) rfl
                have cq := cv_at R.1.2.1 2 (.int .u16 64) rfl
                obtain ⟨v, f, m, ok, gv, hT, HRUN, HGET⟩ := load_all (S := 4) (p := (k + x)) hl5 HI2.out
                go_upto_region 16 with fail
                clear co cq
                have HFL : Hid (flat (loadP x 64 k) = (LC x 64 k).toList) := flatL hx (by omega) hk
                have R1 := R.kept (World.grownBy_alloc wr (.cells (LC x 64 k) 47) none)
                have C1 : CV (wr.alloc (.cells (LC x 64 k) 47)) (some ⟨wr.heap.size, 0, none⟩) (flat (loadP x 64 k)) := by
                  rw [HFL.out]
                  exact cv_lit wr _ _
                have HR1 : Hid (FRel w O P F x k (wr.alloc (.cells (LC x 64 k) 47))) := R1
                have HC1 : Hid (CV (wr.alloc (.cells (LC x 64 k) 47)) (some ⟨wr.heap.size, 0, none⟩) (flat (loadP x 64 k))) := C1
                clear R1 C1 R
                go_wp2_with fail
                refine (copy_any a ca pk _ (H.out.keptNone HR1.out.1.2.2) hc0 (by omega)).mono ?_
                rintro e w2 ⟨v2, rfl, O2, K2⟩
                obtain ⟨ao2, cap2, rfl, P2, -⟩ := O2.rd
                have R2 := HR1.out.kept K2
                have C2 := HC1.out.keptNone K2
                clear HR1 HC1 O2 K2
                go_wp2_with fail
                refine (HRUN _ _ _ _ _ C2 P2).mono ?_
                rintro e w3 ⟨rfl, K3⟩
                have R3 := R2.kept K3
                clear R2 C2 P2 K3 HRUN
                go_upto_region 17 with fail
                have R4 := R3.kept (World.grownBy_alloc w3 (.cells #[.int .u32 (v : Int), .int .i64 f, .int .i64 m] 26) none)
                have V4 := v3_alloc w3 26 v f m
                generalize w3.alloc (.cells #[.int .u32 (v : Int), .int .i64 f, .int .i64 m] 26) = w4 at *
                generalize w3.heap.size = B4 at *
                clear R3
                have cf := cv_at R4.2 1 (.int .u64 ((x : Int) + (k : Int))) rfl
                have HKF : Hid (KF w O P F x k B4 v f m w4) := ⟨R4, V4⟩
                have HCW : Hid (Cells w4 a pk) := H.out.keptNone R4.1.2.2
                by_cases hp1 : ((x : Int) + (k : Int)) < 1048576
                · skip
                  have hd1 : decide (((x : Int) + (k : Int)) < 1048576) = true := decide_eq_true hp1
                  have hd2 : decide (x + k < 1048576) = true := decide_eq_true (by omega)
                  have HW1 : Hid (IntKind.i64.wrap ((x : Int) + (k : Int)) = ((x : Int) + (k : Int))) := by show IntKind.i64.wrap _ = _; rw [IntKind.wrap_i64]; omega
                  have HW2 : Hid (IntKind.i64.wrap 4 = 4) := by show IntKind.i64.wrap _ = _; rw [IntKind.wrap_i64]; rfl
                  have HG2 : Hid (∀ (b : Option Addr) (cb : Nat) (W : World), Cells W b pk → Calls Try.prog 23 #[.slice b pk.length cb, .int .i64 ((x : Int) + (k : Int)), .int .i64 4] W fun e w' => e = .returned (.tuple #[.int .u32 (gv : Int), .bool ok]) ∧ W = w') := by rw [show ((x : Int) + (k : Int)) = ((k + x : Nat) : Int) by omega]; exact HGET
                  go_upto_if 72 with fail
                  go_cut [16, 17] (fun p q wx => p = .int .u32 (gv : Int) ∧ q = .bool ok ∧ FRel w O P F x k wx ∧ V3 wx B4 v f m)
                  case first =>
                    clear HGET hT
                    go_wp2
                    go_region_held3 (fun W => W.cell? ⟨F, 1, none⟩ = some (.int .u64 ((x : Int) + (k : Int))) ∧ KF w O P F x k B4 v f m W) (first | exact ⟨cv_at (by assumption : KF w O P F x k B4 v f m _).1.2 1 (.int .u64 ((x : Int) + (k : Int))) rfl, by assumption⟩ | exact ⟨cf, HKF.out.kept (grown_drewN w4 1 none)⟩) (first | (go_at_call 18; refine (copy_any a ca pk _ (by exact HCW.out) hc0 (by omega)).mono ?_; rintro e w' ⟨v', rfl, O', K'⟩; obtain ⟨ao', cap', rfl, P', -⟩ := O'.rd; have KF' := HKF.out.kept (grown_trans (grown_drewN w4 1 none) K'); clear O') | (go_at_call 23; rw [HW1.out, HW2.out]; refine (HG2.out _ _ _ (by exact P')).mono ?_; rintro e w' ⟨rfl, rfl⟩))
                    all_goals
                      go_wp2
                      go_meet
                      exact ⟨rfl, rfl, KF'.1, KF'.2⟩
                  case rest =>
                    obtain ⟨rfl, rfl, R5, V5⟩ := hcut
                    obtain ⟨y0, y1, y2⟩ := V5
                    clear cf R4 V4 HCW HGET HKF
                    cases ok with
                    | true =>
                      obtain ⟨rfl, rfl, rfl⟩ := hT.1 rfl
                      clear hT
                      go_wp2
                      go_roundw
                      case rel => exact ⟨2, by omega, by go_num, R5⟩
                      case measure => simp [intOf]
                    | false =>
                      obtain ⟨rfl, rfl, rfl⟩ := hT.2.1 rfl
                      clear hT
                      go_wp2
                      go_roundw
                      case rel => exact ⟨2, by omega, by go_num, R5⟩
                      case measure => simp [intOf]
                · obtain ⟨hok0, hgv0⟩ := hT.2.2 (by omega)
                  subst hok0 hgv0
                  have hd1 : decide (((x : Int) + (k : Int)) < 1048576) = false := decide_eq_false hp1
                  have hd2 : decide (x + k < 1048576) = false := decide_eq_false (by omega)
                  go_upto_if 72 with fail
                  go_cut [16, 17] (fun p q wx => p = .int .u32 0 ∧ q = .bool false ∧ FRel w O P F x k wx ∧ V3 wx B4 v f m)
                  case first =>
                    go_wp2
                    go_meet
                    exact ⟨rfl, rfl, R4, V4⟩
                  case rest =>
                    obtain ⟨rfl, rfl, R5, V5⟩ := hcut
                    obtain ⟨y0, y1, y2⟩ := V5
                    clear cf R4 V4 HCW HGET HKF
                    obtain ⟨rfl, rfl, rfl⟩ := hT.2.1 rfl
                    clear hT
                    go_wp2
                    go_roundw
                    case rel => exact ⟨2, by omega, by go_num, R5⟩
                    case measure => simp [intOf]
            · obtain rfl : n = 2 := by omega
              go_wp2
              go_roundw
              case rel => exact ⟨3, by omega, by go_num, R.1⟩
              case measure => simp [intOf]
      · obtain rfl : n = 3 := by omega
        have ge := R.2.2
        obtain ⟨hE1, hV1⟩ := msh_run (k := k) hl5 hk
        obtain ⟨hE2, hV2⟩ := len_run hl5
        have RUN2 := runL (n := 2) (m := 2) rfl hE2 hV2 rfl
        have HRUN2 : Hid (∀ (a b : Option Addr) (ca cb : Nat) (W : World), CV W a (flat lenP) → Cells W b pk → Calls Try.prog 12 #[.slice a 2 ca, .slice b pk.length cb] W fun e w' => RunEnd W pk.length 0 2 0 e w') := RUN2
        clear hE2 hV2 RUN2 HA0 HA1 HA2 HI0 HI1 HI2 R
        have HFM : Hid (flat (mshP k) = (#[.int .u16 177, .int .u8 0, .int .u8 0, .int .u32 (k : Int), .int .u16 135, .int .u8 0, .int .u8 0, .int .u32 0, .int .u16 22, .int .u8 0, .int .u8 0, .int .u32 0] : Array Value).toList) := flatM hk
        by_cases hkl : k < pk.length
        · rw [if_pos (show okB pk.length k (1 : Nat) = true from decide_eq_true (by omega))] at hV1
          have hRUN1 := runL (n := 3) (m := 3) rfl hE1 hV1 rfl
          have hnum : numAt pk k 1 = pk[k].toNat := by simp [numAt, hkl]
          rw [hnum] at hRUN1
          have hu := pk[k].toNat_lt
          have hand : bits .and .u8 (pk[k].toNat : Int) 15 = ((pk[k].toNat % 16 : Nat) : Int) := u8and pk[k].toNat hu
          obtain ⟨ba, oa, haa, hcc⟩ := H.out.addr hkl
          have HCELL : Hid (w.cell? ⟨ba, oa + k, none⟩ = some (.int .u8 (pk[k].toNat : Int))) := hcc k hkl
          have hkl1 : (k : Int) < (pk.length : Int) := by omega
          have hkb : decide (k < pk.length) = true := decide_eq_true hkl
          have hkb2 : decide (pk.length ≤ k) = false := decide_eq_false (by omega)
          have hu4 : 4 * (((pk[k].toNat % 16 : Nat) : Int)) % 4294967296 = ((4 * (pk[k].toNat % 16) : Nat) : Int) := by omega
          have hu5 : IntKind.u32.wrap (4 * (((pk[k].toNat % 16 : Nat) : Int))) = ((4 * (pk[k].toNat % 16) : Nat) : Int) := by rw [IntKind.wrap_u32]; omega
          have hu6 : IntKind.u32.wrap ((pk[k].toNat % 16 : Nat) : Int) = ((pk[k].toNat % 16 : Nat) : Int) := by rw [IntKind.wrap_u32]; omega
          have HRUN1 : Hid (∀ (a b : Option Addr) (ca cb : Nat) (W : World), CV W a (flat (mshP k)) → Cells W b pk → Calls Try.prog 12 #[.slice a 3 ca, .slice b pk.length cb] W fun e w' => RunEnd W (4 * (pk[k].toNat % 16)) 0 3 0 e w') := hRUN1
          clear hE1 hV1 hRUN1 hnum hcc
          generalize pk[k].toNat = u at *
          generalize u % 16 = q at *
          have hu7 : (4 : Int) * (q : Int) = ((4 * q : Nat) : Int) := by omega
          generalize 4 * q = z at *
          have hw1 : IntKind.u64.wrap (k : Int) = (k : Int) := by rw [IntKind.wrap_u64]; omega
          have hw2 : IntKind.u64.wrap (pk.length : Int) = (pk.length : Int) := by rw [IntKind.wrap_u64]; omega
          have hkb3 : decide ((k : Int) < (pk.length : Int)) = true := decide_eq_true hkl1
          subst haa
          have HG1 : Hid (w.grownBy (wr.alloc (.cells #[.int .u16 177, .int .u8 0, .int .u8 0, .int .u32 (k : Int), .int .u16 135, .int .u8 0, .int .u8 0, .int .u32 0, .int .u16 22, .int .u8 0, .int .u8 0, .int .u32 0] 47)) none) := grown_trans ge (World.grownBy_alloc _ _ _)
          have HC1 : Hid (CV (wr.alloc (.cells #[.int .u16 177, .int .u8 0, .int .u8 0, .int .u32 (k : Int), .int .u16 135, .int .u8 0, .int .u8 0, .int .u32 0, .int .u16 22, .int .u8 0, .int .u8 0, .int .u32 0] 47)) (some ⟨wr.heap.size, 0, none⟩) (flat (mshP k))) := by
            show CV _ _ _
            rw [HFM.out]
            exact cv_lit wr _ _
          clear ge
          go_wp2_with fail
          refine (copy_any _ ca pk _ (H.out.keptNone HG1.out) hc0 (by omega)).mono ?_
          rintro e w2 ⟨v2, rfl, O2, K2⟩
          obtain ⟨ao2, cap2, rfl, P2, -⟩ := O2.rd
          have G2 := grown_trans HG1.out K2
          have C2 := HC1.out.keptNone K2
          clear HG1 HC1 O2 K2
          go_wp2_with fail
          refine (HRUN1.out _ _ _ _ _ C2 P2).mono ?_
          rintro e w3 ⟨rfl, K3⟩
          have G3 := grown_trans G2 K3
          clear G2 C2 P2 K3 HRUN1
          go_upto_region 23 with fail
          have G4 := grown_trans G3 (World.grownBy_alloc w3 (.cells #[.int .u32 (z : Int), .int .i64 0, .int .i64 3] 26) none)
          obtain ⟨y0, y1, y2⟩ := v3_alloc w3 26 z 0 3
          generalize w3.alloc (.cells #[.int .u32 (z : Int), .int .i64 0, .int .i64 3] 26) = w4 at *
          generalize w3.heap.size = B4 at *
          clear G3
          have cc := G4.cell HCELL.out (by simp)
          go_cut [154] (fun c wx => c = .bool false ∧ w.grownBy wx none)
          case first =>
            go_quiet (fail)
            go_wp2
            go_meet
            exact ⟨rfl, grown_trans G4 (grown_drewN w4 _ none)⟩
          case rest =>
            obtain ⟨rfl, G5⟩ := hcut
            clear G4 y0 y1 y2
            have HG6 : Hid (w.grownBy (wc.alloc (.cells #[.int .u16 128, .int .u8 0, .int .u8 0, .int .u32 0, .int .u16 22, .int .u8 0, .int .u8 0, .int .u32 0] 47)) none) := grown_trans G5 (World.grownBy_alloc _ _ _)
            have HC6 : Hid (CV (wc.alloc (.cells #[.int .u16 128, .int .u8 0, .int .u8 0, .int .u32 0, .int .u16 22, .int .u8 0, .int .u8 0, .int .u32 0] 47)) (some ⟨wc.heap.size, 0, none⟩) (flat lenP)) := cv_lit wc _ _
            clear G5
            go_wp2_with fail
            refine (copy_any _ ca pk _ (H.out.keptNone HG6.out) hc0 (by omega)).mono ?_
            rintro e w7 ⟨v7, rfl, O7, K7⟩
            obtain ⟨ao7, cap7, rfl, P7, -⟩ := O7.rd
            have G7 := grown_trans HG6.out K7
            have C7 := HC6.out.keptNone K7
            clear HG6 HC6 O7 K7
            go_wp2_with fail
            refine (HRUN2.out _ _ _ _ _ C7 P7).mono ?_
            rintro e w8 ⟨rfl, K8⟩
            have G8 := grown_trans G7 K8
            clear G7 C7 P7 K8 HRUN2
            go_wp2_with fail
            refine (awake5_any _).mono ?_
            rintro e w9 ⟨rfl, K9⟩
            have G9 := grown_trans (grown_trans G8 (World.grownBy_alloc _ _ none)) K9
            clear G8 K9
            go_wp2
            go_ret
            exact ⟨rfl, G9⟩
        · rw [if_neg (by rw [show okB pk.length k (1 : Nat) = false from decide_eq_false (by omega)]; simp)] at hV1
          have hRUN1 := runL (n := 3) (m := 1) rfl hE1 hV1 rfl
          have hkl1 : ¬ ((k : Int) < (pk.length : Int)) := by omega
          have hkb : decide (k < pk.length) = false := decide_eq_false hkl
          have hkb2 : decide (pk.length ≤ k) = true := decide_eq_true (by omega)
          have HRUN1 : Hid (∀ (a b : Option Addr) (ca cb : Nat) (W : World), CV W a (flat (mshP k)) → Cells W b pk → Calls Try.prog 12 #[.slice a 3 ca, .slice b pk.length cb] W fun e w' => RunEnd W 0 1 1 0 e w') := hRUN1
          clear hE1 hV1 hRUN1
          have HG1 : Hid (w.grownBy (wr.alloc (.cells #[.int .u16 177, .int .u8 0, .int .u8 0, .int .u32 (k : Int), .int .u16 135, .int .u8 0, .int .u8 0, .int .u32 0, .int .u16 22, .int .u8 0, .int .u8 0, .int .u32 0] 47)) none) := grown_trans ge (World.grownBy_alloc _ _ _)
          have HC1 : Hid (CV (wr.alloc (.cells #[.int .u16 177, .int .u8 0, .int .u8 0, .int .u32 (k : Int), .int .u16 135, .int .u8 0, .int .u8 0, .int .u32 0, .int .u16 22, .int .u8 0, .int .u8 0, .int .u32 0] 47)) (some ⟨wr.heap.size, 0, none⟩) (flat (mshP k))) := by
            show CV _ _ _
            rw [HFM.out]
            exact cv_lit wr _ _
          clear ge
          go_wp2_with fail
          refine (copy_any _ ca pk _ (H.out.keptNone HG1.out) hc0 (by omega)).mono ?_
          rintro e w2 ⟨v2, rfl, O2, K2⟩
          obtain ⟨ao2, cap2, rfl, P2, -⟩ := O2.rd
          have G2 := grown_trans HG1.out K2
          have C2 := HC1.out.keptNone K2
          clear HG1 HC1 O2 K2
          go_wp2_with fail
          refine (HRUN1.out _ _ _ _ _ C2 P2).mono ?_
          rintro e w3 ⟨rfl, K3⟩
          have G3 := grown_trans G2 K3
          clear G2 C2 P2 K3 HRUN1
          go_upto_region 23 with fail
          have G4 := grown_trans G3 (World.grownBy_alloc w3 (.cells #[.int .u32 0, .int .i64 1, .int .i64 1] 26) none)
          obtain ⟨y0, y1, y2⟩ := v3_alloc w3 26 (0) 1 1
          generalize w3.alloc (.cells #[.int .u32 0, .int .i64 1, .int .i64 1] 26) = w4 at *
          generalize w3.heap.size = B4 at *
          clear G3
          go_cut [154] (fun c wx => c = .bool false ∧ w.grownBy wx none)
          case first =>
            go_quiet (fail)
            go_wp2
            go_meet
            exact ⟨rfl, grown_trans G4 (grown_drewN w4 _ none)⟩
          case rest =>
            obtain ⟨rfl, G5⟩ := hcut
            clear G4 y0 y1 y2
            have HG6 : Hid (w.grownBy (wc.alloc (.cells #[.int .u16 128, .int .u8 0, .int .u8 0, .int .u32 0, .int .u16 22, .int .u8 0, .int .u8 0, .int .u32 0] 47)) none) := grown_trans G5 (World.grownBy_alloc _ _ _)
            have HC6 : Hid (CV (wc.alloc (.cells #[.int .u16 128, .int .u8 0, .int .u8 0, .int .u32 0, .int .u16 22, .int .u8 0, .int .u8 0, .int .u32 0] 47)) (some ⟨wc.heap.size, 0, none⟩) (flat lenP)) := cv_lit wc _ _
            clear G5
            go_wp2_with fail
            refine (copy_any _ ca pk _ (H.out.keptNone HG6.out) hc0 (by omega)).mono ?_
            rintro e w7 ⟨v7, rfl, O7, K7⟩
            obtain ⟨ao7, cap7, rfl, P7, -⟩ := O7.rd
            have G7 := grown_trans HG6.out K7
            have C7 := HC6.out.keptNone K7
            clear HG6 HC6 O7 K7
            go_wp2_with fail
            refine (HRUN2.out _ _ _ _ _ C7 P7).mono ?_
            rintro e w8 ⟨rfl, K8⟩
            have G8 := grown_trans G7 K8
            clear G7 C7 P7 K8 HRUN2
            go_wp2_with fail
            refine (awake5_any _).mono ?_
            rintro e w9 ⟨rfl, K9⟩
            have G9 := grown_trans (grown_trans G8 (World.grownBy_alloc _ _ none)) K9
            clear G8 K9
            go_wp2
            go_ret
            exact ⟨rfl, G9⟩

set_option maxRecDepth 100000 in
theorem lifted (os : Os) (started : os.Started) (H : Type) (enc : TypeId × Value → H) :
    ReturnsInHanded {} Try.checked os 8 .any (Rows.vmLoadsSpec.pre6 enc Try.prog Try.f8 Rows.vmLoadsRow.domain false) (Rows.vmLoadsSpec.post enc Try.prog Try.f8 false true false false) := by
  refine returnsInHanded_of_change_sized (C := Try.checked) own started (by kernel_rfl) Try.func8
    (ChangeSpec.witness6 (enc := enc) (C := Try.checked) false ⟨#[], #[.slice none 0 0, .int .u32 0, .int .u32 0], []⟩ 8 (by kernel_rfl) (by kernel_rfl) (by kernel_rfl) (by kernel_rfl)) ?_
  intro W base args ds gs before hval0 hW hcnd hsz0 _
  have hsz : (DataW.weightsEach Try.prog (Try.f8.params.toList ++ Rows.vmLoadsSpec.plain.varTypes Try.prog) (ds ++ gs)).all (· ≤ reachBytes) = true := hsz0
  have hval : ∀ (j : Nat) t v, Try.f8.params[j]? = some t → args[j]? = some v → Value.okWide Try.prog W .any base t v := hval0
  have hW' := hW
  obtain ⟨p, q, hA0, hV, rfl, hfz, hnd⟩ := hW
  have hA : DataW.TrodAll enc Try.prog W 0 (fun _ => true) true Try.f8.params.toList args.toList ds p := hA0
  rw [Try.params8] at hA hval hsz
  obtain ⟨v0, vs0, d0, ds0, p0, q0, hargs, rfl, rfl, h0, r0⟩ := trodAll_cons hA
  obtain ⟨v1, vs1, d1, ds1, p1, q1, rfl, rfl, rfl, h1, r1⟩ := trodAll_cons r0
  obtain ⟨v2, vs2, d2, ds2, p2, q2, rfl, rfl, rfl, h2, r2⟩ := trodAll_cons r1
  obtain ⟨rfl, rfl, rfl⟩ := trodAll_nil r2
  obtain rfl : args = #[v0, v1, v2] := by cases args; simp_all
  obtain ⟨rfl, rfl⟩ := trodVars_none hV
  obtain ⟨a0, len0, cap0, rfl⟩ := okWide_slice Try.underlying23 (hval 0 23 v0 rfl rfl)
  have k0 := h0
  have lt0 : ∀ x ∈ p0, x.block < W.heap.size := by obtain ⟨m, hm⟩ := k0; exact DataW.trod_lt m _ _ _ hm
  obtain ⟨xs0, rfl, hcells0, hnil0, hdat0⟩ := open_bytes Try.underlying23 Try.underlying5 (by kernel_rfl) h0
  obtain ⟨y1, rfl, rfl, rfl, w1⟩ := open_int Try.underlying24 (hval 1 24 v1 rfl rfl) h1
  have bd1 := bounds_u32 w1
  obtain ⟨x1, rfl⟩ := Int.eq_ofNat_of_zero_le bd1.1
  have hv1 : x1 ≤ 4294967295 := by omega
  obtain ⟨y2, rfl, rfl, rfl, w2⟩ := open_int Try.underlying24 (hval 2 24 v2 rfl rfl) h2
  have bd2 := bounds_u32 w2
  obtain ⟨x2, rfl⟩ := Int.eq_ofNat_of_zero_le bd2.1
  have hv2 : x2 ≤ 4294967295 := by omega
  have hlen0 : xs0.length * 1 ≤ 140737488351232 := by
    rcases hdat0 with ⟨_, rfl⟩ | ⟨elems, spare, rfl, hle⟩
    · simp
    · have := sized_slice hsz (j := 0) (t := 23) (e := 5) rfl rfl Try.underlying23
      rw [bytes5] at this
      unfold reachBytes at this
      omega
  clear hA0 hval0
  refine (walk a0 cap0 xs0 x1 x2 W hcells0 hnil0 (by omega) hv1 hv2).mono fun e W' ⟨he, hg⟩ => ?_
  subst he
  have bel : Below W.heap.size W W' := (Below.refl _ _).grown hg (Nat.le_refl _) (by simp)
  exact ⟨_, rfl, _, _, _, [], _, [], hW', trodAll_mk1 (shut_bool Try.underlying4 _), (trodAll_cons_mk (Below.trod laidOut (by kernel_rfl) (of_decide_eq_true (by kernel_rfl)) k0 bel lt0) (trodAll_cons_mk (shut_int Try.underlying24 w1) (trodAll_cons_mk (shut_int Try.underlying24 w2) trodAll_mk0))), rfl, bel.frame _, fun h => by cases h⟩

theorem over : Rows.VmLoadsSaid :=
  OpenClaim.holds_of_wide 8 Try.f8 rfl rfl rfl rfl rfl rfl rfl ⟨rfl, rfl, rfl, rfl, rfl⟩ rfl rfl rfl rfl rfl (by kernel_rfl) Try.func8 (by kernel_rfl)
    (of_decide_eq_true (by kernel_rfl)) (by unfold Func.isWrapper; first | (rw [if_pos (by decide +kernel)]; kernel_rfl) | (rw [if_neg (by decide +kernel)]; exact ⟨rfl, rfl⟩))
    (fun os started H enc _ => lifted os started H enc)

end vmLoads

theorem vmLoads_holds : Rows.VmLoadsSaid := vmLoads.over
#print axioms vmLoads_holds
end Go.Proofs.Ytaldhnionkacmaa
