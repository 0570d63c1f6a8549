/-
  slices.Grow and slices.Concat of nodes; package mean as landed: Value. riddlelaw14.awake, riddlelaw14.judge.
-/
import Derived.Test.YtnojpepjloceoaaGreatLotP42
import Derived.Test.YtnojpepjloceoaaGreatLotP29
import Derived.Lib.AppendZeros
import Derived.Test.YtnojpepjloceoaaGreatLotP1
namespace Go.Proofs.YtnojpepjloceoaaGreat
open Go.RowKit
set_option maxRecDepth 100000

theorem ng_zero : ∃ i, Tryz.prog.info? 37 = some i ∧ i.zero = some (.agg ngZ.cells.toArray) ∧ i.size = 24 ∧ i.bytes = 72 := by
  have h : (Tryz.prog.info? 37).map (fun i => (i.zero, i.size, i.bytes)) = some (some (.agg ngZ.cells.toArray), 24, 72) := by kernel_rfl
  cases e : Tryz.prog.info? 37 with
  | none => rw [e] at h; cases h
  | some i =>
    rw [e] at h
    have h2 := Option.some.inj h
    exact ⟨i, rfl, congrArg Prod.fst h2, congrArg (fun p => p.2.1) h2, congrArg (fun p => p.2.2) h2⟩
theorem slice_nil0 (W : World) : (Instr.sliceAt 40 (.slice none 0 0) none (some (.int .i64 0)) none).run Tryz.prog W = .ok (.slice none 0 0) W := by kernel_rfl

set_option maxHeartbeats 2000000 in
/-- Room for some. -/
theorem grow_any (n : Nat) (w : World) (h0 : 0 < n) (hn : n * 72 ≤ 281474976710656) :
    Calls Tryz.prog 53 #[.slice none 0 0, .int .i64 (n : Int)] w fun e w' => ∃ v, e = .returned v ∧ NgOwns w' w.heap.size v [] ∧ w.grownBy w' none := by
  obtain ⟨i, hi, hz, hs, hb⟩ := ng_zero
  have HR := fun ty => Go.Lib.run_append_nil_zeros (P := Tryz.prog) w 40 3 ty 37 i _ .i64 .i64 Tryz.underlying40 Tryz.underlying3 hi hz n h0 (by rw [hs]; decide) (by omega) (by rw [hb]; exact hn)
  have hm : n ≤ maxLen := by unfold maxLen; omega
  have hge := grownCap_ge w n 0 37
  have hle := grownCap_le_maxLen w n 0 37 hm
  have HO : Hid (NgOwns (w.drew.alloc (.cells (Builtin.zeroCells (Value.agg ngZ.cells.toArray).cells n ++ Builtin.zeroCells (Value.agg ngZ.cells.toArray).cells (grownCap w n 0 37 - n)) 37)) w.heap.size (.slice (some ⟨w.heap.size, 0, none⟩) 0 (grownCap w n 0 37)) []) := by
    have := World.ownsRow_made (e := 37) (size := 24) (base := w.heap.size) w.drew (Builtin.zeroCells (Value.agg ngZ.cells.toArray).cells n ++ Builtin.zeroCells (Value.agg ngZ.cells.toArray).cells (grownCap w n 0 37 - n)) (grownCap w n 0 37) (Nat.le_refl _) hle (by
      rw [Array.size_append, size_zeroCells, size_zeroCells]
      have : (Value.agg ngZ.cells.toArray).cells.size = 24 := rfl
      rw [this, ← Nat.add_mul]
      congr 1
      omega)
    exact this
  have HG : Hid (w.grownBy (w.drew.alloc (.cells (Builtin.zeroCells (Value.agg ngZ.cells.toArray).cells n ++ Builtin.zeroCells (Value.agg ngZ.cells.toArray).cells (grownCap w n 0 37 - n)) 37)) none) := grown_trans (grown_drewN w 1 none) (World.grownBy_alloc w.drew _ none)
  generalize Builtin.zeroCells (Value.agg ngZ.cells.toArray).cells n ++ Builtin.zeroCells (Value.agg ngZ.cells.toArray).cells (grownCap w n 0 37 - n) = ZC at *
  generalize grownCap w n 0 37 = gc at *
  have HNN : Hid (n * 72 ≤ 281474976710656) := hn
  have g1 : ¬ ((n : Int) < 0) := by omega
  have g2 : wrap64 (n : Int) = (n : Int) := by unfold wrap64; omega
  have g3 : (0 : Int) < (n : Int) := by omega
  have HSL := slice_nil0
  have HR2 : Hid (∀ ty, (Builtin.append_ #[40, 3] ty #[.slice none 0 0, .int .i64 (wrap64 (n : Int))]).run Tryz.prog w = .ok (.slice (some ⟨w.heap.size, 0, none⟩) n gc) (w.drew.alloc (.cells ZC 37))) := fun ty => by rw [g2]; exact HR ty
  clear hi hz hs hb hn hm hle hge h0
  go_enter Tryz.func53, Tryz.ntmps53
  go_wp2_with (at_builtin; first | (refine Go.Lib.wpList_append_run w rfl (.tmp 20) (.tmp 21) 40 3 rfl (.slice none 0 0) (.int .i64 (wrap64 (n : Int))) rfl rfl _ _ (HR2.out _) ?_) | (refine Go.Lib.wpList_append_run w rfl (.tmp 20) (.tmp 21) 40 3 rfl (.slice none 0 0) (.int .i64 (n : Int)) rfl rfl _ _ (HR _) ?_))
  go_ret
  exact ⟨_, rfl, HO.out, HG.out⟩

/-- What stands behind so many lists. -/
def catM (t : List Ng) (k : Nat) : List Ng := if k = 0 then [] else if k = 1 then t else cmpdM t
def catN (n k : Nat) : Nat := if k = 0 then 0 else if k = 1 then n else n + 2

set_option maxHeartbeats 2000000 in
theorem concat_any (ao : Option Addr) (cap : Nat) (t : List Ng) (V L : Nat) (w : World) (c0 : w.cell? ⟨V, 0, none⟩ = some (.slice ao t.length cap)) (c1 : w.cell? ⟨V, 1, none⟩ = some (.slice (some ⟨L, 0, none⟩) 2 2)) (C : CV w ao (flatG t)) (hc0 : ao = none → cap = 0) (D : CV w (some ⟨L, 0, none⟩) (flatG [zeroN, eqN])) (hm : (t.length + 2) * 72 ≤ 140737488355328) :
    Calls Tryz.prog 47 #[.slice (some ⟨V, 0, none⟩) 2 2] w fun e w' => ∃ v, e = .returned v ∧ NgOwns w' w.heap.size v (cmpdM t) ∧ w.grownBy w' none := by
  obtain ⟨i0, hi, hz0, hz1, hz2⟩ := ng_zero
  have HC : Hid (CV w ao (flatG t) ∧ CV w (some ⟨L, 0, none⟩) (flatG [zeroN, eqN])) := ⟨C, D⟩
  have HK0 : Hid (w.cell? ⟨V, 0, none⟩ = some (.slice ao t.length cap) ∧ w.cell? ⟨V, 1, none⟩ = some (.slice (some ⟨L, 0, none⟩) 2 2)) := ⟨c0, c1⟩
  have CG := fun W => grow_any (t.length + 2) W (by omega) (by omega)
  have HM : Hid ((t.length + 2) * 72 ≤ 140737488355328) := hm
  have hlt := flatG_len t
  clear C D c0 c1
  obtain ⟨n, hn⟩ : ∃ n, t.length = n := ⟨_, rfl⟩
  have HN : Hid (t.length = n) := hn
  rw [hn] at CG HM HK0 hm hlt
  clear hn
  go_enter Tryz.func47, Tryz.ntmps47
  go_wp2
  go_loopw [3, 11] (fun z i wr => ∃ k : Nat, k ≤ 2 ∧ i = .int .i64 k ∧ z = .int .i64 (catN n k : Int) ∧ wr = w) (fun _ i _ => 2 - (intOf i).toNat)
  case atStart => exact ⟨0, by omega, rfl, rfl, rfl⟩
  case round =>
    obtain ⟨k, hk, rfl, rfl, rfl⟩ := hrel
    have c0 := HK0.out.1
    have c1 := HK0.out.2
    have : k = 0 ∨ k = 1 ∨ k = 2 := by omega
    rcases this with rfl | rfl | rfl
    · have g1 : ¬ ((n : Int) < 0) := by omega
      rw [show ((0 : Nat) : Int) = 0 from rfl, show ((catN n 0 : Nat) : Int) = 0 from rfl]
      go_wp2
      go_roundw
      case rel => exact ⟨1, by omega, by go_num, by simp [catN], trivial⟩
      case measure => simp [intOf]
    · have g1 : ¬ ((n : Int) + 2 < 0) := by omega
      have g2 : IntKind.i64.wrap ((n : Int) + 2) = (n : Int) + 2 := by rw [IntKind.wrap_i64]; omega
      rw [show ((1 : Nat) : Int) = 1 from rfl, show ((catN n 1 : Nat) : Int) = (n : Int) from rfl]
      go_wp2
      go_roundw
      case rel => exact ⟨2, by omega, by go_num, by simp [catN], trivial⟩
      case measure => simp [intOf]
    · rw [show ((2 : Nat) : Int) = 2 from rfl, show ((catN n 2 : Nat) : Int) = ((n + 2 : Nat) : Int) from rfl]
      have CG2 := CG wr
      clear CG
      go_wp2_with fail
      refine CG2.mono ?_
      rintro e w2 ⟨v2, rfl, O2, K2⟩
      clear CG2 c0 c1
      obtain ⟨wo, rfl⟩ : ∃ wo : World, wo = wr := ⟨_, rfl⟩
      have HSO : Hid (wo.heap.size ≤ wo.heap.size) := Nat.le_refl _
      go_wp2
      go_loopw [6, 27] (fun v i wq => ∃ k : Nat, k ≤ 2 ∧ i = .int .i64 k ∧ NgOwns wq wo.heap.size v (catM t k) ∧ wo.grownBy wq none) (fun _ i _ => 2 - (intOf i).toNat)
      case atStart => exact ⟨0, by omega, rfl, O2, K2⟩
      case round =>
        clear O2 K2
        obtain ⟨k, hk, rfl, O, K⟩ := hrel
        have c0 := K.cell HK0.out.1 (by simp)
        have c1 := K.cell HK0.out.2 (by simp)
        have : k = 0 ∨ k = 1 ∨ k = 2 := by omega
        rcases this with rfl | rfl | rfl
        · have HO : Hid (wr.ownsRow wo.heap.size 37 24 u6 0 []) := O
          have HKK : Hid (wo.grownBy wr none) := K
          rw [show ((0 : Nat) : Int) = 0 from rfl]
          clear O K
          go_upto_region 14 with (at_builtin; refine wpList_append_cv rfl (.tmp 31) (.tmp 32) 40 rfl 37 i0 _ 24 72 Tryz.underlying40 hi hz0 hz1 hz2 rfl (by decide) wo.heap.size u6 0 [] rfl ?q1 ao n cap (flatG t) rfl ?q2 hc0 ?q3 (flatG_one t) ?q4 ?q5 ?q6 ?q7)
          case q1 => exact HO.out
          case q2 => rw [flatG_len, HN.out]
          case q3 => exact HC.out.1.keptNone HKK.out
          case q4 => unfold maxLen; have := HM.out; omega
          case q5 => have := HM.out; omega
          case q6 => exact HKK.out.size
          case q7 =>
            intro v4 w4 O4 K4
            have G4 : wo.grownBy w4 none := grown_trans_new HKK.out K4 (fun x hx => (HO.out.lt x hx).1)
            have P4 : NgOwns w4 wo.heap.size v4 (catM t 1) := by
              have h := O4
              rw [← HN.out] at h
              exact h
            clear O4 K4 c0 c1
            go_wp2
            go_roundw
            case rel => exact ⟨1, by omega, by go_num, P4, G4⟩
            case measure => simp [intOf]
        · have HO : Hid (wr.ownsRow wo.heap.size 37 24 u6 n (flatG t)) := by
            show _
            rw [← HN.out]
            exact O
          have HKK : Hid (wo.grownBy wr none) := K
          rw [show ((1 : Nat) : Int) = 1 from rfl]
          clear O K
          go_upto_region 14 with (at_builtin; refine wpList_append_cv rfl (.tmp 31) (.tmp 32) 40 rfl 37 i0 _ 24 72 Tryz.underlying40 hi hz0 hz1 hz2 rfl (by decide) wo.heap.size u6 n (flatG t) rfl ?q1 (some ⟨L, 0, none⟩) 2 2 (flatG [zeroN, eqN]) rfl rfl ?q2 ?q3 (flatG_one _) ?q4 ?q5 ?q6 ?q7)
          case q1 => exact HO.out
          case q2 => intro h; cases h
          case q3 => exact HC.out.2.keptNone HKK.out
          case q4 => unfold maxLen; have := HM.out; omega
          case q5 => have := HM.out; omega
          case q6 => exact HKK.out.size
          case q7 =>
            intro v4 w4 O4 K4
            have G4 : wo.grownBy w4 none := grown_trans_new HKK.out K4 (fun x hx => (HO.out.lt x hx).1)
            have P4 : NgOwns w4 wo.heap.size v4 (catM t 2) := by
              have h := O4
              rw [← flatG_append, ← HN.out] at h
              have e : (catM t 2).length = t.length + 2 := by simp [catM, cmpdM]
              show w4.ownsRow wo.heap.size 37 24 v4 (catM t 2).length (flatG (catM t 2))
              rw [e]
              exact h
            clear O4 K4 c0 c1
            go_wp2
            go_roundw
            case rel => exact ⟨2, by omega, by go_num, P4, G4⟩
            case measure => simp [intOf]
        · have HO : Hid (NgOwns wr wo.heap.size u6 (cmpdM t)) := O
          rw [show ((2 : Nat) : Int) = 2 from rfl]
          clear O c0 c1
          go_wp2
          go_ret
          exact ⟨_, rfl, HO.out, K⟩

theorem bld_zeroN (W : World) : (Instr.build 37 #[(0, .int .i64 1)]).run Tryz.prog W = .ok (.agg zeroN.cells.toArray) W := by kernel_rfl
theorem bld_eqN (W : World) : (Instr.build 37 #[(0, .int .i64 6), (1, .int .i64 1)]).run Tryz.prog W = .ok (.agg eqN.cells.toArray) W := by kernel_rfl
theorem lit_cmp (W : World) : (Instr.buildSlice 40 2 #[(0, .agg zeroN.cells.toArray), (1, .agg eqN.cells.toArray)]).run Tryz.prog W = .ok (.slice (some ⟨W.heap.size, 0, none⟩) 2 2) (W.alloc (.cells (flatG [zeroN, eqN]).toArray 37)) := by kernel_rfl
theorem lit_sls (ao : Option Addr) (n cap L : Nat) (W : World) : (Instr.buildSlice 87 2 #[(0, .slice ao n cap), (1, .slice (some ⟨L, 0, none⟩) 2 2)]).run Tryz.prog W = .ok (.slice (some ⟨W.heap.size, 0, none⟩) 2 2) (W.alloc (.cells #[.slice ao n cap, .slice (some ⟨L, 0, none⟩) 2 2] 40)) := by kernel_rfl
def valueA (t : List Ng) (l : Lk) (way : Int) (b : List UInt8) : Value :=
  if refuseM (cmpdM t) l way ≠ 0 then .tuple #[.int .u32 0, .int .i64 0, .int .i64 (refuseM (cmpdM t) l way)]
  else .tuple #[.int .u32 ((meanM t l way b).val : Int), .int .i64 (meanM t l way b).how, .int .i64 0]

set_option maxHeartbeats 4000000 in
theorem value_any (ao : Option Addr) (cap : Nat) (t : List Ng) (l : Lk) (way : Int) (a : Option Addr) (ca : Nat) (b : List UInt8) (w : World) (C : CV w ao (flatG t)) (hc0 : ao = none → cap = 0) (hm : (t.length + 2) * 72 ≤ 140737488355328) (hn : ∀ x ∈ t, x.n ≤ 4294967295) (hc : Cells w a b) (hb : b.length ≤ 140737488355328) (hcap : b.length ≤ ca) :
    Calls Tryz.prog 20 #[.slice ao t.length cap, .agg (lkA l), .int .i64 way, .slice a b.length ca] w fun e w' => e = .returned (valueA t l way b) ∧ w.grownBy w' none := by
  have HBL := box_lk l
  have K1 := World.grownBy_alloc w (.cells (lkA l) 23) none
  have HLS := lk_sz l
  have HC : Hid (∀ W, w.grownBy W none → CV W ao (flatG t)) := fun W K => C.keptNone K
  have HN2 : Hid (∀ x ∈ cmpdM t, x.n ≤ 4294967295) := fun x hx => by
    rcases List.mem_append.1 hx with h | h
    · exact hn x h
    · simp only [List.mem_cons, List.not_mem_nil, or_false] at h
      rcases h with rfl | rfl <;> simp [zeroN, eqN]
  have CR : Hid (∀ W ao' cap', CV W ao' (flatG (cmpdM t)) → Calls Tryz.prog 45 #[.slice ao' (cmpdM t).length cap', .agg (lkA l), .int .i64 way] W fun e w' => e = .returned (.int .i64 (refuseM (cmpdM t) l way)) ∧ W.grownBy w' none) := fun W ao' cap' C' => refused_any ao' cap' (cmpdM t) l way W C' (by simp only [cmpdM, List.length_append, List.length_cons, List.length_nil]; omega) HN2.out
  have CM : Hid (∀ W, refuseM (cmpdM t) l way = 0 → w.grownBy W none → Calls Tryz.prog 46 #[.slice ao t.length cap, .agg (lkA l), .int .i64 way, .slice a b.length ca] W fun e w' => e = .returned (pmA (meanM t l way b)) ∧ W.grownBy w' none) := fun W hr K => by
    have h1 := (refuse_zero hr).1
    obtain ⟨p, h2, -, h4⟩ := cmpd_iff.1 h1
    have h5 := walkG_weighs t [] _ 0 h2
    exact meant_any ao cap t p l way a ca b W (C.keptNone K) h2 (by omega) hn (hc.keptNone K) hb hcap
  have CC : Hid (∀ W V L, w.grownBy W none → W.cell? ⟨V, 0, none⟩ = some (.slice ao t.length cap) → W.cell? ⟨V, 1, none⟩ = some (.slice (some ⟨L, 0, none⟩) 2 2) → CV W (some ⟨L, 0, none⟩) (flatG [zeroN, eqN]) → Calls Tryz.prog 47 #[.slice (some ⟨V, 0, none⟩) 2 2] W fun e w' => ∃ v, e = .returned v ∧ NgOwns w' W.heap.size v (cmpdM t) ∧ W.grownBy w' none) := fun W V L K c0 c1 D => concat_any ao cap t V L W c0 c1 (C.keptNone K) hc0 D hm
  obtain ⟨E, hE⟩ : ∃ E, valueA t l way b = E := ⟨_, rfl⟩
  have HE : Hid (E = if refuseM (cmpdM t) l way ≠ 0 then .tuple #[.int .u32 0, .int .i64 0, .int .i64 (refuseM (cmpdM t) l way)] else .tuple #[.int .u32 ((meanM t l way b).val : Int), .int .i64 (meanM t l way b).how, .int .i64 0]) := hE.symm
  rw [hE]
  have HBZ := bld_zeroN
  have HBQ := bld_eqN
  have HLC := lit_cmp
  have HLL := fun L => lit_sls ao t.length cap L
  have HPS := mpart_size
  clear C hm hn hc hb hcap hE hc0
  obtain ⟨LA, hLA⟩ : ∃ LA, lkA l = LA := ⟨_, rfl⟩
  have V1 : VAt (w.alloc (.cells LA 23)) w.heap.size 23 LA := VAt.alloc _ _ _
  rw [hLA] at HBL K1 CR CM HLS ⊢
  clear hLA
  obtain ⟨Z, hZ⟩ : ∃ Z, zeroN.cells.toArray = Z := ⟨_, rfl⟩
  obtain ⟨Q, hQ⟩ : ∃ Q, eqN.cells.toArray = Q := ⟨_, rfl⟩
  rw [hZ] at HBZ HLC
  rw [hQ] at HBQ HLC
  clear hZ hQ
  go_enter Tryz.func20, Tryz.ntmps20
  go_upto_region 1 with fail
  generalize w.alloc (.cells LA 23) = w1 at *
  generalize w.heap.size = B at *
  clear HBL
  go_wp2_with (first
    | (refine wpList_bld rfl 37 #[(0, .const (.int .i64 1))] rfl _ (by kernel_rfl) (.agg Z) HBZ ?_)
    | (refine wpList_bld rfl 37 #[(0, .const (.int .i64 6)), (1, .const (.int .i64 1))] rfl _ (by kernel_rfl) (.agg Q) HBQ ?_)
    | (refine wpList_lit (by rfl) 40 2 _ rfl #[(0, .agg Z), (1, .agg Q)] (by kernel_rfl) (flatG [zeroN, eqN]) 37 HLC ?_; intro L w2 CL KL)
    | (refine wpList_lit (by rfl) 87 2 _ rfl #[(0, .slice ao t.length cap), (1, .slice (some ⟨L, 0, none⟩) 2 2)] (by kernel_rfl) [.slice ao t.length cap, .slice (some ⟨L, 0, none⟩) 2 2] 40 (HLL L) ?_; intro V w3 CS KS))
  have G3 := grown_trans (grown_trans K1 KL) KS
  have cs0 : w3.cell? ⟨V, 0, none⟩ = some (.slice ao t.length cap) := CS.2 _ rfl 0 (by simp)
  have cs1 : w3.cell? ⟨V, 1, none⟩ = some (.slice (some ⟨L, 0, none⟩) 2 2) := CS.2 _ rfl 1 (by simp)
  refine (CC.out w3 V L G3 cs0 cs1 (CL.keptNone KS)).mono ?_
  rintro e w4 ⟨v4, rfl, O4, K4⟩
  obtain ⟨a4, c4, rfl, C4, -⟩ := cv_of_row O4
  have V4 := ((V1.kept KL).kept KS).kept K4
  have G4 := grown_trans G3 K4
  clear cs0 cs1 CS CL KL KS K4 V1 K1 O4 CC G3 HLC HLL HBZ HBQ
  generalize hcl : (cmpdM t).length = cl at *
  have CR4 := CR.out w4 a4 c4 C4
  clear CR C4
  go_wp2_with (refine wpList_load_row rfl 23 (.tmp 5) rfl B rfl 23 LA (0, 0) _ V4 Tryz.underlying23 rfl HLS ?_)
  refine CR4.mono ?_
  rintro e w5 ⟨rfl, K5⟩
  have V5 := V4.kept K5
  have G5 := grown_trans G4 K5
  clear CR4 V4 G4 K5
  by_cases h1 : refuseM (cmpdM t) l way = 0
  case neg =>
    have e1 : (refuseM (cmpdM t) l way != 0) = true := by rw [bne_iff_ne]; exact h1
    have HF : Hid (E = .tuple #[.int .u32 0, .int .i64 0, .int .i64 (refuseM (cmpdM t) l way)]) := by show E = _; rw [HE.out, if_pos h1]
    clear h1 HE
    go_wp2
    refine bodyPost_ret (results_tmp3 rfl _ _ _) rfl ?_
    exact ⟨by rw [HF.out]; rfl, G5⟩
  case pos =>
    have HF : Hid (E = .tuple #[.int .u32 ((meanM t l way b).val : Int), .int .i64 (meanM t l way b).how, .int .i64 0]) := by show E = _; rw [HE.out, if_neg (by simpa using h1)]
    have CM2 := CM.out w5 h1 G5
    rw [h1]
    clear h1 HE CM
    go_wp2_with (refine wpList_load_row rfl 23 (.tmp 5) rfl B rfl 23 LA (0, 0) _ V5 Tryz.underlying23 rfl HLS ?_)
    refine CM2.mono ?_
    rintro e w6 ⟨rfl, K6⟩
    have G6 := grown_trans G5 K6
    clear CM2 V5 K6
    go_upto_region 6 with (refine wpList_store_row rfl 71 (.tmp 13) (.tmp 31) rfl w6.heap.size (pmC (meanM t l way b)) rfl rfl 71 _ (VAt.alloc w6 _ _) (HPS _) rfl (part_all _) ?_)
    rw [World.setRow_alloc_new]
    have A7 := QB.alloc w6 (meanM t l way b)
    have G7 := grown_trans G6 (World.grownBy_alloc w6 (.cells (pmC (meanM t l way b)) 71) none)
    clear G6 G5
    generalize w6.alloc (.cells (pmC (meanM t l way b)) 71) = w7 at *
    generalize w6.heap.size = D at *
    have c0 := A7.how
    have c1 := A7.val
    go_quiet (fail)
    go_wp2
    refine bodyPost_ret (results_tmp3 rfl _ _ _) rfl ?_
    exact ⟨by rw [HF.out]; rfl, grown_trans G7 (grown_drewN _ _ none)⟩
end Go.Proofs.YtnojpepjloceoaaGreat

namespace Go.Proofs.YtnojpepjloceoaaGreat
open Go.RowKit
set_option maxRecDepth 100000

def lcpN : Ng := ⟨11, 0, 0, 0, 0, 8, 0, zeros 16, 0⟩
def ldN : Ng := ⟨3, 0, 0, 0, 1, 8, 0, zeros 16, 0⟩
def aw14 : List UInt8 := [255, 3, 192, 33, 7]
def lkZ : Lk := ⟨false, false, 0⟩
theorem aw_judge : judgeA [lcpN] lkZ 0 aw14 = .tuple #[.int .i64 1, .int .i64 0] := by kernel_rfl
theorem aw_match : matchA [lcpN] lkZ 0 aw14 = .tuple #[.bool true, .int .i64 0] := by kernel_rfl
theorem aw_value : valueA [zeroN, ldN] lkZ 0 aw14 = .tuple #[.int .u32 7, .int .i64 1, .int .i64 0] := by kernel_rfl
theorem aw_bad : judgeA [lcpN] lkZ 0 (aw14.drop 2) = .tuple #[.int .i64 2, .int .i64 0] := by kernel_rfl
theorem bld_lcp (W : World) : (Instr.build 37 #[(0, .int .i64 11), (5, .int .i64 8)]).run Tryz.prog W = .ok (.agg lcpN.cells.toArray) W := by kernel_rfl
theorem bld_ld (W : World) : (Instr.build 37 #[(0, .int .i64 3), (5, .int .i64 8), (4, .int .i64 1)]).run Tryz.prog W = .ok (.agg ldN.cells.toArray) W := by kernel_rfl
theorem bld_lk (W : World) : (Instr.build 23 #[]).run Tryz.prog W = .ok (.agg (lkA lkZ)) W := by kernel_rfl
theorem lit_ng1 (x : Ng) (W : World) : (Instr.buildSlice 40 1 #[(0, .agg x.cells.toArray)]).run Tryz.prog W = .ok (.slice (some ⟨W.heap.size, 0, none⟩) 1 1) (W.alloc (.cells (flatG [x]).toArray 37)) := by kernel_rfl
theorem lit_duo (x y : Ng) (W : World) : (Instr.buildSlice 40 2 #[(0, .agg x.cells.toArray), (1, .agg y.cells.toArray)]).run Tryz.prog W = .ok (.slice (some ⟨W.heap.size, 0, none⟩) 2 2) (W.alloc (.cells (flatG [x, y]).toArray 37)) := by kernel_rfl
theorem lit_aw (W : World) : (Instr.buildSlice 26 5 #[(0, .int .u8 255), (1, .int .u8 3), (2, .int .u8 192), (3, .int .u8 33), (4, .int .u8 7)]).run Tryz.prog W = .ok (.slice (some ⟨W.heap.size, 0, none⟩) 5 5) (W.alloc (.cells (aw14.map bv).toArray 5)) := by kernel_rfl
theorem cv_cells {w : World} {b o : Nat} {xs : List UInt8} (h : CV w (some ⟨b, o, none⟩) (xs.map bv)) : Cells w (some ⟨b, o, none⟩) xs :=
  ⟨(fun e => by cases e), fun ad had j hj => by
    have := h.2 ad had j (by simpa using hj)
    rw [this, List.getElem_map]⟩
theorem cells_drop {w : World} {b o : Nat} {xs : List UInt8} (h : Cells w (some ⟨b, o, none⟩) xs) (k : Nat) : Cells w (some ⟨b, o + k, none⟩) (xs.drop k) :=
  ⟨(fun e => by cases e), fun ad had j hj => by
    cases had
    have hj2 : k + j < xs.length := by rw [List.length_drop] at hj; omega
    have := h.2 _ rfl (k + j) hj2
    rw [Addr.add_lit] at this ⊢
    rw [show o + k + j = o + (k + j) by omega, this]
    simp⟩

set_option maxHeartbeats 4000000 in
theorem awake14_any (w : World) : Calls Tryz.prog 6 #[] w fun e w' => e = .returned (.bool true) ∧ w.grownBy w' none := by
  have HL0 := bld_lk
  have HB1 := bld_lcp
  have HB2 := bld_zeroN
  have HB3 := bld_ld
  have HLA := lit_aw
  have HLN := lit_ng1 lcpN
  have HLT := lit_duo zeroN ldN
  have HJ : Hid (∀ W ao cap ab cb, CV W ao (flatG [lcpN]) → Cells W ab aw14 → 5 ≤ cb → Calls Tryz.prog 18 #[.slice ao 1 cap, .agg (lkA lkZ), .int .i64 0, .slice ab 5 cb] W fun e w' => e = .returned (.tuple #[.int .i64 1, .int .i64 0]) ∧ W.grownBy w' none) := fun W ao cap ab cb h1 h2 h3 => by
    have := judge_any ao cap [lcpN] lkZ 0 ab cb aw14 W h1 (by decide) (by intro x hx; simp at hx; subst hx; decide) h2 (by decide) h3
    rw [aw_judge] at this
    exact this
  have HM : Hid (∀ W ao cap ab cb, CV W ao (flatG [lcpN]) → Cells W ab aw14 → 5 ≤ cb → Calls Tryz.prog 19 #[.slice ao 1 cap, .agg (lkA lkZ), .int .i64 0, .slice ab 5 cb] W fun e w' => e = .returned (.tuple #[.bool true, .int .i64 0]) ∧ W.grownBy w' none) := fun W ao cap ab cb h1 h2 h3 => by
    have := match_any ao cap [lcpN] lkZ 0 ab cb aw14 W h1 (by decide) (by intro x hx; simp at hx; subst hx; decide) h2 (by decide) h3
    rw [aw_match] at this
    exact this
  have HV : Hid (∀ W b o cap ab cb, CV W (some ⟨b, o, none⟩) (flatG [zeroN, ldN]) → Cells W ab aw14 → 5 ≤ cb → Calls Tryz.prog 20 #[.slice (some ⟨b, o, none⟩) 2 cap, .agg (lkA lkZ), .int .i64 0, .slice ab 5 cb] W fun e w' => e = .returned (.tuple #[.int .u32 7, .int .i64 1, .int .i64 0]) ∧ W.grownBy w' none) := fun W b o cap ab cb h1 h2 h3 => by
    have := value_any (some ⟨b, o, none⟩) cap [zeroN, ldN] lkZ 0 ab cb aw14 W h1 (by intro h; cases h) (by decide) (by intro x hx; simp at hx; rcases hx with rfl | rfl <;> decide) h2 (by decide) h3
    rw [aw_value] at this
    exact this
  have HB : Hid (∀ W ao cap ab cb, CV W ao (flatG [lcpN]) → Cells W ab (aw14.drop 2) → 3 ≤ cb → Calls Tryz.prog 18 #[.slice ao 1 cap, .agg (lkA lkZ), .int .i64 0, .slice ab 3 cb] W fun e w' => e = .returned (.tuple #[.int .i64 2, .int .i64 0]) ∧ W.grownBy w' none) := fun W ao cap ab cb h1 h2 h3 => by
    have := judge_any ao cap [lcpN] lkZ 0 ab cb (aw14.drop 2) W h1 (by decide) (by intro x hx; simp at hx; subst hx; decide) h2 (by decide) h3
    rw [aw_bad] at this
    exact this
  obtain ⟨LA, hLA⟩ : ∃ LA, lkA lkZ = LA := ⟨_, rfl⟩
  obtain ⟨X, hX⟩ : ∃ X, lcpN.cells.toArray = X := ⟨_, rfl⟩
  obtain ⟨Z, hZ⟩ : ∃ Z, zeroN.cells.toArray = Z := ⟨_, rfl⟩
  obtain ⟨Y, hY⟩ : ∃ Y, ldN.cells.toArray = Y := ⟨_, rfl⟩
  rw [hLA] at HL0 HJ HM HV HB
  rw [hX] at HB1 HLN
  rw [hZ] at HB2 HLT
  rw [hY] at HB3 HLT
  clear hLA hX hZ hY
  go_enter Tryz.func6, Tryz.ntmps6
  go_wp2_with (first
    | (refine wpList_lit (by rfl) 26 5 _ rfl _ (by kernel_rfl) (aw14.map bv) 5 HLA ?_; intro F w1 CF K1)
    | (refine wpList_bld rfl 37 #[(0, .const (.int .i64 11)), (5, .const (.int .i64 8))] rfl _ (by kernel_rfl) (.agg X) HB1 ?_)
    | (refine wpList_bld rfl 23 #[] rfl _ (by kernel_rfl) (.agg LA) HL0 ?_)
    | (refine wpList_lit (by rfl) 40 1 _ rfl #[(0, .agg X)] (by kernel_rfl) (flatG [lcpN]) 37 HLN ?_; intro T w2 CT K2))
  have C2 := cv_cells CF
  refine (HJ.out w2 _ _ _ _ CT (C2.keptNone K2) (by decide)).mono ?_
  rintro e w3 ⟨rfl, K3⟩
  go_wp2_with (first
    | (refine wpList_bld rfl 23 #[] rfl _ (by kernel_rfl) (.agg LA) HL0 ?_))
  refine (HM.out w3 _ _ _ _ (CT.keptNone K3) ((C2.keptNone K2).keptNone K3) (by decide)).mono ?_
  rintro e w4 ⟨rfl, K4⟩
  have G4 := grown_trans K3 K4
  have C4 := (C2.keptNone K2).keptNone G4
  have T4 := CT.keptNone G4
  have H4 : Hid (w.grownBy w4 none) := grown_trans (grown_trans K1 K2) G4
  clear K3 K4 G4 C2 CT CF K1 K2 HJ HM
  go_wp2_with (first
    | (refine wpList_bld rfl 37 #[(0, .const (.int .i64 1))] rfl _ (by kernel_rfl) (.agg Z) HB2 ?_)
    | (refine wpList_bld rfl 37 #[(0, .const (.int .i64 3)), (5, .const (.int .i64 8)), (4, .const (.int .i64 1))] rfl _ (by kernel_rfl) (.agg Y) HB3 ?_)
    | (refine wpList_bld rfl 23 #[] rfl _ (by kernel_rfl) (.agg LA) HL0 ?_)
    | (refine wpList_lit (by rfl) 40 2 _ rfl #[(0, .agg Z), (1, .agg Y)] (by kernel_rfl) (flatG [zeroN, ldN]) 37 HLT ?_; intro D w5 CD K5))
  refine (HV.out w5 _ _ _ _ _ CD (C4.keptNone K5) (by decide)).mono ?_
  rintro e w6 ⟨rfl, K6⟩
  have G6 := grown_trans K5 K6
  have C6 := C4.keptNone G6
  have T6 := T4.keptNone G6
  have H6 : Hid (w.grownBy w6 none) := grown_trans H4.out G6
  clear K5 K6 G6 C4 T4 H4 HV CD
  go_wp2_with (first
    | (refine wpList_bld rfl 23 #[] rfl _ (by kernel_rfl) (.agg LA) HL0 ?_))
  refine (HB.out w6 _ _ _ _ T6 (cells_drop C6 2) (by decide)).mono ?_
  rintro e w7 ⟨rfl, K7⟩
  have G7 := grown_trans H6.out K7
  clear C6 T6 H6 HB K7
  go_wp2
  go_ret
  exact ⟨rfl, G7⟩
end Go.Proofs.YtnojpepjloceoaaGreat
