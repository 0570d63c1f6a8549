/-
  Package mean as landed: what is refused, what is meant, Judge and Match. Package mean as landed: Judge, Match.
-/
import Derived.Test.YtnojpepjloceoaaGreatLotP40
import Derived.Test.YtnojpepjloceoaaGreatLotP41
import Derived.Test.YtnojpepjloceoaaGreatLotP39
namespace Go.Proofs.YtnojpepjloceoaaGreat
open Go.RowKit
set_option maxRecDepth 100000

/-- Where IP's addresses lie there are bytes. -/
theorem look_net {l : Lk} {b : List UInt8} {v : Vw} (h : lookX l b = .ok v) : (v.net = 4 → v.pos + 20 ≤ b.length) ∧ (v.net = 6 → v.pos + 40 ≤ b.length) := by
  unfold lookX at h
  split at h
  · cases h
  · obtain ⟨u, hu, h⟩ := bind_ok h
    obtain ⟨-, p2, -⟩ := piece_ok hu
    split at h
    · cases h
      exact ⟨fun e => by omega, fun e => by omega⟩
    · obtain ⟨u2, hu2, h⟩ := bind_ok h
      have k1 : u2.net = 0 := by
        split at hu2
        · obtain ⟨q, -, hu2⟩ := bind_ok hu2
          cases hu2
          exact p2
        · cases hu2
          exact p2
      split at h
      · unfold ipV at h
        split at h
        · split at h
          · cases h
          · rename_i h40
            split at h
            · cases h
            · cases h
              exact ⟨fun e => (by cases e), fun _ => (by show u2.pos + 40 ≤ b.length; omega)⟩
        · split at h
          · cases h
          · rename_i h20
            split at h
            · cases h
            · split at h
              · cases h
              · split at h
                · cases h
                · cases h
                  exact ⟨fun _ => (by show u2.pos + 20 ≤ b.length; omega), fun e => (by cases e)⟩
      · cases h
        exact ⟨fun e => by omega, fun e => by omega⟩
theorem look_sg {l : Lk} {b : List UInt8} {v : Vw} (way : Int) (h : lookX l b = .ok v) : MSgOk ⟨v, way, b⟩ := by
  have k := look_ok h
  have n := look_net h
  exact ⟨k.len, k.next, k.load, k.pos2, n.1, n.2⟩

theorem box_lk (l : Lk) (W : World) : (Instr.box 23 (.agg (lkA l))).run Tryz.prog W = .ok (.pointer (some ⟨W.heap.size, 0, none⟩)) (W.alloc (.cells (lkA l) 23)) := by kernel_rfl
theorem lk_sz (l : Lk) : (Tryz.prog.info? 23).map (·.size) = some (lkA l).size := by kernel_rfl
def KB (w : World) (B : Nat) (l : Lk) : Prop := VAt w B 23 (lkA l)
theorem KB.kept {w w' : World} {B : Nat} {l : Lk} (h : KB w B l) (K : w.grownBy w' none) : KB w' B l := VAt.kept h K

set_option maxHeartbeats 2000000 in
theorem refused_any (ao : Option Addr) (cap : Nat) (t : List Ng) (l : Lk) (way : Int) (w : World) (C : CV w ao (flatG t)) (hm : t.length * 72 ≤ 140737488355328) (hn : ∀ x ∈ t, x.n ≤ 4294967295) :
    Calls Tryz.prog 45 #[.slice ao t.length cap, .agg (lkA l), .int .i64 way] w fun e w' => e = .returned (.int .i64 (refuseM t l way)) ∧ w.grownBy w' none := by
  have HBL := box_lk l
  have L1 : KB (w.alloc (.cells (lkA l) 23)) w.heap.size l := VAt.alloc _ _ _
  have K1 := World.grownBy_alloc w (.cells (lkA l) 23) none
  have CC := check12_any ao cap t _ (C.keptNone K1) hm hn
  have CF := fun W => chk_any l W
  have HLS := lk_sz l
  have HE : Hid (refuseM t l way = if (checkG t).2 ≠ 0 then 140 else if checkF l ≠ 0 then 141 else if way ≠ 0 ∧ way ≠ 1 then 142 else 0) := rfl
  obtain ⟨E, hE⟩ : ∃ E, refuseM t l way = E := ⟨_, rfl⟩
  rw [hE] at HE ⊢
  clear C hm hn hE
  obtain ⟨LA, hLA⟩ : ∃ LA, lkA l = LA := ⟨_, rfl⟩
  have HLA : Hid (lkA l = LA) := hLA
  rw [hLA] at HBL L1 K1 CC CF HLS ⊢
  clear hLA
  simp only [checkR] at CC
  go_enter Tryz.func45, Tryz.ntmps45
  go_upto_region 1 with fail
  generalize w.alloc (.cells LA 23) = w1 at *
  generalize w.heap.size = B at *
  clear HBL
  go_wp2_with fail
  refine CC.mono ?_
  rintro e w2 ⟨rfl, K2⟩
  have HG2 : Hid (w.grownBy w2 none) := grown_trans K1 K2
  have V2 : VAt w2 B 23 LA := by have h := L1.kept K2; unfold KB at h; rw [HLA.out] at h; exact h
  clear CC L1 K1 K2
  by_cases h1 : (checkG t).2 = 0
  case neg =>
    have e1 : ((checkG t).2 != 0) = true := by rw [bne_iff_ne]; exact h1
    have HF : Hid (E = 140) := by show E = _; rw [HE.out, if_pos h1]
    clear h1 HE
    go_wp2
    go_ret
    exact ⟨ret_int HF.out.symm, HG2.out⟩
  case pos =>
    rw [h1]
    have HE2 : Hid (E = if checkF l ≠ 0 then 141 else if way ≠ 0 ∧ way ≠ 1 then 142 else 0) := by show E = _; rw [HE.out, if_neg (by simpa using h1)]
    clear HE h1
    go_wp2_with (refine wpList_load_row rfl 23 (.tmp 4) rfl B rfl 23 LA (0, 0) _ V2 Tryz.underlying23 rfl HLS ?_)
    refine (CF _).mono ?_
    rintro e w3 ⟨rfl, K3⟩
    have HG3 : Hid (w.grownBy w3 none) := grown_trans HG2.out K3
    clear CF K3
    by_cases h2 : checkF l = 0
    case neg =>
      have e1 : (checkF l != 0) = true := by rw [bne_iff_ne]; exact h2
      have HF : Hid (E = 141) := by show E = _; rw [HE2.out, if_pos h2]
      clear h2 HE2
      go_wp2
      go_ret
      exact ⟨ret_int HF.out.symm, HG3.out⟩
    case pos =>
      rw [h2]
      have HE3 : Hid (E = if way ≠ 0 ∧ way ≠ 1 then 142 else 0) := by show E = _; rw [HE2.out, if_neg (by simpa using h2)]
      clear HE2 h2
      by_cases w0 : way = 0
      · have HF : Hid (E = 0) := by show E = _; rw [HE3.out, if_neg (by omega)]
        have e1 : (way != 0) = false := by rw [w0]; rfl
        clear w0 HE3
        go_wp2
        go_ret
        exact ⟨ret_int HF.out.symm, HG3.out⟩
      · by_cases w1 : way = 1
        · have HF : Hid (E = 0) := by show E = _; rw [HE3.out, if_neg (by omega)]
          have e1 : (way != 0) = true := by rw [bne_iff_ne]; exact w0
          have e2 : (way != 1) = false := by rw [w1]; rfl
          clear w0 w1 HE3
          go_wp2
          go_ret
          exact ⟨ret_int HF.out.symm, HG3.out⟩
        · have HF : Hid (E = 142) := by show E = _; rw [HE3.out, if_pos ⟨w0, w1⟩]
          have e1 : (way != 0) = true := by rw [bne_iff_ne]; exact w0
          have e2 : (way != 1) = true := by rw [bne_iff_ne]; exact w1
          clear w0 w1 HE3
          go_wp2
          go_ret
          exact ⟨ret_int HF.out.symm, HG3.out⟩

theorem vw_sz (v : Vw) : (Tryz.prog.info? 81).map (·.size) = some (vwA v).size := by kernel_rfl
theorem build_view (v : Vw) (way : Int) (b : List UInt8) (a : Option Addr) (ca : Nat) (W : World) : (Instr.build 86 #[(0, .agg (vwA v)), (1, .int .i64 way), (2, .slice a b.length ca)]).run Tryz.prog W = .ok (.agg (viewC ⟨v, way, b⟩ a ca)) W := by kernel_rfl
/-- A link boxed, and a result's cell. -/
theorem meant_blocks (w : World) (l : Lk) : ∃ w1, (w.alloc (.cells (lkA l) 23)).alloc (.cells (pmC pm0) 71) = w1 ∧ KB w1 w.heap.size l ∧ QB w1 (w.heap.size + 1) pm0 ∧ w.grownBy w1 none := by
  refine ⟨_, rfl, ?_⟩
  have K0 := World.grownBy_alloc w (.cells (lkA l) 23) none
  have A0 : KB (w.alloc (.cells (lkA l) 23)) w.heap.size l := VAt.alloc _ _ _
  have e0 : (w.alloc (.cells (lkA l) 23)).heap.size = w.heap.size + 1 := by simp
  generalize w.alloc (.cells (lkA l) 23) = w0 at *
  have K1 := World.grownBy_alloc w0 (.cells (pmC pm0) 71) none
  have B1 := QB.alloc w0 pm0
  rw [e0] at B1
  exact ⟨A0.kept K1, B1, grown_trans K0 K1⟩

set_option maxHeartbeats 2000000 in
theorem meant_any (ao : Option Addr) (cap : Nat) (t : List Ng) (p : Pt) (l : Lk) (way : Int) (a : Option Addr) (ca : Nat) (b : List UInt8) (w : World) (C : CV w ao (flatG t)) (hw : walkG [] 0 t = .ok [p]) (ht : t.length ≤ 3000) (hn : ∀ x ∈ t, x.n ≤ 4294967295) (hc : Cells w a b) (hb : b.length ≤ 140737488355328) (hcap : b.length ≤ ca) :
    Calls Tryz.prog 46 #[.slice ao t.length cap, .agg (lkA l), .int .i64 way, .slice a b.length ca] w fun e w' => e = .returned (pmA (meanM t l way b)) ∧ w.grownBy w' none := by
  have HBL := box_lk l
  obtain ⟨w1, hw1, L1, T1, G1⟩ := meant_blocks w l
  have CL := look_any l a ca b w1 (hc.keptNone G1) hb
  have HLS := lk_sz l
  have HVS := vw_sz
  have HPS := mpart_size
  have HC : Hid (∀ W, w.grownBy W none → CV W ao (flatG t) ∧ Cells W a b) := fun W K => ⟨C.keptNone K, hc.keptNone K⟩
  have HSZ : Hid (w.heap.size ≤ w.heap.size + 1) := Nat.le_succ _
  have e2 : (w.alloc (.cells (lkA l) 23)).alloc (.cells #[.int .i64 0, .int .u32 0] 71) = w1 := hw1
  have HG1 : Hid (w.grownBy w1 none) := G1
  have HCR : Hid (∀ (v : Vw) (W : World), lookX l b = .ok v → w.grownBy W none → Calls Tryz.prog 52 #[.slice ao t.length cap, tellA ⟨v, way, b⟩ a ca] W fun e w' => e = .returned (pmA (meanM t l way b)) ∧ W.grownBy w' none) := fun v W hv K => by
    have h := reckoned_any14 ⟨v, way, b⟩ a ca ao cap t p W (C.keptNone K) hw ht hn (hc.keptNone K) (look_sg way hv) hcap
    unfold meanM
    rw [hv]
    exact h
  have HE : Hid (∀ e, lookX l b = .error e → e ≠ 0 → meanM t l way b = ⟨2, 0⟩) := fun e he _ => by unfold meanM; rw [he]
  obtain ⟨E, hE⟩ : ∃ E, meanM t l way b = E := ⟨_, rfl⟩
  rw [hE] at HCR HE ⊢
  clear C hw ht hn hc hb hcap hw1 hE G1
  have HEZ : Hid (∀ e, lookX l b = .error e → e ≠ 0) := fun e he => by have := look_err he; rwa [bne_iff_ne] at this
  obtain ⟨LA, hLA⟩ : ∃ LA, lkA l = LA := ⟨_, rfl⟩
  have V1 : VAt w1 w.heap.size 23 LA := hLA ▸ L1
  rw [hLA] at HBL CL HLS e2 ⊢
  clear hLA L1
  go_enter Tryz.func46, Tryz.ntmps46
  go_upto_region 1 with fail
  try rw [e2]
  clear e2 HBL
  generalize w.heap.size + 1 = T at *
  obtain ⟨B, hB⟩ : ∃ B, w.heap.size = B := ⟨_, rfl⟩
  rw [hB] at V1 ⊢
  clear hB
  go_wp2_with (refine wpList_load_row rfl 23 (.tmp 5) rfl B rfl 23 LA (0, 0) _ V1 Tryz.underlying23 rfl HLS ?_)
  refine CL.mono ?_
  rintro e w2 ⟨rfl, K2⟩
  have T2 := T1.kept K2
  have HG2 : Hid (w.grownBy w2 none) := grown_trans HG1.out K2
  clear CL V1 T1 K2
  cases hl : lookX l b with
  | error e =>
    rw [(exX_err Vw.zero e).1, (exX_err Vw.zero e).2]
    have e1 : (e != 0) = true := by rw [bne_iff_ne]; exact HEZ.out e hl
    have HF : Hid (E = ⟨2, 0⟩) := HE.out e hl (HEZ.out e hl)
    clear hl
    go_upto_region 2 with (refine wpList_store_row rfl 81 (.tmp 9) (.tmp 15) rfl w2.heap.size (vwA Vw.zero) rfl rfl 81 _ (VAt.alloc w2 _ _) (HVS _) rfl (vwA_all _) ?_)
    rw [World.setRow_alloc_new]
    have K3 := World.grownBy_alloc w2 (.cells (vwA Vw.zero) 81) none
    have T3 := (T2.kept K3).vat
    have HG3 : Hid (w.grownBy (w2.alloc (.cells (vwA Vw.zero) 81)) none) := grown_trans HG2.out K3
    clear T2 K3
    generalize w2.alloc (.cells (vwA Vw.zero) 81) = w3 at *
    go_wp2_with (refine wpList_store_row rfl 71 (.tmp 8) (.tmp 19) rfl T (pmC ⟨2, 0⟩) rfl rfl 71 _ T3 (HPS _) rfl (part_all _) ?_)
    refine bodyPost_ret (results_cell_row rfl _ _ T 71 (pmC ⟨2, 0⟩) (0, 0) _ rfl (T3.setRow _) Tryz.underlying71 rfl (HPS _)) rfl ?_
    exact ⟨by rw [HF.out], put_part HG3.out HSZ.out⟩
  | ok u =>
    rw [(exX_ok Vw.zero u).1, (exX_ok Vw.zero u).2]
    have HCU : Hid (∀ W, w.grownBy W none → Calls Tryz.prog 52 #[.slice ao t.length cap, tellA ⟨u, way, b⟩ a ca] W fun e w' => e = .returned (pmA E) ∧ W.grownBy w' none) := fun W K => HCR.out u W hl K
    have HBV := build_view u way b a ca
    clear hl
    go_upto_region 2 with (refine wpList_store_row rfl 81 (.tmp 9) (.tmp 15) rfl w2.heap.size (vwA u) rfl rfl 81 _ (VAt.alloc w2 _ _) (HVS _) rfl (vwA_all _) ?_)
    rw [World.setRow_alloc_new]
    have K3 := World.grownBy_alloc w2 (.cells (vwA u) 81) none
    have T3 := (T2.kept K3).vat
    have A3 := VAt.alloc w2 81 (vwA u)
    have HG3 : Hid (w.grownBy (w2.alloc (.cells (vwA u) 81)) none) := grown_trans HG2.out K3
    clear T2 K3
    generalize w2.alloc (.cells (vwA u) 81) = w3 at *
    generalize w2.heap.size = D at *
    obtain ⟨UA, hUA⟩ : ∃ UA, vwA u = UA := ⟨_, rfl⟩
    obtain ⟨VC, hVC⟩ : ∃ VC, viewC ⟨u, way, b⟩ a ca = VC := ⟨_, rfl⟩
    have HVU := HVS u
    simp only [tellA] at HCU
    rw [hUA] at HBV A3 HVU
    rw [hVC] at HBV HCU
    clear hUA hVC
    go_wp2_with (first | (refine wpList_load_row rfl 81 (.tmp 9) rfl D rfl 81 UA (0, 0) _ A3 Tryz.underlying81 rfl HVU ?_) | (refine wpList_bld rfl 86 _ rfl #[(0, .agg UA), (1, .int .i64 way), (2, .slice a b.length ca)] (by kernel_rfl) (.agg VC) HBV ?_))
    refine (HCU.out _ HG3.out).mono ?_
    rintro e w4 ⟨rfl, K4⟩
    have T4 := T3.kept K4
    have G4 := grown_trans HG3.out K4
    clear T3 A3 K4
    go_wp2_with (refine wpList_store_row rfl 71 (.tmp 8) (.tmp 26) rfl T (pmC E) rfl rfl 71 _ T4 (HPS _) rfl (part_all _) ?_)
    refine bodyPost_ret (results_cell_row rfl _ _ T 71 (pmC E) (0, 0) _ rfl (T4.setRow _) Tryz.underlying71 rfl (HPS _)) rfl ?_
    exact ⟨rfl, put_part G4 HSZ.out⟩
end Go.Proofs.YtnojpepjloceoaaGreat

namespace Go.Proofs.YtnojpepjloceoaaGreat
open Go.RowKit
set_option maxRecDepth 100000

theorem refuse_zero {t : List Ng} {l : Lk} {way : Int} (h : refuseM t l way = 0) : (checkG t).2 = 0 ∧ checkF l = 0 ∧ (way = 0 ∨ way = 1) := by
  unfold refuseM at h
  split at h
  · omega
  · rename_i h1
    split at h
    · omega
    · rename_i h2
      split at h
      · omega
      · exact ⟨by omega, by omega, by omega⟩
theorem refuse_ok {t : List Ng} {l : Lk} {way : Int} (h1 : (checkG t).2 = 0) (h2 : checkF l = 0) (h3 : way = 0 ∨ way = 1) : refuseM t l way = 0 := by
  unfold refuseM
  rw [if_neg (by omega), if_neg (by omega), if_neg (by omega)]
def judgeA (t : List Ng) (l : Lk) (way : Int) (b : List UInt8) : Value := .tuple #[.int .i64 (judgeM t l way b), .int .i64 (refuseM t l way)]

set_option maxHeartbeats 2000000 in
theorem judge_any (ao : Option Addr) (cap : Nat) (t : List Ng) (l : Lk) (way : Int) (a : Option Addr) (ca : Nat) (b : List UInt8) (w : World) (C : CV w ao (flatG t)) (hm : t.length * 72 ≤ 140737488355328) (hn : ∀ x ∈ t, x.n ≤ 4294967295) (hc : Cells w a b) (hb : b.length ≤ 140737488355328) (hcap : b.length ≤ ca) :
    Calls Tryz.prog 18 #[.slice ao t.length cap, .agg (lkA l), .int .i64 way, .slice a b.length ca] w fun e w' => e = .returned (judgeA t l way b) ∧ w.grownBy w' none := by
  have HBL := box_lk l
  have L1 : KB (w.alloc (.cells (lkA l) 23)) w.heap.size l := VAt.alloc _ _ _
  have K1 := World.grownBy_alloc w (.cells (lkA l) 23) none
  have HLS := lk_sz l
  have CR : Hid (∀ W, w.grownBy W none → Calls Tryz.prog 45 #[.slice ao t.length cap, .agg (lkA l), .int .i64 way] W fun e w' => e = .returned (.int .i64 (refuseM t l way)) ∧ W.grownBy w' none) := fun W K => refused_any ao cap t l way W (C.keptNone K) hm hn
  have CM : Hid (∀ W, refuseM t l way = 0 → w.grownBy W none → Calls Tryz.prog 46 #[.slice ao t.length cap, .agg (lkA l), .int .i64 way, .slice a b.length ca] W fun e w' => e = .returned (pmA (meanM t l way b)) ∧ W.grownBy w' none) := fun W hr K => by
    have h1 := (refuse_zero hr).1
    obtain ⟨p, h2, -, -⟩ := filt_iff.1 h1
    exact meant_any ao cap t p l way a ca b W (C.keptNone K) h2 (filt_len h1) hn (hc.keptNone K) hb hcap
  obtain ⟨E, hE⟩ : ∃ E, judgeA t l way b = E := ⟨_, rfl⟩
  have HE : Hid (E = .tuple #[.int .i64 (if refuseM t l way ≠ 0 then 0 else (meanM t l way b).how), .int .i64 (refuseM t l way)]) := hE.symm
  rw [hE]
  clear C hm hn hc hb hcap hE
  obtain ⟨LA, hLA⟩ : ∃ LA, lkA l = LA := ⟨_, rfl⟩
  have V1 : VAt (w.alloc (.cells LA 23)) w.heap.size 23 LA := VAt.alloc _ _ _
  rw [hLA] at HBL K1 CR CM HLS ⊢
  clear hLA L1
  go_enter Tryz.func18, Tryz.ntmps18
  go_upto_region 1 with fail
  generalize w.alloc (.cells LA 23) = w1 at *
  generalize w.heap.size = B at *
  clear HBL
  go_wp2_with (refine wpList_load_row rfl 23 (.tmp 5) rfl B rfl 23 LA (0, 0) _ V1 Tryz.underlying23 rfl HLS ?_)
  refine (CR.out _ K1).mono ?_
  rintro e w2 ⟨rfl, K2⟩
  have V2 := V1.kept K2
  have G2 := grown_trans K1 K2
  clear V1 K1 K2 CR
  by_cases h1 : refuseM t l way = 0
  case neg =>
    have e1 : (refuseM t l way != 0) = true := by rw [bne_iff_ne]; exact h1
    have HF : Hid (E = .tuple #[.int .i64 0, .int .i64 (refuseM t l way)]) := by show E = _; rw [HE.out, if_pos h1]
    clear h1 HE
    go_wp2
    go_ret2
    exact ⟨by rw [HF.out]; rfl, G2⟩
  case pos =>
    have HF : Hid (E = .tuple #[.int .i64 (meanM t l way b).how, .int .i64 0]) := by show E = _; rw [HE.out, if_neg (by simpa using h1), h1]
    have CM2 := CM.out w2 h1 G2
    have HFP := field_part (meanM t l way b)
    rw [h1]
    clear h1 HE CM
    go_wp2_with (refine wpList_load_row rfl 23 (.tmp 5) rfl B rfl 23 LA (0, 0) _ V2 Tryz.underlying23 rfl HLS ?_)
    refine CM2.mono ?_
    rintro e w3 ⟨rfl, K3⟩
    have G3 := grown_trans G2 K3
    clear CM2 V2 K3
    go_wp2
    go_ret2
    exact ⟨by rw [HF.out]; rfl, G3⟩

def matchA (t : List Ng) (l : Lk) (way : Int) (b : List UInt8) : Value := .tuple #[.bool (judgeM t l way b == 1), .int .i64 (refuseM t l way)]
set_option maxHeartbeats 2000000 in
theorem match_any (ao : Option Addr) (cap : Nat) (t : List Ng) (l : Lk) (way : Int) (a : Option Addr) (ca : Nat) (b : List UInt8) (w : World) (C : CV w ao (flatG t)) (hm : t.length * 72 ≤ 140737488355328) (hn : ∀ x ∈ t, x.n ≤ 4294967295) (hc : Cells w a b) (hb : b.length ≤ 140737488355328) (hcap : b.length ≤ ca) :
    Calls Tryz.prog 19 #[.slice ao t.length cap, .agg (lkA l), .int .i64 way, .slice a b.length ca] w fun e w' => e = .returned (matchA t l way b) ∧ w.grownBy w' none := by
  have HBL := box_lk l
  have K1 := World.grownBy_alloc w (.cells (lkA l) 23) none
  have HLS := lk_sz l
  have CJ := judge_any ao cap t l way a ca b _ (C.keptNone K1) hm hn (hc.keptNone K1) hb hcap
  simp only [judgeA, matchA] at CJ ⊢
  clear C hm hn hc hb hcap
  obtain ⟨LA, hLA⟩ : ∃ LA, lkA l = LA := ⟨_, rfl⟩
  have V1 : VAt (w.alloc (.cells LA 23)) w.heap.size 23 LA := VAt.alloc _ _ _
  rw [hLA] at HBL K1 CJ HLS ⊢
  clear hLA
  generalize judgeM t l way b = J at *
  generalize refuseM t l way = Rf at *
  go_enter Tryz.func19, Tryz.ntmps19
  go_upto_region 1 with fail
  generalize w.alloc (.cells LA 23) = w1 at *
  generalize w.heap.size = B at *
  clear HBL
  go_wp2_with (refine wpList_load_row rfl 23 (.tmp 5) rfl B rfl 23 LA (0, 0) _ V1 Tryz.underlying23 rfl HLS ?_)
  refine CJ.mono ?_
  rintro e w2 ⟨rfl, K2⟩
  have G2 := grown_trans K1 K2
  clear CJ V1 K1 K2
  go_wp2
  go_ret2
  exact ⟨rfl, G2⟩
end Go.Proofs.YtnojpepjloceoaaGreat
