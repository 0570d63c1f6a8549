/-
  The document's own Look. Numbers of 32 bits; Sum.
-/
import Derived.Test.YtkipmkkikcnejaaGreatLotP40
import Derived.Deep.WholeRow
import Derived.Test.YtkipmkkikcnejaaGreatLotP2
namespace Go.Proofs.YtkipmkkikcnejaaGreat
open Go.RowKit
set_option maxRecDepth 100000

theorem piece_err {l : Lk} {b : List UInt8} {e : Int} (h : pieceV l b = .error e) : (e != 0) = true := by
  unfold pieceV at h
  split at h
  · cases h; rfl
  · cases hp : plainV l b with
    | error x => rw [hp] at h; cases h; exact plain_err hp
    | ok p =>
      rw [bind_of hp] at h
      cases hq : protoV l b p with
      | error x => rw [hq] at h; cases h; exact proto_err hq
      | ok q =>
        rw [bind_of hq] at h
        split at h
        · cases h
        · cases hh : headV l b q.2 with
          | error x => rw [hh] at h; cases h; exact head_err hh
          | ok z => rw [bind_of hh] at h; cases h

set_option maxRecDepth 100000 in
set_option maxHeartbeats 4000000 in
theorem reflook_any (l : Lk) (a : Option Addr) (ca : Nat) (b : List UInt8) (w : World) (ha : Cells w a b) (hn : b.length ≤ 140737488355328) :
    Calls Tryz.prog 25 #[.agg (lkA l), .slice a b.length ca] w fun e w' => e = .returned (.tuple #[.agg (vwA (exV Vw.zero (lookX l b))), .int .i64 (exE (lookX l b))]) ∧ w.grownBy w' none := by
  obtain ⟨LA, RA, G0⟩ := two_blocks w l 24 58 (vwA Vw.zero)
  have HA : Hid (Cells _ a b) := ha.keptNone G0
  have HA0 : Hid (Cells w a b) := ha
  have HS : Hid (∀ v : Vw, (Tryz.prog.info? 58).map (·.size) = some (vwA v).size) := fun v => size58
  have HL : Hid ((Tryz.prog.info? 24).map (·.size) = some (lkA l).size) := size24
  clear ha
  obtain ⟨ans, hans⟩ : ∃ ans, lookX l b = ans := ⟨_, rfl⟩
  rw [hans]
  have HANS : Hid (lookX l b = ans) := hans
  clear hans
  go_enter Tryz.func25, Tryz.ntmps25
  go_upto_region 1 with fail
  rw [show (w.alloc (.cells (lkA l) 24)).alloc (.cells #[.int .u32 0, .bool false, .bool false, .bool false, .int .u32 0, .int .i64 0, .int .i64 0, .int .i64 0, .int .i64 0] 58) = (w.alloc (.cells (lkA l) 24)).alloc (.cells (vwA Vw.zero) 58) from rfl]
  generalize (w.alloc (.cells (lkA l) 24)).alloc (.cells (vwA Vw.zero) 58) = wa at *
  obtain ⟨L, hL⟩ : ∃ L, w.heap.size = L := ⟨_, rfl⟩
  obtain ⟨R, hR, hR2⟩ : ∃ R, w.heap.size + 1 = R ∧ w.heap.size ≤ R := ⟨_, rfl, by omega⟩
  rw [hR] at RA ⊢
  rw [hL] at LA ⊢
  clear hR hL
  have HR2 : Hid (w.heap.size ≤ R) := hR2
  clear hR2
  have CC := refchk_any l wa
  go_upto_region 2 with (refine wpList_load_row rfl 24 (.tmp 2) rfl L rfl 24 (lkA l) (0, 0) _ LA Tryz.underlying24 rfl HL.out ?_)
  refine CC.mono ?_
  rintro e' w1 ⟨rfl, K⟩
  have RA1 := RA.kept K
  have LA1 := LA.kept K
  have HA1 : Hid (Cells w1 a b) := HA.out.keptNone K
  have G1 := grown_trans G0 K
  clear CC RA LA HA G0 K
  by_cases hck : checkF l = 0
  · have hck' : (checkF l != 0) = false := by rw [hck]; rfl
    have HE1 := HANS.out
    rw [lookX, if_neg (fun e => e hck)] at HE1
    clear HANS hck
    generalize checkF l = ck at *
    go_upto_region 4 with fail
    clear hck'
    have CP := refpiece_any l a ca b w1 HA1.out hn
    cases hp : pieceV l b with
    | error e =>
      rw [hp] at CP HE1
      have hz := piece_err hp
      have HE : Hid (ans = .error e) := HE1.symm
      clear HE1 hp
      go_upto_region 5 with (refine wpList_load_row rfl 24 (.tmp 2) rfl L rfl 24 (lkA l) (0, 0) _ LA1 Tryz.underlying24 rfl HL.out ?_)
      refine CP.mono ?_
      rintro e' w2 ⟨rfl, K⟩
      simp only [exV, exE]
      have RA2 := RA1.kept K
      have G2 := grown_trans G1 K
      clear CP RA1 LA1 HA1 G1 K
      have VZ : VAt (w2.alloc (.cells #[.int .u32 0, .bool false, .bool false, .bool false, .int .u32 0, .int .i64 0, .int .i64 0, .int .i64 0, .int .i64 0] 58)) w2.heap.size 58 #[.int .u32 0, .bool false, .bool false, .bool false, .int .u32 0, .int .i64 0, .int .i64 0, .int .i64 0, .int .i64 0] := heap_alloc_new w2 _
      go_upto_region 5 with (refine wpList_store_row rfl 58 (.tmp 7) (.tmp 19) rfl w2.heap.size (vwA Vw.zero) rfl rfl 58 _ VZ (HS.out _) rfl (vwA_all _) ?_)
      rw [World.setRow_alloc_new]
      have V3 : VAt (w2.alloc (.cells (vwA Vw.zero) 58)) w2.heap.size 58 (vwA Vw.zero) := VAt.alloc w2 58 (vwA Vw.zero)
      have K3 := World.grownBy_alloc w2 (.cells (vwA Vw.zero) 58) none
      have R3 := RA2.kept K3
      have G3 := grown_trans G2 K3
      have hV : w.heap.size ≤ w2.heap.size := G2.size
      have HVR : Hid (R ≠ w2.heap.size) := by
        have := RA2.lt
        show R ≠ w2.heap.size
        omega
      clear K3 VZ RA2 G2
      generalize w2.alloc (.cells (vwA Vw.zero) 58) = w3 at *
      generalize w2.heap.size = V at *
      have HV2 : Hid (w.heap.size ≤ V) := hV
      clear hV
      go_wp2_with (first | refine wpList_load_row rfl 58 (.tmp 7) rfl V rfl 58 (vwA Vw.zero) (0, 0) _ V3 Tryz.underlying58 rfl (HS.out _) ?_ | refine wpList_store_row rfl 58 (.tmp 4) (.tmp 32) rfl R (vwA Vw.zero) rfl rfl 58 _ R3 (HS.out _) rfl (vwA_all _) ?_)
      refine bodyPost_ret (ret_row rfl _ _ R (vwA Vw.zero) _ rfl (R3.setRow _) Tryz.underlying58 rfl (HS.out _)) rfl ?_
      exact ⟨by rw [HE.out]; rfl, vgrown_setRow G3 _ _ (.inr HR2.out)⟩
    | ok v =>
      obtain ⟨p1, -, -, -, -, p6, -⟩ := piece_ok hp
      have HLEN : Hid (b.length ≤ 65535) := p1
      have HU : Hid (v.pos ≤ b.length) := p6
      clear p1 p6
      rw [hp, bind_of rfl] at HE1
      rw [hp] at CP
      clear hp
      go_upto_region 5 with (refine wpList_load_row rfl 24 (.tmp 2) rfl L rfl 24 (lkA l) (0, 0) _ LA1 Tryz.underlying24 rfl HL.out ?_)
      refine CP.mono ?_
      rintro e' w2 ⟨rfl, K⟩
      simp only [exV, exE]
      have RA2 := RA1.kept K
      have LA2 := LA1.kept K
      have HA2 : Hid (Cells w2 a b) := HA1.out.keptNone K
      have G2 := grown_trans G1 K
      clear CP RA1 LA1 HA1 G1 K
      have VZ : VAt (w2.alloc (.cells #[.int .u32 0, .bool false, .bool false, .bool false, .int .u32 0, .int .i64 0, .int .i64 0, .int .i64 0, .int .i64 0] 58)) w2.heap.size 58 #[.int .u32 0, .bool false, .bool false, .bool false, .int .u32 0, .int .i64 0, .int .i64 0, .int .i64 0, .int .i64 0] := heap_alloc_new w2 _
      go_upto_region 5 with (refine wpList_store_row rfl 58 (.tmp 7) (.tmp 19) rfl w2.heap.size (vwA v) rfl rfl 58 _ VZ (HS.out _) rfl (vwA_all _) ?_)
      rw [World.setRow_alloc_new]
      have V3 : VAt (w2.alloc (.cells (vwA v) 58)) w2.heap.size 58 (vwA v) := VAt.alloc w2 58 (vwA v)
      have K3 := World.grownBy_alloc w2 (.cells (vwA v) 58) none
      have R3 := RA2.kept K3
      have L3 := LA2.kept K3
      have A3 : Hid (Cells (w2.alloc (.cells (vwA v) 58)) a b) := HA2.out.keptNone K3
      have G3 := grown_trans G2 K3
      have hV : w.heap.size ≤ w2.heap.size := G2.size
      have HVR : Hid (R ≠ w2.heap.size) := by
        have := RA2.lt
        show R ≠ w2.heap.size
        omega
      have HVL : Hid (L ≠ w2.heap.size) := by
        have := LA2.lt
        show L ≠ w2.heap.size
        omega
      clear K3 VZ RA2 G2 LA2 HA2
      generalize w2.alloc (.cells (vwA v) 58) = w3 at *
      generalize w2.heap.size = V at *
      have HV2 : Hid (w.heap.size ≤ V) := hV
      clear hV
      have d1 : w3.cell? ⟨V, 1, none⟩ = some (.bool v.multi) := V3.cell 1
      have d2 : w3.cell? ⟨V, 2, none⟩ = some (.bool v.beg) := V3.cell 2
      have d5 : w3.cell? ⟨V, 5, none⟩ = some (.int .i64 (v.pos : Int)) := V3.cell 5
      cases hm : v.multi with
      | false =>
        rw [hm] at d1
        have HQ : Hid (ans = if v.proto = 33 ∨ v.proto = 87 then ipV v b else .ok v) := by
          show ans = _
          rw [← HE1, if_neg (by rw [hm]; simp), if_neg (by rw [hm]; simp)]
          rfl
        clear HE1 hm
        have d0 : w3.cell? ⟨V, 0, none⟩ = some (.int .u32 (v.proto : Int)) := V3.cell 0
        by_cases hi : v.proto = 33 ∨ v.proto = 87
        · have hd : ((v.proto : Int) == 33) = true ∨ ((v.proto : Int) == 33) = false ∧ ((v.proto : Int) == 87) = true := by
            by_cases h0 : v.proto = 33
            · exact .inl (by rw [h0]; rfl)
            · exact .inr ⟨by rw [beq_eq_false_iff_ne]; omega, by have := hi.resolve_left h0; rw [this]; rfl⟩
          have HE : Hid (ans = ipV v b) := by
            show ans = _
            rw [HQ.out, if_pos hi]
          clear HQ hi
          have CI := refip_any v a ca b w3 A3.out HLEN.out HU.out
          generalize ipV v b = ip at *
          rcases hd with hd | ⟨hd, hd2⟩
          all_goals
            go_wp2_with (refine wpList_load_row rfl 58 (.tmp 7) rfl V rfl 58 (vwA v) (0, 0) _ V3 Tryz.underlying58 rfl (HS.out _) ?_)
            refine CI.mono ?_
            rintro e' w9 ⟨rfl, K9⟩
            have R9 := R3.kept K9
            have G9 := grown_trans G3 K9
            clear CI V3 R3 G3 A3 K9 d0
            go_wp2_with (refine wpList_store_row rfl 58 (.tmp 4) (.tmp 62) rfl R (vwA (exV Vw.zero ip)) rfl rfl 58 _ R9 (HS.out _) rfl (vwA_all _) ?_)
            refine bodyPost_ret (ret_row rfl _ _ R (vwA (exV Vw.zero ip)) _ rfl (R9.setRow _) Tryz.underlying58 rfl (HS.out _)) rfl ?_
            exact ⟨by rw [HE.out]; rfl, vgrown_setRow G9 _ _ (.inr HR2.out)⟩
        · have hd : ((v.proto : Int) == 33) = false := by rw [beq_eq_false_iff_ne]; omega
          have hd2 : ((v.proto : Int) == 87) = false := by rw [beq_eq_false_iff_ne]; omega
          have HE : Hid (ans = .ok v) := by
            show ans = _
            rw [HQ.out, if_neg hi]
          clear HQ hi
          go_wp2_with (first | refine wpList_load_row rfl 58 (.tmp 7) rfl V rfl 58 (vwA v) (0, 0) _ V3 Tryz.underlying58 rfl (HS.out _) ?_ | refine wpList_store_row rfl 58 (.tmp 4) (.tmp 64) rfl R (vwA v) rfl rfl 58 _ R3 (HS.out _) rfl (vwA_all _) ?_)
          refine bodyPost_ret (ret_row rfl _ _ R (vwA v) _ rfl (R3.setRow _) Tryz.underlying58 rfl (HS.out _)) rfl ?_
          exact ⟨by rw [HE.out]; rfl, vgrown_setRow G3 _ _ (.inr HR2.out)⟩
      | true =>
        rw [hm] at d1
        cases hbg : v.beg with
        | false =>
          rw [hbg] at d2
          have HE : Hid (ans = .ok v) := by
            show ans = _
            rw [← HE1, if_pos ⟨hm, hbg⟩]
          clear HE1 hm hbg
          go_wp2_with (first | refine wpList_load_row rfl 58 (.tmp 7) rfl V rfl 58 (vwA v) (0, 0) _ V3 Tryz.underlying58 rfl (HS.out _) ?_ | refine wpList_store_row rfl 58 (.tmp 4) (.tmp 32) rfl R (vwA v) rfl rfl 58 _ R3 (HS.out _) rfl (vwA_all _) ?_)
          refine bodyPost_ret (ret_row rfl _ _ R (vwA v) _ rfl (R3.setRow _) Tryz.underlying58 rfl (HS.out _)) rfl ?_
          exact ⟨by rw [HE.out]; rfl, vgrown_setRow G3 _ _ (.inr HR2.out)⟩
        | true =>
          rw [hbg] at d2
          have HE2 : Hid (ans = (protoV l b v.pos).bind fun q => if q.1 = 33 ∨ q.1 = 87 then ipV { v with proto := q.1, pos := q.2 } b else .ok { v with proto := q.1, pos := q.2 }) := by
            show ans = _
            rw [← HE1, if_neg (by rw [hbg]; simp), if_pos hm]
            cases protoV l b v.pos <;> rfl
          clear HE1 hm hbg
          have CQ := refproto_any l a ca b v.pos w3 A3.out (by have := HLEN.out; have := HU.out; omega)
          have d0 : w3.cell? ⟨V, 0, none⟩ = some (.int .u32 (v.proto : Int)) := V3.cell 0
          have f0 := V3.free 0
          have f5 := V3.free 5
          go_upto_region 8 with fail
          cases hq : protoV l b v.pos with
          | error e =>
            rw [hq] at CQ HE2
            have hz := proto_err hq
            have HE : Hid (ans = .error e) := HE2.out
            clear HE2 hq
            go_upto_region 9 with (refine wpList_load_row rfl 24 (.tmp 2) rfl L rfl 24 (lkA l) (0, 0) _ L3 Tryz.underlying24 rfl HL.out ?_)
            refine CQ.mono ?_
            rintro e' w4 ⟨rfl, K⟩
            simp only [exV, exE]
            have R4 := R3.kept K
            have V4 := V3.kept K
            have A4 : Hid (Cells w4 a b) := A3.out.keptNone K
            have G4 := grown_trans G3 K
            have g0 : w4.cell? ⟨V, 0, none⟩ = some (.int .u32 (v.proto : Int)) := V4.cell 0
            have g5 : w4.cell? ⟨V, 5, none⟩ = some (.int .i64 (v.pos : Int)) := V4.cell 5
            have f0 := V4.free 0
            have f5 := V4.free 5
            clear CQ R3 V3 L3 A3 G3 K d0 d1 d2 d5
            have R5 : VAt ((w4.setCell ⟨V, 0, none⟩ (.int .u32 0)).setCell ⟨V, 5, none⟩ (.int .i64 0)) R 58 (vwA Vw.zero) := (R4.setOther _ HVR.out).setOther _ HVR.out
            have G5 : w.grownBy ((w4.setCell ⟨V, 0, none⟩ (.int .u32 0)).setCell ⟨V, 5, none⟩ (.int .i64 0)) none := grown_setCell (grown_setCell G4 _ _ (.inr HV2.out)) _ _ (.inr HV2.out)
            clear R4 V4 A4 G4
            go_upto_region 9 with fail
            generalize (w4.setCell ⟨V, 0, none⟩ (.int .u32 0)).setCell ⟨V, 5, none⟩ (.int .i64 0) = w5 at *
            clear g0 g5 f0 f5
            go_wp2_with (refine wpList_store_row rfl 58 (.tmp 4) (.tmp 49) rfl R (vwA Vw.zero) rfl rfl 58 _ R5 (HS.out _) rfl (vwA_all _) ?_)
            refine bodyPost_ret (ret_row rfl _ _ R (vwA Vw.zero) _ rfl (R5.setRow _) Tryz.underlying58 rfl (HS.out _)) rfl ?_
            exact ⟨by rw [HE.out]; rfl, vgrown_setRow G5 _ _ (.inr HR2.out)⟩
          | ok q =>
            obtain ⟨pr, p2⟩ := q
            have HU2 : Hid (p2 ≤ b.length) := (proto_grows (c := []) hq).2.2
            rw [hq] at CQ HE2
            have HE3 : Hid (ans = if pr = 33 ∨ pr = 87 then ipV { v with proto := pr, pos := p2 } b else .ok { v with proto := pr, pos := p2 }) := HE2.out
            clear HE2 hq
            go_upto_region 9 with (refine wpList_load_row rfl 24 (.tmp 2) rfl L rfl 24 (lkA l) (0, 0) _ L3 Tryz.underlying24 rfl HL.out ?_)
            refine CQ.mono ?_
            rintro e' w4 ⟨rfl, K⟩
            simp only [exV, exE]
            have R4 := R3.kept K
            have V4 := V3.kept K
            have A4 : Hid (Cells w4 a b) := A3.out.keptNone K
            have G4 := grown_trans G3 K
            have g0 : w4.cell? ⟨V, 0, none⟩ = some (.int .u32 (v.proto : Int)) := V4.cell 0
            have g5 : w4.cell? ⟨V, 5, none⟩ = some (.int .i64 (v.pos : Int)) := V4.cell 5
            have f0 := V4.free 0
            have f5 := V4.free 5
            clear CQ R3 V3 L3 A3 G3 K d0 d1 d2 d5
            have R5 : VAt ((w4.setCell ⟨V, 0, none⟩ (.int .u32 (pr : Int))).setCell ⟨V, 5, none⟩ (.int .i64 (p2 : Int))) R 58 (vwA Vw.zero) := (R4.setOther _ HVR.out).setOther _ HVR.out
            have V5 : VAt ((w4.setCell ⟨V, 0, none⟩ (.int .u32 (pr : Int))).setCell ⟨V, 5, none⟩ (.int .i64 (p2 : Int))) V 58 (vwA { v with proto := pr, pos := p2 }) := (V4.set 0 _).set 5 _
            have G5 : w.grownBy ((w4.setCell ⟨V, 0, none⟩ (.int .u32 (pr : Int))).setCell ⟨V, 5, none⟩ (.int .i64 (p2 : Int))) none := grown_setCell (grown_setCell G4 _ _ (.inr HV2.out)) _ _ (.inr HV2.out)
            have A5 : Hid (Cells ((w4.setCell ⟨V, 0, none⟩ (.int .u32 (pr : Int))).setCell ⟨V, 5, none⟩ (.int .i64 (p2 : Int))) a b) := HA0.out.keptNone G5
            clear R4 V4 A4 G4 HU
            go_upto_region 9 with fail
            generalize (w4.setCell ⟨V, 0, none⟩ (.int .u32 (pr : Int))).setCell ⟨V, 5, none⟩ (.int .i64 (p2 : Int)) = w5 at *
            clear g0 g5 f0 f5
            obtain ⟨U, hU⟩ : ∃ U : Vw, U = { v with proto := pr, pos := p2 } := ⟨_, rfl⟩
            have hU1 : U.proto = pr := by rw [hU]
            have HU : Hid (U.pos ≤ b.length) := by
              show U.pos ≤ b.length
              rw [hU]
              exact HU2.out
            have HQ : Hid (ans = if U.proto = 33 ∨ U.proto = 87 then ipV U b else .ok U) := by
              show ans = _
              rw [HE3.out, ← hU, hU1]
            rw [← hU] at V5
            clear hU hU1 HU2 HE3
            have d0 : w5.cell? ⟨V, 0, none⟩ = some (.int .u32 (U.proto : Int)) := V5.cell 0
            by_cases hi : U.proto = 33 ∨ U.proto = 87
            · have hd : ((U.proto : Int) == 33) = true ∨ ((U.proto : Int) == 33) = false ∧ ((U.proto : Int) == 87) = true := by
                by_cases h0 : U.proto = 33
                · exact .inl (by rw [h0]; rfl)
                · exact .inr ⟨by rw [beq_eq_false_iff_ne]; omega, by have := hi.resolve_left h0; rw [this]; rfl⟩
              have HE : Hid (ans = ipV U b) := by
                show ans = _
                rw [HQ.out, if_pos hi]
              clear HQ hi
              have CI := refip_any U a ca b w5 A5.out HLEN.out HU.out
              generalize ipV U b = ip at *
              rcases hd with hd | ⟨hd, hd2⟩
              all_goals
                go_wp2_with (refine wpList_load_row rfl 58 (.tmp 7) rfl V rfl 58 (vwA U) (0, 0) _ V5 Tryz.underlying58 rfl (HS.out _) ?_)
                refine CI.mono ?_
                rintro e' w9 ⟨rfl, K9⟩
                have R9 := R5.kept K9
                have G9 := grown_trans G5 K9
                clear CI V5 R5 G5 A5 K9 d0
                go_wp2_with (refine wpList_store_row rfl 58 (.tmp 4) (.tmp 62) rfl R (vwA (exV Vw.zero ip)) rfl rfl 58 _ R9 (HS.out _) rfl (vwA_all _) ?_)
                refine bodyPost_ret (ret_row rfl _ _ R (vwA (exV Vw.zero ip)) _ rfl (R9.setRow _) Tryz.underlying58 rfl (HS.out _)) rfl ?_
                exact ⟨by rw [HE.out]; rfl, vgrown_setRow G9 _ _ (.inr HR2.out)⟩
            · have hd : ((U.proto : Int) == 33) = false := by rw [beq_eq_false_iff_ne]; omega
              have hd2 : ((U.proto : Int) == 87) = false := by rw [beq_eq_false_iff_ne]; omega
              have HE : Hid (ans = .ok U) := by
                show ans = _
                rw [HQ.out, if_neg hi]
              clear HQ hi
              go_wp2_with (first | refine wpList_load_row rfl 58 (.tmp 7) rfl V rfl 58 (vwA U) (0, 0) _ V5 Tryz.underlying58 rfl (HS.out _) ?_ | refine wpList_store_row rfl 58 (.tmp 4) (.tmp 64) rfl R (vwA U) rfl rfl 58 _ R5 (HS.out _) rfl (vwA_all _) ?_)
              refine bodyPost_ret (ret_row rfl _ _ R (vwA U) _ rfl (R5.setRow _) Tryz.underlying58 rfl (HS.out _)) rfl ?_
              exact ⟨by rw [HE.out]; rfl, vgrown_setRow G5 _ _ (.inr HR2.out)⟩
  · have hck' : (checkF l != 0) = true := by rw [bne_iff_ne]; exact hck
    have HE : Hid (ans = .error (checkF l)) := by
      show ans = _
      rw [← HANS.out, lookX, if_pos hck]
    clear HANS hck
    generalize checkF l = ck at *
    go_wp2_with (refine wpList_store_row rfl 58 (.tmp 4) (.tmp 13) rfl R (vwA Vw.zero) rfl rfl 58 _ RA1 (HS.out _) rfl (vwA_all _) ?_)
    refine bodyPost_ret (ret_row rfl _ _ R (vwA Vw.zero) _ rfl (RA1.setRow _) Tryz.underlying58 rfl (HS.out _)) rfl ?_
    exact ⟨by rw [HE.out]; rfl, vgrown_setRow G1 _ _ (.inr HR2.out)⟩

end Go.Proofs.YtkipmkkikcnejaaGreat

namespace Go.Proofs.YtkipmkkikcnejaaGreat
open Go.RowKit
set_option maxRecDepth 100000

/-- A number of 32 bits as a cell. -/
def wv (c : UInt32) : Value := .int .u32 (c.toNat : Int)

theorem CV.words {w : World} {ao : Option Addr} {xs : List UInt32} (h : CV w ao (xs.map wv)) {k : Nat} (hk : k < xs.length) :
    ∃ b off, ao = some ⟨b, off, none⟩ ∧ ∀ i (hi : i < xs.length), w.cell? ⟨b, off + i, none⟩ = some (.int .u32 (xs[i].toNat : Int)) := by
  obtain ⟨b, off, hao, hc⟩ := h.addr (k := k) (by simpa using hk)
  refine ⟨b, off, hao, fun i hi => ?_⟩
  rw [hc i (by simpa using hi)]
  simp [wv]

/-- The sum, however great. -/
def tot (xs : List UInt32) : Nat := (xs.map UInt32.toNat).sum

theorem tot_nil : tot [] = 0 := rfl

theorem tot_cons (x : UInt32) (xs : List UInt32) : tot (x :: xs) = x.toNat + tot xs := by simp [tot]

theorem tot_append (xs ys : List UInt32) : tot (xs ++ ys) = tot xs + tot ys := by simp [tot]

theorem tot_take_succ (xs : List UInt32) (k : Nat) (hk : k < xs.length) : tot (xs.take (k + 1)) = tot (xs.take k) + xs[k].toNat := by
  rw [List.take_succ_eq_append_getElem hk, tot_append, tot_cons, tot_nil]; omega

theorem tot_take_le (xs : List UInt32) (k : Nat) : tot (xs.take k) ≤ tot xs := by
  have h := tot_append (xs.take k) (xs.drop k)
  rw [List.take_append_drop] at h
  omega

/-- What Sum says. -/
def sumS (xs : List UInt32) : Nat := min (tot xs) 4294967295

theorem sum_stop {xs : List UInt32} {k : Nat} (hk : k < xs.length) (h : (4294967295 : Int) - (tot (xs.take k) : Int) < (xs[k].toNat : Int)) : (4294967295 : Int) = (sumS xs : Int) := by
  have h1 := tot_take_succ xs k hk
  have h2 := tot_take_le xs (k + 1)
  unfold sumS
  omega

set_option maxHeartbeats 400000 in
theorem sum_any (a : Option Addr) (ca : Nat) (xs : List UInt32) (w : World) (ha : CV w a (xs.map wv)) (hn : xs.length ≤ 140737488355328) :
    Calls Tryz.prog 106 #[.slice a xs.length ca] w fun e w' => e = .returned (.int .u32 (sumS xs)) ∧ w = w' := by
  go_enter Tryz.func106, Tryz.ntmps106
  go_wp2
  go_loop [3, 8, 5] (fun t i _ => ∃ k : Nat, k ≤ xs.length ∧ i = .int .i64 k ∧ t = .int .u32 (tot (xs.take k)) ∧ tot (xs.take k) ≤ 4294967295) (fun _ i _ => xs.length - (intOf i).toNat)
  case atStart => exact ⟨0, Nat.zero_le _, rfl, rfl, by simp [tot]⟩
  case round =>
    obtain ⟨k, hk, rfl, rfl, hle⟩ := hrel
    by_cases hlt : k < xs.length
    · obtain ⟨b, o, rfl, h1⟩ := ha.words hlt
      have c1 := h1 k hlt
      have hx := xs[k].toNat_lt
      have HT : Hid (tot (xs.take (k + 1)) = tot (xs.take k) + xs[k].toNat) := tot_take_succ xs k hlt
      clear ha h1
      go_wp2
      · go_ret
        exact ⟨ret_int (sum_stop hlt ‹_›), rfl⟩
      · have hs : (xs[k].toNat : Int) ≤ 4294967295 - (tot (List.take k xs) : Int) := by assumption
        go_round
        case rel => exact ⟨k + 1, by omega, by go_num, by rw [HT.out]; go_num, by rw [HT.out]; omega⟩
        case measure => simp [intOf]; omega
    · obtain rfl : k = xs.length := by omega
      rw [List.take_length] at hle ⊢
      go_wp2
      go_ret
      exact ⟨ret_int (by unfold sumS; omega), rfl⟩

theorem sum_len (a : Option Addr) (n ca : Nat) (xs : List UInt32) (hx : xs.length = n) (w : World) (ha : CV w a (xs.map wv)) (hn : xs.length ≤ 140737488355328) :
    Calls Tryz.prog 106 #[.slice a n ca] w fun e w' => e = .returned (.int .u32 (sumS xs)) ∧ w = w' := by
  subst hx
  exact sum_any a ca xs w ha hn

end Go.Proofs.YtkipmkkikcnejaaGreat
