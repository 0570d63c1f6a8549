/-
  The document's own fits.
-/
import Derived.Test.YtfjjmeanmlimoaaForgeS
namespace Go.Proofs.Ytfjjmeanmlimoaa
open Go.RowKit
set_option maxRecDepth 100000

set_option maxRecDepth 100000 in
set_option maxHeartbeats 8000000 in
theorem fits_any (l : Lk) (s : Sp) (a : Option Addr) (ca : Nat) (w : World) (ok : s.ok) : Calls Try.prog 19 #[.agg (lkA l), .agg (spA s a ca)] w fun e w' => e = .returned (.bool (fitsB l s)) ∧ w.grownBy w' none := by
  have L0 := VAt.alloc w 23 (lkA l)
  have K1 := World.grownBy_alloc (w.alloc (.cells (lkA l) 23)) (.cells (spA s a ca) 28) none
  have S1 := VAt.alloc (w.alloc (.cells (lkA l) 23)) 28 (spA s a ca)
  have G1 := grown_trans (World.grownBy_alloc w (.cells (lkA l) 23) none) K1
  rw [show (w.alloc (.cells (lkA l) 23)).heap.size = w.heap.size + 1 by simp] at S1
  have HI : Hid (FI w w.heap.size (w.heap.size + 1) l s a ca ((w.alloc (.cells (lkA l) 23)).alloc (.cells (spA s a ca) 28))) := ⟨L0.kept K1, ⟨S1, ok⟩, G1⟩
  have HSP : Hid (∀ W : World, Calls Try.prog 41 #[.agg #[.bool l.acfc, .bool l.pfc, .int .i64 l.mp]] W fun e w' => e = .returned (.int .u32 (spV l : Int)) ∧ W.grownBy w' none) := fun W => space_any l W
  obtain ⟨zs0, z1⟩ : ∃ z, zeroB s.src 0 = z := ⟨_, rfl⟩
  obtain ⟨zd0, z2⟩ : ∃ z, zeroB s.dst 0 = z := ⟨_, rfl⟩
  obtain ⟨zs4, z3⟩ : ∃ z, zeroB s.src 4 = z := ⟨_, rfl⟩
  obtain ⟨zd4, z4⟩ : ∃ z, zeroB s.dst 4 = z := ⟨_, rfl⟩
  have HZ : Hid ((∀ W : World, Calls Try.prog 42 #[.agg (s.src.map bv).toArray, .int .i64 0] W fun e w' => e = .returned (.bool zs0) ∧ W.grownBy w' none) ∧ (∀ W : World, Calls Try.prog 42 #[.agg (s.dst.map bv).toArray, .int .i64 0] W fun e w' => e = .returned (.bool zd0) ∧ W.grownBy w' none) ∧ (∀ W : World, Calls Try.prog 42 #[.agg (s.src.map bv).toArray, .int .i64 4] W fun e w' => e = .returned (.bool zs4) ∧ W.grownBy w' none) ∧ (∀ W : World, Calls Try.prog 42 #[.agg (s.dst.map bv).toArray, .int .i64 4] W fun e w' => e = .returned (.bool zd4) ∧ W.grownBy w' none)) := by
    rw [← z1, ← z2, ← z3, ← z4]
    exact ⟨fun W => zero_any s.src 0 W ok.src (by omega), fun W => zero_any s.dst 0 W ok.dst (by omega), fun W => zero_any s.src 4 W ok.src (by omega), fun W => zero_any s.dst 4 W ok.dst (by omega)⟩
  have HZE : Hid (zeroB s.src 0 = zs0 ∧ zeroB s.dst 0 = zd0 ∧ zeroB s.src 4 = zs4 ∧ zeroB s.dst 4 = zd4) := ⟨z1, z2, z3, z4⟩
  have HS1 : Hid ((Try.prog.info? 25).map (·.size) = some (s.src.map bv).length) := by
    show _ = _
    rw [List.length_map, ok.src]; exact size25
  have HS2 : Hid ((Try.prog.info? 25).map (·.size) = some (s.dst.map bv).length) := by
    show _ = _
    rw [List.length_map, ok.dst]; exact size25
  obtain ⟨sd, hsd⟩ : ∃ z, saidB s = z := ⟨_, rfl⟩
  obtain ⟨ip, hip⟩ : ∃ z, ipB s = z := ⟨_, rfl⟩
  have HSD : Hid (saidB s = sd) := hsd
  have HIP : Hid (ipB s = ip) := hip
  obtain ⟨k1, q1⟩ : ∃ z, cond1 l s = z := ⟨_, rfl⟩
  obtain ⟨k2, q2⟩ : ∃ z, cond2 l s = z := ⟨_, rfl⟩
  obtain ⟨k3, q3⟩ : ∃ z, cond3 l s = z := ⟨_, rfl⟩
  obtain ⟨k4, q4⟩ : ∃ z, cond4 s = z := ⟨_, rfl⟩
  obtain ⟨k5, q5⟩ : ∃ z, cond5 s = z := ⟨_, rfl⟩
  obtain ⟨k6, q6⟩ : ∃ z, cond6 s = z := ⟨_, rfl⟩
  obtain ⟨k7, q7⟩ : ∃ z, cond7 s = z := ⟨_, rfl⟩
  obtain ⟨k8, q8⟩ : ∃ z, cond8 s = z := ⟨_, rfl⟩
  obtain ⟨k9, q9⟩ : ∃ z, cond9 s = z := ⟨_, rfl⟩
  obtain ⟨k10, q10⟩ : ∃ z, cond10 s = z := ⟨_, rfl⟩
  obtain ⟨k11, q11⟩ : ∃ z, cond11 l s = z := ⟨_, rfl⟩
  have HC : Hid (cond1 l s = k1 ∧ cond2 l s = k2 ∧ cond3 l s = k3 ∧ cond4 s = k4 ∧ cond5 s = k5 ∧ cond6 s = k6 ∧ cond7 s = k7 ∧ cond8 s = k8 ∧ cond9 s = k9 ∧ cond10 s = k10 ∧ cond11 l s = k11) := ⟨q1, q2, q3, q4, q5, q6, q7, q8, q9, q10, q11⟩
  have e : fitsB l s = !(k1 || (k2 || (k3 || (k4 || (k5 || (k6 || (k7 || (k8 || (k9 || (k10 || k11)))))))))) := by rw [fitsB, q1, q2, q3, q4, q5, q6, q7, q8, q9, q10, q11]
  rw [e]
  clear e L0 K1 S1 G1 ok z1 z2 z3 z4 hsd hip q1 q2 q3 q4 q5 q6 q7 q8 q9 q10 q11
  go_enter Try.func19, Try.ntmps19
  go_upto_region 1 with fail
  obtain ⟨B, hB⟩ : ∃ B, w.heap.size = B := ⟨_, rfl⟩
  obtain ⟨C, hC⟩ : ∃ C, w.heap.size + 1 = C := ⟨_, rfl⟩
  rw [hC, hB] at HI ⊢
  clear hB hC
  generalize (w.alloc (.cells (lkA l) 23)).alloc (.cells (spA s a ca) 28) = W1 at *
  go_upto_region 1 with fail
  go_cut [5] from 7 to 13 (fun x wx => x = .bool sd ∧ Hid (FI w B C l s a ca wx))
  case first =>
    obtain ⟨c0, c1, c2, c3, c4, c5, c6, c7⟩ := HI.out.2.1.eight
    obtain ⟨c40, c41, c42, c43⟩ := HI.out.2.1.four
    have x0 : W1.cell? ⟨B, 0, none⟩ = some (.bool l.acfc) := HI.out.1.cell 0
    have x1 : W1.cell? ⟨B, 1, none⟩ = some (.bool l.pfc) := HI.out.1.cell 1
    have x2 : W1.cell? ⟨B, 2, none⟩ = some (.int .i64 l.mp) := HI.out.1.cell 2
    clear c0 c1 c4 c5 c6 c7 c40 c41 c42 c43 x0 x1 x2
    cases h_multi : s.multi with
    | true =>
      rw [h_multi] at c2
      cases h_beg : s.beg with
      | true =>
        rw [h_beg] at c3
        go_wp2
        go_meet
        exact ⟨(by rw [← HSD.out]; simp [saidB, h_multi, h_beg]), HI⟩
      | false =>
        rw [h_beg] at c3
        go_wp2
        go_meet
        exact ⟨(by rw [← HSD.out]; simp [saidB, h_multi, h_beg]), HI⟩
    | false =>
      rw [h_multi] at c2
      go_wp2
      go_meet
      exact ⟨(by rw [← HSD.out]; simp [saidB, h_multi]), HI⟩
  case rest =>
  obtain ⟨rfl, HI⟩ := hcut
  go_upto_region 2 with fail
  go_cut [6] from 14 to 24 (fun x wx => x = .bool ip ∧ Hid (FI w B C l s a ca wx))
  case first =>
    obtain ⟨c0, c1, c2, c3, c4, c5, c6, c7⟩ := HI.out.2.1.eight
    obtain ⟨c40, c41, c42, c43⟩ := HI.out.2.1.four
    have x0 : wc.cell? ⟨B, 0, none⟩ = some (.bool l.acfc) := HI.out.1.cell 0
    have x1 : wc.cell? ⟨B, 1, none⟩ = some (.bool l.pfc) := HI.out.1.cell 1
    have x2 : wc.cell? ⟨B, 2, none⟩ = some (.int .i64 l.mp) := HI.out.1.cell 2
    clear c0 c1 c2 c3 c4 c5 c7 c40 c41 c42 c43 x0 x1 x2
    cases sd with
    | true =>
      cases h_p33 : ((s.proto : Int) == 33) with
      | true =>
        go_wp2
        go_meet
        exact ⟨(by rw [← HIP.out]; simp [ipB, natbeq, h_p33, HSD.out]), HI⟩
      | false =>
        cases h_p87 : ((s.proto : Int) == 87) with
        | true =>
          go_wp2
          go_meet
          exact ⟨(by rw [← HIP.out]; simp [ipB, natbeq, h_p33, h_p87, HSD.out]), HI⟩
        | false =>
          go_wp2
          go_meet
          exact ⟨(by rw [← HIP.out]; simp [ipB, natbeq, h_p33, h_p87, HSD.out]), HI⟩
    | false =>
      go_wp2
      go_meet
      exact ⟨(by rw [← HIP.out]; simp [ipB, natbeq, HSD.out]), HI⟩
  case rest =>
  obtain ⟨rfl, HI⟩ := hcut
  go_upto_region 3 with fail
  go_cut [25] from 26 to 33 (fun x wx => x = .bool k1 ∧ Hid (FI w B C l s a ca wx))
  case first =>
    obtain ⟨c0, c1, c2, c3, c4, c5, c6, c7⟩ := HI.out.2.1.eight
    obtain ⟨c40, c41, c42, c43⟩ := HI.out.2.1.four
    have x0 : wc.cell? ⟨B, 0, none⟩ = some (.bool l.acfc) := HI.out.1.cell 0
    have x1 : wc.cell? ⟨B, 1, none⟩ = some (.bool l.pfc) := HI.out.1.cell 1
    have x2 : wc.cell? ⟨B, 2, none⟩ = some (.int .i64 l.mp) := HI.out.1.cell 2
    clear c0 c2 c3 c4 c5 c6 c7 c40 c41 c42 c43 x1 x2
    cases h_wide : s.wide with
    | true =>
      rw [h_wide] at c1
      go_wp2
      go_meet
      exact ⟨(by rw [← HC.out.1]; simp [cond1, h_wide]), HI⟩
    | false =>
      rw [h_wide] at c1
      cases h_acfc : l.acfc with
      | true =>
        rw [h_acfc] at x0
        go_wp2
        go_meet
        exact ⟨(by rw [← HC.out.1]; simp [cond1, h_wide, h_acfc]), HI⟩
      | false =>
        rw [h_acfc] at x0
        go_wp2
        go_meet
        exact ⟨(by rw [← HC.out.1]; simp [cond1, h_wide, h_acfc]), HI⟩
  case rest =>
  obtain ⟨rfl, HI⟩ := hcut
  cases k1 with
  | true =>
    go_wp2
    go_ret
    exact ⟨by simp, HI.out.2.2⟩
  | false =>
  go_upto_region 5 with fail
  go_cut [34] from 35 to 48 (fun x wx => x = .bool k2 ∧ Hid (FI w B C l s a ca wx))
  case first =>
    obtain ⟨c0, c1, c2, c3, c4, c5, c6, c7⟩ := HI.out.2.1.eight
    obtain ⟨c40, c41, c42, c43⟩ := HI.out.2.1.four
    have x0 : wc.cell? ⟨B, 0, none⟩ = some (.bool l.acfc) := HI.out.1.cell 0
    have x1 : wc.cell? ⟨B, 1, none⟩ = some (.bool l.pfc) := HI.out.1.cell 1
    have x2 : wc.cell? ⟨B, 2, none⟩ = some (.int .i64 l.mp) := HI.out.1.cell 2
    clear c0 c1 c3 c4 c6 c7 c40 c41 c42 c43
    cases h_multi : s.multi with
    | true =>
      rw [h_multi] at c2
      cases h_mp0 : (l.mp == 0) with
      | true =>
        go_region
        all_goals
          go_wp2
          go_meet
          exact ⟨(by rw [← HC.out.2.1]; simp [cond2, h_multi, h_mp0]), HI.out.kept (grown_drewN _ 1 none)⟩
      | false =>
        cases h_sqge : decide (spV l ≤ s.seq) with
        | true =>
          go_region_with (go_at_call 41; refine (HSP.out _).mono ?_; rintro e wz ⟨rfl, Kz⟩; have c5z := Kz.cell c5 (by simp))
          all_goals
            go_wp2
            go_meet
            exact ⟨(by rw [← HC.out.2.1]; simp [cond2, h_multi, h_mp0, h_sqge]), HI.out.kept (by first | exact Kz | exact grown_trans (grown_drewN _ 1 none) Kz)⟩
        | false =>
          go_region_with (go_at_call 41; refine (HSP.out _).mono ?_; rintro e wz ⟨rfl, Kz⟩; have c5z := Kz.cell c5 (by simp))
          all_goals
            go_wp2
            go_meet
            exact ⟨(by rw [← HC.out.2.1]; simp [cond2, h_multi, h_mp0, h_sqge]), HI.out.kept (by first | exact Kz | exact grown_trans (grown_drewN _ 1 none) Kz)⟩
    | false =>
      rw [h_multi] at c2
      go_region
      all_goals
        go_wp2
        go_meet
        exact ⟨(by rw [← HC.out.2.1]; simp [cond2, h_multi]), HI.out.kept (grown_drewN _ 1 none)⟩
  case rest =>
  obtain ⟨rfl, HI⟩ := hcut
  cases k2 with
  | true =>
    go_wp2
    go_ret
    exact ⟨by simp, HI.out.2.2⟩
  | false =>
  go_upto_region 7 with fail
  go_cut [49] from 50 to 75 (fun x wx => x = .bool k3 ∧ Hid (FI w B C l s a ca wx))
  case first =>
    obtain ⟨c0, c1, c2, c3, c4, c5, c6, c7⟩ := HI.out.2.1.eight
    obtain ⟨c40, c41, c42, c43⟩ := HI.out.2.1.four
    have x0 : wc.cell? ⟨B, 0, none⟩ = some (.bool l.acfc) := HI.out.1.cell 0
    have x1 : wc.cell? ⟨B, 1, none⟩ = some (.bool l.pfc) := HI.out.1.cell 1
    have x2 : wc.cell? ⟨B, 2, none⟩ = some (.int .i64 l.mp) := HI.out.1.cell 2
    clear c0 c1 c7 c40 c41 c42 c43 x0 x1
    cases h_multi : s.multi with
    | true =>
      rw [h_multi] at c2
      go_wp2
      go_meet
      exact ⟨(by rw [← HC.out.2.2.1]; simp [cond3, h_multi]), HI⟩
    | false =>
      rw [h_multi] at c2
      cases h_beg : s.beg with
      | true =>
        rw [h_beg] at c3
        go_wp2
        go_meet
        exact ⟨(by rw [← HC.out.2.2.1]; simp [cond3, h_multi, h_beg]), HI⟩
      | false =>
        rw [h_beg] at c3
        cases h_fin : s.fin with
        | true =>
          rw [h_fin] at c4
          go_wp2
          go_meet
          exact ⟨(by rw [← HC.out.2.2.1]; simp [cond3, h_multi, h_beg, h_fin]), HI⟩
        | false =>
          rw [h_fin] at c4
          cases h_seqn0 : ((s.seq : Int) != 0) with
          | true =>
            go_wp2
            go_meet
            exact ⟨(by rw [← HC.out.2.2.1]; simp [cond3, h_multi, h_beg, h_fin, h_seqn0]), HI⟩
          | false =>
            cases h_p61 : ((s.proto : Int) == 61) with
            | true =>
              cases h_mpn0 : (l.mp != 0) with
              | true =>
                go_wp2
                go_meet
                exact ⟨(by rw [← HC.out.2.2.1]; simp [cond3, h_multi, h_beg, h_fin, h_seqn0, h_p61, h_mpn0]), HI⟩
              | false =>
                go_wp2
                go_meet
                exact ⟨(by rw [← HC.out.2.2.1]; simp [cond3, h_multi, h_beg, h_fin, h_seqn0, h_p61, h_mpn0]), HI⟩
            | false =>
              go_wp2
              go_meet
              exact ⟨(by rw [← HC.out.2.2.1]; simp [cond3, h_multi, h_beg, h_fin, h_seqn0, h_p61]), HI⟩
  case rest =>
  obtain ⟨rfl, HI⟩ := hcut
  cases k3 with
  | true =>
    go_wp2
    go_ret
    exact ⟨by simp, HI.out.2.2⟩
  | false =>
  go_upto_region 9 with fail
  go_cut [76] from 77 to 92 (fun x wx => x = .bool k4 ∧ Hid (FI w B C l s a ca wx))
  case first =>
    obtain ⟨c0, c1, c2, c3, c4, c5, c6, c7⟩ := HI.out.2.1.eight
    obtain ⟨c40, c41, c42, c43⟩ := HI.out.2.1.four
    have x0 : wc.cell? ⟨B, 0, none⟩ = some (.bool l.acfc) := HI.out.1.cell 0
    have x1 : wc.cell? ⟨B, 1, none⟩ = some (.bool l.pfc) := HI.out.1.cell 1
    have x2 : wc.cell? ⟨B, 2, none⟩ = some (.int .i64 l.mp) := HI.out.1.cell 2
    clear c0 c1 c2 c3 c4 c5 c41 c42 c43 x0 x1 x2
    cases sd with
    | true =>
      go_wp2
      go_meet
      exact ⟨(by rw [← HC.out.2.2.2.1]; simp [cond4, HSD.out]), HI⟩
    | false =>
      cases h_pn0 : ((s.proto : Int) != 0) with
      | true =>
        go_wp2
        go_meet
        exact ⟨(by rw [← HC.out.2.2.2.1]; simp [cond4, h_pn0, HSD.out]), HI⟩
      | false =>
        cases h_nn0 : (s.next != 0) with
        | true =>
          go_wp2
          go_meet
          exact ⟨(by rw [← HC.out.2.2.2.1]; simp [cond4, h_pn0, h_nn0, HSD.out]), HI⟩
        | false =>
          cases h_ports : s.ports with
          | true =>
            rw [h_ports] at c40
            go_wp2
            go_meet
            exact ⟨(by rw [← HC.out.2.2.2.1]; simp [cond4, h_pn0, h_nn0, h_ports, HSD.out]), HI⟩
          | false =>
            rw [h_ports] at c40
            go_wp2
            go_meet
            exact ⟨(by rw [← HC.out.2.2.2.1]; simp [cond4, h_pn0, h_nn0, h_ports, HSD.out]), HI⟩
  case rest =>
  obtain ⟨rfl, HI⟩ := hcut
  cases k4 with
  | true =>
    go_wp2
    go_ret
    exact ⟨by simp, HI.out.2.2⟩
  | false =>
  go_upto_region 11 with fail
  go_cut [93] from 94 to 112 (fun x wx => x = .bool k5 ∧ Hid (FI w B C l s a ca wx))
  case first =>
    obtain ⟨c0, c1, c2, c3, c4, c5, c6, c7⟩ := HI.out.2.1.eight
    obtain ⟨c40, c41, c42, c43⟩ := HI.out.2.1.four
    have x0 : wc.cell? ⟨B, 0, none⟩ = some (.bool l.acfc) := HI.out.1.cell 0
    have x1 : wc.cell? ⟨B, 1, none⟩ = some (.bool l.pfc) := HI.out.1.cell 1
    have x2 : wc.cell? ⟨B, 2, none⟩ = some (.int .i64 l.mp) := HI.out.1.cell 2
    clear c0 c1 c2 c3 c4 c5 c7 c40 c41 c42 c43 x0 x1 x2
    cases sd with
    | true =>
      cases h_p64k : decide ((65535 : Int) < (s.proto : Int)) with
      | true =>
        go_wp2
        go_meet
        exact ⟨(by rw [← HC.out.2.2.2.2.1]; simp [cond5, h_p64k, HSD.out]), HI⟩
      | false =>
        cases h_peven : ((s.proto : Int) % 2 == 0) with
        | true =>
          go_wp2
          go_meet
          exact ⟨(by rw [← HC.out.2.2.2.2.1]; simp [cond5, h_p64k, h_peven, HSD.out]), HI⟩
        | false =>
          cases h_phodd : ((s.proto : Int) / 256 % 2 == 1) with
          | true =>
            go_wp2
            go_meet
            exact ⟨(by rw [← HC.out.2.2.2.2.1]; simp [cond5, h_p64k, h_peven, h_phodd, HSD.out]), HI⟩
          | false =>
            go_wp2
            go_meet
            exact ⟨(by rw [← HC.out.2.2.2.2.1]; simp [cond5, h_p64k, h_peven, h_phodd, HSD.out]), HI⟩
    | false =>
      go_wp2
      go_meet
      exact ⟨(by rw [← HC.out.2.2.2.2.1]; simp [cond5, HSD.out]), HI⟩
  case rest =>
  obtain ⟨rfl, HI⟩ := hcut
  cases k5 with
  | true =>
    go_wp2
    go_ret
    exact ⟨by simp, HI.out.2.2⟩
  | false =>
  go_upto_region 13 with fail
  go_cut [113] from 114 to 136 (fun x wx => x = .bool k6 ∧ Hid (FI w B C l s a ca wx))
  case first =>
    obtain ⟨c0, c1, c2, c3, c4, c5, c6, c7⟩ := HI.out.2.1.eight
    obtain ⟨c40, c41, c42, c43⟩ := HI.out.2.1.four
    have x0 : wc.cell? ⟨B, 0, none⟩ = some (.bool l.acfc) := HI.out.1.cell 0
    have x1 : wc.cell? ⟨B, 1, none⟩ = some (.bool l.pfc) := HI.out.1.cell 1
    have x2 : wc.cell? ⟨B, 2, none⟩ = some (.int .i64 l.mp) := HI.out.1.cell 2
    have R8 := HI.out.2.1.srcR
    have R24 := HI.out.2.1.dstR
    clear c0 c1 c2 c3 c4 c5 c6 c41 c42 c43 x0 x1 x2
    cases ip with
    | true =>
      go_wp2
      go_meet
      exact ⟨(by rw [← HC.out.2.2.2.2.2.1]; simp [cond6, HIP.out]), HI⟩
    | false =>
      cases h_nn0 : (s.next != 0) with
      | true =>
        go_wp2
        go_meet
        exact ⟨(by rw [← HC.out.2.2.2.2.2.1]; simp [cond6, h_nn0, HIP.out]), HI⟩
      | false =>
        cases zs0 with
        | true =>
          cases zd0 with
          | true =>
            cases h_ports : s.ports with
            | true =>
              rw [h_ports] at c40
              go_wp2_with (refine wpList_load_midg rfl 25 (.tmp 121) rfl C 8 rfl (s.src.map bv) _ R8 Try.underlying25 rfl HS1.out ?_)
              refine (HZ.out.1 _).mono ?_
              rintro e wz ⟨rfl, Kz⟩
              have HIz : Hid (FI w B C l s a ca wz) := HI.out.kept Kz
              have R24z := HIz.out.2.1.dstR
              obtain ⟨c40z, -, -, -⟩ := HIz.out.2.1.four
              rw [h_ports] at c40z
              go_wp2_with (refine wpList_load_midg rfl 25 (.tmp 127) rfl C 24 rfl (s.dst.map bv) _ R24z Try.underlying25 rfl HS2.out ?_)
              refine (HZ.out.2.1 _).mono ?_
              rintro e wy ⟨rfl, Ky⟩
              have HIy : Hid (FI w B C l s a ca wy) := HIz.out.kept Ky
              obtain ⟨c40y, -, -, -⟩ := HIy.out.2.1.four
              rw [h_ports] at c40y
              go_wp2
              go_meet
              exact ⟨(by rw [← HC.out.2.2.2.2.2.1]; simp [cond6, h_nn0, h_ports, HIP.out, HZE.out.1, HZE.out.2.1]), HIy⟩
            | false =>
              rw [h_ports] at c40
              go_wp2_with (refine wpList_load_midg rfl 25 (.tmp 121) rfl C 8 rfl (s.src.map bv) _ R8 Try.underlying25 rfl HS1.out ?_)
              refine (HZ.out.1 _).mono ?_
              rintro e wz ⟨rfl, Kz⟩
              have HIz : Hid (FI w B C l s a ca wz) := HI.out.kept Kz
              have R24z := HIz.out.2.1.dstR
              obtain ⟨c40z, -, -, -⟩ := HIz.out.2.1.four
              rw [h_ports] at c40z
              go_wp2_with (refine wpList_load_midg rfl 25 (.tmp 127) rfl C 24 rfl (s.dst.map bv) _ R24z Try.underlying25 rfl HS2.out ?_)
              refine (HZ.out.2.1 _).mono ?_
              rintro e wy ⟨rfl, Ky⟩
              have HIy : Hid (FI w B C l s a ca wy) := HIz.out.kept Ky
              obtain ⟨c40y, -, -, -⟩ := HIy.out.2.1.four
              rw [h_ports] at c40y
              go_wp2
              go_meet
              exact ⟨(by rw [← HC.out.2.2.2.2.2.1]; simp [cond6, h_nn0, h_ports, HIP.out, HZE.out.1, HZE.out.2.1]), HIy⟩
          | false =>
            go_wp2_with (refine wpList_load_midg rfl 25 (.tmp 121) rfl C 8 rfl (s.src.map bv) _ R8 Try.underlying25 rfl HS1.out ?_)
            refine (HZ.out.1 _).mono ?_
            rintro e wz ⟨rfl, Kz⟩
            have HIz : Hid (FI w B C l s a ca wz) := HI.out.kept Kz
            have R24z := HIz.out.2.1.dstR
            go_wp2_with (refine wpList_load_midg rfl 25 (.tmp 127) rfl C 24 rfl (s.dst.map bv) _ R24z Try.underlying25 rfl HS2.out ?_)
            refine (HZ.out.2.1 _).mono ?_
            rintro e wy ⟨rfl, Ky⟩
            have HIy : Hid (FI w B C l s a ca wy) := HIz.out.kept Ky
            go_wp2
            go_meet
            exact ⟨(by rw [← HC.out.2.2.2.2.2.1]; simp [cond6, h_nn0, HIP.out, HZE.out.1, HZE.out.2.1]), HIy⟩
        | false =>
          go_wp2_with (refine wpList_load_midg rfl 25 (.tmp 121) rfl C 8 rfl (s.src.map bv) _ R8 Try.underlying25 rfl HS1.out ?_)
          refine (HZ.out.1 _).mono ?_
          rintro e wz ⟨rfl, Kz⟩
          have HIz : Hid (FI w B C l s a ca wz) := HI.out.kept Kz
          go_wp2
          go_meet
          exact ⟨(by rw [← HC.out.2.2.2.2.2.1]; simp [cond6, h_nn0, HIP.out, HZE.out.1]), HIz⟩
  case rest =>
  obtain ⟨rfl, HI⟩ := hcut
  cases k6 with
  | true =>
    go_wp2
    go_ret
    exact ⟨by simp, HI.out.2.2⟩
  | false =>
  go_upto_region 15 with fail
  go_cut [137] from 138 to 145 (fun x wx => x = .bool k7 ∧ Hid (FI w B C l s a ca wx))
  case first =>
    obtain ⟨c0, c1, c2, c3, c4, c5, c6, c7⟩ := HI.out.2.1.eight
    obtain ⟨c40, c41, c42, c43⟩ := HI.out.2.1.four
    have x0 : wc.cell? ⟨B, 0, none⟩ = some (.bool l.acfc) := HI.out.1.cell 0
    have x1 : wc.cell? ⟨B, 1, none⟩ = some (.bool l.pfc) := HI.out.1.cell 1
    have x2 : wc.cell? ⟨B, 2, none⟩ = some (.int .i64 l.mp) := HI.out.1.cell 2
    clear c0 c1 c2 c3 c4 c5 c6 c40 c41 c42 c43 x0 x1 x2
    cases h_nlt0 : decide (s.next < 0) with
    | true =>
      go_wp2
      go_meet
      exact ⟨(by rw [← HC.out.2.2.2.2.2.2.1]; simp [cond7, h_nlt0]), HI⟩
    | false =>
      cases h_ngt : decide ((255 : Int) < s.next) with
      | true =>
        go_wp2
        go_meet
        exact ⟨(by rw [← HC.out.2.2.2.2.2.2.1]; simp [cond7, h_nlt0, h_ngt]), HI⟩
      | false =>
        go_wp2
        go_meet
        exact ⟨(by rw [← HC.out.2.2.2.2.2.2.1]; simp [cond7, h_nlt0, h_ngt]), HI⟩
  case rest =>
  obtain ⟨rfl, HI⟩ := hcut
  cases k7 with
  | true =>
    go_wp2
    go_ret
    exact ⟨by simp, HI.out.2.2⟩
  | false =>
  go_upto_region 17 with fail
  go_cut [146] from 147 to 164 (fun x wx => x = .bool k8 ∧ Hid (FI w B C l s a ca wx))
  case first =>
    obtain ⟨c0, c1, c2, c3, c4, c5, c6, c7⟩ := HI.out.2.1.eight
    obtain ⟨c40, c41, c42, c43⟩ := HI.out.2.1.four
    have x0 : wc.cell? ⟨B, 0, none⟩ = some (.bool l.acfc) := HI.out.1.cell 0
    have x1 : wc.cell? ⟨B, 1, none⟩ = some (.bool l.pfc) := HI.out.1.cell 1
    have x2 : wc.cell? ⟨B, 2, none⟩ = some (.int .i64 l.mp) := HI.out.1.cell 2
    have R8 := HI.out.2.1.srcR
    have R24 := HI.out.2.1.dstR
    clear c0 c1 c2 c3 c4 c5 c7 c40 c41 c42 c43 x0 x1 x2
    cases ip with
    | true =>
      cases h_p33 : ((s.proto : Int) == 33) with
      | true =>
        cases zs4 with
        | true =>
          cases zd4 with
          | true =>
            go_wp2_with (refine wpList_load_midg rfl 25 (.tmp 154) rfl C 8 rfl (s.src.map bv) _ R8 Try.underlying25 rfl HS1.out ?_)
            refine (HZ.out.2.2.1 _).mono ?_
            rintro e wz ⟨rfl, Kz⟩
            have HIz : Hid (FI w B C l s a ca wz) := HI.out.kept Kz
            have R24z := HIz.out.2.1.dstR
            go_wp2_with (refine wpList_load_midg rfl 25 (.tmp 159) rfl C 24 rfl (s.dst.map bv) _ R24z Try.underlying25 rfl HS2.out ?_)
            refine (HZ.out.2.2.2 _).mono ?_
            rintro e wy ⟨rfl, Ky⟩
            have HIy : Hid (FI w B C l s a ca wy) := HIz.out.kept Ky
            go_wp2
            go_meet
            exact ⟨(by rw [← HC.out.2.2.2.2.2.2.2.1]; simp [cond8, h_p33, HIP.out, HZE.out.2.2.1, HZE.out.2.2.2]), HIy⟩
          | false =>
            go_wp2_with (refine wpList_load_midg rfl 25 (.tmp 154) rfl C 8 rfl (s.src.map bv) _ R8 Try.underlying25 rfl HS1.out ?_)
            refine (HZ.out.2.2.1 _).mono ?_
            rintro e wz ⟨rfl, Kz⟩
            have HIz : Hid (FI w B C l s a ca wz) := HI.out.kept Kz
            have R24z := HIz.out.2.1.dstR
            go_wp2_with (refine wpList_load_midg rfl 25 (.tmp 159) rfl C 24 rfl (s.dst.map bv) _ R24z Try.underlying25 rfl HS2.out ?_)
            refine (HZ.out.2.2.2 _).mono ?_
            rintro e wy ⟨rfl, Ky⟩
            have HIy : Hid (FI w B C l s a ca wy) := HIz.out.kept Ky
            go_wp2
            go_meet
            exact ⟨(by rw [← HC.out.2.2.2.2.2.2.2.1]; simp [cond8, h_p33, HIP.out, HZE.out.2.2.1, HZE.out.2.2.2]), HIy⟩
        | false =>
          go_wp2_with (refine wpList_load_midg rfl 25 (.tmp 154) rfl C 8 rfl (s.src.map bv) _ R8 Try.underlying25 rfl HS1.out ?_)
          refine (HZ.out.2.2.1 _).mono ?_
          rintro e wz ⟨rfl, Kz⟩
          have HIz : Hid (FI w B C l s a ca wz) := HI.out.kept Kz
          go_wp2
          go_meet
          exact ⟨(by rw [← HC.out.2.2.2.2.2.2.2.1]; simp [cond8, h_p33, HIP.out, HZE.out.2.2.1]), HIz⟩
      | false =>
        go_wp2
        go_meet
        exact ⟨(by rw [← HC.out.2.2.2.2.2.2.2.1]; simp [cond8, h_p33, HIP.out]), HI⟩
    | false =>
      go_wp2
      go_meet
      exact ⟨(by rw [← HC.out.2.2.2.2.2.2.2.1]; simp [cond8, HIP.out]), HI⟩
  case rest =>
  obtain ⟨rfl, HI⟩ := hcut
  cases k8 with
  | true =>
    go_wp2
    go_ret
    exact ⟨by simp, HI.out.2.2⟩
  | false =>
  go_upto_region 19 with fail
  go_cut [165] from 166 to 178 (fun x wx => x = .bool k9 ∧ Hid (FI w B C l s a ca wx))
  case first =>
    obtain ⟨c0, c1, c2, c3, c4, c5, c6, c7⟩ := HI.out.2.1.eight
    obtain ⟨c40, c41, c42, c43⟩ := HI.out.2.1.four
    have x0 : wc.cell? ⟨B, 0, none⟩ = some (.bool l.acfc) := HI.out.1.cell 0
    have x1 : wc.cell? ⟨B, 1, none⟩ = some (.bool l.pfc) := HI.out.1.cell 1
    have x2 : wc.cell? ⟨B, 2, none⟩ = some (.int .i64 l.mp) := HI.out.1.cell 2
    clear c0 c1 c2 c3 c4 c5 c6 c7 c43 x0 x1 x2
    cases h_ports : s.ports with
    | true =>
      rw [h_ports] at c40
      go_wp2
      go_meet
      exact ⟨(by rw [← HC.out.2.2.2.2.2.2.2.2.1]; simp [cond9, h_ports]), HI⟩
    | false =>
      rw [h_ports] at c40
      cases h_fn0 : ((s.frm : Int) != 0) with
      | true =>
        go_wp2
        go_meet
        exact ⟨(by rw [← HC.out.2.2.2.2.2.2.2.2.1]; simp [cond9, h_ports, h_fn0]), HI⟩
      | false =>
        cases h_tn0 : ((s.til : Int) != 0) with
        | true =>
          go_wp2
          go_meet
          exact ⟨(by rw [← HC.out.2.2.2.2.2.2.2.2.1]; simp [cond9, h_ports, h_fn0, h_tn0]), HI⟩
        | false =>
          go_wp2
          go_meet
          exact ⟨(by rw [← HC.out.2.2.2.2.2.2.2.2.1]; simp [cond9, h_ports, h_fn0, h_tn0]), HI⟩
  case rest =>
  obtain ⟨rfl, HI⟩ := hcut
  cases k9 with
  | true =>
    go_wp2
    go_ret
    exact ⟨by simp, HI.out.2.2⟩
  | false =>
  go_upto_region 21 with fail
  go_cut [179] from 180 to 187 (fun x wx => x = .bool k10 ∧ Hid (FI w B C l s a ca wx))
  case first =>
    obtain ⟨c0, c1, c2, c3, c4, c5, c6, c7⟩ := HI.out.2.1.eight
    obtain ⟨c40, c41, c42, c43⟩ := HI.out.2.1.four
    have x0 : wc.cell? ⟨B, 0, none⟩ = some (.bool l.acfc) := HI.out.1.cell 0
    have x1 : wc.cell? ⟨B, 1, none⟩ = some (.bool l.pfc) := HI.out.1.cell 1
    have x2 : wc.cell? ⟨B, 2, none⟩ = some (.int .i64 l.mp) := HI.out.1.cell 2
    clear c0 c1 c2 c3 c4 c5 c6 c7 c40 c43 x0 x1 x2
    cases h_f64k : decide ((65535 : Int) < (s.frm : Int)) with
    | true =>
      go_wp2
      go_meet
      exact ⟨(by rw [← HC.out.2.2.2.2.2.2.2.2.2.1]; simp [cond10, h_f64k]), HI⟩
    | false =>
      cases h_t64k : decide ((65535 : Int) < (s.til : Int)) with
      | true =>
        go_wp2
        go_meet
        exact ⟨(by rw [← HC.out.2.2.2.2.2.2.2.2.2.1]; simp [cond10, h_f64k, h_t64k]), HI⟩
      | false =>
        go_wp2
        go_meet
        exact ⟨(by rw [← HC.out.2.2.2.2.2.2.2.2.2.1]; simp [cond10, h_f64k, h_t64k]), HI⟩
  case rest =>
  obtain ⟨rfl, HI⟩ := hcut
  cases k10 with
  | true =>
    go_wp2
    go_ret
    exact ⟨by simp, HI.out.2.2⟩
  | false =>
  go_upto_region 23 with fail
  go_cut [188] from 189 to 210 (fun x wx => x = .bool k11 ∧ Hid (FI w B C l s a ca wx))
  case first =>
    obtain ⟨c0, c1, c2, c3, c4, c5, c6, c7⟩ := HI.out.2.1.eight
    obtain ⟨c40, c41, c42, c43⟩ := HI.out.2.1.four
    have x0 : wc.cell? ⟨B, 0, none⟩ = some (.bool l.acfc) := HI.out.1.cell 0
    have x1 : wc.cell? ⟨B, 1, none⟩ = some (.bool l.pfc) := HI.out.1.cell 1
    have x2 : wc.cell? ⟨B, 2, none⟩ = some (.int .i64 l.mp) := HI.out.1.cell 2
    clear c3 c4 c5 c7 c40 c41 c42 c43 x0 x2
    cases h_multi : s.multi with
    | true =>
      rw [h_multi] at c2
      go_wp2
      go_meet
      exact ⟨(by rw [← HC.out.2.2.2.2.2.2.2.2.2.2]; simp [cond11, h_multi]), HI⟩
    | false =>
      rw [h_multi] at c2
      cases h_wide : s.wide with
      | true =>
        rw [h_wide] at c1
        go_wp2
        go_meet
        exact ⟨(by rw [← HC.out.2.2.2.2.2.2.2.2.2.2]; simp [cond11, h_multi, h_wide]), HI⟩
      | false =>
        rw [h_wide] at c1
        cases h_plain : s.plain with
        | true =>
          rw [h_plain] at c0
          go_wp2
          go_meet
          exact ⟨(by rw [← HC.out.2.2.2.2.2.2.2.2.2.2]; simp [cond11, h_multi, h_wide, h_plain]), HI⟩
        | false =>
          rw [h_plain] at c0
          cases h_pfc : l.pfc with
          | true =>
            rw [h_pfc] at x1
            cases h_p255 : ((s.proto : Int) == 255) with
            | true =>
              go_wp2
              go_meet
              exact ⟨(by rw [← HC.out.2.2.2.2.2.2.2.2.2.2]; simp [cond11, h_multi, h_wide, h_plain, h_pfc, h_p255]), HI⟩
            | false =>
              go_wp2
              go_meet
              exact ⟨(by rw [← HC.out.2.2.2.2.2.2.2.2.2.2]; simp [cond11, h_multi, h_wide, h_plain, h_pfc, h_p255]), HI⟩
          | false =>
            rw [h_pfc] at x1
            go_wp2
            go_meet
            exact ⟨(by rw [← HC.out.2.2.2.2.2.2.2.2.2.2]; simp [cond11, h_multi, h_wide, h_plain, h_pfc]), HI⟩
  case rest =>
  obtain ⟨rfl, HI⟩ := hcut
  cases k11 with
  | true =>
    go_wp2
    go_ret
    exact ⟨by simp, HI.out.2.2⟩
  | false =>
  go_wp2
  go_ret
  exact ⟨by simp, HI.out.2.2⟩


end Go.Proofs.Ytfjjmeanmlimoaa
