/-
  The landed reader: Protocol, Inner.
-/
import Derived.Test.YtblpmgkagbiogaaGreatLotP35
namespace Go.Proofs.YtblpmgkagbiogaaGreat
open Go.RowKit
set_option maxRecDepth 100000

theorem odd_no {x : Nat} (h : x % 2 = 1) : ((x : Int) % 2 != 0) = true := by rw [bne_iff_ne]; omega
theorem odd_ev {x : Nat} (h : ¬ x % 2 = 1) : ((x : Int) % 2 != 0) = false := by rw [bne_eq_false_iff_eq]; omega

set_option maxHeartbeats 2000000 in
theorem protocol_any (g : Nat) (v : Vw) (l : Lk) (a : Option Addr) (ca : Nat) (b : List UInt8) (w : World) (h : WAt w g v l (.slice a b.length ca)) (ha : FrA w g a b) (hn : b.length ≤ 140737488355328) (hv : v.pos ≤ b.length) :
    Calls Tryz.prog 62 #[.pointer (some ⟨g, 0, none⟩)] w fun e w' => StepP w g l (.slice a b.length ca) (protoS l b v) e w' := by
  have hS : protoS l b v = (if b.length ≤ v.pos then .error 72
    else if bg b v.pos % 2 = 1 then (if l.pfc = true then .ok (bg b v.pos, v.pos + 1) else .error 74)
    else if b.length ≤ v.pos + 1 then .error 72
    else if bg b (v.pos + 1) % 2 = 0 then .error 74 else .ok (256 * bg b v.pos + bg b (v.pos + 1), v.pos + 2) : Except Int (Nat × Nat)).bind fun q => .ok { v with proto := q.1, pos := q.2 } := rfl
  rw [hS]
  clear hS
  by_cases h1 : b.length ≤ v.pos
  · rw [if_pos h1]
    have CT := take_no g v l a ca b 1 w h ha.1 hn hv (by omega)
    clear h ha h1
    go_enter Tryz.func62, Tryz.ntmps62
    go_wp2_with fail
    refine CT.mono ?_
    rintro e w1 ⟨rfl, n, rfl⟩
    clear CT
    go_wp2
    exact ⟨rfl, grown_drewN _ _ _, rfl⟩
  · rw [if_neg h1]
    have CT := take_ok' g v l a ca b 1 w h ha hn (.inl rfl) (by omega)
    rw [numAt_one] at CT
    have HA : Hid (FrA w g a b) := ha
    have hx := bg_lt b v.pos
    clear h ha
    by_cases hod : bg b v.pos % 2 = 1
    · rw [if_pos hod]
      have d0 := odd_no hod
      generalize bg b v.pos = x at *
      clear hod h1
      cases hpf : l.pfc with
      | true =>
        rw [if_pos rfl]
        go_enter Tryz.func62, Tryz.ntmps62
        go_wp2_with fail
        refine CT.mono ?_
        rintro e w1 ⟨rfl, W1, K⟩
        clear CT
        have f0 := VAt.free W1 0
        have c0 : w1.cell? ⟨g, 0, none⟩ = some (.int .u32 (v.proto : Int)) := W1.c 0
        have c10 : w1.cell? ⟨g, 10, none⟩ = some (.bool true) := by rw [← hpf]; exact W1.c 10
        have HE : Hid (StepP w g l (.slice a b.length ca) (.ok { v with proto := x, pos := v.pos + 1 }) (.returned (.tuple #[])) (w1.setCell ⟨g, 0, none⟩ (.int .u32 (x : Int)))) := ⟨grown_setCell K _ _ (.inl rfl), rfl, W1.setProto x⟩
        clear W1 K
        go_wp2
        go_end0
        exact HE.out
      | false =>
        rw [if_neg (by simp)]
        go_enter Tryz.func62, Tryz.ntmps62
        go_wp2_with fail
        refine CT.mono ?_
        rintro e w1 ⟨rfl, W1, K⟩
        clear CT
        have f0 := VAt.free W1 0
        have c0 : w1.cell? ⟨g, 0, none⟩ = some (.int .u32 (v.proto : Int)) := W1.c 0
        have c10 : w1.cell? ⟨g, 10, none⟩ = some (.bool false) := by rw [← hpf]; exact W1.c 10
        have HE : Hid (StepP w g l (.slice a b.length ca) (.error 74) (.panicked (PanE 74)) (w1.setCell ⟨g, 0, none⟩ (.int .u32 (x : Int)))) := ⟨grown_setCell K _ _ (.inl rfl), rfl⟩
        clear W1 K
        go_wp2
        exact ⟨rfl, HE.out⟩
    · rw [if_neg hod]
      have d0 := odd_ev hod
      by_cases h2 : b.length ≤ v.pos + 1
      · rw [if_pos h2]
        generalize bg b v.pos = x at *
        clear hod
        go_enter Tryz.func62, Tryz.ntmps62
        go_wp2_with fail
        refine CT.mono ?_
        rintro e w1 ⟨rfl, W1, K⟩
        clear CT
        have f0 := VAt.free W1 0
        have W2 := W1.setProto x
        have K2 : w.grownBy (w1.setCell ⟨g, 0, none⟩ (.int .u32 (x : Int))) (some g) := grown_setCell K _ _ (.inl rfl)
        have c0 : w1.cell? ⟨g, 0, none⟩ = some (.int .u32 (v.proto : Int)) := W1.c 0
        clear W1 K
        go_upto_region 4 with fail
        generalize w1.setCell ⟨g, 0, none⟩ (.int .u32 (x : Int)) = w2 at *
        have e0 : w2.cell? ⟨g, 0, none⟩ = some (.int .u32 (x : Int)) := W2.c 0
        have HT : Hid (∀ W, w2.grownBy W none → Calls Tryz.prog 104 #[.pointer (some ⟨g, 0, none⟩), .int .i64 1] W fun e w' => e = .panicked (PanE 72) ∧ w.grownBy w' (some g)) := fun W G => by
          refine (take_no g _ l a ca b 1 W (W2.kept G) ((HA.out.kept K2).1.keptNone G) hn (by simp only; omega) (by simp only; omega)).mono ?_
          rintro e w' ⟨rfl, m, rfl⟩
          exact ⟨rfl, grown_trans K2 (grown_trans (grown_mono G) (grown_drewN _ _ (some g)))⟩
        clear c0 f0 W2
        have S0 : w2.cell? ⟨g, 0, none⟩ = some (.int .u32 (x : Int)) ∧ w2.grownBy w2 none := ⟨e0, World.grownBy.refl _ _⟩
        clear e0
        refine wp_region_held_drew (S := fun W => W.cell? ⟨g, 0, none⟩ = some (.int .u32 (x : Int)) ∧ w2.grownBy W none) (by kernel_rfl) ⟨(grown_drewN w2 1 none).cell S0.1 (by simp), grown_drewN w2 1 none⟩ (fun hHeld => ?_)
        refine wpAnyH_take (i := 0) (v := .pointer (some ⟨g, 0, none⟩)) rfl (by kernel_rfl) (by kernel_rfl) (by kernel_rfl) (fun _ _ _ h => h) (Or.inl ⟨by rfl, fun W hW => ?_⟩) hHeld ?_
        · clear hW
          go_simp
        try simp only [Act.put, List.getElem_toArray, List.getElem_cons_zero, List.setIfInBounds_toArray, List.set_cons_zero, List.set_cons_succ]
        refine wpAnyH_take (i := 1) (v := .pointer (some ⟨g, 0, none⟩)) rfl (by kernel_rfl) (by kernel_rfl) (by kernel_rfl) (fun _ _ _ h => h) (Or.inl ⟨by rfl, fun W hW => ?_⟩) hHeld ?_
        · clear hW
          go_simp
        try simp only [Act.put, List.getElem_toArray, List.getElem_cons_zero, List.getElem_cons_succ, List.setIfInBounds_toArray, List.set_cons_zero, List.set_cons_succ]
        refine wpAnyH_take (i := 2) (v := .pointer (some ⟨g, 0, none⟩)) rfl (by kernel_rfl) (by kernel_rfl) (by kernel_rfl) (fun _ _ _ h => h) (Or.inl ⟨by rfl, fun W hW => ?_⟩) hHeld ?_
        · clear hW
          go_simp
        try simp only [Act.put, List.getElem_toArray, List.getElem_cons_zero, List.getElem_cons_succ, List.setIfInBounds_toArray, List.set_cons_zero, List.set_cons_succ]
        refine wpAnyH_take (i := 3) (v := .pointer (some ⟨g, 0, none⟩)) rfl (by kernel_rfl) (by kernel_rfl) (by kernel_rfl) (fun _ _ _ h => h) (Or.inl ⟨by rfl, fun W hW => ?_⟩) hHeld ?_
        · clear hW
          go_simp
        try simp only [Act.put, List.getElem_toArray, List.getElem_cons_zero, List.getElem_cons_succ, List.setIfInBounds_toArray, List.set_cons_zero, List.set_cons_succ]
        refine wpAnyH_take (i := 4) (v := .pointer (some ⟨g, 0, none⟩)) rfl (by kernel_rfl) (by kernel_rfl) (by kernel_rfl) (fun _ _ _ h => h) (Or.inl ⟨by rfl, fun W hW => ?_⟩) hHeld ?_
        · clear hW
          go_simp
        try simp only [Act.put, List.getElem_toArray, List.getElem_cons_zero, List.getElem_cons_succ, List.setIfInBounds_toArray, List.set_cons_zero, List.set_cons_succ]
        refine wpAnyH_take (i := 5) (v := .int .u32 (x : Int)) rfl (by kernel_rfl) (by kernel_rfl) (by kernel_rfl) (fun _ _ _ h => h) (Or.inl ⟨by rfl, fun W hW => ?_⟩) hHeld ?_
        · have hw0 := hW.1
          clear hW
          go_simp
        try simp only [Act.put, List.getElem_toArray, List.getElem_cons_zero, List.getElem_cons_succ, List.setIfInBounds_toArray, List.set_cons_zero, List.set_cons_succ]
        refine wpAnyH_take (i := 6) (v := .int .u32 (IntKind.u32.wrap ((x : Int) * 256))) rfl (by kernel_rfl) (by kernel_rfl) (by kernel_rfl) (fun _ _ _ h => h) (Or.inl ⟨by rfl, fun W hW => ?_⟩) hHeld ?_
        · clear hW
          go_simp
        try simp only [Act.put, List.getElem_toArray, List.getElem_cons_zero, List.getElem_cons_succ, List.setIfInBounds_toArray, List.set_cons_zero, List.set_cons_succ]
        refine wpAnyH_take (i := 7) (v := .pointer (some ⟨g, 0, none⟩)) rfl (by kernel_rfl) (by kernel_rfl) (by kernel_rfl) (fun _ _ _ h => h) (Or.inl ⟨by rfl, fun W hW => ?_⟩) hHeld ?_
        · clear hW
          go_simp
        try simp only [Act.put, List.getElem_toArray, List.getElem_cons_zero, List.getElem_cons_succ, List.setIfInBounds_toArray, List.set_cons_zero, List.set_cons_succ]
        refine wpAnyH_ready (rs := [8]) (by kernel_rfl) (by simp) (AllReadyH.cons rfl (fun K hK => ?_) AllReadyH.nil)
        go_simp
        refine (HT.out _ hHeld.2).mono ?_
        rintro e wz ⟨rfl, KZ⟩
        exact ⟨rfl, KZ, rfl⟩
      · rw [if_neg h2]
        have hy := bg_lt b (v.pos + 1)
        have HO : Hid (bits BinOp.or IntKind.u32 (IntKind.u32.wrap ((bg b v.pos : Int) * 256)) (bg b (v.pos + 1) : Int) = ((256 * bg b v.pos + bg b (v.pos + 1) : Nat) : Int)) := by
          show _ = _
          have h := or_step (bg b v.pos) (bg b (v.pos + 1)) (Nat.lt_trans hx (by decide)) hy
          rw [IntKind.wrap_u32]
          rw [show ((bg b (v.pos + 1) : Int) % 4294967296) = (bg b (v.pos + 1) : Int) by omega] at h
          rw [h]
          omega
        have HN : Hid (numAt b (v.pos + 1) 1 = bg b (v.pos + 1)) := numAt_one _ _
        have HL : Hid (v.pos + 1 + 1 ≤ b.length) := Nat.lt_of_not_le h2
        obtain ⟨X, hX⟩ : ∃ X, ((if bg b (v.pos + 1) % 2 = 0 then .error 74 else .ok (256 * bg b v.pos + bg b (v.pos + 1), v.pos + 2) : Except Int (Nat × Nat)).bind fun q => Except.ok ({ v with proto := q.1, pos := q.2 } : Vw)) = X := ⟨_, rfl⟩
        rw [hX]
        have HX : Hid (((if bg b (v.pos + 1) % 2 = 0 then .error 74 else .ok (256 * bg b v.pos + bg b (v.pos + 1), v.pos + 2) : Except Int (Nat × Nat)).bind fun q => Except.ok ({ v with proto := q.1, pos := q.2 } : Vw)) = X) := hX
        clear hX
        generalize bg b v.pos = x at *
        generalize bg b (v.pos + 1) = y at *
        clear hod h1 h2
        go_enter Tryz.func62, Tryz.ntmps62
        go_wp2_with fail
        refine CT.mono ?_
        rintro e w1 ⟨rfl, W1, K⟩
        clear CT
        have f0 := VAt.free W1 0
        have W2 := W1.setProto x
        have K2 : w.grownBy (w1.setCell ⟨g, 0, none⟩ (.int .u32 (x : Int))) (some g) := grown_setCell K _ _ (.inl rfl)
        have c0 : w1.cell? ⟨g, 0, none⟩ = some (.int .u32 (v.proto : Int)) := W1.c 0
        clear W1 K
        go_upto_region 4 with fail
        generalize w1.setCell ⟨g, 0, none⟩ (.int .u32 (x : Int)) = w2 at *
        have e0 : w2.cell? ⟨g, 0, none⟩ = some (.int .u32 (x : Int)) := W2.c 0
        have HT : Hid (∀ n, Calls Tryz.prog 104 #[.pointer (some ⟨g, 0, none⟩), .int .i64 1] (w2.drewN n) fun e w' => e = .returned (.int .u32 (y : Int)) ∧ WAt w' g { v with proto := x, pos := v.pos + 1 + 1 } l (.slice a b.length ca) ∧ w.grownBy w' (some g)) := fun n => by
          have T2 := take_ok' g { v with proto := x, pos := v.pos + 1 } l a ca b 1 (w2.drewN n) (W2.kept (grown_drewN _ _ none)) ((HA.out.kept K2).kept (grown_drewN _ _ (some g))) hn (.inl rfl) HL.out
          rw [show ({ v with proto := x, pos := v.pos + 1 } : Vw).pos = v.pos + 1 from rfl, HN.out] at T2
          refine T2.mono ?_
          rintro e w' ⟨rfl, W3, K3⟩
          exact ⟨rfl, W3, grown_trans K2 (grown_trans (grown_drewN _ _ (some g)) K3)⟩
        clear c0 f0 W2
        go_region_with (go_at_call 104; refine (HT.out _).mono ?_; rintro e w3 ⟨rfl, W3, K3⟩; have z0 : w3.cell? ⟨g, 0, none⟩ = some (.int .u32 (x : Int)) := W3.c 0; have f3 := VAt.free W3 0)
        all_goals
          rw [HO.out]
          have W4 := W3.setProto (256 * x + y)
          have K4 : w.grownBy (w3.setCell ⟨g, 0, none⟩ (.int .u32 ((256 * x + y : Nat) : Int))) (some g) := grown_setCell K3 _ _ (.inl rfl)
          have HR : Hid ((256 * x + y) % 2 = y % 2) := by show _ = _; omega
          have hr : 256 * x + y < 65536 := by omega
          generalize 256 * x + y = r at *
          generalize w3.setCell ⟨g, 0, none⟩ (.int .u32 (r : Int)) = w4 at *
          have q0 : w4.cell? ⟨g, 0, none⟩ = some (.int .u32 (r : Int)) := W4.c 0
          clear HT W3 K3 z0 f3 e0 HN HL K2 HA HO
          by_cases hev : y % 2 = 0
          · have HY := HX.out
            rw [if_pos hev] at HY
            subst HY
            have d1 : ((r : Int) % 2 == 0) = true := by have := HR.out; rw [beq_iff_eq]; omega
            clear hev HR HX
            go_wp2
            exact ⟨rfl, K4, rfl⟩
          · have HY := HX.out
            rw [if_neg hev] at HY
            subst HY
            have d1 : ((r : Int) % 2 == 0) = false := by have := HR.out; rw [beq_eq_false_iff_ne]; omega
            clear hev HR HX
            go_wp2
            go_end0
            exact ⟨K4, rfl, W4⟩

set_option maxHeartbeats 1000000 in
theorem inner_any (g : Nat) (v : Vw) (l : Lk) (a : Option Addr) (ca : Nat) (b : List UInt8) (w : World) (h : WAt w g v l (.slice a b.length ca)) (ha : FrA w g a b) (hn : b.length ≤ 140737488355328) (hv : v.pos ≤ b.length) :
    Calls Tryz.prog 64 #[.pointer (some ⟨g, 0, none⟩)] w fun e w' => StepP w g l (.slice a b.length ca) (if v.beg = true then protoS l b v else .ok v) e w' := by
  have c2 : w.cell? ⟨g, 2, none⟩ = some (.bool v.beg) := h.c 2
  have HW : Hid (WAt w g v l (.slice a b.length ca)) := h
  have CP := protocol_any g v l a ca b w h ha hn hv
  clear h ha
  cases hb : v.beg with
  | false =>
    rw [hb] at c2
    rw [if_neg (by simp)]
    go_enter Tryz.func64, Tryz.ntmps64
    go_wp2
    go_end0
    exact ⟨World.grownBy.refl _ _, rfl, HW.out⟩
  | true =>
    rw [hb] at c2
    rw [if_pos rfl]
    obtain ⟨x, hx⟩ : ∃ x, protoS l b v = x := ⟨_, rfl⟩
    rw [hx] at CP ⊢
    clear hx
    cases x with
    | ok u =>
      go_enter Tryz.func64, Tryz.ntmps64
      go_wp2_with fail
      refine CP.mono ?_
      rintro e w1 ⟨K, rfl, W1⟩
      clear CP
      go_wp2
      go_end0
      exact ⟨K, rfl, W1⟩
    | error er =>
      go_enter Tryz.func64, Tryz.ntmps64
      go_wp2_with fail
      refine CP.mono ?_
      rintro e w1 ⟨K, rfl⟩
      clear CP
      go_wp2
      exact ⟨rfl, K, rfl⟩

end Go.Proofs.YtblpmgkagbiogaaGreat
