/-
  Package forge as landed: number, field, saysProtocol, address, inner, ports, behind.
-/
import Derived.Test.YtfjjmeanmlimoaaForgeP
namespace Go.Proofs.Ytfjjmeanmlimoaa
open Go.RowKit
set_option maxRecDepth 100000

set_option maxHeartbeats 400000 in
theorem number_any (S v : Nat) (s : Int) (hs : s = (S : Int)) (hS : S = 1 ∨ S = 2 ∨ S = 4) (hv : v ≤ 4294967295) (w : World) :
    Calls Try.prog 62 #[.int .i64 s, .int .u32 v] w fun e w' => ∃ u, e = .returned u ∧ Owns w' w.heap.size u (bytesV S v) ∧ w.grownBy w' none := by
  subst hs
  obtain ⟨i0, hi, hz0, hz1, hz2⟩ := info_parts info5
  go_enter Try.func62, Try.ntmps62
  go_wp2_with (at_make; refine wpList_make_full _ rfl (.tmp 8) (.tmp 8) 26 rfl w.heap.size 5 i0 (.int .u8 0) 1 Try.underlying26 hi hz0 hz1 .i64 .i64 (S : Int) (S : Int) S rfl rfl rfl rfl ?q1 ?q2 ?q3 ?q4)
  case q1 => rw [hz2]; omega
  case q2 => unfold maxLen; omega
  case q3 => exact Nat.le_refl _
  case q4 =>
    intro w1 h1 h2
    have O : Owns w1 w.heap.size (.slice (some ⟨w.heap.size, 0, none⟩) S S) (List.replicate S 0) := by
      rw [toList_madeCells_one] at h1
      unfold Owns
      simpa [bv] using h1
    obtain ⟨ao, cap, hv1, C, h0, -⟩ := O.rd
    rw [List.length_replicate] at hv1
    simp only [Value.slice.injEq] at hv1
    obtain ⟨rfl, -, rfl⟩ := hv1
    have hp := put_any (some ⟨w.heap.size, 0, none⟩) S (List.replicate S 0) 0 S v w1 C (by simp) (by simp; omega) hv
    rw [(bytesV_put S v hS).1, (bytesV_put S v hS).2, List.length_replicate] at hp
    have HP := hp
    clear h1 O C h0 hp
    go_wp2_with fail
    refine HP.mono ?_
    rintro e w2 ⟨u, rfl, O2, K2⟩
    have G2 := grown_trans h2 K2
    have O3 : Owns w2 w.heap.size u (bytesV S v) := owns_mono O2 h2.size
    clear O2 K2
    go_wp2
    go_ret
    exact ⟨u, rfl, O3, G2⟩

theorem be1_eq (v : Nat) : bytesV 1 v = [UInt8.ofNat v] := by
  show [UInt8.ofNat (shr8 v 0)] = _
  simp [shr8]

theorem number1 (v : Nat) (hv : v ≤ 4294967295) (w : World) : Calls Try.prog 62 #[.int .i64 1, .int .u32 v] w fun e w' => ∃ u, e = .returned u ∧ Owns w' w.heap.size u [UInt8.ofNat v] ∧ w.grownBy w' none := by
  have k := number_any 1 v 1 rfl (.inl rfl) hv w
  rw [be1_eq] at k
  exact k
theorem number2 (v : Nat) (hv : v ≤ 4294967295) (w : World) : Calls Try.prog 62 #[.int .i64 2, .int .u32 v] w fun e w' => ∃ u, e = .returned u ∧ Owns w' w.heap.size u (be2 v) ∧ w.grownBy w' none := by
  have k := number_any 2 v 2 rfl (.inr (.inl rfl)) hv w
  rw [be2_eq] at k
  exact k
theorem number4 (v : Nat) (hv : v ≤ 4294967295) (w : World) : Calls Try.prog 62 #[.int .i64 4, .int .u32 v] w fun e w' => ∃ u, e = .returned u ∧ Owns w' w.heap.size u (be4 v) ∧ w.grownBy w' none := by
  have k := number_any 4 v 4 rfl (.inr (.inr rfl)) hv w
  rw [be4_eq] at k
  exact k

set_option maxRecDepth 100000 in
set_option maxHeartbeats 1000000 in
theorem lfield_any (l : Lk) (s : Sp) (a : Option Addr) (ca : Nat) (p : Nat) (w : World) (ok : s.ok) (hp : p ≤ 4294967295) : Calls Try.prog 60 #[.agg (lkA l), .agg (spA s a ca), .int .u32 (p : Int)] w fun e w' => ∃ v, e = .returned v ∧ Owns w' w.heap.size v (fieldV l s.plain p) ∧ w.grownBy w' none := by
  have I := ls_boxes w l s a ca
  have x1 : ((w.alloc (.cells (lkA l) 23)).alloc (.cells (spA s a ca) 28)).cell? ⟨w.heap.size, 1, none⟩ = some (.bool l.pfc) := I.1.cell 1
  have x2 : ((w.alloc (.cells (lkA l) 23)).alloc (.cells (spA s a ca) 28)).cell? ⟨w.heap.size + 1, 0, none⟩ = some (.bool s.plain) := (show SAt _ _ s a ca from ⟨I.2.1, ok⟩).eight.1
  have G0 := I.2.2
  have hB : Hid (w.heap.size ≤ ((w.alloc (.cells (lkA l) 23)).alloc (.cells (spA s a ca) 28)).heap.size) := G0.size
  clear I
  by_cases h : l.pfc = true ∧ s.plain = false ∧ p < 256
  · obtain ⟨h1, h2, h3⟩ := h
    have e : fieldV l s.plain p = [UInt8.ofNat p] := by rw [fieldV, if_pos ⟨h1, h2, h3⟩]
    rw [e]
    rw [h1] at x1
    rw [h2] at x2
    have h3' : decide ((p : Int) < 256) = true := decide_eq_true (by omega)
    clear e
    go_enter Try.func60, Try.ntmps60
    go_wp2_with fail
    refine (number1 p hp _).mono ?_
    rintro e w2 ⟨u, rfl, O2, K2⟩
    go_wp2
    go_ret
    exact ⟨_, rfl, owns_mono O2 hB.out, grown_trans G0 K2⟩
  · have e : fieldV l s.plain p = be2 p := by rw [fieldV, if_neg h]
    rw [e]
    have hd : l.pfc = false ∨ (l.pfc = true ∧ s.plain = true) ∨ (l.pfc = true ∧ s.plain = false ∧ decide ((p : Int) < 256) = false) := by
      cases h1 : l.pfc with
      | false => exact .inl rfl
      | true =>
        cases h2 : s.plain with
        | true => exact .inr (.inl ⟨rfl, rfl⟩)
        | false => exact .inr (.inr ⟨rfl, rfl, decide_eq_false (fun hh => h ⟨h1, h2, by omega⟩)⟩)
    clear h e
    rcases hd with h1 | ⟨h1, h2⟩ | ⟨h1, h2, h3⟩
    all_goals
      rw [h1] at x1
      try rw [h2] at x2
      go_enter Try.func60, Try.ntmps60
      go_wp2_with fail
      refine (number2 p hp _).mono ?_
      rintro e w2 ⟨u, rfl, O2, K2⟩
      go_wp2
      go_ret
      exact ⟨_, rfl, owns_mono O2 hB.out, grown_trans G0 K2⟩

set_option maxRecDepth 100000 in
theorem fsays_any (s : Sp) (a : Option Addr) (ca : Nat) (w : World) (ok : s.ok) : Calls Try.prog 44 #[.agg (spA s a ca)] w fun e w' => e = .returned (.bool (saidB s)) ∧ w.grownBy w' none := by
  have S0 : SAt (w.alloc (.cells (spA s a ca) 28)) w.heap.size s a ca := ⟨VAt.alloc w _ _, ok⟩
  have G0 : w.grownBy (w.alloc (.cells (spA s a ca) 28)) none := World.grownBy_alloc _ _ _
  have c2 := S0.eight.2.2.1
  have c3 := S0.eight.2.2.2.1
  clear S0
  cases hm : s.multi with
  | false =>
    rw [hm] at c2
    go_enter Try.func44, Try.ntmps44
    go_wp2
    go_ret
    exact ⟨ret_bool (by simp [saidB, hm]), G0⟩
  | true =>
    rw [hm] at c2
    go_enter Try.func44, Try.ntmps44
    go_wp2
    go_ret
    exact ⟨ret_bool (by simp [saidB, hm]), G0⟩

set_option maxRecDepth 100000 in
theorem faddress_any (s : Sp) (a : Option Addr) (ca : Nat) (w : World) (ok : s.ok) : Calls Try.prog 27 #[.agg (spA s a ca)] w fun e w' => ∃ v, e = .returned v ∧ Owns w' w.heap.size v (wideV s) ∧ w.grownBy w' none := by
  have S0 : SAt (w.alloc (.cells (spA s a ca) 28)) w.heap.size s a ca := ⟨VAt.alloc w _ _, ok⟩
  have G0 : w.grownBy (w.alloc (.cells (spA s a ca) 28)) none := World.grownBy_alloc _ _ _
  have hB : Hid (w.heap.size ≤ (w.alloc (.cells (spA s a ca) 28)).heap.size) := G0.size
  have c1 := S0.eight.2.1
  clear S0
  cases hw : s.wide with
  | false =>
    rw [hw] at c1
    have e : wideV s = [] := by rw [wideV, if_neg (by rw [hw]; simp)]
    rw [e]
    go_enter Try.func27, Try.ntmps27
    go_wp2
    go_ret
    exact ⟨_, rfl, World.ownsRow_nil _ _ _ _, G0⟩
  | true =>
    rw [hw] at c1
    have e : wideV s = be2 65283 := by rw [wideV, if_pos hw]; rfl
    rw [e]
    go_enter Try.func27, Try.ntmps27
    go_wp2_with fail
    refine (number2 65283 (by omega) _).mono ?_
    rintro e w2 ⟨u, rfl, O2, K2⟩
    go_wp2
    go_ret
    exact ⟨_, rfl, owns_mono O2 hB.out, grown_trans G0 K2⟩

set_option maxRecDepth 100000 in
theorem finner_any (l : Lk) (s : Sp) (a : Option Addr) (ca : Nat) (w : World) (ok : s.ok) : Calls Try.prog 29 #[.agg (lkA l), .agg (spA s a ca)] w fun e w' => ∃ v, e = .returned v ∧ Owns w' w.heap.size v (ownV l s) ∧ w.grownBy w' none := by
  have I := ls_boxes w l s a ca
  have HLS : Hid ((Try.prog.info? 23).map (·.size) = some (lkA l).size) := size23
  have HSS : Hid ((Try.prog.info? 28).map (·.size) = some (spA s a ca).size) := spA_size ok a ca
  have HOK : Hid s.ok := ok
  have hpr := ok.proto
  obtain ⟨R, hR⟩ : ∃ R, ownV l s = R := ⟨_, rfl⟩
  rw [hR]
  have HR : Hid (ownV l s = R) := hR
  clear ok hR
  go_enter Try.func29, Try.ntmps29
  go_upto_region 1 with fail
  have HZ : Hid (w.heap.size ≤ w.heap.size) := Nat.le_refl _
  generalize (w.alloc (.cells (lkA l) 23)).alloc (.cells (spA s a ca) 28) = w1 at *
  obtain ⟨B, hB⟩ : ∃ B, w.heap.size = B := ⟨_, rfl⟩
  obtain ⟨C, hC⟩ : ∃ C, w.heap.size + 1 = C := ⟨_, rfl⟩
  rw [hC, hB] at I ⊢
  clear hB hC HZ
  have SK := I.2.1
  go_wp2_with (refine wpList_load_row rfl 28 (.tmp 3) rfl C rfl 28 (spA s a ca) (0, 0) _ SK Try.underlying28 rfl HSS.out ?_)
  refine (fsays_any s a ca _ HOK.out).mono ?_
  rintro e w2 ⟨rfl, K2⟩
  have I2 := ls_call K2 I
  clear I SK K2
  cases hs : saidB s with
  | false =>
    have e : R = [] := by rw [← HR.out, ownV, if_neg (by rw [hs]; simp)]
    go_wp2
    go_ret
    rw [e]
    exact ⟨_, rfl, World.ownsRow_nil _ _ _ _, I2.2.2⟩
  | true =>
    have HE : Hid (R = fieldV l s.plain s.proto) := by show R = _; rw [← HR.out, ownV, if_pos hs]
    have LK := I2.1
    have SK := I2.2.1
    have c6 := (show SAt w2 C s a ca from ⟨SK, HOK.out⟩).eight.2.2.2.2.2.2.1
    go_wp2_with (first | (refine wpList_load_row rfl 23 (.tmp 2) rfl B rfl 23 (lkA l) (0, 0) _ LK Try.underlying23 rfl HLS.out ?_) | (refine wpList_load_row rfl 28 (.tmp 3) rfl C rfl 28 (spA s a ca) (0, 0) _ SK Try.underlying28 rfl HSS.out ?_))
    refine (lfield_any l s a ca s.proto _ HOK.out hpr).mono ?_
    rintro e w3 ⟨v, rfl, O3, K3⟩
    go_wp2
    go_ret
    rw [HE.out]
    exact ⟨_, rfl, owns_mono O3 I2.2.2.size, grown_trans I2.2.2 K3⟩

end Go.Proofs.Ytfjjmeanmlimoaa
