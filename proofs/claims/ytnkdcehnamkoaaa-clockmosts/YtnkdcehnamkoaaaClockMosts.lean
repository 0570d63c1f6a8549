/-
  The limit of all ticks, with touches at each tick; both limits alike; no limits.
-/
import Derived.Test.YtnkdcehnamkoaaaClW
import Derived.Test.YtnkdcehnamkoaaaOpen
import Derived.Deep.DeepCutAuto
namespace Go.Proofs.Ytnkdcehnamkoaaa
open Go.ChangeShapes Go.WideShapes Go.ChangeAt Go.RowKit
set_option maxRecDepth 100000
namespace clockMosts

/-- Three clocks. -/
structure Tri (W w : World) (ga gb gc : Nat) (a b c : Ck) : Prop where
  a : Cw W w ga a
  b : Cw W w gb b
  c : Cw W w gc c
  ab : ga ≠ gb
  ac : ga ≠ gc
  bc : gb ≠ gc
theorem Tri.rot {W w : World} {ga gb gc : Nat} {a b c : Ck} (h : Tri W w ga gb gc a b c) : Tri W w gb gc ga b c a := ⟨h.b, h.c, h.a, h.bc, Ne.symm h.ab, Ne.symm h.ac⟩
theorem Tri.kept {W w w' : World} {ga gb gc : Nat} {a b c : Ck} (h : Tri W w ga gb gc a b c) (K : w.grownBy w' none) : Tri W w' ga gb gc a b c := ⟨h.a.kept K, h.b.kept K, h.c.kept K, h.ab, h.ac, h.bc⟩
theorem Tri.did {W w w' : World} {ga gb gc : Nat} {a b c d : Ck} {v : Value} {e : Ending} (h : Tri W w ga gb gc a b c) (D : LDid 44 ga w d v e w') (ok : d.ok) : e = .returned v ∧ Tri W w' ga gb gc d b c := by
  have lo := h.a.lo
  refine ⟨D.1, (h.a.did D ok).2, h.b.gw D.2.2 (fun e => h.ab e.symm) (fun x hx => ?_), h.c.gw D.2.2 (fun e => h.ac e.symm) (fun x hx => ?_), h.ab, h.ac, h.bc⟩
  · rw [hx]; exact lo
  · rw [hx]; exact lo
theorem Tri.start {W w : World} {ga gb gc : Nat} {a b c d : Ck} (h : Tri W w ga gb gc a b c) (hd : a.start = d) : Calls Try.prog 10 #[.pointer (some ⟨ga, 0, none⟩)] w fun e w' => e = .returned (.tuple #[]) ∧ Tri W w' ga gb gc d b c := by
  subst hd
  exact (cstart_any w ga a h.a.at').mono fun e w' D => h.did D h.a.ok.start
theorem Tri.touch {W w : World} {ga gb gc : Nat} {a b c d : Ck} (h : Tri W w ga gb gc a b c) (hd : a.touch = d) : Calls Try.prog 12 #[.pointer (some ⟨ga, 0, none⟩)] w fun e w' => e = .returned (.tuple #[]) ∧ Tri W w' ga gb gc d b c := by
  subst hd
  exact (ctouch_any w ga a h.a.at').mono fun e w' D => h.did D h.a.ok.touch
theorem Tri.tick {W w : World} {ga gb gc : Nat} {a b c d : Ck} {x : Int} (h : Tri W w ga gb gc a b c) (hx : a.tickH = x ∧ a.tickC = d) : Calls Try.prog 11 #[.pointer (some ⟨ga, 0, none⟩)] w fun e w' => e = .returned (.int .i64 x) ∧ Tri W w' ga gb gc d b c := by
  obtain ⟨rfl, rfl⟩ := hx
  exact (ctick_any w ga a h.a.at' h.a.ok).mono fun e w' D => h.did D h.a.ok.tick
theorem Tri.tickB {W w : World} {ga gb gc : Nat} {a b c d : Ck} {x : Int} (h : Tri W w ga gb gc a b c) (hx : b.tickH = x ∧ b.tickC = d) : Calls Try.prog 11 #[.pointer (some ⟨gb, 0, none⟩)] w fun e w' => e = .returned (.int .i64 x) ∧ Tri W w' ga gb gc a d c := (h.rot.tick hx).mono fun _ _ ⟨h1, h2⟩ => ⟨h1, h2.rot.rot⟩
theorem Tri.tickC {W w : World} {ga gb gc : Nat} {a b c d : Ck} {x : Int} (h : Tri W w ga gb gc a b c) (hx : c.tickH = x ∧ c.tickC = d) : Calls Try.prog 11 #[.pointer (some ⟨gc, 0, none⟩)] w fun e w' => e = .returned (.int .i64 x) ∧ Tri W w' ga gb gc a b d := (h.rot.rot.tick hx).mono fun _ _ ⟨h1, h2⟩ => ⟨h1, h2.rot⟩
theorem Tri.now {W w : World} {ga gb gc : Nat} {a b c : Ck} (h : Tri W w ga gb gc a b c) : Calls Try.prog 13 #[.pointer (some ⟨ga, 0, none⟩)] w fun e w' => e = .returned (.tuple #[.bool a.goes, .int .u32 (a.rest : Int), .int .u32 (a.all : Int)]) ∧ Tri W w' ga gb gc a b c :=
  (cnow_any w ga a h.a.at').mono fun _ _ ⟨h1, K⟩ => ⟨h1, h.kept K⟩

theorem tick_none {c : Ck} (h1 : c.goes = true) (h2 : ¬ c.hitI) (h3 : ¬ c.hitM) : c.tickH = 0 ∧ c.tickC = c.up := by
  unfold Ck.tickH Ck.tickC
  rw [if_neg (by rw [h1]; decide), if_neg h2, if_neg h3, if_neg (by rw [h1]; decide), if_neg h2, if_neg h3]
  exact ⟨rfl, rfl⟩
theorem tick_idle {c : Ck} (h1 : c.goes = true) (h2 : c.hitI) : c.tickH = 1 ∧ c.tickC = c.stop := by
  unfold Ck.tickH Ck.tickC
  rw [if_neg (by rw [h1]; decide), if_pos h2, if_neg (by rw [h1]; decide), if_pos h2]
  exact ⟨rfl, rfl⟩
theorem tick_most {c : Ck} (h1 : c.goes = true) (h2 : ¬ c.hitI) (h3 : c.hitM) : c.tickH = 2 ∧ c.tickC = c.stop := by
  unfold Ck.tickH Ck.tickC
  rw [if_neg (by rw [h1]; decide), if_neg h2, if_pos h3, if_neg (by rw [h1]; decide), if_neg h2, if_pos h3]
  exact ⟨rfl, rfl⟩
theorem up_eq {n : Nat} (h : n < 1000) : upC n = n + 1 := by unfold upC; omega

def sA (T j : Nat) : Ck := if j ≤ T then ⟨0, T + 1, true, 0, j⟩ else Ck.new 0 (T + 1)
def sB (t : Bool) (T j : Nat) : Ck := if j ≤ T then ⟨T + 1, T + 1, true, if t = true then 0 else j, j⟩ else Ck.new (T + 1) (T + 1)

theorem mA {T j : Nat} (h : j < T) (hT : T < 200) : (Ck.mk 0 (T + 1) true 0 j).tickH = 0 ∧ (Ck.mk 0 (T + 1) true 0 j).tickC = ⟨0, T + 1, true, 1, j + 1⟩ := by
  have := tick_none (c := ⟨0, T + 1, true, 0, j⟩) rfl (fun h => h.1 rfl) (fun h2 => by have h3 : T + 1 ≤ upC j := h2.2; rw [up_eq (by omega)] at h3; omega)
  rw [this.1, this.2]
  unfold Ck.up
  rw [up_eq (show j < 1000 by omega), up_eq (show 0 < 1000 by decide)]
  exact ⟨rfl, rfl⟩
theorem mA' {T : Nat} (hT : T < 200) : (Ck.mk 0 (T + 1) true 0 T).tickH = 2 ∧ (Ck.mk 0 (T + 1) true 0 T).tickC = Ck.new 0 (T + 1) :=
  tick_most (c := ⟨0, T + 1, true, 0, T⟩) rfl (fun h => h.1 rfl) ⟨Nat.succ_ne_zero T, by show T + 1 ≤ upC T; rw [up_eq (by omega)]; omega⟩
theorem mB {T j r : Nat} (hr : r ≤ j) (h : j < T) (hT : T < 200) : (Ck.mk (T + 1) (T + 1) true r j).tickH = 0 ∧ (Ck.mk (T + 1) (T + 1) true r j).tickC = ⟨T + 1, T + 1, true, r + 1, j + 1⟩ := by
  have := tick_none (c := ⟨T + 1, T + 1, true, r, j⟩) rfl (fun h2 => by have h3 : T + 1 ≤ upC r := h2.2; rw [up_eq (by omega)] at h3; omega) (fun h2 => by have h3 : T + 1 ≤ upC j := h2.2; rw [up_eq (by omega)] at h3; omega)
  rw [this.1, this.2]
  unfold Ck.up
  simp [up_eq (show j < 1000 by omega), up_eq (show r < 1000 by omega)]
theorem mB0 {T : Nat} (hT : T < 200) : (Ck.mk (T + 1) (T + 1) true T T).tickH = 1 ∧ (Ck.mk (T + 1) (T + 1) true T T).tickC = Ck.new (T + 1) (T + 1) :=
  tick_idle (c := ⟨T + 1, T + 1, true, T, T⟩) rfl ⟨Nat.succ_ne_zero T, by show T + 1 ≤ upC T; rw [up_eq (by omega)]; omega⟩
theorem mBz {T : Nat} (h : T = 0) : (Ck.mk (T + 1) (T + 1) true 0 T).tickH = 1 ∧ (Ck.mk (T + 1) (T + 1) true 0 T).tickC = Ck.new (T + 1) (T + 1) :=
  tick_idle (c := ⟨T + 1, T + 1, true, 0, T⟩) rfl ⟨Nat.succ_ne_zero T, by show T + 1 ≤ upC 0; rw [up_eq (by omega)]; omega⟩
theorem mB1 {T : Nat} (h : 0 < T) (hT : T < 200) : (Ck.mk (T + 1) (T + 1) true 0 T).tickH = 2 ∧ (Ck.mk (T + 1) (T + 1) true 0 T).tickC = Ck.new (T + 1) (T + 1) :=
  tick_most (c := ⟨T + 1, T + 1, true, 0, T⟩) rfl (fun h2 => by have h3 : T + 1 ≤ upC 0 := h2.2; rw [up_eq (by omega)] at h3; omega) ⟨Nat.succ_ne_zero T, by show T + 1 ≤ upC T; rw [up_eq (by omega)]; omega⟩
theorem mC {j : Nat} (h : j < 1000) : (Ck.mk 0 0 true j j).tickH = 0 ∧ (Ck.mk 0 0 true j j).tickC = ⟨0, 0, true, j + 1, j + 1⟩ := by
  have := tick_none (c := ⟨0, 0, true, j, j⟩) rfl (fun h => h.1 rfl) (fun h => h.1 rfl)
  rw [this.1, this.2]
  unfold Ck.up
  simp [up_eq h]

set_option maxHeartbeats 8000000 in
theorem walk (n : Nat) (t : Bool) (W : World) (_hn : n ≤ 4294967295) :
    Calls Try.prog 5 #[.int .u32 (n : Int), .bool t] W fun e w' => e = .returned (.bool true) ∧ W.grownBy w' none := by
  have h200 : (n : Int) % 200 = ((n % 200 : Nat) : Int) := by omega
  have hT : n % 200 < 200 := Nat.mod_lt _ (by decide)
  generalize n % 200 = T at *
  have C : Calls Try.prog 7 #[.int .u32 0, .int .u32 ((T : Int) + 1)] W _ := Cw.new W W 0 (T + 1) (World.grownBy.refl _ _) (by decide) (by omega)
  go_enter Try.func5, Try.ntmps5
  go_wp2_with fail
  refine C.mono ?_
  rintro e w1 ⟨ga, rfl, A, -, -⟩
  have H1 : Hid (Cw W w1 ga (Ck.new 0 (T + 1))) := A
  clear C A
  have C : Calls Try.prog 7 #[.int .u32 ((T : Int) + 1), .int .u32 ((T : Int) + 1)] w1 _ := Cw.new W w1 (T + 1) (T + 1) H1.out.gr (by omega) (by omega)
  go_wp2_with fail
  refine C.mono ?_
  rintro e w2 ⟨gb, rfl, B, hg1, K1⟩
  have H2 : Hid (Cw W w2 ga (Ck.new 0 (T + 1)) ∧ Cw W w2 gb (Ck.new (T + 1) (T + 1)) ∧ ga ≠ gb) := ⟨H1.out.kept K1, B, fun e => by have := H1.out.at'.lt; omega⟩
  clear C B hg1 K1 H1
  have C : Calls Try.prog 7 #[.int .u32 0, .int .u32 0] w2 _ := Cw.new W w2 0 0 H2.out.1.gr (by omega) (by omega)
  go_wp2_with fail
  refine C.mono ?_
  rintro e w3 ⟨gc, rfl, B, hg1, K1⟩
  have H3 : Hid (Tri W w3 ga gb gc (Ck.new 0 (T + 1)) (Ck.new (T + 1) (T + 1)) (Ck.new 0 0)) := ⟨H2.out.1.kept K1, H2.out.2.1.kept K1, B, H2.out.2.2, fun e => by have := H2.out.1.at'.lt; omega, fun e => by have := H2.out.2.1.at'.lt; omega⟩
  clear C B hg1 K1 H2
  have C := H3.out.start (d := ⟨0, T + 1, true, 0, 0⟩) rfl
  go_wp2_with fail
  refine C.mono ?_
  rintro e w4 ⟨rfl, A⟩
  clear C H3
  have C := A.rot.start (d := ⟨T + 1, T + 1, true, 0, 0⟩) rfl
  clear A
  go_wp2_with fail
  refine C.mono ?_
  rintro e w5 ⟨rfl, A⟩
  clear C
  have C := A.rot.start (d := ⟨0, 0, true, 0, 0⟩) rfl
  clear A
  go_wp2_with fail
  refine C.mono ?_
  rintro e w6 ⟨rfl, A⟩
  clear C
  have HA : Hid (Tri W w6 ga gb gc (sA T 0) (sB t T 0) ⟨0, 0, true, 0, 0⟩) := by
    have := A.rot
    unfold sA sB
    rw [if_pos (Nat.zero_le _), if_pos (Nat.zero_le _)]
    cases t <;> exact this
  clear A
  go_wp2
  go_loopw [9] (fun i wr => ∃ j : Nat, j ≤ T + 1 ∧ i = .int .i64 ((j : Int) + 1) ∧ Tri W wr ga gb gc (sA T j) (sB t T j) ⟨0, 0, true, j, j⟩) (fun i _ => T + 2 - (intOf i).toNat)
  case atStart => exact ⟨0, by omega, rfl, HA.out⟩
  case round =>
    clear HA
    obtain ⟨j, hj, rfl, A⟩ := hrel
    by_cases hjT : j ≤ T
    · have hji : (j : Int) ≤ (T : Int) := by omega
      have hj1 : (j : Int) + 1 ≤ (T : Int) + 1 := by omega
      unfold sA sB at A
      rw [if_pos hjT, if_pos hjT] at A
      cases t with
      | true =>
        by_cases he : j = T
        · have he2 : T = j := he.symm
          subst he2
          by_cases h0 : T = 0
          · have h2 : ¬ (1 : Int) < (T : Int) + 1 := by omega
            have HZ : Hid (T = 0) := h0
            clear h0
            have C := A.tick (mA' hT)
            clear A
            go_wp2_with fail
            refine C.mono ?_
            rintro e w7 ⟨rfl, A⟩
            clear C
            have C := A.tickB (mBz HZ.out)
            clear A
            go_wp2_with fail
            refine C.mono ?_
            rintro e w8 ⟨rfl, A⟩
            clear C
            have C := A.tickC (mC (show T < 1000 by omega))
            clear A
            go_wp2_with fail
            refine C.mono ?_
            rintro e w9 ⟨rfl, A⟩
            clear C
            have C := A.touch (d := Ck.new 0 (T + 1)) rfl
            clear A
            go_wp2_with fail
            refine C.mono ?_
            rintro e w10 ⟨rfl, A⟩
            clear C
            have C := A.rot.touch (d := Ck.new (T + 1) (T + 1)) rfl
            clear A
            go_wp2_with fail
            refine C.mono ?_
            rintro e w11 ⟨rfl, A⟩
            clear C
            have HA : Hid (Tri W w11 ga gb gc (sA T (T + 1)) (sB true T (T + 1)) ⟨0, 0, true, T + 1, T + 1⟩) := by
              have := A.rot.rot
              unfold sA sB
              rw [if_neg (by omega), if_neg (by omega)]
              exact this
            clear A
            go_wp2
            go_roundw
            case rel => exact ⟨T + 1, by omega, by go_num, HA.out⟩
            case measure => simp [intOf]; omega
          · have h1 : 0 < T := by omega
            have h2 : (1 : Int) < (T : Int) + 1 := by omega
            have C := A.tick (mA' hT)
            clear A
            go_wp2_with fail
            refine C.mono ?_
            rintro e w7 ⟨rfl, A⟩
            clear C
            have C := A.tickB (mB1 h1 hT)
            clear A
            go_wp2_with fail
            refine C.mono ?_
            rintro e w8 ⟨rfl, A⟩
            clear C
            have C := A.tickC (mC (show T < 1000 by omega))
            clear A
            go_wp2_with fail
            refine C.mono ?_
            rintro e w9 ⟨rfl, A⟩
            clear C
            have C := A.touch (d := Ck.new 0 (T + 1)) rfl
            clear A
            go_wp2_with fail
            refine C.mono ?_
            rintro e w10 ⟨rfl, A⟩
            clear C
            have C := A.rot.touch (d := Ck.new (T + 1) (T + 1)) rfl
            clear A
            go_wp2_with fail
            refine C.mono ?_
            rintro e w11 ⟨rfl, A⟩
            clear C
            have HA : Hid (Tri W w11 ga gb gc (sA T (T + 1)) (sB true T (T + 1)) ⟨0, 0, true, T + 1, T + 1⟩) := by
              have := A.rot.rot
              unfold sA sB
              rw [if_neg (by omega), if_neg (by omega)]
              exact this
            clear A
            go_wp2
            go_roundw
            case rel => exact ⟨T + 1, by omega, by go_num, HA.out⟩
            case measure => simp [intOf]; omega
        · have hlt : j < T := by omega
          have hne : ((j : Int) == (T : Int)) = false := by rw [beq_eq_false_iff_ne]; omega
          have C := A.tick (mA hlt hT)
          clear A
          go_wp2_with fail
          refine C.mono ?_
          rintro e w7 ⟨rfl, A⟩
          clear C
          have C := A.tickB (mB (Nat.zero_le j) hlt hT)
          clear A
          go_wp2_with fail
          refine C.mono ?_
          rintro e w8 ⟨rfl, A⟩
          clear C
          have C := A.tickC (mC (show j < 1000 by omega))
          clear A
          go_wp2_with fail
          refine C.mono ?_
          rintro e w9 ⟨rfl, A⟩
          clear C
          have C := A.touch (d := ⟨0, T + 1, true, 0, j + 1⟩) rfl
          clear A
          go_wp2_with fail
          refine C.mono ?_
          rintro e w10 ⟨rfl, A⟩
          clear C
          have C := A.rot.touch (d := ⟨T + 1, T + 1, true, 0, j + 1⟩) rfl
          clear A
          go_wp2_with fail
          refine C.mono ?_
          rintro e w11 ⟨rfl, A⟩
          clear C
          have HA : Hid (Tri W w11 ga gb gc (sA T (j + 1)) (sB true T (j + 1)) ⟨0, 0, true, j + 1, j + 1⟩) := by
            have := A.rot.rot
            unfold sA sB
            rw [if_pos (by omega), if_pos (by omega)]
            exact this
          clear A
          go_wp2
          go_roundw
          case rel => exact ⟨j + 1, by omega, by go_num, HA.out⟩
          case measure => simp [intOf]; omega
      | false =>
        by_cases he : j = T
        · have he2 : T = j := he.symm
          subst he2
          have C := A.tick (mA' hT)
          clear A
          go_wp2_with fail
          refine C.mono ?_
          rintro e w7 ⟨rfl, A⟩
          clear C
          have C := A.tickB (mB0 hT)
          clear A
          go_wp2_with fail
          refine C.mono ?_
          rintro e w8 ⟨rfl, A⟩
          clear C
          have C := A.tickC (mC (show T < 1000 by omega))
          clear A
          go_wp2_with fail
          refine C.mono ?_
          rintro e w9 ⟨rfl, A⟩
          clear C
          have C := A.touch (d := Ck.new 0 (T + 1)) rfl
          clear A
          go_wp2_with fail
          refine C.mono ?_
          rintro e w10 ⟨rfl, A⟩
          clear C
          have HA : Hid (Tri W w10 ga gb gc (sA T (T + 1)) (sB false T (T + 1)) ⟨0, 0, true, T + 1, T + 1⟩) := by
            have := A
            unfold sA sB
            rw [if_neg (by omega), if_neg (by omega)]
            exact this
          clear A
          go_wp2
          go_roundw
          case rel => exact ⟨T + 1, by omega, by go_num, HA.out⟩
          case measure => simp [intOf]; omega
        · have hlt : j < T := by omega
          have hne : ((j : Int) == (T : Int)) = false := by rw [beq_eq_false_iff_ne]; omega
          have C := A.tick (mA hlt hT)
          clear A
          go_wp2_with fail
          refine C.mono ?_
          rintro e w7 ⟨rfl, A⟩
          clear C
          have C := A.tickB (mB (Nat.le_refl j) hlt hT)
          clear A
          go_wp2_with fail
          refine C.mono ?_
          rintro e w8 ⟨rfl, A⟩
          clear C
          have C := A.tickC (mC (show j < 1000 by omega))
          clear A
          go_wp2_with fail
          refine C.mono ?_
          rintro e w9 ⟨rfl, A⟩
          clear C
          have C := A.touch (d := ⟨0, T + 1, true, 0, j + 1⟩) rfl
          clear A
          go_wp2_with fail
          refine C.mono ?_
          rintro e w10 ⟨rfl, A⟩
          clear C
          have HA : Hid (Tri W w10 ga gb gc (sA T (j + 1)) (sB false T (j + 1)) ⟨0, 0, true, j + 1, j + 1⟩) := by
            have := A
            unfold sA sB
            rw [if_pos (by omega), if_pos (by omega)]
            exact this
          clear A
          go_wp2
          go_roundw
          case rel => exact ⟨j + 1, by omega, by go_num, HA.out⟩
          case measure => simp [intOf]; omega
    · obtain rfl : j = T + 1 := by omega
      unfold sA at A
      rw [if_neg hjT] at A
      generalize sB t T (T + 1) = cb at *
      have C : Calls Try.prog 13 #[.pointer (some ⟨gc, 0, none⟩)] wr fun e w' => e = .returned (.tuple #[.bool true, .int .u32 ((T : Int) + 1), .int .u32 ((T : Int) + 1)]) ∧ Tri W w' gc ga gb ⟨0, 0, true, T + 1, T + 1⟩ (Ck.new 0 (T + 1)) cb := A.rot.rot.now
      clear A hjT hj
      go_wp2_with fail
      refine C.mono ?_
      rintro e w7 ⟨rfl, A⟩
      clear C
      have C : Calls Try.prog 13 #[.pointer (some ⟨ga, 0, none⟩)] w7 fun e w' => e = .returned (.tuple #[.bool false, .int .u32 0, .int .u32 0]) ∧ Tri W w' ga gb gc (Ck.new 0 (T + 1)) cb ⟨0, 0, true, T + 1, T + 1⟩ := A.rot.now
      clear A
      go_wp2_with fail
      refine C.mono ?_
      rintro e w8 ⟨rfl, A⟩
      have HK : Hid (W.grownBy w8 none) := A.a.gr
      clear C A
      go_wp2_with fail
      refine (awake22_any w8).mono ?_
      rintro e w9 ⟨rfl, K⟩
      have HK2 : Hid (W.grownBy w9 none) := grown_trans HK.out K
      clear HK K
      go_wp2
      go_ret
      exact ⟨rfl, HK2.out⟩

set_option maxRecDepth 100000 in
theorem lifted (os : Os) (started : os.Started) (H : Type) (enc : TypeId × Value → H) :
    ReturnsInHanded {} Try.checked os 5 .any (Rows.clockMostsSpec.pre6 enc Try.prog Try.f5 Rows.clockMostsRow.domain false) (Rows.clockMostsSpec.post enc Try.prog Try.f5 false true false false) := by
  refine returnsInHanded_of_change_sized (C := Try.checked) own started (by kernel_rfl) Try.func5
    (ChangeSpec.witness6 (enc := enc) (C := Try.checked) false ⟨#[], #[.int .u32 0, .bool false], []⟩ 8 (by kernel_rfl) (by kernel_rfl) (by kernel_rfl) (by kernel_rfl)) ?_
  intro W base args ds gs before hval0 hW hcnd hsz0 _
  have hsz : (DataW.weightsEach Try.prog (Try.f5.params.toList ++ Rows.clockMostsSpec.plain.varTypes Try.prog) (ds ++ gs)).all (· ≤ reachBytes) = true := hsz0
  have hval : ∀ (j : Nat) t v, Try.f5.params[j]? = some t → args[j]? = some v → Value.okWide Try.prog W .any base t v := hval0
  have hW' := hW
  obtain ⟨p, q, hA0, hV, rfl, hfz, hnd⟩ := hW
  have hA : DataW.TrodAll enc Try.prog W 0 (fun _ => true) true Try.f5.params.toList args.toList ds p := hA0
  rw [Try.params5] at hA hval hsz
  obtain ⟨v0, vs0, d0, ds0, p0, q0, hargs, rfl, rfl, h0, r0⟩ := trodAll_cons hA
  obtain ⟨v1, vs1, d1, ds1, p1, q1, rfl, rfl, rfl, h1, r1⟩ := trodAll_cons r0
  obtain ⟨rfl, rfl, rfl⟩ := trodAll_nil r1
  obtain rfl : args = #[v0, v1] := by cases args; simp_all
  obtain ⟨rfl, rfl⟩ := trodVars_none hV
  obtain ⟨y0, rfl, rfl, rfl, w0⟩ := open_int Try.underlying22 (hval 0 22 v0 rfl rfl) h0
  have bd0 := bounds_u32 w0
  obtain ⟨x0, rfl⟩ := Int.eq_ofNat_of_zero_le bd0.1
  have hv0 : x0 ≤ 4294967295 := by omega
  obtain ⟨x1, rfl, rfl, rfl⟩ := open_bool Try.underlying4 (hval 1 4 v1 rfl rfl) h1
  clear hA0 hval0
  refine (walk x0 x1 W hv0).mono fun e W' ⟨he, hg⟩ => ?_
  subst he
  have bel : Below W.heap.size W W' := (Below.refl _ _).grown hg (Nat.le_refl _) (by simp)
  exact ⟨_, rfl, _, _, _, [], _, [], hW', trodAll_mk1 (shut_bool Try.underlying4 _), (trodAll_cons_mk (shut_int Try.underlying22 w0) (trodAll_cons_mk (shut_bool Try.underlying4 x1) trodAll_mk0)), rfl, bel.frame _, fun h => by cases h⟩

theorem over : Rows.ClockMostsSaid :=
  OpenClaim.holds_of_wide 5 Try.f5 rfl rfl rfl rfl rfl rfl rfl ⟨rfl, rfl, rfl, rfl, rfl⟩ rfl rfl rfl rfl rfl (by kernel_rfl) Try.func5 (by kernel_rfl)
    (of_decide_eq_true (by kernel_rfl)) (by unfold Func.isWrapper; first | (rw [if_pos (by decide +kernel)]; kernel_rfl) | (rw [if_neg (by decide +kernel)]; exact ⟨rfl, rfl⟩))
    (fun os started H enc _ => lifted os started H enc)

end clockMosts

theorem clockMosts_holds : Rows.ClockMostsSaid := clockMosts.over
#print axioms clockMosts_holds

end Go.Proofs.Ytnkdcehnamkoaaa
