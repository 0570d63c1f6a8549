/-
  A landed clock that was made behind W; riddlelaw22.awake.
-/
import Derived.Test.YtnkdcehnamkoaaaClT
namespace Go.Proofs.Ytnkdcehnamkoaaa
open Go.RowKit
set_option maxRecDepth 100000

structure Cw (W w : World) (g : Nat) (c : Ck) : Prop where
  at' : QBk w g 44 c.lcells
  lo : W.heap.size ≤ g
  gr : W.grownBy w none
  ok : c.ok

theorem Cw.kept {W w w' : World} {g : Nat} {c : Ck} (h : Cw W w g c) (K : w.grownBy w' none) : Cw W w' g c := ⟨h.at'.keptNone K, h.lo, grown_trans h.gr K, h.ok⟩
theorem Cw.gw {W w w' : World} {g : Nat} {c : Ck} {S : Nat → Prop} (h : Cw W w g c) (G : GW w w' S) (h1 : ¬ S g) (h2 : ∀ x, S x → W.heap.size ≤ x) : Cw W w' g c :=
  ⟨G.qbk h.at' h1, h.lo, ((GW.non (S := S) h.gr).trans G (fun _ _ h => h)).grown (fun x hl hx => by have := h2 x hx; omega), h.ok⟩
theorem Cw.did {W w w' : World} {g : Nat} {c d : Ck} {v : Value} {e : Ending} (h : Cw W w g c) (D : LDid 44 g w d v e w') (ok : d.ok) : e = .returned v ∧ Cw W w' g d :=
  ⟨D.1, D.2.1, h.lo, ((GW.non (S := fun x => x = g) h.gr).trans D.2.2 (fun _ _ h => h)).grown (fun x hl hx => by have := h.lo; omega), ok⟩

theorem Cw.new (W w : World) (i m : Nat) (K : W.grownBy w none) (hi : i ≤ 4294967295) (hm : m ≤ 4294967295) :
    Calls Try.prog 7 #[.int .u32 (i : Int), .int .u32 (m : Int)] w fun e w' => ∃ g, e = .returned (.pointer (some ⟨g, 0, none⟩)) ∧ Cw W w' g (Ck.new i m) ∧ w.heap.size ≤ g ∧ w.grownBy w' none := by
  refine (cnew_any w i m).mono ?_
  rintro e w' ⟨g, rfl, hg, B, K2⟩
  exact ⟨g, rfl, ⟨B, Nat.le_trans K.size hg, grown_trans K K2, ⟨hi, hm, Nat.zero_le _, Nat.zero_le _⟩⟩, hg, K2⟩
theorem Cw.start {W w : World} {g : Nat} {c d : Ck} (h : Cw W w g c) (hd : c.start = d) : Calls Try.prog 10 #[.pointer (some ⟨g, 0, none⟩)] w fun e w' => e = .returned (.tuple #[]) ∧ Cw W w' g d := by
  subst hd
  exact (cstart_any w g c h.at').mono fun e w' D => h.did D h.ok.start
theorem Cw.stop {W w : World} {g : Nat} {c d : Ck} (h : Cw W w g c) (hd : c.stop = d) : Calls Try.prog 14 #[.pointer (some ⟨g, 0, none⟩)] w fun e w' => e = .returned (.tuple #[]) ∧ Cw W w' g d := by
  subst hd
  exact (cstop_any w g c h.at').mono fun e w' D => h.did D h.ok.stop
theorem Cw.touch {W w : World} {g : Nat} {c d : Ck} (h : Cw W w g c) (hd : c.touch = d) : Calls Try.prog 12 #[.pointer (some ⟨g, 0, none⟩)] w fun e w' => e = .returned (.tuple #[]) ∧ Cw W w' g d := by
  subst hd
  exact (ctouch_any w g c h.at').mono fun e w' D => h.did D h.ok.touch
theorem Cw.tick {W w : World} {g : Nat} {c d : Ck} {x : Int} (h : Cw W w g c) (hx : c.tickH = x) (hd : c.tickC = d) : Calls Try.prog 11 #[.pointer (some ⟨g, 0, none⟩)] w fun e w' => e = .returned (.int .i64 x) ∧ Cw W w' g d := by
  subst hx hd
  exact (ctick_any w g c h.at' h.ok).mono fun e w' D => h.did D h.ok.tick
theorem Cw.now {W w : World} {g : Nat} {c : Ck} (h : Cw W w g c) : Calls Try.prog 13 #[.pointer (some ⟨g, 0, none⟩)] w fun e w' => e = .returned (.tuple #[.bool c.goes, .int .u32 (c.rest : Int), .int .u32 (c.all : Int)]) ∧ Cw W w' g c :=
  (cnow_any w g c h.at').mono fun _ _ ⟨h1, K⟩ => ⟨h1, h.kept K⟩

/-- The least bits of a number. -/
def lowB (k : Nat) (x : Int) : Nat := (BitVec.ofInt IntKind.i64.bits x).toNat % 2 ^ k
theorem lowB_lt (k : Nat) (x : Int) : lowB k x < 2 ^ k := Nat.mod_lt _ (Nat.two_pow_pos k)
theorem low6 (x : Int) : bits .and .i64 x 63 = (lowB 6 x : Int) := by
  have hm : (63 : Int) = ((2 ^ 6 - 1 : Nat) : Int) := by decide
  rw [hm]
  have h64 : IntKind.i64.bits = 64 := rfl
  simp only [bits, BitVec.ofInt_natCast, BitVec.toNat_and, BitVec.toNat_ofNat, h64]
  rw [show (2 ^ 6 - 1) % 2 ^ 64 = 2 ^ 6 - 1 by decide, Nat.and_two_pow_sub_one_eq_mod]
  have h := lowB_lt 6 x
  unfold lowB at h ⊢
  generalize (BitVec.ofInt IntKind.i64.bits x).toNat % 2 ^ 6 = n at *
  rw [IntKind.wrap_i64]
  omega
theorem low10 (x : Int) : bits .and .i64 x 1023 = (lowB 10 x : Int) := by
  have hm : (1023 : Int) = ((2 ^ 10 - 1 : Nat) : Int) := by decide
  rw [hm]
  have h64 : IntKind.i64.bits = 64 := rfl
  simp only [bits, BitVec.ofInt_natCast, BitVec.toNat_and, BitVec.toNat_ofNat, h64]
  rw [show (2 ^ 10 - 1) % 2 ^ 64 = 2 ^ 10 - 1 by decide, Nat.and_two_pow_sub_one_eq_mod]
  have h := lowB_lt 10 x
  unfold lowB at h ⊢
  generalize (BitVec.ofInt IntKind.i64.bits x).toNat % 2 ^ 10 = n at *
  rw [IntKind.wrap_i64]
  omega

theorem tick_stop (c : Ck) : c.tickC.stop = Ck.new c.idle c.most := by
  unfold Ck.tickC
  split
  · rfl
  · split
    · rfl
    · split <;> rfl

set_option maxHeartbeats 2000000 in
theorem awake22_any (w : World) : Calls Try.prog 9 #[] w fun e w' => e = .returned (.bool true) ∧ w.grownBy w' none := by
  have C : Calls Try.prog 7 #[.int .u32 2, .int .u32 0] w _ := Cw.new w w 2 0 (World.grownBy.refl _ _) (by decide) (by decide)
  go_enter Try.func9, Try.ntmps9
  go_wp2_with fail
  refine C.mono ?_
  rintro e w1 ⟨g, rfl, A, -, -⟩
  have H1 : Hid (Cw w w1 g (Ck.new 2 0)) := A
  clear C A
  have C := H1.out.tick (x := 0) (d := Ck.new 2 0) rfl rfl
  go_wp2_with fail
  refine C.mono ?_
  rintro e w2 ⟨rfl, A⟩
  have H2 : Hid (Cw w w2 g (Ck.new 2 0)) := A
  clear C A H1
  have C := H2.out.start (d := ⟨2, 0, true, 0, 0⟩) rfl
  go_wp2_with fail
  refine C.mono ?_
  rintro e w3 ⟨rfl, A⟩
  have H3 : Hid (Cw w w3 g ⟨2, 0, true, 0, 0⟩) := A
  clear C A H2
  have C := H3.out.tick (x := 0) (d := ⟨2, 0, true, 1, 1⟩) rfl rfl
  go_wp2_with fail
  refine C.mono ?_
  rintro e w4 ⟨rfl, A⟩
  have H4 : Hid (Cw w w4 g ⟨2, 0, true, 1, 1⟩) := A
  clear C A H3
  have C := H4.out.touch (d := ⟨2, 0, true, 0, 1⟩) rfl
  go_wp2_with fail
  refine C.mono ?_
  rintro e w5 ⟨rfl, A⟩
  have H5 : Hid (Cw w w5 g ⟨2, 0, true, 0, 1⟩) := A
  clear C A H4
  have C := H5.out.tick (x := 0) (d := ⟨2, 0, true, 1, 2⟩) rfl rfl
  go_wp2_with fail
  refine C.mono ?_
  rintro e w6 ⟨rfl, A⟩
  have H6 : Hid (Cw w w6 g ⟨2, 0, true, 1, 2⟩) := A
  clear C A H5
  have C : Calls Try.prog 13 #[.pointer (some ⟨g, 0, none⟩)] w6 fun e w' => e = .returned (.tuple #[.bool true, .int .u32 1, .int .u32 2]) ∧ Cw w w' g ⟨2, 0, true, 1, 2⟩ := H6.out.now
  go_wp2_with fail
  refine C.mono ?_
  rintro e w7 ⟨rfl, A⟩
  have H7 : Hid (Cw w w7 g ⟨2, 0, true, 1, 2⟩) := A
  clear C A H6
  have C := H7.out.tick (x := 1) (d := ⟨2, 0, false, 0, 0⟩) rfl rfl
  go_wp2_with fail
  refine C.mono ?_
  rintro e w8 ⟨rfl, A⟩
  have H8 : Hid (w.grownBy w8 none) := A.gr
  clear C A H7
  go_wp2
  go_ret
  exact ⟨rfl, H8.out⟩

end Go.Proofs.Ytnkdcehnamkoaaa
