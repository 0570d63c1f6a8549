/-
  For every list of instructions (its capacity at most 2^47 - 4096 bytes, as the form itself says of each argument), every number and every number of 32 bits riddlelaw4.CheckSpoilt returns true and leaves what was there as it was: no condition of ours.
-/
import Derived.Test.YtibaednekfjonaaOpenI
import Derived.Test.YtibaednekfjonaaAwake4
import Derived.Test.YtibaednekfjonaaCheckS
import Derived.Test.YtibaednekfjonaaLow
import Derived.Deep.DeepCutAuto
namespace Go.Proofs.Ytibaednekfjonaa
open Go.ChangeShapes Go.WideShapes Go.ChangeAt Go.RowKit
open Go.ChangeMaps (open_string shut_string)
set_option maxRecDepth 100000

theorem bad_fault {n i : Nat} {x : In} {e : Int} (h : faultV x.code.toNat x.k.toNat = e) (he : e ≠ 0) : badV n i x = e := by
  rw [badV, h, if_neg he]
theorem bad_jump {n i : Nat} {x : In} (h : faultV x.code.toNat x.k.toNat = 0) (hj : jumpBad x.code.toNat x.jt.toNat x.jf.toNat x.k.toNat (n - 1 - i) = true) : badV n i x = 46 := by
  rw [badV, if_pos h, if_pos hj]

theorem u32_nat {m : Nat} (h : m ≤ 4294967295) : (UInt32.ofNat m).toNat = m := by simp; omega

theorem u32_cells (c : UInt16) (t f : UInt8) {m : Nat} (h : m ≤ 4294967295) : (⟨c, t, f, UInt32.ofNat m⟩ : In).cells = [.int .u16 (c.toNat : Int), .int .u8 (t.toNat : Int), .int .u8 (f.toNat : Int), .int .u32 (m : Int)] := by
  rw [In.cells]
  simp only [u32_nat h]

theorem sp0 (n i k : Nat) : badV n i ⟨8, 0, 0, UInt32.ofNat k⟩ = 42 := by
  have h1 : knownB 8 = false := by decide
  refine bad_fault ?_ (by decide)
  show faultV 8 _ = _
  simp [faultV, h1]

theorem sp1 (n i m : Nat) (h : 16 ≤ m) (h2 : m ≤ 4294967295) : badV n i ⟨3, 0, 0, UInt32.ofNat m⟩ = 43 := by
  have h1 : knownB 3 = true := by decide
  refine bad_fault ?_ (by decide)
  show faultV 3 (UInt32.ofNat m).toNat = _
  rw [u32_nat h2]
  simp [faultV, h1, memB, h]

theorem sp2 (n i : Nat) : badV n i ⟨148, 0, 0, 0⟩ = 44 := bad_fault (by decide) (by decide)

theorem sp3 (n i m : Nat) (h : 32 ≤ m) (h2 : m ≤ 4294967295) : badV n i ⟨116, 0, 0, UInt32.ofNat m⟩ = 45 := by
  have h1 : knownB 116 = true := by decide
  refine bad_fault ?_ (by decide)
  show faultV 116 (UInt32.ofNat m).toNat = _
  rw [u32_nat h2]
  have h3 : 31 < m := by omega
  simp [faultV, h1, memB, divB, shfB, h3]

theorem sp4 (n i m : Nat) (h : n - 1 - i ≤ m) (h2 : m ≤ 4294967295) : badV n i ⟨5, 0, 0, UInt32.ofNat m⟩ = 46 := by
  have h1 : knownB 5 = true := by decide
  refine bad_jump ?_ ?_
  · show faultV 5 _ = 0
    simp [faultV, h1, memB, divB, shfB]
  · show jumpBad 5 0 0 (UInt32.ofNat m).toNat (n - 1 - i) = true
    rw [u32_nat h2]
    simp [jumpBad, h]

theorem sp5 (n i : Nat) (h : n - 1 - i ≤ 255) : badV n i ⟨77, 0, 255, 0⟩ = 46 := by
  have h1 : jumpB 77 = true := by decide
  refine bad_jump (by decide) ?_
  show jumpBad 77 0 255 0 (n - 1 - i) = true
  simp [jumpBad, h1, h]

namespace checkSpoilt

set_option maxRecDepth 100000 in
set_option maxHeartbeats 4000000 in
theorem walk (a : Option Addr) (ca : Nat) (xs : List In) (pl : Int) (k : Nat) (w : World) (ha : CV w a (flat xs)) (hc0 : a = none → ca = 0) (_hca : xs.length ≤ ca) (_hcm : ca ≤ maxLen) (hn : xs.length * 8 ≤ 140737488351232) (hk : k ≤ 4294967295) :
    Calls Try.prog 8 #[.slice a xs.length ca, .int .i64 pl, .int .u32 k] w fun e w' => e = .returned (.bool true) ∧ w.grownBy w' none := by
  have H : Hid (CV w a (flat xs)) := ha
  clear ha
  obtain ⟨P, E, hPE⟩ : ∃ P E, checkV xs = (P, E) := ⟨_, _, rfl⟩
  have HP : Hid (∀ (a : Option Addr) (ca : Nat) (W : World), CV W a (flat xs) → Calls Try.prog 11 #[.slice a xs.length ca] W fun e w' => e = .returned (.tuple #[.int .i64 (P : Int), .int .i64 E]) ∧ W.grownBy w' none) := fun a ca W h => by
    have k := check_any a ca xs W h
    rw [hPE] at k
    exact k
  by_cases hE : E = 0
  case neg =>
    have hEb : (E != 0) = true := by rw [bne_iff_ne]; exact hE
    clear hE hPE
    go_enter Try.func8, Try.ntmps8
    go_wp2_with fail
    refine (icopy_any a ca xs _ H.out hc0 (by omega)).mono ?_
    rintro e w1 ⟨v1, rfl, O1, G1⟩
    obtain ⟨ao1, cap1, rfl, C1, -⟩ := cv_of_row O1
    clear O1
    go_wp2_with fail
    refine (HP.out _ cap1 _ C1).mono ?_
    rintro e w2 ⟨rfl, K2⟩
    have G2 := grown_trans G1 K2
    clear C1 K2 G1
    go_wp2_with fail
    refine (awake4_any _).mono ?_
    rintro e w5 ⟨rfl, K5⟩
    have G5 := grown_trans G2 K5
    clear G2 K5
    go_wp2
    go_ret
    exact ⟨rfl, G5⟩
  case pos =>
    have hz : (checkV xs).2 = 0 := by rw [hPE]; exact hE
    obtain ⟨t1, t2, -, -⟩ := taken hz
    have HT : Hid ((checkV xs).2 = 0) := hz
    clear hPE hz
    subst hE
    obtain ⟨i, hi⟩ : ∃ i, lowV pl % xs.length = i := ⟨_, rfl⟩
    have hin : i < xs.length := by rw [← hi]; exact Nat.mod_lt _ t1
    have hlv := lowV_lt pl
    have hrem : (lowV pl : Int) % (xs.length : Int) = (i : Int) := by rw [← hi]; omega
    have hrem2 : (lowV pl : Int).tmod (xs.length : Int) = (i : Int) := by rw [Int.tmod_eq_emod_of_nonneg (by omega)]; exact hrem
    have hnz : ((xs.length : Int) == 0) = false := by rw [beq_eq_false_iff_ne]; omega
    clear hi
    go_enter Try.func8, Try.ntmps8
    go_wp2_with fail
    refine (icopy_any a ca xs _ H.out hc0 (by omega)).mono ?_
    rintro e w1 ⟨v1, rfl, O1, G1⟩
    obtain ⟨ao1, cap1, rfl, C1, -⟩ := cv_of_row O1
    clear O1
    go_wp2_with fail
    refine (HP.out _ cap1 _ C1).mono ?_
    rintro e w2 ⟨rfl, K2⟩
    have G2 := grown_trans G1 K2
    clear C1 K2 G1
    go_wp2_with fail
    refine (low_any pl _).mono ?_
    rintro e w' ⟨rfl, rfl⟩
    generalize lowV pl = lv at *
    go_upto_region 5 with fail
    go_cut [10] (fun s wx => ∃ m16 m32 mn : Nat, 16 ≤ m16 ∧ 32 ≤ m32 ∧ xs.length ≤ mn ∧ m16 ≤ 4294967295 ∧ m32 ≤ 4294967295 ∧ mn ≤ 4294967295 ∧ s = .slice (some ⟨w2.heap.size, 0, none⟩) 6 6 ∧ wx = w2.alloc (.cells #[.int .u16 8, .int .u8 0, .int .u8 0, .int .u32 (k : Int), .int .u16 3, .int .u8 0, .int .u8 0, .int .u32 (m16 : Int), .int .u16 148, .int .u8 0, .int .u8 0, .int .u32 0, .int .u16 116, .int .u8 0, .int .u8 0, .int .u32 (m32 : Int), .int .u16 5, .int .u8 0, .int .u8 0, .int .u32 (mn : Int), .int .u16 77, .int .u8 0, .int .u8 255, .int .u32 0] 44))
    case first =>
      by_cases h16 : k < 16
      · have q1 : (k : Int) < 16 := by omega
        have q2 : (k : Int) < 32 := by omega
        by_cases hnn : k < xs.length
        · have q3 : (k : Int) < (xs.length : Int) := by omega
          go_wp2
          go_meet
          exact ⟨16, 32, xs.length, by omega, by omega, by omega, by omega, by omega, by omega, rfl, rfl⟩
        · have q3 : ¬ ((k : Int) < (xs.length : Int)) := by omega
          go_wp2
          go_meet
          exact ⟨16, 32, k, by omega, by omega, by omega, by omega, by omega, by omega, rfl, rfl⟩
      · have q1 : ¬ ((k : Int) < 16) := by omega
        by_cases h32 : k < 32
        · have q2 : (k : Int) < 32 := by omega
          by_cases hnn : k < xs.length
          · have q3 : (k : Int) < (xs.length : Int) := by omega
            go_wp2
            go_meet
            exact ⟨k, 32, xs.length, by omega, by omega, by omega, by omega, by omega, by omega, rfl, rfl⟩
          · have q3 : ¬ ((k : Int) < (xs.length : Int)) := by omega
            go_wp2
            go_meet
            exact ⟨k, 32, k, by omega, by omega, by omega, by omega, by omega, by omega, rfl, rfl⟩
        · have q2 : ¬ ((k : Int) < 32) := by omega
          by_cases hnn : k < xs.length
          · have q3 : (k : Int) < (xs.length : Int) := by omega
            go_wp2
            go_meet
            exact ⟨k, k, xs.length, by omega, by omega, by omega, by omega, by omega, by omega, rfl, rfl⟩
          · have q3 : ¬ ((k : Int) < (xs.length : Int)) := by omega
            go_wp2
            go_meet
            exact ⟨k, k, k, by omega, by omega, by omega, by omega, by omega, by omega, rfl, rfl⟩
    case rest =>
      obtain ⟨m16, m32, mn, m1, m2, m3, m4, m5, m6, rfl, rfl⟩ := hcut
      clear hrem hrem2 hlv
      have CB0 : CV (w2.alloc (.cells #[.int .u16 8, .int .u8 0, .int .u8 0, .int .u32 (k : Int), .int .u16 3, .int .u8 0, .int .u8 0, .int .u32 (m16 : Int), .int .u16 148, .int .u8 0, .int .u8 0, .int .u32 0, .int .u16 116, .int .u8 0, .int .u8 0, .int .u32 (m32 : Int), .int .u16 5, .int .u8 0, .int .u8 0, .int .u32 (mn : Int), .int .u16 77, .int .u8 0, .int .u8 255, .int .u32 0] 44)) (some ⟨w2.heap.size, 0, none⟩) [.int .u16 8, .int .u8 0, .int .u8 0, .int .u32 (k : Int), .int .u16 3, .int .u8 0, .int .u8 0, .int .u32 (m16 : Int), .int .u16 148, .int .u8 0, .int .u8 0, .int .u32 0, .int .u16 116, .int .u8 0, .int .u8 0, .int .u32 (m32 : Int), .int .u16 5, .int .u8 0, .int .u8 0, .int .u32 (mn : Int), .int .u16 77, .int .u8 0, .int .u8 255, .int .u32 0] := cv_lit w2 _ _
      have G3 := grown_trans G2 (World.grownBy_alloc w2 (.cells #[.int .u16 8, .int .u8 0, .int .u8 0, .int .u32 (k : Int), .int .u16 3, .int .u8 0, .int .u8 0, .int .u32 (m16 : Int), .int .u16 148, .int .u8 0, .int .u8 0, .int .u32 0, .int .u16 116, .int .u8 0, .int .u8 0, .int .u32 (m32 : Int), .int .u16 5, .int .u8 0, .int .u8 0, .int .u32 (mn : Int), .int .u16 77, .int .u8 0, .int .u8 255, .int .u32 0] 44) none)
      generalize w2.alloc (.cells #[.int .u16 8, .int .u8 0, .int .u8 0, .int .u32 (k : Int), .int .u16 3, .int .u8 0, .int .u8 0, .int .u32 (m16 : Int), .int .u16 148, .int .u8 0, .int .u8 0, .int .u32 0, .int .u16 116, .int .u8 0, .int .u8 0, .int .u32 (m32 : Int), .int .u16 5, .int .u8 0, .int .u8 0, .int .u32 (mn : Int), .int .u16 77, .int .u8 0, .int .u8 255, .int .u32 0] 44) = w3 at *
      generalize w2.heap.size = gb at *
      have CC1 : CV (w3.alloc (.cells #[.int .i64 42, .int .i64 43, .int .i64 44, .int .i64 45, .int .i64 46, .int .i64 46] 23)) (some ⟨w3.heap.size, 0, none⟩) [.int .i64 42, .int .i64 43, .int .i64 44, .int .i64 45, .int .i64 46, .int .i64 46] := cv_lit w3 _ _
      have CB1 := CB0.keptNone (World.grownBy_alloc w3 (.cells #[.int .i64 42, .int .i64 43, .int .i64 44, .int .i64 45, .int .i64 46, .int .i64 46] 23) none)
      have G4 := grown_trans G3 (World.grownBy_alloc w3 (.cells #[.int .i64 42, .int .i64 43, .int .i64 44, .int .i64 45, .int .i64 46, .int .i64 46] 23) none)
      clear CB0 G3 G2
      go_wp2
      generalize w3.alloc (.cells #[.int .i64 42, .int .i64 43, .int .i64 44, .int .i64 45, .int .i64 46, .int .i64 46] 23) = w4 at *
      generalize w3.heap.size = gc at *
      go_loopw [12] (fun s wr => ∃ j : Nat, j ≤ 6 ∧ s = .int .i64 j ∧ w.grownBy wr none ∧ CV wr (some ⟨gb, 0, none⟩) [.int .u16 8, .int .u8 0, .int .u8 0, .int .u32 (k : Int), .int .u16 3, .int .u8 0, .int .u8 0, .int .u32 (m16 : Int), .int .u16 148, .int .u8 0, .int .u8 0, .int .u32 0, .int .u16 116, .int .u8 0, .int .u8 0, .int .u32 (m32 : Int), .int .u16 5, .int .u8 0, .int .u8 0, .int .u32 (mn : Int), .int .u16 77, .int .u8 0, .int .u8 255, .int .u32 0] ∧ CV wr (some ⟨gc, 0, none⟩) [.int .i64 42, .int .i64 43, .int .i64 44, .int .i64 45, .int .i64 46, .int .i64 46]) (fun s _ => 6 - (intOf s).toNat)
      case atStart => exact ⟨0, by omega, rfl, G4, CB1, CC1⟩
      case round =>
        clear G4 CB1 CC1
        obtain ⟨j, hj, rfl, G, CB, CC⟩ := hrel
        have hii : (i : Int) < (xs.length : Int) := by omega
        have hcase : j = 0 ∨ j = 1 ∨ j = 2 ∨ j = 3 ∨ j = 4 ∨ j = 5 ∨ j = 6 := by omega
        rcases hcase with rfl | rfl | rfl | rfl | rfl | rfl | rfl
        · have hbad : badV xs.length i ⟨8, 0, 0, UInt32.ofNat k⟩ = 42 := sp0 _ _ _
          have hchk : checkV (xs.set i ⟨8, 0, 0, UInt32.ofNat k⟩) = (i, 42) := by
            have := spoilt HT.out hin ⟨8, 0, 0, UInt32.ofNat k⟩ (by rw [hbad]; decide)
            rw [hbad] at this
            exact this
          have HCK : Hid (∀ (a : Option Addr) (ca : Nat) (W : World), CV W a (flat (xs.set i ⟨8, 0, 0, UInt32.ofNat k⟩)) → Calls Try.prog 11 #[.slice a xs.length ca] W fun e w' => e = .returned (.tuple #[.int .i64 (i : Int), .int .i64 42]) ∧ W.grownBy w' none) := fun a ca W h => by
            have q := check_any a ca (xs.set i ⟨8, 0, 0, UInt32.ofNat k⟩) W h
            rw [hchk, List.length_set] at q
            exact q
          clear hbad hchk
          go_wp2_with fail
          refine (icopy_any a ca xs _ (H.out.keptNone G) hc0 (by omega)).mono ?_
          rintro e w6 ⟨v6, rfl, O6, K6⟩
          have CB6 := CB.keptNone K6
          obtain ⟨g, cap, rfl, hcap1, hcap2, hg1, hg2⟩ := owns_head O6 t1
          unfold maxLen at hcap2
          have bl := (BlkN.ofRow O6).1
          have d0 : w6.cell? ⟨gb, 0, none⟩ = some (.int .u16 8) := CB6.2 _ rfl 0 (by simp)
          have d1 : w6.cell? ⟨gb, 1, none⟩ = some (.int .u8 0) := CB6.2 _ rfl 1 (by simp)
          have d2 : w6.cell? ⟨gb, 2, none⟩ = some (.int .u8 0) := CB6.2 _ rfl 2 (by simp)
          have d3 : w6.cell? ⟨gb, 3, none⟩ = some (.int .u32 (k : Int)) := CB6.2 _ rfl 3 (by simp)
          obtain ⟨x0, hx0⟩ := bl.cell (i := i * 4) (by omega)
          have hf0 := bl.free (i * 4)
          obtain ⟨x1, hx1⟩ := bl.cell (i := i * 4 + 1) (by omega)
          have hf1 := bl.free (i * 4 + 1)
          obtain ⟨x2, hx2⟩ := bl.cell (i := i * 4 + 2) (by omega)
          have hf2 := bl.free (i * 4 + 2)
          obtain ⟨x3, hx3⟩ := bl.cell (i := i * 4 + 3) (by omega)
          have hf3 := bl.free (i * 4 + 3)
          have O7 := iset O6 hin ⟨8, 0, 0, UInt32.ofNat k⟩ (.int .u16 8) (.int .u8 0) (.int .u8 0) (.int .u32 (k : Int)) (u32_cells _ _ _ hk)
          have K7 := grown_setCell (grown_setCell (grown_setCell (grown_setCell K6 ⟨g, i * 4, none⟩ (.int .u16 8) (.inr hg1)) ⟨g, i * 4 + 1, none⟩ (.int .u8 0) (.inr hg1)) ⟨g, i * 4 + 2, none⟩ (.int .u8 0) (.inr hg1)) ⟨g, i * 4 + 3, none⟩ (.int .u32 (k : Int)) (.inr hg1)
          clear O6 K6 CB6 bl
          go_wp2_with fail
          generalize (((w6.setCell ⟨g, i * 4, none⟩ (.int .u16 8)).setCell ⟨g, i * 4 + 1, none⟩ (.int .u8 0)).setCell ⟨g, i * 4 + 2, none⟩ (.int .u8 0)).setCell ⟨g, i * 4 + 3, none⟩ (.int .u32 (k : Int)) = w7 at *
          have C7 : CV w7 (some ⟨g, 0, none⟩) (flat (xs.set i ⟨8, 0, 0, UInt32.ofNat k⟩)) := by
            obtain ⟨ao, cp, hv, C, -⟩ := cv_of_row O7
            simp only [Value.slice.injEq] at hv
            obtain ⟨rfl, -, -⟩ := hv
            exact C
          refine (HCK.out _ cap _ C7).mono ?_
          rintro e w8 ⟨rfl, K8⟩
          have K9 := grown_trans K7 K8
          have G9 := grown_trans G K9
          have CB9 := CB.keptNone K9
          have CC9 := CC.keptNone K9
          have d4 : w8.cell? ⟨gc, 0, none⟩ = some (.int .i64 42) := CC9.2 _ rfl 0 (by simp)
          clear O7 K7 C7 K8 K9 G CB CC d0 d1 d2 d3 hx0 hx1 hx2 hx3 hf0 hf1 hf2 hf3
          go_wp2
          go_roundw
          case rel => exact ⟨1, by omega, by go_num, G9, CB9, CC9⟩
          case measure => simp [intOf]
        · have hbad : badV xs.length i ⟨3, 0, 0, UInt32.ofNat m16⟩ = 43 := sp1 _ _ _ m1 m4
          have hchk : checkV (xs.set i ⟨3, 0, 0, UInt32.ofNat m16⟩) = (i, 43) := by
            have := spoilt HT.out hin ⟨3, 0, 0, UInt32.ofNat m16⟩ (by rw [hbad]; decide)
            rw [hbad] at this
            exact this
          have HCK : Hid (∀ (a : Option Addr) (ca : Nat) (W : World), CV W a (flat (xs.set i ⟨3, 0, 0, UInt32.ofNat m16⟩)) → Calls Try.prog 11 #[.slice a xs.length ca] W fun e w' => e = .returned (.tuple #[.int .i64 (i : Int), .int .i64 43]) ∧ W.grownBy w' none) := fun a ca W h => by
            have q := check_any a ca (xs.set i ⟨3, 0, 0, UInt32.ofNat m16⟩) W h
            rw [hchk, List.length_set] at q
            exact q
          clear hbad hchk
          go_wp2_with fail
          refine (icopy_any a ca xs _ (H.out.keptNone G) hc0 (by omega)).mono ?_
          rintro e w6 ⟨v6, rfl, O6, K6⟩
          have CB6 := CB.keptNone K6
          obtain ⟨g, cap, rfl, hcap1, hcap2, hg1, hg2⟩ := owns_head O6 t1
          unfold maxLen at hcap2
          have bl := (BlkN.ofRow O6).1
          have d0 : w6.cell? ⟨gb, 4, none⟩ = some (.int .u16 3) := CB6.2 _ rfl 4 (by simp)
          have d1 : w6.cell? ⟨gb, 5, none⟩ = some (.int .u8 0) := CB6.2 _ rfl 5 (by simp)
          have d2 : w6.cell? ⟨gb, 6, none⟩ = some (.int .u8 0) := CB6.2 _ rfl 6 (by simp)
          have d3 : w6.cell? ⟨gb, 7, none⟩ = some (.int .u32 (m16 : Int)) := CB6.2 _ rfl 7 (by simp)
          obtain ⟨x0, hx0⟩ := bl.cell (i := i * 4) (by omega)
          have hf0 := bl.free (i * 4)
          obtain ⟨x1, hx1⟩ := bl.cell (i := i * 4 + 1) (by omega)
          have hf1 := bl.free (i * 4 + 1)
          obtain ⟨x2, hx2⟩ := bl.cell (i := i * 4 + 2) (by omega)
          have hf2 := bl.free (i * 4 + 2)
          obtain ⟨x3, hx3⟩ := bl.cell (i := i * 4 + 3) (by omega)
          have hf3 := bl.free (i * 4 + 3)
          have O7 := iset O6 hin ⟨3, 0, 0, UInt32.ofNat m16⟩ (.int .u16 3) (.int .u8 0) (.int .u8 0) (.int .u32 (m16 : Int)) (u32_cells _ _ _ m4)
          have K7 := grown_setCell (grown_setCell (grown_setCell (grown_setCell K6 ⟨g, i * 4, none⟩ (.int .u16 3) (.inr hg1)) ⟨g, i * 4 + 1, none⟩ (.int .u8 0) (.inr hg1)) ⟨g, i * 4 + 2, none⟩ (.int .u8 0) (.inr hg1)) ⟨g, i * 4 + 3, none⟩ (.int .u32 (m16 : Int)) (.inr hg1)
          clear O6 K6 CB6 bl
          go_wp2_with fail
          generalize (((w6.setCell ⟨g, i * 4, none⟩ (.int .u16 3)).setCell ⟨g, i * 4 + 1, none⟩ (.int .u8 0)).setCell ⟨g, i * 4 + 2, none⟩ (.int .u8 0)).setCell ⟨g, i * 4 + 3, none⟩ (.int .u32 (m16 : Int)) = w7 at *
          have C7 : CV w7 (some ⟨g, 0, none⟩) (flat (xs.set i ⟨3, 0, 0, UInt32.ofNat m16⟩)) := by
            obtain ⟨ao, cp, hv, C, -⟩ := cv_of_row O7
            simp only [Value.slice.injEq] at hv
            obtain ⟨rfl, -, -⟩ := hv
            exact C
          refine (HCK.out _ cap _ C7).mono ?_
          rintro e w8 ⟨rfl, K8⟩
          have K9 := grown_trans K7 K8
          have G9 := grown_trans G K9
          have CB9 := CB.keptNone K9
          have CC9 := CC.keptNone K9
          have d4 : w8.cell? ⟨gc, 1, none⟩ = some (.int .i64 43) := CC9.2 _ rfl 1 (by simp)
          clear O7 K7 C7 K8 K9 G CB CC d0 d1 d2 d3 hx0 hx1 hx2 hx3 hf0 hf1 hf2 hf3
          go_wp2
          go_roundw
          case rel => exact ⟨2, by omega, by go_num, G9, CB9, CC9⟩
          case measure => simp [intOf]
        · have hbad : badV xs.length i ⟨148, 0, 0, 0⟩ = 44 := sp2 _ _
          have hchk : checkV (xs.set i ⟨148, 0, 0, 0⟩) = (i, 44) := by
            have := spoilt HT.out hin ⟨148, 0, 0, 0⟩ (by rw [hbad]; decide)
            rw [hbad] at this
            exact this
          have HCK : Hid (∀ (a : Option Addr) (ca : Nat) (W : World), CV W a (flat (xs.set i ⟨148, 0, 0, 0⟩)) → Calls Try.prog 11 #[.slice a xs.length ca] W fun e w' => e = .returned (.tuple #[.int .i64 (i : Int), .int .i64 44]) ∧ W.grownBy w' none) := fun a ca W h => by
            have q := check_any a ca (xs.set i ⟨148, 0, 0, 0⟩) W h
            rw [hchk, List.length_set] at q
            exact q
          clear hbad hchk
          go_wp2_with fail
          refine (icopy_any a ca xs _ (H.out.keptNone G) hc0 (by omega)).mono ?_
          rintro e w6 ⟨v6, rfl, O6, K6⟩
          have CB6 := CB.keptNone K6
          obtain ⟨g, cap, rfl, hcap1, hcap2, hg1, hg2⟩ := owns_head O6 t1
          unfold maxLen at hcap2
          have bl := (BlkN.ofRow O6).1
          have d0 : w6.cell? ⟨gb, 8, none⟩ = some (.int .u16 148) := CB6.2 _ rfl 8 (by simp)
          have d1 : w6.cell? ⟨gb, 9, none⟩ = some (.int .u8 0) := CB6.2 _ rfl 9 (by simp)
          have d2 : w6.cell? ⟨gb, 10, none⟩ = some (.int .u8 0) := CB6.2 _ rfl 10 (by simp)
          have d3 : w6.cell? ⟨gb, 11, none⟩ = some (.int .u32 0) := CB6.2 _ rfl 11 (by simp)
          obtain ⟨x0, hx0⟩ := bl.cell (i := i * 4) (by omega)
          have hf0 := bl.free (i * 4)
          obtain ⟨x1, hx1⟩ := bl.cell (i := i * 4 + 1) (by omega)
          have hf1 := bl.free (i * 4 + 1)
          obtain ⟨x2, hx2⟩ := bl.cell (i := i * 4 + 2) (by omega)
          have hf2 := bl.free (i * 4 + 2)
          obtain ⟨x3, hx3⟩ := bl.cell (i := i * 4 + 3) (by omega)
          have hf3 := bl.free (i * 4 + 3)
          have O7 := iset O6 hin ⟨148, 0, 0, 0⟩ (.int .u16 148) (.int .u8 0) (.int .u8 0) (.int .u32 0) (rfl)
          have K7 := grown_setCell (grown_setCell (grown_setCell (grown_setCell K6 ⟨g, i * 4, none⟩ (.int .u16 148) (.inr hg1)) ⟨g, i * 4 + 1, none⟩ (.int .u8 0) (.inr hg1)) ⟨g, i * 4 + 2, none⟩ (.int .u8 0) (.inr hg1)) ⟨g, i * 4 + 3, none⟩ (.int .u32 0) (.inr hg1)
          clear O6 K6 CB6 bl
          go_wp2_with fail
          generalize (((w6.setCell ⟨g, i * 4, none⟩ (.int .u16 148)).setCell ⟨g, i * 4 + 1, none⟩ (.int .u8 0)).setCell ⟨g, i * 4 + 2, none⟩ (.int .u8 0)).setCell ⟨g, i * 4 + 3, none⟩ (.int .u32 0) = w7 at *
          have C7 : CV w7 (some ⟨g, 0, none⟩) (flat (xs.set i ⟨148, 0, 0, 0⟩)) := by
            obtain ⟨ao, cp, hv, C, -⟩ := cv_of_row O7
            simp only [Value.slice.injEq] at hv
            obtain ⟨rfl, -, -⟩ := hv
            exact C
          refine (HCK.out _ cap _ C7).mono ?_
          rintro e w8 ⟨rfl, K8⟩
          have K9 := grown_trans K7 K8
          have G9 := grown_trans G K9
          have CB9 := CB.keptNone K9
          have CC9 := CC.keptNone K9
          have d4 : w8.cell? ⟨gc, 2, none⟩ = some (.int .i64 44) := CC9.2 _ rfl 2 (by simp)
          clear O7 K7 C7 K8 K9 G CB CC d0 d1 d2 d3 hx0 hx1 hx2 hx3 hf0 hf1 hf2 hf3
          go_wp2
          go_roundw
          case rel => exact ⟨3, by omega, by go_num, G9, CB9, CC9⟩
          case measure => simp [intOf]
        · have hbad : badV xs.length i ⟨116, 0, 0, UInt32.ofNat m32⟩ = 45 := sp3 _ _ _ m2 m5
          have hchk : checkV (xs.set i ⟨116, 0, 0, UInt32.ofNat m32⟩) = (i, 45) := by
            have := spoilt HT.out hin ⟨116, 0, 0, UInt32.ofNat m32⟩ (by rw [hbad]; decide)
            rw [hbad] at this
            exact this
          have HCK : Hid (∀ (a : Option Addr) (ca : Nat) (W : World), CV W a (flat (xs.set i ⟨116, 0, 0, UInt32.ofNat m32⟩)) → Calls Try.prog 11 #[.slice a xs.length ca] W fun e w' => e = .returned (.tuple #[.int .i64 (i : Int), .int .i64 45]) ∧ W.grownBy w' none) := fun a ca W h => by
            have q := check_any a ca (xs.set i ⟨116, 0, 0, UInt32.ofNat m32⟩) W h
            rw [hchk, List.length_set] at q
            exact q
          clear hbad hchk
          go_wp2_with fail
          refine (icopy_any a ca xs _ (H.out.keptNone G) hc0 (by omega)).mono ?_
          rintro e w6 ⟨v6, rfl, O6, K6⟩
          have CB6 := CB.keptNone K6
          obtain ⟨g, cap, rfl, hcap1, hcap2, hg1, hg2⟩ := owns_head O6 t1
          unfold maxLen at hcap2
          have bl := (BlkN.ofRow O6).1
          have d0 : w6.cell? ⟨gb, 12, none⟩ = some (.int .u16 116) := CB6.2 _ rfl 12 (by simp)
          have d1 : w6.cell? ⟨gb, 13, none⟩ = some (.int .u8 0) := CB6.2 _ rfl 13 (by simp)
          have d2 : w6.cell? ⟨gb, 14, none⟩ = some (.int .u8 0) := CB6.2 _ rfl 14 (by simp)
          have d3 : w6.cell? ⟨gb, 15, none⟩ = some (.int .u32 (m32 : Int)) := CB6.2 _ rfl 15 (by simp)
          obtain ⟨x0, hx0⟩ := bl.cell (i := i * 4) (by omega)
          have hf0 := bl.free (i * 4)
          obtain ⟨x1, hx1⟩ := bl.cell (i := i * 4 + 1) (by omega)
          have hf1 := bl.free (i * 4 + 1)
          obtain ⟨x2, hx2⟩ := bl.cell (i := i * 4 + 2) (by omega)
          have hf2 := bl.free (i * 4 + 2)
          obtain ⟨x3, hx3⟩ := bl.cell (i := i * 4 + 3) (by omega)
          have hf3 := bl.free (i * 4 + 3)
          have O7 := iset O6 hin ⟨116, 0, 0, UInt32.ofNat m32⟩ (.int .u16 116) (.int .u8 0) (.int .u8 0) (.int .u32 (m32 : Int)) (u32_cells _ _ _ m5)
          have K7 := grown_setCell (grown_setCell (grown_setCell (grown_setCell K6 ⟨g, i * 4, none⟩ (.int .u16 116) (.inr hg1)) ⟨g, i * 4 + 1, none⟩ (.int .u8 0) (.inr hg1)) ⟨g, i * 4 + 2, none⟩ (.int .u8 0) (.inr hg1)) ⟨g, i * 4 + 3, none⟩ (.int .u32 (m32 : Int)) (.inr hg1)
          clear O6 K6 CB6 bl
          go_wp2_with fail
          generalize (((w6.setCell ⟨g, i * 4, none⟩ (.int .u16 116)).setCell ⟨g, i * 4 + 1, none⟩ (.int .u8 0)).setCell ⟨g, i * 4 + 2, none⟩ (.int .u8 0)).setCell ⟨g, i * 4 + 3, none⟩ (.int .u32 (m32 : Int)) = w7 at *
          have C7 : CV w7 (some ⟨g, 0, none⟩) (flat (xs.set i ⟨116, 0, 0, UInt32.ofNat m32⟩)) := by
            obtain ⟨ao, cp, hv, C, -⟩ := cv_of_row O7
            simp only [Value.slice.injEq] at hv
            obtain ⟨rfl, -, -⟩ := hv
            exact C
          refine (HCK.out _ cap _ C7).mono ?_
          rintro e w8 ⟨rfl, K8⟩
          have K9 := grown_trans K7 K8
          have G9 := grown_trans G K9
          have CB9 := CB.keptNone K9
          have CC9 := CC.keptNone K9
          have d4 : w8.cell? ⟨gc, 3, none⟩ = some (.int .i64 45) := CC9.2 _ rfl 3 (by simp)
          clear O7 K7 C7 K8 K9 G CB CC d0 d1 d2 d3 hx0 hx1 hx2 hx3 hf0 hf1 hf2 hf3
          go_wp2
          go_roundw
          case rel => exact ⟨4, by omega, by go_num, G9, CB9, CC9⟩
          case measure => simp [intOf]
        · have hbad : badV xs.length i ⟨5, 0, 0, UInt32.ofNat mn⟩ = 46 := sp4 _ _ _ (by omega) m6
          have hchk : checkV (xs.set i ⟨5, 0, 0, UInt32.ofNat mn⟩) = (i, 46) := by
            have := spoilt HT.out hin ⟨5, 0, 0, UInt32.ofNat mn⟩ (by rw [hbad]; decide)
            rw [hbad] at this
            exact this
          have HCK : Hid (∀ (a : Option Addr) (ca : Nat) (W : World), CV W a (flat (xs.set i ⟨5, 0, 0, UInt32.ofNat mn⟩)) → Calls Try.prog 11 #[.slice a xs.length ca] W fun e w' => e = .returned (.tuple #[.int .i64 (i : Int), .int .i64 46]) ∧ W.grownBy w' none) := fun a ca W h => by
            have q := check_any a ca (xs.set i ⟨5, 0, 0, UInt32.ofNat mn⟩) W h
            rw [hchk, List.length_set] at q
            exact q
          clear hbad hchk
          go_wp2_with fail
          refine (icopy_any a ca xs _ (H.out.keptNone G) hc0 (by omega)).mono ?_
          rintro e w6 ⟨v6, rfl, O6, K6⟩
          have CB6 := CB.keptNone K6
          obtain ⟨g, cap, rfl, hcap1, hcap2, hg1, hg2⟩ := owns_head O6 t1
          unfold maxLen at hcap2
          have bl := (BlkN.ofRow O6).1
          have d0 : w6.cell? ⟨gb, 16, none⟩ = some (.int .u16 5) := CB6.2 _ rfl 16 (by simp)
          have d1 : w6.cell? ⟨gb, 17, none⟩ = some (.int .u8 0) := CB6.2 _ rfl 17 (by simp)
          have d2 : w6.cell? ⟨gb, 18, none⟩ = some (.int .u8 0) := CB6.2 _ rfl 18 (by simp)
          have d3 : w6.cell? ⟨gb, 19, none⟩ = some (.int .u32 (mn : Int)) := CB6.2 _ rfl 19 (by simp)
          obtain ⟨x0, hx0⟩ := bl.cell (i := i * 4) (by omega)
          have hf0 := bl.free (i * 4)
          obtain ⟨x1, hx1⟩ := bl.cell (i := i * 4 + 1) (by omega)
          have hf1 := bl.free (i * 4 + 1)
          obtain ⟨x2, hx2⟩ := bl.cell (i := i * 4 + 2) (by omega)
          have hf2 := bl.free (i * 4 + 2)
          obtain ⟨x3, hx3⟩ := bl.cell (i := i * 4 + 3) (by omega)
          have hf3 := bl.free (i * 4 + 3)
          have O7 := iset O6 hin ⟨5, 0, 0, UInt32.ofNat mn⟩ (.int .u16 5) (.int .u8 0) (.int .u8 0) (.int .u32 (mn : Int)) (u32_cells _ _ _ m6)
          have K7 := grown_setCell (grown_setCell (grown_setCell (grown_setCell K6 ⟨g, i * 4, none⟩ (.int .u16 5) (.inr hg1)) ⟨g, i * 4 + 1, none⟩ (.int .u8 0) (.inr hg1)) ⟨g, i * 4 + 2, none⟩ (.int .u8 0) (.inr hg1)) ⟨g, i * 4 + 3, none⟩ (.int .u32 (mn : Int)) (.inr hg1)
          clear O6 K6 CB6 bl
          go_wp2_with fail
          generalize (((w6.setCell ⟨g, i * 4, none⟩ (.int .u16 5)).setCell ⟨g, i * 4 + 1, none⟩ (.int .u8 0)).setCell ⟨g, i * 4 + 2, none⟩ (.int .u8 0)).setCell ⟨g, i * 4 + 3, none⟩ (.int .u32 (mn : Int)) = w7 at *
          have C7 : CV w7 (some ⟨g, 0, none⟩) (flat (xs.set i ⟨5, 0, 0, UInt32.ofNat mn⟩)) := by
            obtain ⟨ao, cp, hv, C, -⟩ := cv_of_row O7
            simp only [Value.slice.injEq] at hv
            obtain ⟨rfl, -, -⟩ := hv
            exact C
          refine (HCK.out _ cap _ C7).mono ?_
          rintro e w8 ⟨rfl, K8⟩
          have K9 := grown_trans K7 K8
          have G9 := grown_trans G K9
          have CB9 := CB.keptNone K9
          have CC9 := CC.keptNone K9
          have d4 : w8.cell? ⟨gc, 4, none⟩ = some (.int .i64 46) := CC9.2 _ rfl 4 (by simp)
          clear O7 K7 C7 K8 K9 G CB CC d0 d1 d2 d3 hx0 hx1 hx2 hx3 hf0 hf1 hf2 hf3
          go_wp2
          go_roundw
          case rel => exact ⟨5, by omega, by go_num, G9, CB9, CC9⟩
          case measure => simp [intOf]
        · by_cases h200 : 200 < xs.length
          · have h200' : (200 : Int) < (xs.length : Int) := by omega
            go_wp2
            go_roundw
            case rel => exact ⟨6, by omega, by go_num, G, CB, CC⟩
            case measure => simp [intOf]
          · have h200' : ¬ ((200 : Int) < (xs.length : Int)) := by omega
            have hbad : badV xs.length i ⟨77, 0, 255, 0⟩ = 46 := sp5 _ _ (by omega)
            have hchk : checkV (xs.set i ⟨77, 0, 255, 0⟩) = (i, 46) := by
              have := spoilt HT.out hin ⟨77, 0, 255, 0⟩ (by rw [hbad]; decide)
              rw [hbad] at this
              exact this
            have HCK : Hid (∀ (a : Option Addr) (ca : Nat) (W : World), CV W a (flat (xs.set i ⟨77, 0, 255, 0⟩)) → Calls Try.prog 11 #[.slice a xs.length ca] W fun e w' => e = .returned (.tuple #[.int .i64 (i : Int), .int .i64 46]) ∧ W.grownBy w' none) := fun a ca W h => by
              have q := check_any a ca (xs.set i ⟨77, 0, 255, 0⟩) W h
              rw [hchk, List.length_set] at q
              exact q
            clear hbad hchk
            go_wp2_with fail
            refine (icopy_any a ca xs _ (H.out.keptNone G) hc0 (by omega)).mono ?_
            rintro e w6 ⟨v6, rfl, O6, K6⟩
            have CB6 := CB.keptNone K6
            obtain ⟨g, cap, rfl, hcap1, hcap2, hg1, hg2⟩ := owns_head O6 t1
            unfold maxLen at hcap2
            have bl := (BlkN.ofRow O6).1
            have d0 : w6.cell? ⟨gb, 20, none⟩ = some (.int .u16 77) := CB6.2 _ rfl 20 (by simp)
            have d1 : w6.cell? ⟨gb, 21, none⟩ = some (.int .u8 0) := CB6.2 _ rfl 21 (by simp)
            have d2 : w6.cell? ⟨gb, 22, none⟩ = some (.int .u8 255) := CB6.2 _ rfl 22 (by simp)
            have d3 : w6.cell? ⟨gb, 23, none⟩ = some (.int .u32 0) := CB6.2 _ rfl 23 (by simp)
            obtain ⟨x0, hx0⟩ := bl.cell (i := i * 4) (by omega)
            have hf0 := bl.free (i * 4)
            obtain ⟨x1, hx1⟩ := bl.cell (i := i * 4 + 1) (by omega)
            have hf1 := bl.free (i * 4 + 1)
            obtain ⟨x2, hx2⟩ := bl.cell (i := i * 4 + 2) (by omega)
            have hf2 := bl.free (i * 4 + 2)
            obtain ⟨x3, hx3⟩ := bl.cell (i := i * 4 + 3) (by omega)
            have hf3 := bl.free (i * 4 + 3)
            have O7 := iset O6 hin ⟨77, 0, 255, 0⟩ (.int .u16 77) (.int .u8 0) (.int .u8 255) (.int .u32 0) (rfl)
            have K7 := grown_setCell (grown_setCell (grown_setCell (grown_setCell K6 ⟨g, i * 4, none⟩ (.int .u16 77) (.inr hg1)) ⟨g, i * 4 + 1, none⟩ (.int .u8 0) (.inr hg1)) ⟨g, i * 4 + 2, none⟩ (.int .u8 255) (.inr hg1)) ⟨g, i * 4 + 3, none⟩ (.int .u32 0) (.inr hg1)
            clear O6 K6 CB6 bl
            go_wp2_with fail
            generalize (((w6.setCell ⟨g, i * 4, none⟩ (.int .u16 77)).setCell ⟨g, i * 4 + 1, none⟩ (.int .u8 0)).setCell ⟨g, i * 4 + 2, none⟩ (.int .u8 255)).setCell ⟨g, i * 4 + 3, none⟩ (.int .u32 0) = w7 at *
            have C7 : CV w7 (some ⟨g, 0, none⟩) (flat (xs.set i ⟨77, 0, 255, 0⟩)) := by
              obtain ⟨ao, cp, hv, C, -⟩ := cv_of_row O7
              simp only [Value.slice.injEq] at hv
              obtain ⟨rfl, -, -⟩ := hv
              exact C
            refine (HCK.out _ cap _ C7).mono ?_
            rintro e w8 ⟨rfl, K8⟩
            have K9 := grown_trans K7 K8
            have G9 := grown_trans G K9
            have CB9 := CB.keptNone K9
            have CC9 := CC.keptNone K9
            have d4 : w8.cell? ⟨gc, 5, none⟩ = some (.int .i64 46) := CC9.2 _ rfl 5 (by simp)
            clear O7 K7 C7 K8 K9 G CB CC d0 d1 d2 d3 hx0 hx1 hx2 hx3 hf0 hf1 hf2 hf3
            go_wp2
            go_roundw
            case rel => exact ⟨6, by omega, by go_num, G9, CB9, CC9⟩
            case measure => simp [intOf]
        · go_wp2_with fail
          refine (icopy_any a ca xs _ (H.out.keptNone G) hc0 (by omega)).mono ?_
          rintro e w6 ⟨v6, rfl, O6, K6⟩
          have hchk := spoilt_end HT.out
          have HCK : Hid (∀ (a : Option Addr) (ca : Nat) (W : World), CV W a (flat (xs.set (xs.length - 1) ⟨132, 0, 0, 0⟩)) → Calls Try.prog 11 #[.slice a xs.length ca] W fun e w' => e = .returned (.tuple #[.int .i64 ((xs.length - 1 : Nat) : Int), .int .i64 47]) ∧ W.grownBy w' none) := fun a ca W h => by
            have q := check_any a ca (xs.set (xs.length - 1) ⟨132, 0, 0, 0⟩) W h
            rw [hchk, List.length_set] at q
            exact q
          clear hchk
          obtain ⟨g, cap, rfl, hcap1, hcap2, hg1, hg2⟩ := owns_head O6 t1
          unfold maxLen at hcap2
          have bl := (BlkN.ofRow O6).1
          have hl1 : xs.length - 1 < xs.length := by omega
          have i0 : (0 : Int) ≤ (xs.length : Int) - 1 := by omega
          have i1 : (xs.length : Int) - 1 < (xs.length : Int) := by omega
          have i2 : ((xs.length : Int) - 1).toNat = xs.length - 1 := by omega
          have i3 : ((xs.length - 1 : Nat) : Int) = (xs.length : Int) - 1 := by omega
          obtain ⟨x0, hx0⟩ := bl.cell (i := (xs.length - 1) * 4) (by omega)
          have hf0 := bl.free ((xs.length - 1) * 4)
          obtain ⟨x1, hx1⟩ := bl.cell (i := (xs.length - 1) * 4 + 1) (by omega)
          have hf1 := bl.free ((xs.length - 1) * 4 + 1)
          obtain ⟨x2, hx2⟩ := bl.cell (i := (xs.length - 1) * 4 + 2) (by omega)
          have hf2 := bl.free ((xs.length - 1) * 4 + 2)
          obtain ⟨x3, hx3⟩ := bl.cell (i := (xs.length - 1) * 4 + 3) (by omega)
          have hf3 := bl.free ((xs.length - 1) * 4 + 3)
          have O7 := iset O6 hl1 ⟨132, 0, 0, 0⟩ (.int .u16 132) (.int .u8 0) (.int .u8 0) (.int .u32 0) rfl
          have K7 := grown_setCell (grown_setCell (grown_setCell (grown_setCell K6 ⟨g, (xs.length - 1) * 4, none⟩ (.int .u16 132) (.inr hg1)) ⟨g, (xs.length - 1) * 4 + 1, none⟩ (.int .u8 0) (.inr hg1)) ⟨g, (xs.length - 1) * 4 + 2, none⟩ (.int .u8 0) (.inr hg1)) ⟨g, (xs.length - 1) * 4 + 3, none⟩ (.int .u32 0) (.inr hg1)
          clear O6 K6 bl CB CC
          go_wp2_with fail
          generalize (((w6.setCell ⟨g, (xs.length - 1) * 4, none⟩ (.int .u16 132)).setCell ⟨g, (xs.length - 1) * 4 + 1, none⟩ (.int .u8 0)).setCell ⟨g, (xs.length - 1) * 4 + 2, none⟩ (.int .u8 0)).setCell ⟨g, (xs.length - 1) * 4 + 3, none⟩ (.int .u32 0) = w7 at *
          have C7 : CV w7 (some ⟨g, 0, none⟩) (flat (xs.set (xs.length - 1) ⟨132, 0, 0, 0⟩)) := by
            obtain ⟨ao, cp, hv, C, -⟩ := cv_of_row O7
            simp only [Value.slice.injEq] at hv
            obtain ⟨rfl, -, -⟩ := hv
            exact C
          refine (HCK.out _ cap _ C7).mono ?_
          rintro e w8 ⟨rfl, K8⟩
          have G9 := grown_trans G (grown_trans K7 K8)
          rw [i3]
          clear O7 K7 C7 K8 G hx0 hx1 hx2 hx3 hf0 hf1 hf2 hf3
          go_wp2_with fail
          refine (awake4_any _).mono ?_
          rintro e w10 ⟨rfl, K10⟩
          have G10 := grown_trans G9 K10
          clear G9 K10
          go_wp2
          go_ret
          exact ⟨rfl, G10⟩

set_option maxRecDepth 100000 in
theorem lifted (os : Os) (started : os.Started) (H : Type) (enc : TypeId × Value → H) :
    ReturnsInHanded {} Try.checked os 8 .any (Rows.checkSpoiltSpec.pre6 enc Try.prog Try.f8 Rows.checkSpoiltRow.domain false) (Rows.checkSpoiltSpec.post enc Try.prog Try.f8 false true false false) := by
  refine returnsInHanded_of_change_sized (C := Try.checked) own started (by kernel_rfl) Try.func8
    (ChangeSpec.witness6 (enc := enc) (C := Try.checked) false ⟨#[], #[.slice none 0 0, .int .i64 0, .int .u32 0], []⟩ 8 (by kernel_rfl) (by kernel_rfl) (by kernel_rfl) (by kernel_rfl)) ?_
  intro W base args ds gs before hval0 hW hcnd hsz0 _
  have hsz : (DataW.weightsEach Try.prog (Try.f8.params.toList ++ Rows.checkSpoiltSpec.plain.varTypes Try.prog) (ds ++ gs)).all (· ≤ reachBytes) = true := hsz0
  have hval : ∀ (j : Nat) t v, Try.f8.params[j]? = some t → args[j]? = some v → Value.okWide Try.prog W .any base t v := hval0
  have hW' := hW
  obtain ⟨p, q, hA0, hV, rfl, hfz, hnd⟩ := hW
  have hA : DataW.TrodAll enc Try.prog W 0 (fun _ => true) true Try.f8.params.toList args.toList ds p := hA0
  rw [Try.params8] at hA hval hsz
  obtain ⟨v0, vs0, d0, ds0, p0, q0, hargs, rfl, rfl, h0, r0⟩ := trodAll_cons hA
  obtain ⟨v1, vs1, d1, ds1, p1, q1, rfl, rfl, rfl, h1, r1⟩ := trodAll_cons r0
  obtain ⟨v2, vs2, d2, ds2, p2, q2, rfl, rfl, rfl, h2, r2⟩ := trodAll_cons r1
  obtain ⟨rfl, rfl, rfl⟩ := trodAll_nil r2
  obtain rfl : args = #[v0, v1, v2] := by cases args; simp_all
  obtain ⟨rfl, rfl⟩ := trodVars_none hV
  obtain ⟨a0, len0, cap0, rfl⟩ := okWide_slice Try.underlying22 (hval 0 22 v0 rfl rfl)
  have k0 := h0
  have lt0 : ∀ x ∈ p0, x.block < W.heap.size := by obtain ⟨m, hm⟩ := k0; exact DataW.trod_lt m _ _ _ hm
  obtain ⟨xs0, rfl, hcells0, hnil0, hcp0, hdat0⟩ := open_insns h0
  obtain ⟨x1, rfl, rfl, rfl, w1⟩ := open_int Try.underlying3 (hval 1 3 v1 rfl rfl) h1
  obtain ⟨y2, rfl, rfl, rfl, w2⟩ := open_int Try.underlying42 (hval 2 42 v2 rfl rfl) h2
  have bd2 := bounds_u32 w2
  obtain ⟨x2, rfl⟩ := Int.eq_ofNat_of_zero_le bd2.1
  have hv2 : x2 ≤ 4294967295 := by omega
  have hlen0 : xs0.length * 8 ≤ 140737488351232 := by
    rcases hdat0 with ⟨_, rfl⟩ | ⟨elems, spare, rfl, hle⟩
    · simp
    · have := sized_slice hsz (j := 0) (t := 22) (e := 44) rfl rfl Try.underlying22
      rw [bytes44] at this
      unfold reachBytes at this
      omega
  clear hA0 hval0
  refine (walk a0 cap0 xs0 x1 x2 W hcells0 hnil0 hcp0.1 hcp0.2 (by omega) hv2).mono fun e W' ⟨he, hg⟩ => ?_
  subst he
  have bel : Below W.heap.size W W' := (Below.refl _ _).grown hg (Nat.le_refl _) (by simp)
  exact ⟨_, rfl, _, _, _, [], _, [], hW', trodAll_mk1 (shut_bool Try.underlying4 _), (trodAll_cons_mk (Below.trod laidOut (by kernel_rfl) (of_decide_eq_true (by kernel_rfl)) k0 bel lt0) (trodAll_cons_mk (shut_int Try.underlying3 w1) (trodAll_cons_mk (shut_int Try.underlying42 w2) trodAll_mk0))), rfl, bel.frame _, fun h => by cases h⟩

theorem over : Rows.CheckSpoiltSaid :=
  OpenClaim.holds_of_wide 8 Try.f8 rfl rfl rfl rfl rfl rfl rfl ⟨rfl, rfl, rfl, rfl, rfl⟩ rfl rfl rfl rfl rfl (by kernel_rfl) Try.func8 (by kernel_rfl)
    (of_decide_eq_true (by kernel_rfl)) (by unfold Func.isWrapper; first | (rw [if_pos (by decide +kernel)]; kernel_rfl) | (rw [if_neg (by decide +kernel)]; exact ⟨rfl, rfl⟩))
    (fun os started H enc _ => lifted os started H enc)

end checkSpoilt

theorem checkSpoilt_holds : Rows.CheckSpoiltSaid := checkSpoilt.over
#print axioms checkSpoilt_holds
end Go.Proofs.Ytibaednekfjonaa
