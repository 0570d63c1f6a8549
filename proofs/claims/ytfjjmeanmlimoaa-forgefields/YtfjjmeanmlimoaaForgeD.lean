/-
  The document's own carried.
-/
import Derived.Test.YtfjjmeanmlimoaaForgeC
namespace Go.Proofs.Ytfjjmeanmlimoaa
open Go.RowKit
set_option maxRecDepth 100000

def preV8 (s : Sp) : List UInt8 := if s.ports = true then be2 s.frm ++ be2 s.til else []
theorem load_pre (s : Sp) : loadV s = preV8 s ++ s.data := rfl
theorem pre_len (s : Sp) : (preV8 s).length ≤ 4 := by
  unfold preV8
  split <;> simp [be2]

set_option maxRecDepth 100000 in
set_option maxHeartbeats 4000000 in
theorem carried_any (s : Sp) (a : Option Addr) (ca : Nat) (w : World) (ok : s.ok) (hD : Cells w a s.data) (hc0 : a = none → ca = 0) (hdl : s.data.length ≤ 65535) (hx : 0 ≤ s.next ∧ s.next ≤ 255) :
    Calls Try.prog 22 #[.agg (spA s a ca)] w fun e w' => ∃ v, e = .returned v ∧ Owns w' w.heap.size v (carV s) ∧ w.grownBy w' none := by
  obtain ⟨i0, hi, hz0, hz1, hz2⟩ := info_parts info5
  have S0 := VAt.alloc w 28 (spA s a ca)
  have G0 : w.grownBy (w.alloc (.cells (spA s a ca) 28)) none := World.grownBy_alloc _ _ _
  have H : Hid (Cells w a s.data) := hD
  have HOK : Hid s.ok := ok
  obtain ⟨R, hR⟩ : ∃ R, carV s = R := ⟨_, rfl⟩
  rw [hR]
  have HRR : Hid (carV s = R) := hR
  have I1 : CI w w.heap.size (w.alloc (.cells (spA s a ca) 28)).heap.size (w.alloc (.cells (spA s a ca) 28)).heap.size s a ca (.slice none 0 0) [] (.slice none 0 0) [] (w.alloc (.cells (spA s a ca) 28)) :=
    ⟨⟨S0, ok⟩, World.ownsRow_nil _ _ _ _, World.ownsRow_nil _ _ _ _, G0, Nat.le_refl _, S0.lt, Nat.le_refl _, fun x hx => (by cases hx), Nat.le_refl _⟩
  clear hD hR S0 G0 ok
  go_enter Try.func22, Try.ntmps22
  go_upto_region 1 with fail
  have HC0 : Hid (w.heap.size ≤ w.heap.size) := Nat.le_refl _
  generalize w.alloc (.cells (spA s a ca) 28) = w1 at *
  obtain ⟨C, hC⟩ : ∃ C, w.heap.size = C := ⟨_, rfl⟩
  have HCC : Hid (w.heap.size = C) := hC
  rw [hC] at I1 ⊢
  clear hC HC0
  obtain ⟨b1, hb1⟩ : ∃ b, w1.heap.size = b := ⟨_, rfl⟩
  rw [hb1] at I1
  have HI1 : Hid (CI w C b1 b1 s a ca (.slice none 0 0) [] (.slice none 0 0) [] w1) := I1
  clear hb1 I1
  have c40 := HI1.out.sp.four.1
  go_upto_if 7 with fail
  go_cut [3, 7] from 8 to 14 (fun v _ wx => Hid (CI w C b1 b1 s a ca (.slice none 0 0) [] v (preV8 s) wx))
  case first =>
    cases hp : s.ports with
    | false =>
      rw [hp] at c40
      have e : preV8 s = [] := by rw [preV8, if_neg (by rw [hp]; simp)]
      have HN : Hid (CI w C b1 b1 s a ca (.slice none 0 0) [] (.slice none 0 0) (preV8 s) w1) := by
        show CI _ _ _ _ _ _ _ _ _ _ _ _
        rw [e]
        exact HI1.out
      go_wp2
      go_meet
      exact HN
    | true =>
      rw [hp] at c40
      have e : preV8 s = be2 s.frm ++ be2 s.til := by rw [preV8, if_pos hp]
      obtain ⟨-, c41, c42, -⟩ := HI1.out.sp.four
      have HB1 : Hid (∀ W : World, Calls Try.prog 43 #[.int .u32 (s.frm : Int), .int .i64 2] W fun e w' => ∃ u, e = .returned u ∧ Owns w' W.heap.size u (be2 s.frm) ∧ W.grownBy w' none) := fun W => by
        have k := bytes_any 2 s.frm 2 rfl (.inr (.inl rfl)) HOK.out.frm W
        rw [be2_eq] at k
        exact k
      have HB2 : Hid (∀ W : World, Calls Try.prog 43 #[.int .u32 (s.til : Int), .int .i64 2] W fun e w' => ∃ u, e = .returned u ∧ Owns w' W.heap.size u (be2 s.til) ∧ W.grownBy w' none) := fun W => by
        have k := bytes_any 2 s.til 2 rfl (.inr (.inl rfl)) HOK.out.til W
        rw [be2_eq] at k
        exact k
      go_upto_region 3 with fail
      have hb1 := HI1.out.b2w
      go_region_law (first
        | (refine step_append_rd rfl (.tmp 10) (.tmp 13) 26 rfl i0 Try.underlying26 hi hz0 hz1 hz2 b1 u1 (be2 s.frm) (by simp [Act.eval]) O2'.out.1 ad2 cap2 (be2 s.til) (by simp [Act.eval]) HC2.out (by simp [be2]) (by have := O2'.out.2.size; omega) ?_; intro u3 w4 O4 K4)
        | (go_simp; go_at_call_of 43 (Value.int IntKind.u32 (s.frm : Int)); refine (HB1.out _).mono ?_; rintro e w2 ⟨u1, rfl, O1, K1⟩; have K1' : Hid (w1.grownBy w2 none) := (by first | exact K1 | exact grown_trans (grown_drewN w1 1 none) K1); have O1' : Hid (Owns w2 b1 u1 (be2 s.frm)) := owns_mono O1 hb1; have c42' := K1'.out.cell c42 (by simp))
        | (go_simp; go_at_call_of 43 (Value.int IntKind.u32 (s.til : Int)); refine (HB2.out _).mono ?_; rintro e w3 ⟨u2, rfl, O2, K2⟩; have O2' : Hid (Owns w3 b1 u1 (be2 s.frm) ∧ w1.grownBy w3 none) := ⟨owns_keptNone O1'.out K2, grown_trans K1'.out K2⟩; obtain ⟨ao2, cap2, rfl, C2, -⟩ := O2.cells; obtain ⟨ad2, rfl⟩ : ∃ ad, ao2 = some ad := (by cases ao2 with | none => exact absurd (C2.1 rfl) (by simp [be2]) | some ad => exact ⟨ad, rfl⟩); have HC2 : Hid (Cells w3 (some ad2) (be2 s.til)) := C2))
      all_goals
        rename_i u3 w4 O4 K4
        have HN : Hid (CI w C b1 b1 s a ca (.slice none 0 0) [] u3 (preV8 s) w4) := by
          show CI _ _ _ _ _ _ _ _ _ _ _ _
          rw [e]
          have I3 : CI w C b1 b1 s a ca (.slice none 0 0) [] u1 (be2 s.frm) w3 := ⟨HI1.out.sp.kept O2'.out.2, World.ownsRow_nil _ _ _ _, O2'.out.1, grown_trans HI1.out.up O2'.out.2, HI1.out.c0, HI1.out.c1, Nat.le_refl _, fun x hx => (by cases hx), Nat.le_trans hb1 O2'.out.2.size⟩
          exact I3.app O4 K4
        go_wp2
        go_meet
        exact HN
  case rest =>
  have HI := hcut
  have c43 := HI.out.sp.four.2.2.2
  have hpl := pre_len s
  go_upto_region 4 with fail
  go_wp2_with (at_builtin; refine wpList_append_rd rfl (.tmp 15) (.tmp 17) 26 rfl i0 Try.underlying26 hi hz0 hz1 hz2 b1 _ (preV8 s) rfl ?q1 a ca s.data rfl hc0 ?q2 ?q3 ?q4 ?q5)
  case q1 => exact HI.out.oh
  case q2 => exact H.out.keptNone HI.out.up
  case q3 => omega
  case q4 => exact HI.out.b2w
  case q5 =>
  intro vl w5 O5 K5
  have HI5 : Hid (CI w C b1 b1 s a ca (.slice none 0 0) [] vl (loadV s) w5) := HI.out.app O5 K5
  have hll : (loadV s).length ≤ 65539 := by rw [load_pre, List.length_append]; omega
  clear HI O5 K5 c43 c40 HI1 hcut
  obtain ⟨c0, c1, c2, c3, c4, c5, c6, c7⟩ := HI5.out.sp.eight
  clear c0 c1 c4 c5
  have HEND : Hid (∀ (v : Value) (W : World) (b : Nat), w.heap.size ≤ b → Owns W b v R → w.grownBy W none → ∃ v', Ending.returned v = .returned v' ∧ Owns W w.heap.size v' R ∧ w.grownBy W none) := fun v W b hb h g => ⟨v, rfl, owns_mono h hb, g⟩
  obtain ⟨nb, hnb⟩ : ∃ nb : UInt8, s.next = (nb.toNat : Int) := ⟨UInt8.ofNat s.next.toNat, by rw [u8_of]; omega⟩
  have hnx : UInt8.ofNat s.next.toNat = nb := by rw [hnb]; simp
  obtain ⟨ld, hld⟩ : ∃ ld, loadV s = ld := ⟨_, rfl⟩
  have HLD : Hid (loadV s = ld) := hld
  rw [hld] at HI5 hll
  have HT4 : Hid ((s.src.take 4).length = 4 ∧ (s.dst.take 4).length = 4) := by
    have := HOK.out.src
    have := HOK.out.dst
    exact ⟨by rw [List.length_take]; omega, by rw [List.length_take]; omega⟩
  obtain ⟨aol, capl, rfl, CLD, hl0⟩ := HI5.out.oh.cells
  clear CLD hld
  have hd : (s.multi = true ∧ s.beg = false) ∨ s.multi = false ∨ (s.multi = true ∧ s.beg = true) := by
    cases s.multi <;> cases s.beg <;> simp
  by_cases hmute : s.multi = true ∧ s.beg = false
  · rw [hmute.1] at c2
    rw [hmute.2] at c3
    go_wp2
    go_ret
    refine HEND.out _ _ b1 (by have := HI5.out.c0; have := HI5.out.c1; omega) ?_ HI5.out.up
    have hfin : R = ld := by rw [← HRR.out, carV, if_pos hmute, HLD.out]
    rw [hfin]
    exact HI5.out.oh
  have HMUTE : Hid (¬ (s.multi = true ∧ s.beg = false)) := hmute
  go_upto_region 5 with fail
  go_cut [25] from 19 to 25 (fun x wx => x = .bool false ∧ wx = w5)
  case first =>
    rcases hd with hd | hd | hd
    · exact absurd hd hmute
    · rw [hd] at c2
      go_wp2
      go_meet
      exact ⟨rfl, rfl⟩
    · rw [hd.1] at c2
      rw [hd.2] at c3
      go_wp2
      go_meet
      exact ⟨rfl, rfl⟩
  case rest =>
  obtain ⟨rfl, rfl⟩ := hcut
  have hW : Hid (wc = wc) := rfl
  clear hmute hd hW
  generalize wc = w5 at *
  by_cases h33 : s.proto = 33
  · have HBN : Hid (∀ W : World, Calls Try.prog 43 #[.int .u32 (20 + (ld.length : Int)), .int .i64 2] W fun e w' => ∃ u, e = .returned u ∧ Owns w' W.heap.size u (be2 (20 + ld.length)) ∧ W.grownBy w' none) := fun W => by
      have k := bytes_any 2 (20 + ld.length) 2 rfl (.inr (.inl rfl)) (by omega) W
      rw [be2_eq, show ((20 + ld.length : Nat) : Int) = 20 + (ld.length : Int) by omega] at k
      exact k
    have h33' : ((s.proto : Int) == 33) = true := by rw [h33]; rfl
    have IN : CI w C b1 w5.heap.size s a ca (.slice aol ld.length capl) ld (.slice (some ⟨w5.heap.size, 0, none⟩) 2 2) [69, 0] (w5.alloc (.cells #[.int .u8 69, .int .u8 0] 5)) := CI.new (h := [69, 0]) HI5.out.sp HI5.out.oh HI5.out.up HI5.out.c0 HI5.out.c1 HI5.out.b2w (by unfold maxLen; simp)
    go_upto_region 9 with fail
    generalize w5.alloc (.cells #[.int .u8 69, .int .u8 0] 5) = w6 at *
    generalize w5.heap.size = b2 at *
    have J6 : Hid (CI w C b1 b2 s a ca (.slice aol ld.length capl) ld (.slice (some ⟨b2, 0, none⟩) 2 2) [69, 0] w6) := IN
    clear IN HI5 c2 c3 c6 c7
    go_wp2_with fail
    refine (HBN.out _).mono ?_
    rintro e w7 ⟨u7, rfl, O7, K7⟩
    obtain ⟨ao7, cap7, rfl, C7, hn7⟩ := O7.cells
    have J7 : Hid (CI w C b1 b2 s a ca (.slice aol ld.length capl) ld (.slice (some ⟨b2, 0, none⟩) 2 2) [69, 0] w7) := J6.out.kept K7
    have HC7 : Hid (Cells w7 ao7 (be2 (20 + ld.length))) := C7
    clear J6 O7 K7 C7
    go_wp2_with (at_builtin; refine wpList_append_rd rfl (.tmp 31) (.tmp 36) 26 rfl i0 Try.underlying26 hi hz0 hz1 hz2 b2 _ ([69, 0]) rfl ?r1a ao7 cap7 (be2 (20 + ld.length)) rfl hn7 ?r1b ?r1c ?r1d ?r1e)
    case r1a => exact (J7.out).oh
    case r1b => exact HC7.out
    case r1c => (have q1 := HOK.out.src; have q2 := HOK.out.dst; have q3 := HT4.out; first | omega | (simp; omega) | (simp [be2]; done))
    case r1d => exact (J7.out).b2w
    case r1e =>
    intro v8 w8 O K
    obtain ⟨h8, eh8⟩ : ∃ c, [69, 0] ++ be2 (20 + ld.length) = c := ⟨_, rfl⟩
    have J8 : Hid (CI w C b1 b2 s a ca (.slice aol ld.length capl) ld v8 h8 w8) := by
      show CI _ _ _ _ _ _ _ _ _ _ _ _
      rw [← eh8]
      exact (J7.out).app O K
    have Eh8 : Hid ([69, 0] ++ be2 (20 + ld.length) = h8) := eh8
    have lh8 : h8.length ≤ 40 := by
      rw [← eh8, List.length_append]
      have q1 := HOK.out.src
      have q2 := HOK.out.dst
      have q3 := HT4.out
      have q6 : ([69, 0] : List UInt8).length = 2 := rfl
      have q4 : (be2 (20 + ld.length)).length = 2 := rfl
      omega
    clear eh8
    clear O K
    have c7 := J8.out.sp.eight.2.2.2.2.2.2.2
    rw [hnb] at c7
    go_wp2_with (at_builtin; refine wpList_append_rd rfl (.tmp 38) (.tmp 42) 26 rfl i0 Try.underlying26 hi hz0 hz1 hz2 b2 _ (h8) rfl ?r2a (some ⟨w8.heap.size, 0, none⟩) 8 ([0, 0, 0, 0, 64, nb, 0, 0]) rfl (by simp) ?r2b ?r2c ?r2d ?r2e)
    case r2a => exact (J8.out.kept (World.grownBy_alloc _ _ _)).oh
    case r2b => exact cells_lit w8 [0, 0, 0, 0, 64, nb, 0, 0]
    case r2c => (have q1 := HOK.out.src; have q2 := HOK.out.dst; have q3 := HT4.out; first | omega | (simp; omega) | (simp [be2]; done))
    case r2d => exact (J8.out.kept (World.grownBy_alloc _ _ _)).b2w
    case r2e =>
    intro v9 w9 O K
    obtain ⟨h9, eh9⟩ : ∃ c, h8 ++ [0, 0, 0, 0, 64, nb, 0, 0] = c := ⟨_, rfl⟩
    have J9 : Hid (CI w C b1 b2 s a ca (.slice aol ld.length capl) ld v9 h9 w9) := by
      show CI _ _ _ _ _ _ _ _ _ _ _ _
      rw [← eh9]
      exact (J8.out.kept (World.grownBy_alloc _ _ _)).app O K
    have Eh9 : Hid (h8 ++ [0, 0, 0, 0, 64, nb, 0, 0] = h9) := eh9
    have lh9 : h9.length ≤ 60 := by
      rw [← eh9, List.length_append]
      have q1 := HOK.out.src
      have q2 := HOK.out.dst
      have q3 := HT4.out
      have q5 : ([0, 0, 0, 0, 64, nb, 0, 0] : List UInt8).length = 8 := rfl
      omega
    clear eh9
    clear O K
    clear c7
    go_wp2_with (at_builtin; refine wpList_append_rd rfl (.tmp 44) (.tmp 46) 26 rfl i0 Try.underlying26 hi hz0 hz1 hz2 b2 _ (h9) rfl ?r3a (some ⟨C, 8, none⟩) 16 (s.src.take 4) (by rw [HT4.out.1]; rfl) (by simp) ?r3b ?r3c ?r3d ?r3e)
    case r3a => exact (J9.out).oh
    case r3b => exact range_cells J9.out.sp.srcR 4
    case r3c => (have q1 := HOK.out.src; have q2 := HOK.out.dst; have q3 := HT4.out; first | omega | (simp; omega) | (simp [be2]; done))
    case r3d => exact (J9.out).b2w
    case r3e =>
    intro v10 w10 O K
    obtain ⟨h10, eh10⟩ : ∃ c, h9 ++ s.src.take 4 = c := ⟨_, rfl⟩
    have J10 : Hid (CI w C b1 b2 s a ca (.slice aol ld.length capl) ld v10 h10 w10) := by
      show CI _ _ _ _ _ _ _ _ _ _ _ _
      rw [← eh10]
      exact (J9.out).app O K
    have Eh10 : Hid (h9 ++ s.src.take 4 = h10) := eh10
    have lh10 : h10.length ≤ 80 := by
      rw [← eh10, List.length_append]
      have q1 := HOK.out.src
      have q2 := HOK.out.dst
      have q3 := HT4.out
      omega
    clear eh10
    clear O K
    go_wp2_with (at_builtin; refine wpList_append_rd rfl (.tmp 48) (.tmp 50) 26 rfl i0 Try.underlying26 hi hz0 hz1 hz2 b2 _ (h10) rfl ?r4a (some ⟨C, 24, none⟩) 16 (s.dst.take 4) (by rw [HT4.out.2]; rfl) (by simp) ?r4b ?r4c ?r4d ?r4e)
    case r4a => exact (J10.out).oh
    case r4b => exact range_cells J10.out.sp.dstR 4
    case r4c => (have q1 := HOK.out.src; have q2 := HOK.out.dst; have q3 := HT4.out; first | omega | (simp; omega) | (simp [be2]; done))
    case r4d => exact (J10.out).b2w
    case r4e =>
    intro v11 w11 O K
    obtain ⟨h11, eh11⟩ : ∃ c, h10 ++ s.dst.take 4 = c := ⟨_, rfl⟩
    have J11 : Hid (CI w C b1 b2 s a ca (.slice aol ld.length capl) ld v11 h11 w11) := by
      show CI _ _ _ _ _ _ _ _ _ _ _ _
      rw [← eh11]
      exact (J10.out).app O K
    have Eh11 : Hid (h10 ++ s.dst.take 4 = h11) := eh11
    have lh11 : h11.length ≤ 100 := by
      rw [← eh11, List.length_append]
      have q1 := HOK.out.src
      have q2 := HOK.out.dst
      have q3 := HT4.out
      omega
    clear eh11
    clear O K
    obtain ⟨aoL, capL, hvL, CL, -⟩ := J11.out.ol.cells
    simp only [Value.slice.injEq, true_and] at hvL
    obtain ⟨rfl, rfl⟩ := hvL
    go_wp2_with (at_builtin; refine wpList_append_rd rfl (.tmp 52) (.tmp 53) 26 rfl i0 Try.underlying26 hi hz0 hz1 hz2 b2 _ (h11) rfl ?r5a aol capl (ld) rfl hl0 ?r5b ?r5c ?r5d ?r5e)
    case r5a => exact (J11.out).oh
    case r5b => exact CL
    case r5c => (have q1 := HOK.out.src; have q2 := HOK.out.dst; have q3 := HT4.out; first | omega | (simp; omega) | (simp [be2]; done))
    case r5d => exact (J11.out).b2w
    case r5e =>
    intro v12 w12 O K
    obtain ⟨h12, eh12⟩ : ∃ c, h11 ++ ld = c := ⟨_, rfl⟩
    have J12 : Hid (CI w C b1 b2 s a ca (.slice aol ld.length capl) ld v12 h12 w12) := by
      show CI _ _ _ _ _ _ _ _ _ _ _ _
      rw [← eh12]
      exact (J11.out).app O K
    have Eh12 : Hid (h11 ++ ld = h12) := eh12
    clear eh12
    clear O K
    go_wp2
    go_ret
    refine HEND.out _ _ b2 (by have := J12.out.c0; have := J12.out.c1; have := J12.out.b12; omega) ?_ J12.out.up
    have hfin : R = h12 := by
      rw [← Eh12.out, ← Eh11.out, ← Eh10.out, ← Eh9.out, ← Eh8.out, ← HRR.out, carV, if_neg HMUTE.out, if_pos h33, HLD.out, hnx]
    rw [hfin]
    exact J12.out.oh
  by_cases h87 : s.proto = 87
  · have HBN : Hid (∀ W : World, Calls Try.prog 43 #[.int .u32 (ld.length : Int), .int .i64 2] W fun e w' => ∃ u, e = .returned u ∧ Owns w' W.heap.size u (be2 ld.length) ∧ W.grownBy w' none) := fun W => by
      have k := bytes_any 2 ld.length 2 rfl (.inr (.inl rfl)) (by omega) W
      rw [be2_eq] at k
      exact k
    have h33' : ((s.proto : Int) == 33) = false := by rw [beq_eq_false_iff_ne]; omega
    have h87' : ((s.proto : Int) == 87) = true := by rw [h87]; rfl
    have IN : CI w C b1 w5.heap.size s a ca (.slice aol ld.length capl) ld (.slice (some ⟨w5.heap.size, 0, none⟩) 4 4) [96, 0, 0, 0] (w5.alloc (.cells #[.int .u8 96, .int .u8 0, .int .u8 0, .int .u8 0] 5)) := CI.new (h := [96, 0, 0, 0]) HI5.out.sp HI5.out.oh HI5.out.up HI5.out.c0 HI5.out.c1 HI5.out.b2w (by unfold maxLen; simp)
    go_upto_region 16 with fail
    generalize w5.alloc (.cells #[.int .u8 96, .int .u8 0, .int .u8 0, .int .u8 0] 5) = w6 at *
    generalize w5.heap.size = b2 at *
    have J6 : Hid (CI w C b1 b2 s a ca (.slice aol ld.length capl) ld (.slice (some ⟨b2, 0, none⟩) 4 4) [96, 0, 0, 0] w6) := IN
    clear IN HI5 c2 c3 c6 c7
    go_wp2_with fail
    refine (HBN.out _).mono ?_
    rintro e w7 ⟨u7, rfl, O7, K7⟩
    obtain ⟨ao7, cap7, rfl, C7, hn7⟩ := O7.cells
    have J7 : Hid (CI w C b1 b2 s a ca (.slice aol ld.length capl) ld (.slice (some ⟨b2, 0, none⟩) 4 4) [96, 0, 0, 0] w7) := J6.out.kept K7
    have HC7 : Hid (Cells w7 ao7 (be2 ld.length)) := C7
    clear J6 O7 K7 C7
    go_wp2_with (at_builtin; refine wpList_append_rd rfl (.tmp 59) (.tmp 63) 26 rfl i0 Try.underlying26 hi hz0 hz1 hz2 b2 _ ([96, 0, 0, 0]) rfl ?r6a ao7 cap7 (be2 ld.length) rfl hn7 ?r6b ?r6c ?r6d ?r6e)
    case r6a => exact (J7.out).oh
    case r6b => exact HC7.out
    case r6c => (have q1 := HOK.out.src; have q2 := HOK.out.dst; have q3 := HT4.out; first | omega | (simp; omega) | (simp [be2]; done))
    case r6d => exact (J7.out).b2w
    case r6e =>
    intro v8 w8 O K
    obtain ⟨h8, eh8⟩ : ∃ c, [96, 0, 0, 0] ++ be2 ld.length = c := ⟨_, rfl⟩
    have J8 : Hid (CI w C b1 b2 s a ca (.slice aol ld.length capl) ld v8 h8 w8) := by
      show CI _ _ _ _ _ _ _ _ _ _ _ _
      rw [← eh8]
      exact (J7.out).app O K
    have Eh8 : Hid ([96, 0, 0, 0] ++ be2 ld.length = h8) := eh8
    have lh8 : h8.length ≤ 40 := by
      rw [← eh8, List.length_append]
      have q1 := HOK.out.src
      have q2 := HOK.out.dst
      have q3 := HT4.out
      have q6 : ([96, 0, 0, 0] : List UInt8).length = 4 := rfl
      have q4 : (be2 ld.length).length = 2 := rfl
      omega
    clear eh8
    clear O K
    have c7 := J8.out.sp.eight.2.2.2.2.2.2.2
    rw [hnb] at c7
    go_wp2_with (at_builtin; refine wpList_append_rd rfl (.tmp 65) (.tmp 69) 26 rfl i0 Try.underlying26 hi hz0 hz1 hz2 b2 _ (h8) rfl ?r7a (some ⟨w8.heap.size, 0, none⟩) 2 ([nb, 64]) rfl (by simp) ?r7b ?r7c ?r7d ?r7e)
    case r7a => exact (J8.out.kept (World.grownBy_alloc _ _ _)).oh
    case r7b => exact cells_lit w8 [nb, 64]
    case r7c => (have q1 := HOK.out.src; have q2 := HOK.out.dst; have q3 := HT4.out; first | omega | (simp; omega) | (simp [be2]; done))
    case r7d => exact (J8.out.kept (World.grownBy_alloc _ _ _)).b2w
    case r7e =>
    intro v9 w9 O K
    obtain ⟨h9, eh9⟩ : ∃ c, h8 ++ [nb, 64] = c := ⟨_, rfl⟩
    have J9 : Hid (CI w C b1 b2 s a ca (.slice aol ld.length capl) ld v9 h9 w9) := by
      show CI _ _ _ _ _ _ _ _ _ _ _ _
      rw [← eh9]
      exact (J8.out.kept (World.grownBy_alloc _ _ _)).app O K
    have Eh9 : Hid (h8 ++ [nb, 64] = h9) := eh9
    have lh9 : h9.length ≤ 60 := by
      rw [← eh9, List.length_append]
      have q1 := HOK.out.src
      have q2 := HOK.out.dst
      have q3 := HT4.out
      have q5 : ([nb, 64] : List UInt8).length = 2 := rfl
      omega
    clear eh9
    clear O K
    clear c7
    go_wp2_with (at_builtin; refine wpList_append_rd rfl (.tmp 71) (.tmp 73) 26 rfl i0 Try.underlying26 hi hz0 hz1 hz2 b2 _ (h9) rfl ?r8a (some ⟨C, 8, none⟩) 16 (s.src) (by rw [HOK.out.src]; rfl) (by simp) ?r8b ?r8c ?r8d ?r8e)
    case r8a => exact (J9.out).oh
    case r8b => exact (by have := range_cells J9.out.sp.srcR 16; rwa [List.take_of_length_le (by have := HOK.out.src; omega)] at this)
    case r8c => (have q1 := HOK.out.src; have q2 := HOK.out.dst; have q3 := HT4.out; first | omega | (simp; omega) | (simp [be2]; done))
    case r8d => exact (J9.out).b2w
    case r8e =>
    intro v10 w10 O K
    obtain ⟨h10, eh10⟩ : ∃ c, h9 ++ s.src = c := ⟨_, rfl⟩
    have J10 : Hid (CI w C b1 b2 s a ca (.slice aol ld.length capl) ld v10 h10 w10) := by
      show CI _ _ _ _ _ _ _ _ _ _ _ _
      rw [← eh10]
      exact (J9.out).app O K
    have Eh10 : Hid (h9 ++ s.src = h10) := eh10
    have lh10 : h10.length ≤ 80 := by
      rw [← eh10, List.length_append]
      have q1 := HOK.out.src
      have q2 := HOK.out.dst
      have q3 := HT4.out
      omega
    clear eh10
    clear O K
    go_wp2_with (at_builtin; refine wpList_append_rd rfl (.tmp 75) (.tmp 77) 26 rfl i0 Try.underlying26 hi hz0 hz1 hz2 b2 _ (h10) rfl ?r9a (some ⟨C, 24, none⟩) 16 (s.dst) (by rw [HOK.out.dst]; rfl) (by simp) ?r9b ?r9c ?r9d ?r9e)
    case r9a => exact (J10.out).oh
    case r9b => exact (by have := range_cells J10.out.sp.dstR 16; rwa [List.take_of_length_le (by have := HOK.out.dst; omega)] at this)
    case r9c => (have q1 := HOK.out.src; have q2 := HOK.out.dst; have q3 := HT4.out; first | omega | (simp; omega) | (simp [be2]; done))
    case r9d => exact (J10.out).b2w
    case r9e =>
    intro v11 w11 O K
    obtain ⟨h11, eh11⟩ : ∃ c, h10 ++ s.dst = c := ⟨_, rfl⟩
    have J11 : Hid (CI w C b1 b2 s a ca (.slice aol ld.length capl) ld v11 h11 w11) := by
      show CI _ _ _ _ _ _ _ _ _ _ _ _
      rw [← eh11]
      exact (J10.out).app O K
    have Eh11 : Hid (h10 ++ s.dst = h11) := eh11
    have lh11 : h11.length ≤ 100 := by
      rw [← eh11, List.length_append]
      have q1 := HOK.out.src
      have q2 := HOK.out.dst
      have q3 := HT4.out
      omega
    clear eh11
    clear O K
    obtain ⟨aoL, capL, hvL, CL, -⟩ := J11.out.ol.cells
    simp only [Value.slice.injEq, true_and] at hvL
    obtain ⟨rfl, rfl⟩ := hvL
    go_wp2_with (at_builtin; refine wpList_append_rd rfl (.tmp 79) (.tmp 80) 26 rfl i0 Try.underlying26 hi hz0 hz1 hz2 b2 _ (h11) rfl ?r10a aol capl (ld) rfl hl0 ?r10b ?r10c ?r10d ?r10e)
    case r10a => exact (J11.out).oh
    case r10b => exact CL
    case r10c => (have q1 := HOK.out.src; have q2 := HOK.out.dst; have q3 := HT4.out; first | omega | (simp; omega) | (simp [be2]; done))
    case r10d => exact (J11.out).b2w
    case r10e =>
    intro v12 w12 O K
    obtain ⟨h12, eh12⟩ : ∃ c, h11 ++ ld = c := ⟨_, rfl⟩
    have J12 : Hid (CI w C b1 b2 s a ca (.slice aol ld.length capl) ld v12 h12 w12) := by
      show CI _ _ _ _ _ _ _ _ _ _ _ _
      rw [← eh12]
      exact (J11.out).app O K
    have Eh12 : Hid (h11 ++ ld = h12) := eh12
    clear eh12
    clear O K
    go_wp2
    go_ret
    refine HEND.out _ _ b2 (by have := J12.out.c0; have := J12.out.c1; have := J12.out.b12; omega) ?_ J12.out.up
    have hfin : R = h12 := by
      rw [← Eh12.out, ← Eh11.out, ← Eh10.out, ← Eh9.out, ← Eh8.out, ← HRR.out, carV, if_neg HMUTE.out, if_neg h33, if_pos h87, HLD.out, hnx]
    rw [hfin]
    exact J12.out.oh
  have h33' : ((s.proto : Int) == 33) = false := by rw [beq_eq_false_iff_ne]; omega
  have h87' : ((s.proto : Int) == 87) = false := by rw [beq_eq_false_iff_ne]; omega
  go_wp2
  go_ret
  refine HEND.out _ _ b1 (by have := HI5.out.c0; have := HI5.out.c1; omega) ?_ HI5.out.up
  have hfin : R = ld := by rw [← HRR.out, carV, if_neg HMUTE.out, if_neg h33, if_neg h87, HLD.out]
  rw [hfin]
  exact HI5.out.oh

end Go.Proofs.Ytfjjmeanmlimoaa
