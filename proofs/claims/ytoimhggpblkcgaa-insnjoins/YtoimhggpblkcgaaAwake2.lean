/-
  The call 'awake' of the statements over package insn answers true, and writes nothing that was there.
-/
import Derived.Test.YtoimhggpblkcgaaInsnP
namespace Go.Proofs.Ytoimhggpblkcgaa
open Go.RowKit

theorem a2_enc : encV [⟨21, 1, 2, 2048⟩] = [0, 21, 1, 2, 0, 0, 8, 0] ∧ encE [⟨21, 1, 2, 2048⟩] = 0 := by decide +kernel
theorem a2_dec : decV [0, 6, 0, 0, 0, 0, 0, 5] = [⟨6, 0, 0, 5⟩] ∧ decE [0, 6, 0, 0, 0, 0, 0, 5] = 0 := ⟨by rfl, by decide +kernel⟩
theorem a2_known : knownB 7 = true ∧ classV 7 = 7 := by decide +kernel

theorem a2_encc (a : Option Addr) (ca : Nat) (w : World) (h : CV w a [.int .u16 21, .int .u8 1, .int .u8 2, .int .u32 2048]) :
    Calls Try.prog 17 #[.slice a 1 ca] w fun e w' => MadeE w w' e [0, 21, 1, 2, 0, 0, 8, 0] 0 := by
  have k := encode_any a ca [⟨21, 1, 2, 2048⟩] w h (by simp)
  rw [a2_enc.1, a2_enc.2] at k
  exact k

theorem a2_decc (a : Option Addr) (ca : Nat) (w : World) (h : Cells w a [0, 6, 0, 0, 0, 0, 0, 5]) :
    Calls Try.prog 24 #[.slice a 8 ca] w fun e w' => IMadeE w w' e [⟨6, 0, 0, 5⟩] 0 := by
  have k := decode_any a ca [0, 6, 0, 0, 0, 0, 0, 5] w h (by simp)
  rw [a2_dec.1, a2_dec.2] at k
  exact k

set_option maxHeartbeats 1000000 in
theorem awake2_any (w : World) : Calls Try.prog 14 #[] w fun e w' => e = .returned (.bool true) ∧ w.grownBy w' none := by
  go_enter Try.func14, Try.ntmps14
  go_wp2_with fail
  have C1 : CV (w.alloc (.cells #[.int .u16 21, .int .u8 1, .int .u8 2, .int .u32 2048] 50)) (some ⟨w.heap.size, 0, none⟩) [.int .u16 21, .int .u8 1, .int .u8 2, .int .u32 2048] := cv_lit w _ _
  have G1 : w.grownBy (w.alloc (.cells #[.int .u16 21, .int .u8 1, .int .u8 2, .int .u32 2048] 50)) none := World.grownBy_alloc _ _ _
  generalize w.alloc (.cells #[.int .u16 21, .int .u8 1, .int .u8 2, .int .u32 2048] 50) = w1 at *
  refine (a2_encc _ _ _ C1).mono ?_
  rintro e w2 ⟨b, rfl, O2, K2⟩
  obtain ⟨ab, cb, rfl, C2, -⟩ := O2.rd
  have G2 := grown_trans G1 K2
  clear C1 G1 K2 O2
  go_wp2_with fail
  have D2 : Cells (w2.alloc (.cells #[.int .u8 0, .int .u8 6, .int .u8 0, .int .u8 0, .int .u8 0, .int .u8 0, .int .u8 0, .int .u8 5] 5)) (some ⟨w2.heap.size, 0, none⟩) [0, 6, 0, 0, 0, 0, 0, 5] := cells_lit w2 [0, 6, 0, 0, 0, 0, 0, 5]
  have K3 : w2.grownBy (w2.alloc (.cells #[.int .u8 0, .int .u8 6, .int .u8 0, .int .u8 0, .int .u8 0, .int .u8 0, .int .u8 0, .int .u8 5] 5)) none := World.grownBy_alloc _ _ _
  have C3 := C2.keptNone K3
  have G3 := grown_trans G2 K3
  clear C2 G2 K3
  generalize w2.alloc (.cells #[.int .u8 0, .int .u8 6, .int .u8 0, .int .u8 0, .int .u8 0, .int .u8 0, .int .u8 0, .int .u8 5] 5) = w3 at *
  refine (a2_decc _ _ _ D2).mono ?_
  rintro e w4 ⟨p, rfl, O4, K4⟩
  obtain ⟨ap, cp, rfl, D4, -⟩ := cv_of_row O4
  have C4 := C3.keptNone K4
  have G4 := grown_trans G3 K4
  clear C3 G3 K4 O4 D2
  go_wp2_with fail
  have L5 : Cells (w4.alloc (.cells #[.int .u8 0, .int .u8 21, .int .u8 1, .int .u8 2, .int .u8 0, .int .u8 0, .int .u8 8, .int .u8 0] 5)) (some ⟨w4.heap.size, 0, none⟩) [0, 21, 1, 2, 0, 0, 8, 0] := cells_lit w4 [0, 21, 1, 2, 0, 0, 8, 0]
  have K5 : w4.grownBy (w4.alloc (.cells #[.int .u8 0, .int .u8 21, .int .u8 1, .int .u8 2, .int .u8 0, .int .u8 0, .int .u8 8, .int .u8 0] 5)) none := World.grownBy_alloc _ _ _
  have C5 := C4.keptNone K5
  have D5 := D4.keptNone K5
  have G5 := grown_trans G4 K5
  clear C4 D4 G4 K5
  generalize w4.alloc (.cells #[.int .u8 0, .int .u8 21, .int .u8 1, .int .u8 2, .int .u8 0, .int .u8 0, .int .u8 8, .int .u8 0] 5) = w5 at *
  refine (same_any _ _ _ _ [0, 21, 1, 2, 0, 0, 8, 0] _ C5 L5 (by simp)).mono ?_
  rintro e w6 ⟨rfl, n6, rfl⟩
  have G6 := grown_trans G5 (grown_drewN w5 n6 none)
  have D6 : CV (w5.drewN n6) ap (flat [⟨6, 0, 0, 5⟩]) := D5
  clear C5 D5 G5 L5
  generalize w5.drewN n6 = w6 at *
  obtain ⟨b6, o6, rfl, hc⟩ := D6.insns (k := 0) (by simp)
  obtain ⟨c0, c1, c2, c3⟩ := hc 0 (by simp)
  clear D6 hc
  simp only [List.getElem_cons_zero, Nat.zero_mul, Nat.add_zero] at c0 c1 c2 c3
  have d0 : w6.cell? ⟨b6, o6, none⟩ = some (.int .u16 6) := c0
  have d1 : w6.cell? ⟨b6, o6 + 1, none⟩ = some (.int .u8 0) := c1
  have d2 : w6.cell? ⟨b6, o6 + 2, none⟩ = some (.int .u8 0) := c2
  have d3 : w6.cell? ⟨b6, o6 + 3, none⟩ = some (.int .u32 5) := c3
  clear c0 c1 c2 c3
  go_wp2_with fail
  refine (known_any _ _).mono ?_
  rintro e w7 ⟨rfl, K7⟩
  rw [a2_known.1]
  have G7 := grown_trans G6 K7
  clear G6 K7 d0 d1 d2 d3
  go_wp2_with fail
  refine (class_any _ _ (by omega) (by omega)).mono ?_
  rintro e w8 ⟨rfl, K8⟩
  rw [a2_known.2]
  have G8 := grown_trans G7 K8
  clear G7 K8
  go_wp2
  go_ret
  exact ⟨rfl, G8⟩

end Go.Proofs.Ytoimhggpblkcgaa
