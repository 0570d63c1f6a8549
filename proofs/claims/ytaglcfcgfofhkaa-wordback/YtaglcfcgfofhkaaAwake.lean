/-
  The call 'awake' of the statements over package word answers true, and writes nothing that was there.
-/
import Derived.Test.YtaglcfcgfofhkaaUnhex2
namespace Go.Proofs.Ytaglcfcgfofhkaa
open Go.RowKit

theorem aw_get : getV [1, 2, 3] 1 2 = 515 ∧ okB 3 1 2 = true := by decide +kernel
theorem aw_put : putV [0, 0] 1 1 511 = [0, 255] ∧ okB 2 1 1 = true := by decide +kernel
theorem aw_un : unV ⟨#[48, 48, 102, 102]⟩ = [0, 255] ∧ unOk ⟨#[48, 48, 102, 102]⟩ = true := by decide +kernel
theorem aw_hex : (⟨(hexS [0, 255]).toArray⟩ : ByteArray) = ⟨#[48, 48, 102, 102]⟩ := by decide +kernel
theorem aw_sum : sumS [1, 2] = 3 := by decide +kernel

theorem aw_getc (a : Option Addr) (ca : Nat) (w : World) (h : Cells w a [1, 2, 3]) :
    Calls Try.prog 10 #[.slice a 3 ca, .int .i64 1, .int .i64 2] w fun e w' => e = .returned (.tuple #[.int .u32 515, .bool true]) ∧ w = w' := by
  have k := get_any a ca [1, 2, 3] 1 2 w h (by simp)
  simp only [List.length_cons, List.length_nil, Nat.zero_add, Nat.reduceAdd, aw_get.1, aw_get.2] at k
  exact k

theorem aw_putc (a : Option Addr) (ca : Nat) (w : World) (h : Cells w a [0, 0]) (hc : a = none → ca = 0) :
    Calls Try.prog 16 #[.slice a 2 ca, .int .i64 1, .int .i64 1, .int .u32 511] w fun e w' => MadeB w w' e [0, 255] true := by
  have k := put_any a ca [0, 0] 1 1 511 w h hc (by simp) (by simp)
  simp only [List.length_cons, List.length_nil, Nat.zero_add, Nat.reduceAdd, aw_put.1, aw_put.2] at k
  exact k

theorem aw_unc (w : World) : Calls Try.prog 26 #[.string ⟨#[48, 48, 102, 102]⟩] w fun e w' => MadeB w w' e [0, 255] true := by
  have k := unhex_any ⟨#[48, 48, 102, 102]⟩ w (by decide) (by decide)
  rw [aw_un.1, aw_un.2] at k
  exact k

theorem aw_hexc (a : Option Addr) (ca : Nat) (w : World) (h : Cells w a [0, 255]) :
    Calls Try.prog 24 #[.slice a 2 ca] w fun e w' => e = .returned (.string ⟨#[48, 48, 102, 102]⟩) ∧ w.grownBy w' none := by
  have k := hex_any a ca [0, 255] w h (by simp)
  rw [aw_hex] at k
  exact k

theorem aw_samec (a b : Option Addr) (ca cb : Nat) (w : World) (ha : Cells w a [0, 255]) (hb : Cells w b [0, 255]) :
    Calls Try.prog 17 #[.slice a 2 ca, .slice b 2 cb] w fun e w' => e = .returned (.bool true) ∧ w.grownBy w' none :=
  (same_any a b ca cb [0, 255] w ha hb (by simp)).mono fun _ _ ⟨h, n, k⟩ => ⟨h, k ▸ grown_drewN w n none⟩

theorem aw_sumc (a : Option Addr) (ca : Nat) (w : World) (h : CV w a [.int .u32 1, .int .u32 2]) :
    Calls Try.prog 21 #[.slice a 2 ca] w fun e w' => e = .returned (.int .u32 3) ∧ w = w' := by
  have k := sum_any a ca [1, 2] w h (by simp)
  rw [aw_sum] at k
  exact k

theorem aw_joinc (a : Option Addr) (ca : Nat) (w : World) (p q : Option Addr) (cp cq : Nat) (h : CV w a [.slice p 1 cp, .slice q 1 cq]) (hp : Cells w p [1]) (hq : Cells w q [2]) (hp0 : p = none → cp = 0) (hq0 : q = none → cq = 0) :
    Calls Try.prog 19 #[.slice a 2 ca] w fun e w' => ∃ v, e = .returned v ∧ Owns w' w.heap.size v [1, 2] ∧ w.grownBy w' none := by
  refine join_any a ca [⟨p, cp, [1]⟩, ⟨q, cq, [2]⟩] w h ?_ (by simp) (by simp [joinS])
  intro x hx
  simp only [List.mem_cons, List.not_mem_nil, or_false] at hx
  rcases hx with rfl | rfl
  · exact ⟨hp, hp0⟩
  · exact ⟨hq, hq0⟩

theorem aw_join2 (w : World) :
    Calls Try.prog 19 #[.slice (some ⟨w.heap.size + 1 + 1, 0, none⟩) 2 2] (((w.alloc (.cells #[.int .u8 1] 5)).alloc (.cells #[.int .u8 2] 5)).alloc (.cells #[.slice (some ⟨w.heap.size, 0, none⟩) 1 1, .slice (some ⟨w.heap.size + 1, 0, none⟩) 1 1] 22))
      fun e w' => ∃ ao cap, e = .returned (.slice ao 2 cap) ∧ w.grownBy w' none := by
  have s1 : (w.alloc (.cells #[.int .u8 1] 5)).heap.size = w.heap.size + 1 := by simp
  have c1 : Cells (w.alloc (.cells #[.int .u8 1] 5)) (some ⟨w.heap.size, 0, none⟩) [1] := cells_lit w [1]
  have g1 : w.grownBy (w.alloc (.cells #[.int .u8 1] 5)) none := World.grownBy_alloc _ _ _
  generalize w.alloc (.cells #[.int .u8 1] 5) = w1 at *
  have s2 : (w1.alloc (.cells #[.int .u8 2] 5)).heap.size = w1.heap.size + 1 := by simp
  have c2 : Cells (w1.alloc (.cells #[.int .u8 2] 5)) (some ⟨w1.heap.size, 0, none⟩) [2] := cells_lit w1 [2]
  have g2 : w1.grownBy (w1.alloc (.cells #[.int .u8 2] 5)) none := World.grownBy_alloc _ _ _
  generalize w1.alloc (.cells #[.int .u8 2] 5) = w2 at *
  rw [← s1, ← s2]
  have c3 : CV (w2.alloc (.cells #[.slice (some ⟨w.heap.size, 0, none⟩) 1 1, .slice (some ⟨w1.heap.size, 0, none⟩) 1 1] 22)) (some ⟨w2.heap.size, 0, none⟩) [.slice (some ⟨w.heap.size, 0, none⟩) 1 1, .slice (some ⟨w1.heap.size, 0, none⟩) 1 1] := cv_lit w2 _ _
  have g3 : w2.grownBy (w2.alloc (.cells #[.slice (some ⟨w.heap.size, 0, none⟩) 1 1, .slice (some ⟨w1.heap.size, 0, none⟩) 1 1] 22)) none := World.grownBy_alloc _ _ _
  generalize w2.alloc (.cells #[.slice (some ⟨w.heap.size, 0, none⟩) 1 1, .slice (some ⟨w1.heap.size, 0, none⟩) 1 1] 22) = w3 at *
  refine (aw_joinc _ _ _ _ _ _ _ c3 ((c1.keptNone g2).keptNone g3) (c2.keptNone g3) (by simp) (by simp)).mono ?_
  rintro e w4 ⟨v, rfl, o, g4⟩
  obtain ⟨ao, cap, rfl, _⟩ := o.shape
  exact ⟨ao, cap, rfl, grown_trans (grown_trans (grown_trans g1 g2) g3) g4⟩

set_option maxHeartbeats 1000000 in
theorem awake_any (w : World) : Calls Try.prog 14 #[] w fun e w' => e = .returned (.bool true) ∧ w.grownBy w' none := by
  go_enter Try.func14, Try.ntmps14
  go_wp2_with fail
  have C1 : Cells (w.alloc (.cells #[.int .u8 1, .int .u8 2, .int .u8 3] 5)) (some ⟨w.heap.size, 0, none⟩) [1, 2, 3] := cells_lit w [1, 2, 3]
  have G1 : w.grownBy (w.alloc (.cells #[.int .u8 1, .int .u8 2, .int .u8 3] 5)) none := World.grownBy_alloc _ _ _
  generalize w.alloc (.cells #[.int .u8 1, .int .u8 2, .int .u8 3] 5) = w1 at *
  refine (aw_getc _ _ _ C1).mono ?_
  rintro e w' ⟨rfl, rfl⟩
  clear C1
  go_wp2_with fail
  have C2 : Cells (w1.alloc (.cells #[.int .u8 0, .int .u8 0] 5)) (some ⟨w1.heap.size, 0, none⟩) [0, 0] := cells_lit w1 [0, 0]
  have G2 : w.grownBy (w1.alloc (.cells #[.int .u8 0, .int .u8 0] 5)) none := grown_trans G1 (World.grownBy_alloc _ _ _)
  generalize w1.alloc (.cells #[.int .u8 0, .int .u8 0] 5) = w2 at *
  refine (aw_putc _ _ _ C2 (by simp)).mono ?_
  rintro e w3 ⟨b, rfl, O3, G3⟩
  have G4 := grown_trans G2 G3
  clear C2 G1 G2 G3
  obtain ⟨ao, cap, rfl, C3, _⟩ := O3.shape
  clear O3
  go_wp2_with fail
  refine (aw_unc _).mono ?_
  rintro e w4 ⟨d, rfl, O4, G5⟩
  have C4 := C3.keptNone G5
  have G6 := grown_trans G4 G5
  clear C3 G4 G5
  obtain ⟨ao2, cap2, rfl, D4, _⟩ := O4.shape
  clear O4
  go_wp2_with fail
  have K1 : w4.grownBy (w4.alloc (.cells #[.int .u8 0, .int .u8 255] 5)) none := World.grownBy_alloc _ _ _
  have L1 : Cells (w4.alloc (.cells #[.int .u8 0, .int .u8 255] 5)) (some ⟨w4.heap.size, 0, none⟩) [0, 255] := cells_lit w4 [0, 255]
  have C5 := C4.keptNone K1
  have D5 := D4.keptNone K1
  have G7 := grown_trans G6 K1
  clear C4 D4 G6 K1
  generalize w4.alloc (.cells #[.int .u8 0, .int .u8 255] 5) = w5 at *
  refine (aw_samec _ _ _ _ _ C5 L1).mono ?_
  rintro e w6 ⟨rfl, K2⟩
  have D6 := D5.keptNone K2
  have G8 := grown_trans G7 K2
  clear L1 C5 D5 K2 G7
  go_wp2_with fail
  have K3 : w6.grownBy (w6.alloc (.cells #[.int .u8 0, .int .u8 255] 5)) none := World.grownBy_alloc _ _ _
  have L2 : Cells (w6.alloc (.cells #[.int .u8 0, .int .u8 255] 5)) (some ⟨w6.heap.size, 0, none⟩) [0, 255] := cells_lit w6 [0, 255]
  have D7 := D6.keptNone K3
  have G9 := grown_trans G8 K3
  clear D6 G8 K3
  generalize w6.alloc (.cells #[.int .u8 0, .int .u8 255] 5) = w7 at *
  refine (aw_samec _ _ _ _ _ D7 L2).mono ?_
  rintro e w8 ⟨rfl, K4⟩
  have D8 := D7.keptNone K4
  have G10 := grown_trans G9 K4
  clear L2 D7 K4 G9
  go_wp2_with fail
  refine (aw_hexc _ _ _ D8).mono ?_
  rintro e w9 ⟨rfl, K5⟩
  have G11 := grown_trans G10 K5
  clear D8 K5 G10
  go_wp2_with fail
  have K6 : w9.grownBy (w9.alloc (.cells #[.int .u32 1, .int .u32 2] 24)) none := World.grownBy_alloc _ _ _
  have L3 : CV (w9.alloc (.cells #[.int .u32 1, .int .u32 2] 24)) (some ⟨w9.heap.size, 0, none⟩) [.int .u32 1, .int .u32 2] := cv_lit w9 _ [.int .u32 1, .int .u32 2]
  have G12 := grown_trans G11 K6
  clear G11 K6
  generalize w9.alloc (.cells #[.int .u32 1, .int .u32 2] 24) = w10 at *
  refine (aw_sumc _ _ _ L3).mono ?_
  rintro e w' ⟨rfl, rfl⟩
  clear L3
  go_wp2_with fail
  refine (aw_join2 _).mono ?_
  rintro e w11 ⟨ao3, cap3, rfl, K7⟩
  have G13 := grown_trans G12 K7
  clear K7 G12
  go_wp2
  go_ret
  exact ⟨rfl, G13⟩

end Go.Proofs.Ytaglcfcgfofhkaa
