/-
  The call 'awake' of the statements over package asm answers true, and writes nothing that was there.
-/
import Derived.Test.YtcapmbeabfhjoaaDoorAsmP
namespace Go.Proofs.YtcapmbeabfhjoaaDoor
open Go.RowKit
set_option maxRecDepth 100000

theorem a3_print : printV [⟨7, 0, 0, 0⟩, ⟨6, 0, 0, 7⟩] = [116, 97, 120, 10, 114, 101, 116, 32, 35, 55, 10] ∧ printE [⟨7, 0, 0, 0⟩, ⟨6, 0, 0, 7⟩] = 0 := by decide +kernel
theorem a3_l1 : lineV ⟨40, 0, 0, 12⟩ = [108, 100, 104, 32, 91, 49, 50, 93] := by decide +kernel
theorem a3_l2 : lineV ⟨22, 0, 0, 0⟩ = [114, 101, 116, 32, 97] := by decide +kernel
theorem a3_lines : linesV [108, 100, 104, 32, 91, 49, 50, 93, 10, 114, 101, 116, 32, 97] = [[108, 100, 104, 32, 91, 49, 50, 93], [114, 101, 116, 32, 97]] := by decide +kernel
theorem a3_parse : parseV [108, 100, 104, 32, 91, 49, 50, 93, 10, 114, 101, 116, 32, 97] = ([⟨40, 0, 0, 12⟩, ⟨22, 0, 0, 0⟩], 0, 0) := by
  rw [parseV, if_neg (by decide), a3_lines, parseG, if_neg (by decide), read_iff.2 a3_l1]
  simp only
  rw [parseG, if_neg (by decide), read_iff.2 a3_l2]
  rfl

theorem a3_printc (a : Option Addr) (ca : Nat) (w : World) (h : CV w a [.int .u16 7, .int .u8 0, .int .u8 0, .int .u32 0, .int .u16 6, .int .u8 0, .int .u8 0, .int .u32 7]) (T : Tab w) :
    Calls Tryd.prog 14 #[.slice a 2 ca] w fun e w' => e = .returned (.tuple #[str [116, 97, 120, 10, 114, 101, 116, 32, 35, 55, 10], .int .i64 0]) ∧ w.grownBy w' none := by
  have k := print_any a ca [⟨7, 0, 0, 0⟩, ⟨6, 0, 0, 7⟩] w h (by simp) T
  rw [a3_print.1, a3_print.2] at k
  exact k

theorem a3_parsec (w : World) (T : Tab w) :
    Calls Tryd.prog 17 #[.string ⟨#[108, 100, 104, 32, 91, 49, 50, 93, 10, 114, 101, 116, 32, 97]⟩] w fun e w' => PMade w w' e ([⟨40, 0, 0, 12⟩, ⟨22, 0, 0, 0⟩], 0, 0) := by
  have k := parse_any ⟨#[108, 100, 104, 32, 91, 49, 50, 93, 10, 114, 101, 116, 32, 97]⟩ w (by decide) T
  rw [show sl ⟨#[108, 100, 104, 32, 91, 49, 50, 93, 10, 114, 101, 116, 32, 97]⟩ = [108, 100, 104, 32, 91, 49, 50, 93, 10, 114, 101, 116, 32, 97] from rfl, a3_parse] at k
  exact k

theorem a3_linec (w : World) (T : Tab w) :
    Calls Tryd.prog 9 #[.agg #[.int .u16 22, .int .u8 0, .int .u8 0, .int .u32 0]] w fun e w' => e = .returned (str [114, 101, 116, 32, 97]) ∧ w.grownBy w' none := by
  have k := line_any 22 0 0 0 w (by decide) (by decide) (by decide) (by decide) T
  have e : lineN 22 0 0 0 = [114, 101, 116, 32, 97] := a3_l2
  rw [e] at k
  exact k

set_option maxHeartbeats 1000000 in
theorem awake3_any (w : World) (T : Tab w) :
    Calls Tryd.prog 11 #[] w fun e w' => e = .returned (.bool true) ∧ w.grownBy w' none := by
  have HTb : Hid (Tab w) := T
  clear T
  go_enter Tryd.func11, Tryd.ntmps11
  go_wp2_with fail
  refine (a3_printc _ _ _ (cv_lit w _ _) (HTb.out.grown (World.grownBy_alloc _ _ _))).mono ?_
  rintro e w1 ⟨rfl, K1⟩
  have G1 := grown_trans (World.grownBy_alloc w _ none) K1
  clear K1
  go_wp2_with fail
  refine (a3_parsec _ (HTb.out.grown G1)).mono ?_
  rintro e w2 ⟨v2, rfl, O2, K2⟩
  have G2 := grown_trans G1 K2
  clear G1 K2
  obtain ⟨ap, cp, rfl, C2, -, -, -, -, -⟩ := cv_of_row O2
  clear O2
  obtain ⟨b, o, rfl, hc⟩ := C2.insns (k := 0) (by simp)
  obtain ⟨c0, c1, c2, c3⟩ := hc 0 (by simp)
  obtain ⟨d0, d1, d2, d3⟩ := hc 1 (by simp)
  clear hc C2
  simp only [List.getElem_cons_zero, List.getElem_cons_succ, Nat.zero_mul, Nat.one_mul, Nat.add_zero] at c0 c1 c2 c3 d0 d1 d2 d3
  have x0 : w2.cell? ⟨b, o, none⟩ = some (.int .u16 40) := c0
  have x1 : w2.cell? ⟨b, o + 1, none⟩ = some (.int .u8 0) := c1
  have x2 : w2.cell? ⟨b, o + 2, none⟩ = some (.int .u8 0) := c2
  have x3 : w2.cell? ⟨b, o + 3, none⟩ = some (.int .u32 12) := c3
  have y0 : w2.cell? ⟨b, o + 4, none⟩ = some (.int .u16 22) := d0
  have y1 : w2.cell? ⟨b, o + 4 + 1, none⟩ = some (.int .u8 0) := d1
  have y2 : w2.cell? ⟨b, o + 4 + 2, none⟩ = some (.int .u8 0) := d2
  have y3 : w2.cell? ⟨b, o + 4 + 3, none⟩ = some (.int .u32 0) := d3
  clear c0 c1 c2 c3 d0 d1 d2 d3
  go_wp2_with fail
  refine (a3_linec _ (HTb.out.grown G2)).mono ?_
  rintro e w3 ⟨rfl, K3⟩
  have G3 := grown_trans G2 K3
  clear K3 x0 x1 x2 x3 y0 y1 y2 y3 G2
  go_wp2
  go_ret
  exact ⟨rfl, G3⟩

end Go.Proofs.YtcapmbeabfhjoaaDoor
