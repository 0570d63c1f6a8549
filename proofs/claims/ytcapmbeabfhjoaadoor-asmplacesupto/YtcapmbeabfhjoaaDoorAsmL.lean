/-
  Package asm writes: Line, Print.
-/
import Derived.Test.YtcapmbeabfhjoaaDoorAsmC
import Derived.Test.YtcapmbeabfhjoaaDoorLineR
namespace Go.Proofs.YtcapmbeabfhjoaaDoor
open Go.RowKit
set_option maxRecDepth 100000

set_option maxHeartbeats 4000000 in
theorem line_any (c t f k : Nat) (w : World) (hc : c ≤ 65535) (ht : t ≤ 255) (hf : f ≤ 255) (hk : k ≤ 4294967295) (T : Tab w) :
    Calls Tryd.prog 9 #[.agg #[.int .u16 c, .int .u8 t, .int .u8 f, .int .u32 k]] w fun e w' => e = .returned (str (lineN c t f k)) ∧ w.grownBy w' none := by
  have B0 := box4_alloc w 25 (.int .u16 c) (.int .u8 t) (.int .u8 f) (.int .u32 k)
  have HTb : Hid (Tab w) := T
  clear T
  go_enter Tryd.func9, Tryd.ntmps9
  go_wp2_with fail
  go_region_held (fun W => W.cell? ⟨w.heap.size, 0, none⟩ = some (.int .u16 (c : Int)) ∧ W.cell? ⟨w.heap.size, 1, none⟩ = some (.int .u8 (t : Int)) ∧ W.cell? ⟨w.heap.size, 2, none⟩ = some (.int .u8 (f : Int)) ∧ W.cell? ⟨w.heap.size, 3, none⟩ = some (.int .u32 (k : Int)) ∧ w.grownBy W none) (first | assumption | exact box4_call K (by assumption) | exact box4_drewn B0) (first | (go_at_call 23; refine (forms_any _).mono ?_; rintro e w' ⟨rfl, KN, K⟩) | (go_at_call 22; refine (append_line _ _ [] _ c t f k _ hc ht hf hk (World.ownsRow_nil _ _ _ _) (Nat.le_refl _) (by exact (HTb.out.grown (by exact (by assumption : Box4 w w.heap.size (.int .u16 c) (.int .u8 t) (.int .u8 f) (.int .u32 k) _).2.2.2.2)).size) (by simp) (by exact HTb.out.grown (by exact (by assumption : Box4 w w.heap.size (.int .u16 c) (.int .u8 t) (.int .u8 f) (.int .u32 k) _).2.2.2.2)) (by simpa using KN)).mono ?_; rintro e w' ⟨v', rfl, O, A⟩; have K := A.none; have hcv := run_str (P := Tryd.prog) O 45 9 Tryd.underlying45 Tryd.underlying5 Tryd.underlying9))
  have B1 := (by assumption : Box4 w w.heap.size (.int .u16 c) (.int .u8 t) (.int .u8 f) (.int .u32 k) w')
  clear B0 K A O KN
  go_wp2
  go_ret
  exact ⟨rfl, B1.2.2.2.2⟩

set_option maxHeartbeats 4000000 in
theorem print_any (a : Option Addr) (ca : Nat) (xs : List In) (w : World) (ha : CV w a (flat xs)) (hn : xs.length * 8 ≤ 140737488355328) (T : Tab w) :
    Calls Tryd.prog 14 #[.slice a xs.length ca] w fun e w' => e = .returned (.tuple #[str (printV xs), .int .i64 (printE xs)]) ∧ w.grownBy w' none := by
  obtain ⟨i0, hi, hz0, hz1, hz2⟩ := info_parts info5
  have H : Hid (CV w a (flat xs)) := ha
  have HTb : Hid (Tab w) := T
  clear ha T
  by_cases h4 : xs.length ≤ 4096
  case neg =>
    have e1 : printV xs = [] := by simp [printV, h4]
    have e2 : printE xs = 32 := by simp [printE, h4]
    rw [e1, e2]
    clear e1 e2
    have h5 : (4096 : Int) < (xs.length : Int) := by omega
    go_enter Tryd.func14, Tryd.ntmps14
    go_wp2
    go_ret2
    exact ⟨rfl, World.grownBy.refl _ _⟩
  case pos =>
    have e1 : printV xs = printS xs := by simp [printV, h4]
    have e2 : printE xs = 0 := by simp [printE, h4]
    rw [e1, e2]
    clear e1 e2
    have h5 : ¬ (4096 : Int) < (xs.length : Int) := by omega
    go_enter Tryd.func14, Tryd.ntmps14
    go_wp2_with fail
    refine (forms_any _).mono ?_
    rintro e w0 ⟨rfl, KN, K0⟩
    go_wp2
    go_loopw [5, 14] (fun v i wr => ∃ k : Nat, k ≤ xs.length ∧ i = .int .i64 k ∧ Owns wr w.heap.size v (printS (xs.take k)) ∧ KnownAt wr w.heap.size ∧ w.grownBy wr none) (fun _ i _ => xs.length - (intOf i).toNat)
    case atStart => exact ⟨0, Nat.zero_le _, rfl, World.ownsRow_nil _ _ _ _, KN, K0⟩
    case round =>
      clear KN K0
      obtain ⟨k, hk, rfl, O, KN, G⟩ := hrel
      by_cases hlt : k < xs.length
      · obtain ⟨b, o, rfl, hc⟩ := H.out.insns hlt
        obtain ⟨c0, c1, c2, c3⟩ := hc k hlt
        have HJ : Hid (printS (xs.take (k + 1)) = printS (xs.take k) ++ lineV xs[k] ++ [10]) := printS_succ xs k hlt
        have HL : Hid ((printS (xs.take k)).length ≤ 528384) := by
          show (printS (xs.take k)).length ≤ 528384
          have := printS_len (xs.take k)
          have : (xs.take k).length ≤ 4096 := by rw [List.length_take]; omega
          omega
        clear hc
        generalize xs[k] = x at *
        obtain ⟨y1, y2, y3, y4⟩ := x.bounds
        have hl : (k : Int) < (xs.length : Int) := by omega
        have g0 : wr.cell? ⟨b, o + k * 4, none⟩ = some (.int .u16 (x.code.toNat : Int)) := G.cell c0 (by simp)
        have g1 : wr.cell? ⟨b, o + k * 4 + 1, none⟩ = some (.int .u8 (x.jt.toNat : Int)) := G.cell c1 (by simp)
        have g2 : wr.cell? ⟨b, o + k * 4 + 2, none⟩ = some (.int .u8 (x.jf.toNat : Int)) := G.cell c2 (by simp)
        have g3 : wr.cell? ⟨b, o + k * 4 + 3, none⟩ = some (.int .u32 (x.k.toNat : Int)) := G.cell c3 (by simp)
        have GA := World.grownBy_alloc wr (.cells #[.int .u16 (x.code.toNat : Int), .int .u8 (x.jt.toNat : Int), .int .u8 (x.jf.toNat : Int), .int .u32 (x.k.toNat : Int)] 25) none
        have G1 := grown_trans G GA
        have O1 := owns_keptNone O GA
        have KN1 := KN.grown GA
        have T1 := HTb.out.grown G1
        clear GA
        go_wp2_with fail
        refine (append_line w.heap.size _ (printS (xs.take k)) w.heap.size x.code.toNat x.jt.toNat x.jf.toNat x.k.toNat _ y1 y2 y3 y4 O1 G1.size HTb.out.size (by have := HL.out; omega) T1 KN1).mono ?_
        rintro e w1 ⟨v1, rfl, O2, A1⟩
        have G2 : w.grownBy w1 none := ((Ap.ofNone (Nat.le_refl _) G1).trans A1).none
        have KN2 := KN1.ap A1
        have hll := lineV_len x
        have HLX : Hid (lineN x.code.toNat x.jt.toNat x.jf.toNat x.k.toNat = lineV x) := rfl
        rw [HLX.out] at O2
        clear G O KN g0 g1 g2 g3 c0 c1 c2 c3 G1 O1 KN1 T1 A1 y1 y2 y3 y4
        go_wp2_with (at_builtin; refine wpList_append_rd rfl (.tmp 21) (.tmp 22) 45 rfl i0 Tryd.underlying45 hi hz0 hz1 hz2 w.heap.size v1 (printS (xs.take k) ++ lineV x) rfl ?r1 (some ⟨w1.heap.size, 0, none⟩) 1 [10] rfl (by simp) ?r2 ?r3 ?r4 ?r5)
        case r1 => exact O2.alloc _
        case r2 => exact cells_lit w1 [10]
        case r3 => have := HL.out; simp; omega
        case r4 => have := G2.size; simp; omega
        case r5 =>
          intro v3 w3 O3 K3
          have GB := World.grownBy_alloc w1 (.cells #[.int .u8 10] 5) none
          have G3 : w.grownBy w3 none := grown_trans_new (grown_trans G2 GB) K3 (fun z hz => (O2.lt z hz).1)
          have KN3 : KnownAt w3 w.heap.size := (KN2.grown GB).ap (Ap.ofOwn (O2.alloc _) (Nat.le_trans G2.size GB.size) K3)
          rw [← List.append_assoc, ← HJ.out] at O3
          clear K3 O2 G2 KN2 GB
          go_wp2
          go_roundw
          case rel => exact ⟨k + 1, by omega, by go_num, O3, KN3, G3⟩
          case measure => simp [intOf]; omega
      · obtain rfl : k = xs.length := by omega
        rw [List.take_length] at O
        have hcv := run_str (P := Tryd.prog) O 45 9 Tryd.underlying45 Tryd.underlying5 Tryd.underlying9
        go_wp2
        go_ret2
        exact ⟨rfl, G⟩

end Go.Proofs.YtcapmbeabfhjoaaDoor
