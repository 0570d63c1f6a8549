/-
  The document's own Print.
-/
import Derived.Test.YtcapmbeabfhjoaaDoorText
import Derived.Test.YtcapmbeabfhjoaaDoorICopy
import Derived.Test.YtcapmbeabfhjoaaDoorHexS
import Derived.Lib.AppendStr
namespace Go.Proofs.YtcapmbeabfhjoaaDoor
open Go.RowKit
set_option maxRecDepth 100000

def lineB (x : In) : List UInt8 := lineV x ++ [10]
def printS (xs : List In) : List UInt8 := xs.flatMap lineB
def printV (xs : List In) : List UInt8 := if xs.length ≤ 4096 then printS xs else []
def printE (xs : List In) : Int := if xs.length ≤ 4096 then 0 else 32

theorem printS_succ (xs : List In) (k : Nat) (hk : k < xs.length) : printS (xs.take (k + 1)) = printS (xs.take k) ++ lineV xs[k] ++ [10] := by
  rw [List.take_succ_eq_append_getElem hk]; simp only [printS, lineB, List.flatMap_append, List.flatMap_cons, List.flatMap_nil, List.append_nil, List.append_assoc]

theorem lineV_len (x : In) : (lineV x).length ≤ 128 := lineN_len _ _ _ _

theorem printS_len (xs : List In) : (printS xs).length ≤ 129 * xs.length := by
  induction xs with
  | nil => simp [printS]
  | cons x xs ih =>
    have := lineV_len x
    simp only [printS, lineB, List.flatMap_cons, List.length_append, List.length_cons, List.length_nil] at *
    omega

theorem strCells_str (xs : List UInt8) : Lib.strCells ⟨xs.toArray⟩ = xs.map bv := by simp [Lib.strCells, bv]

set_option maxHeartbeats 2000000 in
theorem refprint_any (a : Option Addr) (ca : Nat) (xs : List In) (w : World) (ha : CV w a (flat xs)) (hn : xs.length * 8 ≤ 140737488355328) :
    Calls Tryd.prog 12 #[.slice a xs.length ca] w fun e w' => e = .returned (.tuple #[str (printV xs), .int .i64 (printE xs)]) ∧ w.grownBy w' none := by
  obtain ⟨i0, hi, hz0, hz1, hz2⟩ := info_parts info5
  have H : Hid (CV w a (flat xs)) := ha
  clear ha
  by_cases h4 : xs.length ≤ 4096
  case neg =>
    have e1 : printV xs = [] := by simp [printV, h4]
    have e2 : printE xs = 32 := by simp [printE, h4]
    rw [e1, e2]
    clear e1 e2
    have h5 : (4096 : Int) < (xs.length : Int) := by omega
    go_enter Tryd.func12, Tryd.ntmps12
    go_wp2
    go_ret2
    exact ⟨rfl, World.grownBy.refl _ _⟩
  case pos =>
    have e1 : printV xs = printS xs := by simp [printV, h4]
    have e2 : printE xs = 0 := by simp [printE, h4]
    rw [e1, e2]
    clear e1 e2
    have h5 : ¬ (4096 : Int) < (xs.length : Int) := by omega
    go_enter Tryd.func12, Tryd.ntmps12
    go_wp2
    go_loopw [4, 5] (fun v i wr => ∃ k : Nat, k ≤ xs.length ∧ i = .int .i64 k ∧ Owns wr w.heap.size v (printS (xs.take k)) ∧ w.grownBy wr none) (fun _ i _ => xs.length - (intOf i).toNat)
    case atStart => exact ⟨0, Nat.zero_le _, rfl, World.ownsRow_nil _ _ _ _, World.grownBy.refl _ _⟩
    case round =>
      obtain ⟨k, hk, rfl, O, G⟩ := hrel
      by_cases hlt : k < xs.length
      · obtain ⟨b, o, rfl, hc⟩ := H.out.insns hlt
        obtain ⟨c0, c1, c2, c3⟩ := hc k hlt
        have HJ : Hid (printS (xs.take (k + 1)) = printS (xs.take k) ++ lineV xs[k] ++ [10]) := printS_succ xs k hlt
        have HL : Hid ((printS (xs.take k)).length ≤ 528384) := by
          show (printS (xs.take k)).length ≤ 528384
          have := printS_len (xs.take k)
          have : (xs.take k).length ≤ 4096 := by rw [List.length_take]; omega
          omega
        clear hc
        generalize xs[k] = x at *
        obtain ⟨y1, y2, y3, y4⟩ := x.bounds
        have hl : (k : Int) < (xs.length : Int) := by omega
        have g0 : wr.cell? ⟨b, o + k * 4, none⟩ = some (.int .u16 (x.code.toNat : Int)) := G.cell c0 (by simp)
        have g1 : wr.cell? ⟨b, o + k * 4 + 1, none⟩ = some (.int .u8 (x.jt.toNat : Int)) := G.cell c1 (by simp)
        have g2 : wr.cell? ⟨b, o + k * 4 + 2, none⟩ = some (.int .u8 (x.jf.toNat : Int)) := G.cell c2 (by simp)
        have g3 : wr.cell? ⟨b, o + k * 4 + 3, none⟩ = some (.int .u32 (x.k.toNat : Int)) := G.cell c3 (by simp)
        go_wp2_with fail
        refine (refline_any x.code.toNat x.jt.toNat x.jf.toNat x.k.toNat _ y1 y2 y3 y4).mono ?_
        rintro e w1 ⟨rfl, K1⟩
        have G1 := grown_trans G K1
        have O1 := owns_keptNone O K1
        clear G O K1 g0 g1 g2 g3 c0 c1 c2 c3
        have hll := lineV_len x
        have HLX : Hid (lineN x.code.toNat x.jt.toNat x.jf.toNat x.k.toNat = lineV x) := rfl
        rw [HLX.out]
        generalize lineV x = lx at *
        have hsz : (⟨lx.toArray⟩ : ByteArray).size = lx.length := by show lx.toArray.size = _; simp
        go_wp2_with (at_builtin; refine Lib.wpList_append_own_string w1 rfl (.tmp 15) (.tmp 20) 45 9 rfl w.heap.size 5 i0 Tryd.underlying45 Tryd.underlying9 hi hz0 hz1 hz2 u4 (printS (xs.take k)).length ((printS (xs.take k)).map bv) rfl O1 ⟨lx.toArray⟩ rfl ?q1 ?q2 ?q3 ?q4)
        case q1 => have := HL.out; rw [hsz]; unfold maxLen; omega
        case q2 => have := HL.out; rw [hsz]; omega
        case q3 => exact G1.size
        case q4 =>
          intro v2 w2 h2 K2 _
          have O2 : Owns w2 w.heap.size v2 (printS (xs.take k) ++ lx) := by
            unfold Owns
            rw [List.length_append, List.map_append, ← strCells_str, ← hsz]
            exact h2
          have G2 : w.grownBy w2 none := grown_trans_new G1 K2 (fun z hz => (O1.lt z hz).1)
          clear h2 K2 O1 G1
          go_wp2_with (at_builtin; refine wpList_append_rd rfl (.tmp 22) (.tmp 23) 45 rfl i0 Tryd.underlying45 hi hz0 hz1 hz2 w.heap.size v2 (printS (xs.take k) ++ lx) rfl ?r1 (some ⟨w2.heap.size, 0, none⟩) 1 [10] rfl (by simp) ?r2 ?r3 ?r4 ?r5)
          case r1 => exact O2.alloc _
          case r2 => exact cells_lit w2 [10]
          case r3 => have := HL.out; simp; omega
          case r4 => have := G2.size; simp; omega
          case r5 =>
            intro v3 w3 O3 K3
            have G3 : w.grownBy w3 none := grown_trans_new (grown_trans G2 (World.grownBy_alloc _ _ _)) K3 (fun z hz => (O2.lt z hz).1)
            rw [← List.append_assoc, ← HJ.out] at O3
            clear K3 O2 G2
            go_wp2
            go_roundw
            case rel => exact ⟨k + 1, by omega, by go_num, O3, G3⟩
            case measure => simp [intOf]; omega
      · obtain rfl : k = xs.length := by omega
        rw [List.take_length] at O
        have hcv := run_str (P := Tryd.prog) O 45 9 Tryd.underlying45 Tryd.underlying5 Tryd.underlying9
        go_wp2
        go_ret2
        exact ⟨rfl, G⟩

end Go.Proofs.YtcapmbeabfhjoaaDoor
