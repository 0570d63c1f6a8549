/-
  Package insn: Encode.
-/
import Derived.Test.YtoimhggpblkcgaaLay
namespace Go.Proofs.Ytoimhggpblkcgaa
open Go.RowKit

/-- The fields of an instruction, and their bytes. -/
def fieldsOf (x : In) : List (Nat × Nat) := [(2, x.code.toNat), (1, x.jt.toNat), (1, x.jf.toNat), (4, x.k.toNat)]

theorem fieldsOf_lay (x : In) : layS (fieldsOf x) = encI x := by
  have h2 : layF x.code.toNat 2 = bytesV 2 x.code.toNat := rfl
  have h4 : layF x.k.toNat 4 = bytesV 4 x.k.toNat := rfl
  have h1 : ∀ c : UInt8, layF c.toNat 1 = [c] := fun c => by simp [layF, shr8_zero]
  simp only [layS, fieldsOf, List.flatMap_cons, List.flatMap_nil, h2, h4, h1, encI]
  simp

theorem fieldsOf_le (x : In) : ∀ f ∈ fieldsOf x, f.1 ≤ 4 ∧ f.2 ≤ 4294967295 := by
  have a := x.code.toNat_lt
  have b := x.jt.toNat_lt
  have c := x.jf.toNat_lt
  have d := x.k.toNat_lt
  intro f hf
  simp only [fieldsOf, List.mem_cons, List.not_mem_nil, or_false] at hf
  rcases hf with rfl | rfl | rfl | rfl <;> simp only <;> omega

set_option maxHeartbeats 2000000 in
theorem encode_any (a : Option Addr) (ca : Nat) (xs : List In) (w : World) (ha : CV w a (flat xs)) (hn : xs.length * 8 ≤ 140737488355328) :
    Calls Try.prog 17 #[.slice a xs.length ca] w fun e w' => MadeE w w' e (encV xs) (encE xs) := by
  obtain ⟨i0, hi, hz0, hz1, hz2⟩ := info_parts info5
  have H : Hid (CV w a (flat xs)) := ha
  clear ha
  by_cases h4 : xs.length ≤ 4096
  case neg =>
    have e1 : encV xs = [] := by simp [encV, h4]
    have e2 : encE xs = 21 := by simp [encE, h4]
    rw [e1, e2]
    clear e1 e2
    have h5 : (4096 : Int) < (xs.length : Int) := by omega
    go_enter Try.func17, Try.ntmps17
    go_wp2
    go_ret2
    exact ⟨_, rfl, World.ownsRow_nil _ _ _ _, World.grownBy.refl _ _⟩
  case pos =>
    have e1 : encV xs = encS xs := by simp [encV, h4]
    have e2 : encE xs = 0 := by simp [encE, h4]
    rw [e1, e2]
    clear e1 e2
    have h5 : ¬ (4096 : Int) < (xs.length : Int) := by omega
    go_enter Try.func17, Try.ntmps17
    go_wp2_with (at_make; refine wpList_make_own _ rfl (.const (.int .i64 0)) (.tmp 12) 29 rfl w.heap.size 5 i0 (.int .u8 0) 1 Try.underlying29 hi hz0 hz1 .i64 .i64 (8 * (xs.length : Int)) (8 * xs.length) rfl rfl (by omega) ?q1 ?q2 ?q3 ?q4)
    case q1 => omega
    case q2 => unfold maxLen; omega
    case q4 =>
      intro w1 O1 G1
      go_wp2
      go_loopw [4, 16] (fun v i wr => ∃ k : Nat, k ≤ xs.length ∧ i = .int .i64 k ∧ Owns wr w.heap.size v (encS (xs.take k)) ∧ w.grownBy wr none) (fun _ i _ => xs.length - (intOf i).toNat)
      case atStart => exact ⟨0, Nat.zero_le _, rfl, O1, G1⟩
      case round =>
        clear O1 G1
        obtain ⟨k, hk, rfl, O, G⟩ := hrel
        by_cases hlt : k < xs.length
        · obtain ⟨b, o, rfl, hc⟩ := H.out.insns hlt
          obtain ⟨c0, c1, c2, c3⟩ := hc k hlt
          have HJ : Hid (encS (xs.take (k + 1)) = encS (xs.take k) ++ encI xs[k]) := encS_succ xs k hlt
          have HL : Hid ((encS (xs.take k)).length ≤ 32760) := by
            show (encS (xs.take k)).length ≤ 32760
            rw [encS_len, List.length_take]
            omega
          clear hc
          generalize xs[k] = x at *
          have hcode := x.code.toNat_lt
          have hkk := x.k.toNat_lt
          have hjt := x.jt.toNat_lt
          have hjf := x.jf.toNat_lt
          have hl : (k : Int) < (xs.length : Int) := by omega
          have g0 : wr.cell? ⟨b, o + k * 4, none⟩ = some (.int .u16 (x.code.toNat : Int)) := G.cell c0 (by simp)
          have g1 : wr.cell? ⟨b, o + k * 4 + 1, none⟩ = some (.int .u8 (x.jt.toNat : Int)) := G.cell c1 (by simp)
          have g2 : wr.cell? ⟨b, o + k * 4 + 2, none⟩ = some (.int .u8 (x.jf.toNat : Int)) := G.cell c2 (by simp)
          have g3 : wr.cell? ⟨b, o + k * 4 + 3, none⟩ = some (.int .u32 (x.k.toNat : Int)) := G.cell c3 (by simp)
          go_wp2_with fail
          have LA := lay_any (wr.heap.size + 1) u4 (encS (xs.take k)) (fieldsOf x) 4 w ((wr.alloc (.cells #[.int .u16 (x.code.toNat : Int), .int .u8 (x.jt.toNat : Int), .int .u8 (x.jf.toNat : Int), .int .u32 (x.k.toNat : Int)] 50)).alloc (.cells (flatF (fieldsOf x)).toArray 54))
            (grown_trans (grown_trans G (World.grownBy_alloc _ _ _)) (World.grownBy_alloc _ _ _)) ((O.alloc _).alloc _) (by rw [show wr.heap.size + 1 = (wr.alloc (.cells #[.int .u16 (x.code.toNat : Int), .int .u8 (x.jt.toNat : Int), .int .u8 (x.jf.toNat : Int), .int .u32 (x.k.toNat : Int)] 50)).heap.size by simp]; exact heap_alloc_new _ _) (fieldsOf_le x) (by have := HL.out; omega) (by simp [fieldsOf])
          refine Calls.mono LA ?_
          clear LA O G g0 g1 g2 g3
          rintro e w2 ⟨v2, rfl, O2, G2⟩
          rw [fieldsOf_lay, ← HJ.out] at O2
          go_wp2
          go_roundw
          case rel => exact ⟨k + 1, by omega, by go_num, O2, G2⟩
          case measure => simp [intOf]; omega
        · obtain rfl : k = xs.length := by omega
          rw [List.take_length] at O
          go_wp2
          go_ret2
          exact ⟨_, rfl, O, G⟩

end Go.Proofs.Ytoimhggpblkcgaa
