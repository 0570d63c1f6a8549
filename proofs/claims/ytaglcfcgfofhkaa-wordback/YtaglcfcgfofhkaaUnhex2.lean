/-
  Unhex of the document's own answer.
-/
import Derived.Test.YtaglcfcgfofhkaaUnhex
namespace Go.Proofs.Ytaglcfcgfofhkaa
open Go.RowKit

/-- A digit, or -1. -/
def rdV (c : Nat) : Int := if digOk c = true then (digV c : Int) else -1

theorem refdigit_q (b : UInt8) (w : World) :
    Calls Try.prog 34 #[.int .u8 (b.toNat : Int)] w fun e w' => e = .returned (.int .i64 (rdV b.toNat)) ∧ w' = w :=
  (refdigit_any b.toNat w b.toNat_lt).mono fun _ _ ⟨h, k⟩ => ⟨h, k.symm⟩

set_option maxHeartbeats 1000000 in
theorem refunhex_any (s : ByteArray) (w : World) (hs : s.size ≤ 9223372036854775807) (hm : s.size ≤ 281474976710656) :
    Calls Try.prog 27 #[.string s] w fun e w' => MadeB w w' e (unV s) (unOk s) := by
  obtain ⟨i0, hi, hz0, hz1, hz2⟩ := info_parts info5
  by_cases hev : s.size % 2 = 0
  case neg =>
    obtain ⟨e1, e2⟩ := un_odd hev
    rw [e1, e2]
    clear e1 e2
    have h1 : (((s.size : Int) % 2) != 0) = true := by rw [bne_iff_ne]; omega
    go_enter Try.func27, Try.ntmps27
    go_wp2
    go_ret2
    exact ⟨_, rfl, World.ownsRow_nil _ _ _ _, World.grownBy.refl _ _⟩
  case pos =>
    have h1 : (((s.size : Int) % 2) != 0) = false := by simp; omega
    have HE : Hid (s.size % 2 = 0) := hev
    clear hev
    go_enter Try.func27, Try.ntmps27
    go_wp2
    go_loopw [4, 5] (fun v i wr => ∃ m k : Nat, m = 2 * k ∧ m ≤ s.size ∧ i = .int .i64 m ∧ okTo s k = true ∧ Owns wr w.heap.size v (decTo s k) ∧ w.grownBy wr none) (fun _ i _ => s.size - (intOf i).toNat)
    case atStart => exact ⟨0, 0, rfl, Nat.zero_le _, rfl, rfl, World.ownsRow_nil _ _ _ _, World.grownBy.refl _ _⟩
    case round =>
      obtain ⟨m, k, hmk, hk, rfl, hok, O, G⟩ := hrel
      have HM : Hid (m = 2 * k) := hmk
      have HO : Hid (okTo s k = true) := hok
      by_cases hlt : m < s.size
      · have hlt1 : m + 1 < s.size := by have := HE.out; omega
        have l0 : (m : Int) < (s.size : Int) := by omega
        have l1 : (m : Int) + 1 < (s.size : Int) := by omega
        have l2 : (0 : Int) ≤ (m : Int) + 1 := by omega
        clear hmk hok
        have E1 := gd_eq s m hlt
        have E2 := gd_eq s (m + 1) hlt1
        have hv1 := digV_lt (gd s m)
        have hv2 := digV_lt (gd s (m + 1))
        cases hd1 : digOk (gd s m) with
        | false =>
          obtain ⟨e1, e2⟩ := un_bad (k := k) (by have := HM.out; omega) HE.out (by rw [← HM.out, hd1, Bool.false_and])
          have r1 : rdV (s[m].toNat) = -1 := by rw [E1]; simp [rdV, hd1]
          have HU : Hid (unOk s = false ∧ unV s = []) := ⟨e1, e2⟩
          clear e1 e2 E1 E2 hd1
          go_wp2
          go_quiet ((go_at_call 34; exact Calls.quiet_of_same (refdigit_q _ _)))
          go_wp2
          go_ret2
          rw [HU.out.1, HU.out.2]
          exact ⟨_, rfl, World.ownsRow_nil _ _ _ _, grown_trans G (grown_drewN _ _ _)⟩
        | true =>
          have r1 : rdV (s[m].toNat) = (digV (gd s m) : Int) := by rw [E1]; simp [rdV, hd1]
          cases hd2 : digOk (gd s (m + 1)) with
          | false =>
            obtain ⟨e1, e2⟩ := un_bad (k := k) (by have := HM.out; omega) HE.out (by rw [← HM.out, hd2, Bool.and_false])
            have r2 : rdV (s[m + 1].toNat) = -1 := by rw [E2]; simp [rdV, hd2]
            have HU : Hid (unOk s = false ∧ unV s = []) := ⟨e1, e2⟩
            clear e1 e2 E1 E2 hd1 hd2
            generalize digV (gd s m) = a1 at *
            go_wp2
            go_quiet ((go_at_call 34; exact Calls.quiet_of_same (refdigit_q _ _)))
            go_wp2
            go_ret2
            rw [HU.out.1, HU.out.2]
            exact ⟨_, rfl, World.ownsRow_nil _ _ _ _, grown_trans G (grown_drewN _ _ _)⟩
          | true =>
            have r2 : rdV (s[m + 1].toNat) = (digV (gd s (m + 1)) : Int) := by rw [E2]; simp [rdV, hd2]
            have HD : Hid (decTo s (k + 1) = decTo s k ++ [UInt8.ofNat (16 * digV (gd s m) + digV (gd s (m + 1)))]) := by
              have e := HM.out
              show decTo s (k + 1) = _
              rw [e]
              rfl
            have HO' : Hid (okTo s (k + 1) = true) := by
              show okTo s (k + 1) = true
              have e := HM.out
              subst e
              simp only [okTo, HO.out, hd1, hd2, Bool.and_self]
            have HT : Hid ((16 * (digV (gd s m) : Int) + (digV (gd s (m + 1)) : Int)) = ((UInt8.ofNat (16 * digV (gd s m) + digV (gd s (m + 1)))).toNat : Int)) := by
              show (16 * (digV (gd s m) : Int) + (digV (gd s (m + 1)) : Int)) = _
              simp
              omega
            generalize UInt8.ofNat (16 * digV (gd s m) + digV (gd s (m + 1))) = t at *
            clear hd1 hd2 E1 E2
            generalize digV (gd s m) = a1 at *
            generalize digV (gd s (m + 1)) = a2 at *
            have HL : Hid ((decTo s k).length = k) := decTo_len s k
            go_wp2
            go_quiet ((go_at_call 34; exact Calls.quiet_of_same (refdigit_q _ _)))
            go_wp2_with (at_builtin; refine wpList_append_rd rfl (.tmp 33) (.tmp 39) 22 rfl i0 Try.underlying22 hi hz0 hz1 hz2 w.heap.size u4 (decTo s k) rfl ?q1 (some ⟨wr.heap.size, 0, none⟩) 1 [t] rfl (by simp) ?q2 ?q3 ?q4 ?q5)
            case q1 => exact World.ownsRow.alloc (w := wr.drewN nq) O _
            case q2 => rw [HT.out]; exact cells_lit (wr.drewN nq) [t]
            case q3 =>
              have e := HM.out
              rw [HL.out]
              simp
              omega
            case q4 => have := G.size; simp; omega
            case q5 =>
              intro v' w' k1 k2
              have G' : w.grownBy w' none := grown_trans_new G (grown_trans (grown_trans (grown_drewN wr nq _) (World.grownBy_alloc (wr.drewN nq) _ _)) k2) (fun x hx => (O.lt x hx).1)
              rw [← HD.out] at k1
              clear k2 G O r1 r2
              go_wp2
              go_roundw
              case rel => exact ⟨m + 2, k + 1, by have := HM.out; omega, by omega, by go_num, HO'.out, k1, G'⟩
              case measure => simp [intOf]; omega
      · obtain ⟨e1, e2⟩ := un_good (s := s) (k := k) (by omega) hok
        clear hmk hok
        go_wp2
        go_ret2
        rw [e1, e2]
        exact ⟨_, rfl, O, G⟩

end Go.Proofs.Ytaglcfcgfofhkaa
