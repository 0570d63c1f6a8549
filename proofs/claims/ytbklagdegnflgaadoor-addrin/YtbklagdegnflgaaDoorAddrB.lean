/-
  Package addr: In; bytes.Equal.
-/
import Derived.Test.YtbklagdegnflgaaDoorAddrA
import Derived.Test.YtbklagdegnflgaaDoorHex
namespace Go.Proofs.YtbklagdegnflgaaDoor
open Go.RowKit
set_option maxRecDepth 100000

/-- 'string(b)', b bytes that lie somewhere. -/
theorem run_strC {P : Program} {w : World} {ao : Option Addr} {cap : Nat} {ys : List UInt8} (hc : Cells w ao ys) (src dst : TypeId) (hs : P.underlying src = some (.slice 5)) (he : P.underlying 5 = some (.int .u8)) (hd : P.underlying dst = some .string) :
    (convert src dst (.slice ao ys.length cap)).run P w = .ok (.string ⟨ys.toArray⟩) w := by
  cases ao with
  | none =>
    have e := hc.1 rfl
    subst e
    show (convert src dst (.slice none 0 cap)).run P w = _
    rw [run_convert_bytes_string w src dst 5 none 0 cap hs he hd]
    simp [Conv.bytesToString]
    rfl
  | some ad => exact run_convert_bytes_back w src dst 5 ad cap ys hs he hd (fun j hj => hc.2 ad rfl j hj)

set_option maxHeartbeats 1000000 in
theorem equal_any (a b : Option Addr) (ca cb : Nat) (xs ys : List UInt8) (w : World) (ha : Cells w a xs) (hb : Cells w b ys) :
    Calls Tryd.prog 45 #[.slice a xs.length ca, .slice b ys.length cb] w fun e w' => e = .returned (.bool (decide (xs = ys))) ∧ w = w' := by
  have h1 := run_strC (P := Tryd.prog) (cap := ca) ha 34 9 Tryd.underlying34 Tryd.underlying5 Tryd.underlying9
  have h2 := run_strC (P := Tryd.prog) (cap := cb) hb 34 9 Tryd.underlying34 Tryd.underlying5 Tryd.underlying9
  clear ha hb
  obtain ⟨S, hS⟩ : ∃ S : ByteArray, ⟨xs.toArray⟩ = S := ⟨_, rfl⟩
  obtain ⟨T, hT⟩ : ∃ T : ByteArray, ⟨ys.toArray⟩ = T := ⟨_, rfl⟩
  have e : decide (xs = ys) = (S.toList == T.toList) := by
    rw [← hS, ← hT, ByteArray.toList_eq, ByteArray.toList_eq]
    show decide (xs = ys) = (xs == ys)
    by_cases h : xs = ys
    · subst h; simp
    · rw [decide_eq_false h, Eq.comm, beq_eq_false_iff_ne]; exact h
  rw [e]
  rw [hS] at h1
  rw [hT] at h2
  clear hS hT e
  go_enter Tryd.func45, Tryd.ntmps45
  go_wp2
  go_ret
  exact ⟨rfl, rfl⟩

set_option maxRecDepth 100000 in
set_option maxHeartbeats 2000000 in
theorem in_any6 (a : Option Addr) (ca : Nat) (xs : List UInt8) (b : Option Addr) (cb : Nat) (ys : List UInt8) (bits : Int) (w : World) (ha : Cells w a xs) (hc0 : a = none → ca = 0) (hx : xs.length ≤ 140737488355328) (hb : Cells w b ys) (hd0 : b = none → cb = 0) :
    Calls Tryd.prog 25 #[.slice a xs.length ca, .slice b ys.length cb, .int .i64 bits] w fun e w' => e = .returned (.tuple #[.bool (inV xs ys bits), .int .i64 (inE xs ys bits)]) ∧ w.grownBy w' none := by
  have HB : Hid (Cells w b ys) := hb
  have C1 := net_any a ca xs bits w ha hc0 hx
  by_cases hne : ys.length = xs.length
  case neg =>
    have e : inE xs ys bits = 60 := by rw [inE, if_pos hne]
    have e2 : inV xs ys bits = false := by rw [inV, e]; rfl
    rw [e, e2]
    have hy3 : ((xs.length : Int) != (ys.length : Int)) = true := by rw [bne_iff_ne]; omega
    clear ha hb e e2 hne
    go_enter Tryd.func25, Tryd.ntmps25
    go_wp2_with fail
    refine C1.mono ?_
    rintro e w1 ⟨v, rfl, O, G⟩
    clear O
    go_wp2
    go_ret2
    exact ⟨rfl, G⟩
  case pos =>
    have hy3 : ((xs.length : Int) != (ys.length : Int)) = false := by rw [hne]; simp
    by_cases hz : netE xs.length bits = 0
    case neg =>
      have e : inE xs ys bits = netE xs.length bits := by rw [inE, if_neg (fun h => h hne), if_neg hz]
      have e2 : inV xs ys bits = false := by rw [inV, e]; simp [hz]
      rw [e, e2]
      have hz' : ((netE xs.length bits) != 0) = true := by rw [bne_iff_ne]; exact hz
      clear ha hb e e2 hne hz
      generalize netE xs.length bits = E at *
      go_enter Tryd.func25, Tryd.ntmps25
      go_wp2_with fail
      refine C1.mono ?_
      rintro e w1 ⟨v, rfl, O, G⟩
      clear O
      go_wp2
      go_ret2
      exact ⟨rfl, G⟩
    case pos =>
      have C2 : Hid (∀ W : World, Cells W b ys → Calls Tryd.prog 20 #[.slice b ys.length cb, .int .i64 bits] W fun e w' => ∃ v, e = .returned (.tuple #[v, .int .i64 0]) ∧ Owns w' W.heap.size v (maskV bits.toNat ys) ∧ W.grownBy w' none) := fun W h => by
        have := net_any b cb ys bits W h hd0 (by omega)
        rw [hne, hz, netV, if_pos (by rw [hne]; exact hz)] at this
        rw [hne]
        exact this
      rw [hz, netV, if_pos hz] at C1
      have hE : inE xs ys bits = if maskV bits.toNat ys = ys then 0 else 62 := by rw [inE, if_neg (fun h => h hne), if_pos hz]
      by_cases hm : maskV bits.toNat ys = ys
      · have e : inE xs ys bits = 0 := by rw [hE, if_pos hm]
        have e2 : inV xs ys bits = decide (maskV bits.toNat xs = ys) := by rw [inV, e]; simp
        rw [e, e2]
        have HM : Hid (decide (maskV bits.toNat ys = ys) = true) := decide_eq_true hm
        clear ha hb e e2 hne hz hm hE
        generalize maskV bits.toNat xs = mx at *
        generalize maskV bits.toNat ys = my at *
        go_enter Tryd.func25, Tryd.ntmps25
        go_wp2_with fail
        refine C1.mono ?_
        rintro e w1 ⟨v, rfl, O, G⟩
        obtain ⟨ao, cap, rfl, hc, -⟩ := O.rd
        have HC : Hid (Cells w1 ao mx) := hc
        clear hc O C1
        go_wp2_with fail
        refine (C2.out _ (HB.out.keptNone G)).mono ?_
        rintro e w2 ⟨v2, rfl, O2, G2⟩
        obtain ⟨ao2, cap2, rfl, hc2, -⟩ := O2.rd
        clear O2
        go_wp2_with fail
        refine (equal_any ao2 b cap2 cb my ys _ hc2 (HB.out.keptNone (grown_trans G G2))).mono ?_
        rintro e w3 ⟨rfl, rfl⟩
        rw [HM.out]
        go_wp2_with fail
        refine (equal_any ao b cap cb mx ys _ (HC.out.keptNone G2) (HB.out.keptNone (grown_trans G G2))).mono ?_
        rintro e w3 ⟨rfl, rfl⟩
        go_wp2
        go_ret2
        exact ⟨rfl, grown_trans G G2⟩
      · have e : inE xs ys bits = 62 := by rw [hE, if_neg hm]
        have e2 : inV xs ys bits = false := by rw [inV, e]; rfl
        rw [e, e2]
        have HM : Hid (decide (maskV bits.toNat ys = ys) = false) := decide_eq_false hm
        clear ha hb e e2 hne hz hm hE
        generalize maskV bits.toNat xs = mx at *
        generalize maskV bits.toNat ys = my at *
        go_enter Tryd.func25, Tryd.ntmps25
        go_wp2_with fail
        refine C1.mono ?_
        rintro e w1 ⟨v, rfl, O, G⟩
        obtain ⟨ao, cap, rfl, hc, -⟩ := O.rd
        clear hc O C1
        go_wp2_with fail
        refine (C2.out _ (HB.out.keptNone G)).mono ?_
        rintro e w2 ⟨v2, rfl, O2, G2⟩
        obtain ⟨ao2, cap2, rfl, hc2, -⟩ := O2.rd
        clear O2
        go_wp2_with fail
        refine (equal_any ao2 b cap2 cb my ys _ hc2 (HB.out.keptNone (grown_trans G G2))).mono ?_
        rintro e w3 ⟨rfl, rfl⟩
        rw [HM.out]
        go_wp2
        go_ret2
        exact ⟨rfl, grown_trans G G2⟩

end Go.Proofs.YtbklagdegnflgaaDoor
