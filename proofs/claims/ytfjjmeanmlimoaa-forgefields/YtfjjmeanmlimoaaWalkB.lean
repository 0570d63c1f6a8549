/-
  The landed reader: Length, Address, Protocol, Inner.
-/
import Derived.Test.YtfjjmeanmlimoaaWalkA
import Derived.Deep.RegionHeld3
namespace Go.Proofs.Ytfjjmeanmlimoaa
open Go.RowKit
set_option maxRecDepth 100000

/-- What a step leaves. -/
def StepP (w : World) (g : Nat) (l : Lk) (s : Value) (x : Except Int Vw) (e : Ending) (w' : World) : Prop :=
  w.grownBy w' (some g) ∧ match x with
    | .ok v => e = .returned (.tuple #[]) ∧ WAt w' g v l s
    | .error er => e = .panicked (PanE er)

/-- A frame's bytes, apart from the reader. -/
def FrA (w : World) (g : Nat) (a : Option Addr) (b : List UInt8) : Prop := Cells w a b ∧ ∀ x, a = some x → b ≠ [] → x.block ≠ g
theorem FrA.kept {w w' : World} {g : Nat} {a : Option Addr} {b : List UInt8} (h : FrA w g a b) (G : w.grownBy w' (some g)) : FrA w' g a b :=
  ⟨h.1.kept G (fun ad e hb => by have := h.2 ad e hb; simpa using this), h.2⟩

theorem grown_set {w : World} {g i : Nat} {v : Value} (n : Nat) : w.grownBy ((w.drewN n).setCell ⟨g, i, none⟩ v) (some g) :=
  grown_setCell (grown_drewN w n (some g)) _ _ (.inl rfl)

theorem take_ok' (g : Nat) (v : Vw) (l : Lk) (a : Option Addr) (ca : Nat) (b : List UInt8) (s : Nat) (w : World) (h : WAt w g v l (.slice a b.length ca)) (ha : FrA w g a b) (hn : b.length ≤ 140737488355328) (hs : s = 1 ∨ s = 2 ∨ s = 4) (hk : v.pos + s ≤ b.length) :
    Calls Try.prog 66 #[.pointer (some ⟨g, 0, none⟩), .int .i64 (s : Int)] w fun e w' => e = .returned (.int .u32 (numAt b v.pos s : Int)) ∧ WAt w' g { v with pos := v.pos + s } l (.slice a b.length ca) ∧ w.grownBy w' (some g) := by
  refine (take_ok g v l a ca b s w h ha.1 hn hs hk).mono ?_
  rintro e w' ⟨rfl, n, rfl⟩
  exact ⟨rfl, (h.kept (grown_drewN _ n none)).setPos _, grown_set n⟩

set_option maxHeartbeats 1000000 in
theorem length_any (g : Nat) (v : Vw) (l : Lk) (a : Option Addr) (ca n : Nat) (w : World) (h : WAt w g v l (.slice a n ca)) :
    Calls Try.prog 34 #[.pointer (some ⟨g, 0, none⟩)] w fun e w' => StepP w g l (.slice a n ca) (if 65535 < n then .error 71 else .ok v) e w' := by
  have c12 : w.cell? ⟨g, 12, none⟩ = some (.slice a n ca) := h.c 12
  have HW : Hid (WAt w g v l (.slice a n ca)) := h
  clear h
  by_cases hl : 65535 < n
  · have hl' : (65535 : Int) < (n : Int) := by omega
    rw [if_pos hl]
    clear hl
    go_enter Try.func34, Try.ntmps34
    go_wp2
    exact ⟨rfl, World.grownBy.refl _ _, rfl⟩
  · have hl' : ¬ (65535 : Int) < (n : Int) := by omega
    rw [if_neg hl]
    clear hl
    go_enter Try.func34, Try.ntmps34
    go_wp2
    go_end0
    exact ⟨World.grownBy.refl _ _, rfl, HW.out⟩

set_option maxHeartbeats 1000000 in
theorem address_any (g : Nat) (v : Vw) (l : Lk) (a : Option Addr) (ca : Nat) (b : List UInt8) (w : World) (h : WAt w g v l (.slice a b.length ca)) (ha : FrA w g a b) (hn : b.length ≤ 140737488355328) (hv : v.pos ≤ 1000) :
    Calls Try.prog 35 #[.pointer (some ⟨g, 0, none⟩)] w fun e w' => StepP w g l (.slice a b.length ca) ((plainV l b).bind fun p => .ok { v with pos := v.pos + p }) e w' := by
  have c12 : w.cell? ⟨g, 12, none⟩ = some (.slice a b.length ca) := h.c 12
  have c9 : w.cell? ⟨g, 9, none⟩ = some (.bool l.acfc) := h.c 9
  have c5 : w.cell? ⟨g, 5, none⟩ = some (.int .i64 (v.pos : Int)) := h.c 5
  have f5 := VAt.free h 5
  have HW : Hid (WAt w g v l (.slice a b.length ca)) := h
  have CG := get_any a ca b 0 2 w ha.1 hn
  have hp : plainV l b = if 2 ≤ b.length ∧ bg b 0 = 255 ∧ bg b 1 = 3 then .ok 2 else if l.acfc = true then .ok 0 else if b.length < 2 then .error 72 else .error 73 := rfl
  rw [hp]
  have b0 := bg_lt b 0
  have b1 := bg_lt b 1
  clear h ha hp
  by_cases h2 : 2 ≤ b.length
  · obtain ⟨e1, e2⟩ := getV_ok (b := b) (p := 0) (k := 2) (by omega) (by omega)
    rw [show ((0 : Nat) : Int) = 0 from rfl, show ((2 : Nat) : Int) = 2 from rfl] at e1 e2
    rw [e1, e2, numAt_two] at CG
    by_cases hff : bg b 0 = 255 ∧ bg b 1 = 3
    · have hf : ((bg b 0 * 256 + bg b (0 + 1) : Nat) : Int) = 65283 := by
        rw [Nat.zero_add]; omega
      rw [hf] at CG
      rw [if_pos ⟨h2, hff⟩]
      clear hff b0 b1 e1 e2 hf h2
      have hw : IntKind.i64.wrap ((v.pos : Int) + 2) = ((v.pos + 2 : Nat) : Int) := by rw [IntKind.wrap_i64]; omega
      go_enter Try.func35, Try.ntmps35
      go_wp2_with fail
      refine CG.mono ?_
      rintro e w1 ⟨rfl, rfl⟩
      clear CG
      go_wp2
      go_end0
      exact ⟨grown_set 0, rfl, HW.out.setPos _⟩
    · have hf : (((bg b 0 * 256 + bg b (0 + 1) : Nat) : Int) == 65283) = false := by
        rw [Nat.zero_add, beq_eq_false_iff_ne]; omega
      rw [if_neg (fun e => hff e.2), if_neg (show ¬ b.length < 2 by omega)]
      generalize bg b 0 * 256 + bg b (0 + 1) = fld at *
      clear hff b0 b1 e1 e2 h2
      cases hac : l.acfc with
      | true =>
        rw [hac] at c9
        rw [if_pos rfl]
        go_enter Try.func35, Try.ntmps35
        go_wp2_with fail
        refine CG.mono ?_
        rintro e w1 ⟨rfl, rfl⟩
        clear CG
        go_wp2
        go_end0
        exact ⟨World.grownBy.refl _ _, rfl, HW.out⟩
      | false =>
        rw [hac] at c9
        rw [if_neg (by simp)]
        go_enter Try.func35, Try.ntmps35
        go_wp2_with fail
        refine CG.mono ?_
        rintro e w1 ⟨rfl, rfl⟩
        clear CG
        go_wp2
        exact ⟨rfl, World.grownBy.refl _ _, rfl⟩
  · obtain ⟨e1, e2⟩ := getV_no (b := b) (p := 0) (k := 2) (by omega)
    rw [show ((0 : Nat) : Int) = 0 from rfl, show ((2 : Nat) : Int) = 2 from rfl] at e1 e2
    rw [e1, e2] at CG
    rw [if_neg (fun e => h2 e.1), if_pos (show b.length < 2 by omega)]
    clear b0 b1 e1 e2 h2
    cases hac : l.acfc with
    | true =>
      rw [hac] at c9
      rw [if_pos rfl]
      go_enter Try.func35, Try.ntmps35
      go_wp2_with fail
      refine CG.mono ?_
      rintro e w1 ⟨rfl, rfl⟩
      clear CG
      go_wp2
      go_end0
      exact ⟨World.grownBy.refl _ _, rfl, HW.out⟩
    | false =>
      rw [hac] at c9
      rw [if_neg (by simp)]
      go_enter Try.func35, Try.ntmps35
      go_wp2_with fail
      refine CG.mono ?_
      rintro e w1 ⟨rfl, rfl⟩
      clear CG
      go_wp2
      exact ⟨rfl, World.grownBy.refl _ _, rfl⟩

end Go.Proofs.Ytfjjmeanmlimoaa
