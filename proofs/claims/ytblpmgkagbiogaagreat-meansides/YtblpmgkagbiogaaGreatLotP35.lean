/-
  The landed reader: its block of thirteen cells; what it reads. The landed reader: Length, Address, Protocol, Inner.
-/
import Derived.Test.YtblpmgkagbiogaaGreatLotP8
import Derived.Test.YtblpmgkagbiogaaGreatLotP34
import Derived.Test.YtblpmgkagbiogaaGreatLotP12
import Derived.WalkLawsBesides
import Derived.Deep.RegionHeld3
namespace Go.Proofs.YtblpmgkagbiogaaGreat
open Go.RowKit
set_option maxRecDepth 100000

/-- A reader: what it has found, the link, the frame. -/
def wkA (v : Vw) (l : Lk) (s : Value) : Array Value := #[.int .u32 (v.proto : Int), .bool v.multi, .bool v.beg, .bool v.fin, .int .u32 (v.seq : Int), .int .i64 (v.pos : Int), .int .i64 (v.net : Int), .int .i64 (v.next : Int), .int .i64 (v.load : Int), .bool l.acfc, .bool l.pfc, .int .i64 l.mp, s]
def WAt (w : World) (g : Nat) (v : Vw) (l : Lk) (s : Value) : Prop := VAt w g 104 (wkA v l s)
theorem WAt.c {w : World} {g : Nat} {v : Vw} {l : Lk} {s : Value} (h : WAt w g v l s) (i : Nat) : w.cell? ⟨g, i, none⟩ = (wkA v l s)[i]? := VAt.cell h i
theorem WAt.kept {w w' : World} {g : Nat} {v : Vw} {l : Lk} {s : Value} (h : WAt w g v l s) (G : w.grownBy w' none) : WAt w' g v l s := VAt.kept h G
theorem WAt.lt {w : World} {g : Nat} {v : Vw} {l : Lk} {s : Value} (h : WAt w g v l s) : g < w.heap.size := VAt.lt h

/-- A panic with an error's number. -/
def PanE (e : Int) : List PanicEntry := [{ v := .iface 29 (.int .i64 e), recovered := false }]

theorem getV_ok {b : List UInt8} {p k : Nat} (hk : k = 1 ∨ k = 2 ∨ k = 4) (h : p + k ≤ b.length) : getV b (p : Int) (k : Int) = (numAt b p k : Int) ∧ okB b.length (p : Int) (k : Int) = true := by
  have e : okB b.length (p : Int) (k : Int) = true := by unfold okB; exact decide_eq_true ⟨by omega, by omega, by omega⟩
  refine ⟨?_, e⟩
  unfold getV
  rw [if_pos e]
  simp

theorem getV_no {b : List UInt8} {p k : Nat} (h : ¬ p + k ≤ b.length) : getV b (p : Int) (k : Int) = 0 ∧ okB b.length (p : Int) (k : Int) = false := by
  have e : okB b.length (p : Int) (k : Int) = false := by unfold okB; rw [decide_eq_false_iff_not]; omega
  refine ⟨?_, e⟩
  unfold getV
  rw [if_neg (by rw [e]; simp)]

set_option maxHeartbeats 1000000 in
theorem read_ok (g : Nat) (v : Vw) (l : Lk) (a : Option Addr) (ca : Nat) (b : List UInt8) (k s : Nat) (w : World) (h : WAt w g v l (.slice a b.length ca)) (ha : Cells w a b) (hn : b.length ≤ 140737488355328) (hs : s = 1 ∨ s = 2 ∨ s = 4) (hk : v.pos + k + s ≤ b.length) :
    Calls Tryz.prog 130 #[.pointer (some ⟨g, 0, none⟩), .int .i64 (k : Int), .int .i64 (s : Int)] w fun e w' => e = .returned (.int .u32 (numAt b (v.pos + k) s : Int)) ∧ ∃ n, w' = w.drewN n := by
  obtain ⟨e1, e2⟩ := getV_ok (b := b) (p := v.pos + k) hs hk
  have c5 : w.cell? ⟨g, 5, none⟩ = some (.int .i64 (v.pos : Int)) := h.c 5
  have c12 : w.cell? ⟨g, 12, none⟩ = some (.slice a b.length ca) := h.c 12
  have f5 := VAt.free h 5
  have HQ : Hid (∀ n, Calls Tryz.prog 103 #[.slice a b.length ca, .int .i64 ((v.pos + k : Nat) : Int), .int .i64 (s : Int)] (w.drewN n) fun e w' => e = .returned (.tuple #[.int .u32 (numAt b (v.pos + k) s : Int), .bool true]) ∧ w' = w.drewN n) := fun n => by
    have := get_any a ca b ((v.pos + k : Nat) : Int) (s : Int) (w.drewN n) (ha.keptNone (grown_drewN _ _ none)) hn
    rw [e1, e2] at this
    exact this.mono fun _ _ ⟨h, k⟩ => ⟨h, k.symm⟩
  have hw : IntKind.i64.wrap ((v.pos : Int) + (k : Int)) = ((v.pos + k : Nat) : Int) := by rw [IntKind.wrap_i64]; omega
  generalize numAt b (v.pos + k) s = r at *
  generalize hp : v.pos + k = p at *
  clear e1 e2 h ha hs hk
  go_enter Tryz.func130, Tryz.ntmps130
  go_wp2
  go_quiet ((go_at_call 103; first | exact Calls.quiet_of_same (HQ.out _) | exact Calls.quiet_of_same (HQ.out 0)))
  go_wp2
  go_ret
  exact ⟨rfl, _, rfl⟩

set_option maxHeartbeats 1000000 in
theorem read_no (g : Nat) (v : Vw) (l : Lk) (a : Option Addr) (ca : Nat) (b : List UInt8) (k s : Nat) (w : World) (h : WAt w g v l (.slice a b.length ca)) (ha : Cells w a b) (hn : b.length ≤ 140737488355328) (hp2 : v.pos ≤ b.length) (hk2 : k ≤ 100) (hk : ¬ v.pos + k + s ≤ b.length) :
    Calls Tryz.prog 130 #[.pointer (some ⟨g, 0, none⟩), .int .i64 (k : Int), .int .i64 (s : Int)] w fun e w' => e = .panicked (PanE 72) ∧ ∃ n, w' = w.drewN n := by
  obtain ⟨e1, e2⟩ := getV_no (b := b) (p := v.pos + k) hk
  have c5 : w.cell? ⟨g, 5, none⟩ = some (.int .i64 (v.pos : Int)) := h.c 5
  have c12 : w.cell? ⟨g, 12, none⟩ = some (.slice a b.length ca) := h.c 12
  have f5 := VAt.free h 5
  have HQ : Hid (∀ n, Calls Tryz.prog 103 #[.slice a b.length ca, .int .i64 ((v.pos + k : Nat) : Int), .int .i64 (s : Int)] (w.drewN n) fun e w' => e = .returned (.tuple #[.int .u32 0, .bool false]) ∧ w' = w.drewN n) := fun n => by
    have := get_any a ca b ((v.pos + k : Nat) : Int) (s : Int) (w.drewN n) (ha.keptNone (grown_drewN _ _ none)) hn
    rw [e1, e2] at this
    exact this.mono fun _ _ ⟨h, k⟩ => ⟨h, k.symm⟩
  have hw : IntKind.i64.wrap ((v.pos : Int) + (k : Int)) = ((v.pos + k : Nat) : Int) := by rw [IntKind.wrap_i64]; omega
  generalize hp : v.pos + k = p at *
  clear e1 e2 h ha hk
  go_enter Tryz.func130, Tryz.ntmps130
  go_wp2
  go_quiet ((go_at_call 103; first | exact Calls.quiet_of_same (HQ.out _) | exact Calls.quiet_of_same (HQ.out 0)))
  go_wp2
  exact ⟨rfl, rfl, _, rfl⟩

theorem WAt.setPos {w : World} {g : Nat} {v : Vw} {l : Lk} {s : Value} (h : WAt w g v l s) (p : Nat) : WAt (w.setCell ⟨g, 5, none⟩ (.int .i64 (p : Int))) g { v with pos := p } l s := VAt.set h 5 _
theorem WAt.setProto {w : World} {g : Nat} {v : Vw} {l : Lk} {s : Value} (h : WAt w g v l s) (p : Nat) : WAt (w.setCell ⟨g, 0, none⟩ (.int .u32 (p : Int))) g { v with proto := p } l s := VAt.set h 0 _

set_option maxHeartbeats 1000000 in
theorem take_ok (g : Nat) (v : Vw) (l : Lk) (a : Option Addr) (ca : Nat) (b : List UInt8) (s : Nat) (w : World) (h : WAt w g v l (.slice a b.length ca)) (ha : Cells w a b) (hn : b.length ≤ 140737488355328) (hs : s = 1 ∨ s = 2 ∨ s = 4) (hk : v.pos + s ≤ b.length) :
    Calls Tryz.prog 104 #[.pointer (some ⟨g, 0, none⟩), .int .i64 (s : Int)] w fun e w' => e = .returned (.int .u32 (numAt b v.pos s : Int)) ∧ ∃ n, w' = (w.drewN n).setCell ⟨g, 5, none⟩ (.int .i64 ((v.pos + s : Nat) : Int)) := by
  have CR := read_ok g v l a ca b 0 s w h ha hn hs (by omega)
  rw [Nat.add_zero] at CR
  have HC : Hid (∀ n, (w.drewN n).cell? ⟨g, 5, none⟩ = some (.int .i64 (v.pos : Int)) ∧ (w.drewN n).frozen? ⟨g, 5, none⟩ = false) := fun n => ⟨(h.kept (grown_drewN _ _ none)).c 5, VAt.free (h.kept (grown_drewN _ _ none)) 5⟩
  have hw : IntKind.i64.wrap ((v.pos : Int) + (s : Int)) = ((v.pos + s : Nat) : Int) := by rw [IntKind.wrap_i64]; omega
  generalize numAt b v.pos s = r at *
  generalize hp : v.pos + s = p at *
  clear h ha hs hk
  go_enter Tryz.func104, Tryz.ntmps104
  go_wp2_with fail
  refine CR.mono ?_
  rintro e w1 ⟨rfl, n, rfl⟩
  obtain ⟨c5, f5⟩ := HC.out n
  clear CR
  go_wp2
  go_ret
  exact ⟨rfl, _, rfl⟩

set_option maxHeartbeats 1000000 in
theorem take_no (g : Nat) (v : Vw) (l : Lk) (a : Option Addr) (ca : Nat) (b : List UInt8) (s : Nat) (w : World) (h : WAt w g v l (.slice a b.length ca)) (ha : Cells w a b) (hn : b.length ≤ 140737488355328) (hp2 : v.pos ≤ b.length) (hk : ¬ v.pos + s ≤ b.length) :
    Calls Tryz.prog 104 #[.pointer (some ⟨g, 0, none⟩), .int .i64 (s : Int)] w fun e w' => e = .panicked (PanE 72) ∧ ∃ n, w' = w.drewN n := by
  have CR := read_no g v l a ca b 0 s w h ha hn hp2 (by omega) (by omega)
  clear h ha hk
  go_enter Tryz.func104, Tryz.ntmps104
  go_wp2_with fail
  refine CR.mono ?_
  rintro e w1 ⟨rfl, n, rfl⟩
  clear CR
  go_wp2
  exact ⟨rfl, rfl, _, rfl⟩

set_option maxHeartbeats 1000000 in
theorem need_ok (g : Nat) (v : Vw) (l : Lk) (a : Option Addr) (ca n k : Nat) (w : World) (h : WAt w g v l (.slice a n ca)) (hn : n ≤ 140737488355328) (hk : v.pos + k ≤ n) :
    Calls Tryz.prog 131 #[.pointer (some ⟨g, 0, none⟩), .int .i64 (k : Int)] w fun e w' => e = .returned (.tuple #[]) ∧ ∃ n, w' = w.drewN n := by
  have c5 : w.cell? ⟨g, 5, none⟩ = some (.int .i64 (v.pos : Int)) := h.c 5
  have c12 : w.cell? ⟨g, 12, none⟩ = some (.slice a n ca) := h.c 12
  have hd : ¬ (n : Int) - (v.pos : Int) < (k : Int) := by omega
  have hw : IntKind.i64.wrap ((n : Int) - (v.pos : Int)) = (n : Int) - (v.pos : Int) := by rw [IntKind.wrap_i64]; omega
  generalize v.pos = p at *
  clear h hk
  go_enter Tryz.func131, Tryz.ntmps131
  go_wp2
  go_quiet (fail)
  go_wp2
  go_end0
  exact ⟨rfl, _, rfl⟩

set_option maxHeartbeats 1000000 in
theorem need_no (g : Nat) (v : Vw) (l : Lk) (a : Option Addr) (ca n k : Nat) (w : World) (h : WAt w g v l (.slice a n ca)) (hn : n ≤ 140737488355328) (hp : v.pos ≤ n) (hk : ¬ v.pos + k ≤ n) :
    Calls Tryz.prog 131 #[.pointer (some ⟨g, 0, none⟩), .int .i64 (k : Int)] w fun e w' => e = .panicked (PanE 72) ∧ ∃ n, w' = w.drewN n := by
  have c5 : w.cell? ⟨g, 5, none⟩ = some (.int .i64 (v.pos : Int)) := h.c 5
  have c12 : w.cell? ⟨g, 12, none⟩ = some (.slice a n ca) := h.c 12
  have hd : (n : Int) - (v.pos : Int) < (k : Int) := by omega
  have hw : IntKind.i64.wrap ((n : Int) - (v.pos : Int)) = (n : Int) - (v.pos : Int) := by rw [IntKind.wrap_i64]; omega
  generalize v.pos = p at *
  clear h hk
  go_enter Tryz.func131, Tryz.ntmps131
  go_wp2
  go_quiet (fail)
  go_wp2
  exact ⟨rfl, rfl, _, rfl⟩

theorem numAt_one (b : List UInt8) (p : Nat) : numAt b p 1 = bg b p := by
  show numAt b p 0 * 256 + (b.getD (p + 0) 0).toNat = _
  rw [Nat.add_zero]
  show 0 * 256 + _ = _
  rw [Nat.zero_mul, Nat.zero_add]
  rfl
theorem numAt_two (b : List UInt8) (p : Nat) : numAt b p 2 = bg b p * 256 + bg b (p + 1) := by
  show numAt b p 1 * 256 + (b.getD (p + 1) 0).toNat = _
  rw [numAt_one]
  rfl

set_option maxHeartbeats 1000000 in
theorem halves_ok (g : Nat) (v : Vw) (l : Lk) (a : Option Addr) (ca : Nat) (b : List UInt8) (w : World) (h : WAt w g v l (.slice a b.length ca)) (ha : Cells w a b) (hn : b.length ≤ 140737488355328) (hk : v.pos + 1 ≤ b.length) :
    Calls Tryz.prog 132 #[.pointer (some ⟨g, 0, none⟩)] w fun e w' => e = .returned (.tuple #[.int .i64 ((bg b v.pos / 16 : Nat) : Int), .int .i64 ((bg b v.pos % 16 : Nat) : Int)]) ∧ ∃ n, w' = w.drewN n := by
  have CR := read_ok g v l a ca b 0 1 w h ha hn (.inl rfl) (by omega)
  rw [Nat.add_zero, numAt_one] at CR
  have hx := bg_lt b v.pos
  generalize bg b v.pos = x at *
  have hw : IntKind.i64.wrap (x : Int) = (x : Int) := by rw [IntKind.wrap_i64]; omega
  have hlo : bits BinOp.and IntKind.i64 (x : Int) 15 = ((x % 16 : Nat) : Int) := by
    have : ∀ y : Fin 256, bits BinOp.and IntKind.i64 (y.val : Int) 15 = ((y.val % 16 : Nat) : Int) := by decide
    exact this ⟨x, hx⟩
  clear h ha hk
  go_enter Tryz.func132, Tryz.ntmps132
  go_wp2_with fail
  refine CR.mono ?_
  rintro e w1 ⟨rfl, n, rfl⟩
  clear CR
  go_wp2
  go_ret2
  exact ⟨rfl, _, rfl⟩

end Go.Proofs.YtblpmgkagbiogaaGreat

namespace Go.Proofs.YtblpmgkagbiogaaGreat
open Go.RowKit
set_option maxRecDepth 100000

/-- What a step leaves. -/
def StepP (w : World) (g : Nat) (l : Lk) (s : Value) (x : Except Int Vw) (e : Ending) (w' : World) : Prop :=
  w.grownBy w' (some g) ∧ match x with
    | .ok v => e = .returned (.tuple #[]) ∧ WAt w' g v l s
    | .error er => e = .panicked (PanE er)

/-- A frame's bytes, apart from the reader. -/
def FrA (w : World) (g : Nat) (a : Option Addr) (b : List UInt8) : Prop := Cells w a b ∧ ∀ x, a = some x → b ≠ [] → x.block ≠ g
theorem FrA.kept {w w' : World} {g : Nat} {a : Option Addr} {b : List UInt8} (h : FrA w g a b) (G : w.grownBy w' (some g)) : FrA w' g a b :=
  ⟨h.1.kept G (fun ad e hb => by have := h.2 ad e hb; simpa using this), h.2⟩

theorem grown_set {w : World} {g i : Nat} {v : Value} (n : Nat) : w.grownBy ((w.drewN n).setCell ⟨g, i, none⟩ v) (some g) :=
  grown_setCell (grown_drewN w n (some g)) _ _ (.inl rfl)

theorem take_ok' (g : Nat) (v : Vw) (l : Lk) (a : Option Addr) (ca : Nat) (b : List UInt8) (s : Nat) (w : World) (h : WAt w g v l (.slice a b.length ca)) (ha : FrA w g a b) (hn : b.length ≤ 140737488355328) (hs : s = 1 ∨ s = 2 ∨ s = 4) (hk : v.pos + s ≤ b.length) :
    Calls Tryz.prog 104 #[.pointer (some ⟨g, 0, none⟩), .int .i64 (s : Int)] w fun e w' => e = .returned (.int .u32 (numAt b v.pos s : Int)) ∧ WAt w' g { v with pos := v.pos + s } l (.slice a b.length ca) ∧ w.grownBy w' (some g) := by
  refine (take_ok g v l a ca b s w h ha.1 hn hs hk).mono ?_
  rintro e w' ⟨rfl, n, rfl⟩
  exact ⟨rfl, (h.kept (grown_drewN _ n none)).setPos _, grown_set n⟩

set_option maxHeartbeats 1000000 in
theorem length_any (g : Nat) (v : Vw) (l : Lk) (a : Option Addr) (ca n : Nat) (w : World) (h : WAt w g v l (.slice a n ca)) :
    Calls Tryz.prog 60 #[.pointer (some ⟨g, 0, none⟩)] w fun e w' => StepP w g l (.slice a n ca) (if 65535 < n then .error 71 else .ok v) e w' := by
  have c12 : w.cell? ⟨g, 12, none⟩ = some (.slice a n ca) := h.c 12
  have HW : Hid (WAt w g v l (.slice a n ca)) := h
  clear h
  by_cases hl : 65535 < n
  · have hl' : (65535 : Int) < (n : Int) := by omega
    rw [if_pos hl]
    clear hl
    go_enter Tryz.func60, Tryz.ntmps60
    go_wp2
    exact ⟨rfl, World.grownBy.refl _ _, rfl⟩
  · have hl' : ¬ (65535 : Int) < (n : Int) := by omega
    rw [if_neg hl]
    clear hl
    go_enter Tryz.func60, Tryz.ntmps60
    go_wp2
    go_end0
    exact ⟨World.grownBy.refl _ _, rfl, HW.out⟩

set_option maxHeartbeats 1000000 in
theorem address_any (g : Nat) (v : Vw) (l : Lk) (a : Option Addr) (ca : Nat) (b : List UInt8) (w : World) (h : WAt w g v l (.slice a b.length ca)) (ha : FrA w g a b) (hn : b.length ≤ 140737488355328) (hv : v.pos ≤ 1000) :
    Calls Tryz.prog 61 #[.pointer (some ⟨g, 0, none⟩)] w fun e w' => StepP w g l (.slice a b.length ca) ((plainV l b).bind fun p => .ok { v with pos := v.pos + p }) e w' := by
  have c12 : w.cell? ⟨g, 12, none⟩ = some (.slice a b.length ca) := h.c 12
  have c9 : w.cell? ⟨g, 9, none⟩ = some (.bool l.acfc) := h.c 9
  have c5 : w.cell? ⟨g, 5, none⟩ = some (.int .i64 (v.pos : Int)) := h.c 5
  have f5 := VAt.free h 5
  have HW : Hid (WAt w g v l (.slice a b.length ca)) := h
  have CG := get_any a ca b 0 2 w ha.1 hn
  have hp : plainV l b = if 2 ≤ b.length ∧ bg b 0 = 255 ∧ bg b 1 = 3 then .ok 2 else if l.acfc = true then .ok 0 else if b.length < 2 then .error 72 else .error 73 := rfl
  rw [hp]
  have b0 := bg_lt b 0
  have b1 := bg_lt b 1
  clear h ha hp
  by_cases h2 : 2 ≤ b.length
  · obtain ⟨e1, e2⟩ := getV_ok (b := b) (p := 0) (k := 2) (by omega) (by omega)
    rw [show ((0 : Nat) : Int) = 0 from rfl, show ((2 : Nat) : Int) = 2 from rfl] at e1 e2
    rw [e1, e2, numAt_two] at CG
    by_cases hff : bg b 0 = 255 ∧ bg b 1 = 3
    · have hf : ((bg b 0 * 256 + bg b (0 + 1) : Nat) : Int) = 65283 := by
        rw [Nat.zero_add]; omega
      rw [hf] at CG
      rw [if_pos ⟨h2, hff⟩]
      clear hff b0 b1 e1 e2 hf h2
      have hw : IntKind.i64.wrap ((v.pos : Int) + 2) = ((v.pos + 2 : Nat) : Int) := by rw [IntKind.wrap_i64]; omega
      go_enter Tryz.func61, Tryz.ntmps61
      go_wp2_with fail
      refine CG.mono ?_
      rintro e w1 ⟨rfl, rfl⟩
      clear CG
      go_wp2
      go_end0
      exact ⟨grown_set 0, rfl, HW.out.setPos _⟩
    · have hf : (((bg b 0 * 256 + bg b (0 + 1) : Nat) : Int) == 65283) = false := by
        rw [Nat.zero_add, beq_eq_false_iff_ne]; omega
      rw [if_neg (fun e => hff e.2), if_neg (show ¬ b.length < 2 by omega)]
      generalize bg b 0 * 256 + bg b (0 + 1) = fld at *
      clear hff b0 b1 e1 e2 h2
      cases hac : l.acfc with
      | true =>
        rw [hac] at c9
        rw [if_pos rfl]
        go_enter Tryz.func61, Tryz.ntmps61
        go_wp2_with fail
        refine CG.mono ?_
        rintro e w1 ⟨rfl, rfl⟩
        clear CG
        go_wp2
        go_end0
        exact ⟨World.grownBy.refl _ _, rfl, HW.out⟩
      | false =>
        rw [hac] at c9
        rw [if_neg (by simp)]
        go_enter Tryz.func61, Tryz.ntmps61
        go_wp2_with fail
        refine CG.mono ?_
        rintro e w1 ⟨rfl, rfl⟩
        clear CG
        go_wp2
        exact ⟨rfl, World.grownBy.refl _ _, rfl⟩
  · obtain ⟨e1, e2⟩ := getV_no (b := b) (p := 0) (k := 2) (by omega)
    rw [show ((0 : Nat) : Int) = 0 from rfl, show ((2 : Nat) : Int) = 2 from rfl] at e1 e2
    rw [e1, e2] at CG
    rw [if_neg (fun e => h2 e.1), if_pos (show b.length < 2 by omega)]
    clear b0 b1 e1 e2 h2
    cases hac : l.acfc with
    | true =>
      rw [hac] at c9
      rw [if_pos rfl]
      go_enter Tryz.func61, Tryz.ntmps61
      go_wp2_with fail
      refine CG.mono ?_
      rintro e w1 ⟨rfl, rfl⟩
      clear CG
      go_wp2
      go_end0
      exact ⟨World.grownBy.refl _ _, rfl, HW.out⟩
    | false =>
      rw [hac] at c9
      rw [if_neg (by simp)]
      go_enter Tryz.func61, Tryz.ntmps61
      go_wp2_with fail
      refine CG.mono ?_
      rintro e w1 ⟨rfl, rfl⟩
      clear CG
      go_wp2
      exact ⟨rfl, World.grownBy.refl _ _, rfl⟩

end Go.Proofs.YtblpmgkagbiogaaGreat
