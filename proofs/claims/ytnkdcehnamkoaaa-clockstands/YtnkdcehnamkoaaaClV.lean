/-
  Clocks in words, and the document's own clock in memory.
-/
import Derived.Test.YtnkdcehnamkoaaaQuM
namespace Go.Proofs.Ytnkdcehnamkoaaa
open Go.RowKit
set_option maxRecDepth 100000

/-- A clock: its limits, whether it goes, the counts of idle ticks and of all. -/
structure Ck where
  idle : Nat
  most : Nat
  goes : Bool
  rest : Nat
  all : Nat
structure Ck.ok (c : Ck) : Prop where
  i : c.idle ≤ 4294967295
  m : c.most ≤ 4294967295
  r : c.rest ≤ 4294967295
  a : c.all ≤ 4294967295
def upC (n : Nat) : Nat := min (n + 1) 4294967295
def Ck.new (i m : Nat) : Ck := ⟨i, m, false, 0, 0⟩
def Ck.start (c : Ck) : Ck := ⟨c.idle, c.most, true, 0, 0⟩
def Ck.stop (c : Ck) : Ck := ⟨c.idle, c.most, false, 0, 0⟩
def Ck.touch (c : Ck) : Ck := ⟨c.idle, c.most, c.goes, 0, c.all⟩
def Ck.up (c : Ck) : Ck := ⟨c.idle, c.most, c.goes, upC c.rest, upC c.all⟩
def Ck.hitI (c : Ck) : Prop := c.idle ≠ 0 ∧ c.idle ≤ upC c.rest
def Ck.hitM (c : Ck) : Prop := c.most ≠ 0 ∧ c.most ≤ upC c.all
instance (c : Ck) : Decidable c.hitI := inferInstanceAs (Decidable (_ ∧ _))
instance (c : Ck) : Decidable c.hitM := inferInstanceAs (Decidable (_ ∧ _))
def Ck.tickH (c : Ck) : Int := if c.goes = false then 0 else if c.hitI then 1 else if c.hitM then 2 else 0
def Ck.tickC (c : Ck) : Ck := if c.goes = false then c else if c.hitI then c.stop else if c.hitM then c.stop else c.up

theorem Ck.ok.start {c : Ck} (h : c.ok) : c.start.ok := ⟨h.i, h.m, by simp [Ck.start], by simp [Ck.start]⟩
theorem Ck.ok.stop {c : Ck} (h : c.ok) : c.stop.ok := ⟨h.i, h.m, by simp [Ck.stop], by simp [Ck.stop]⟩
theorem Ck.ok.touch {c : Ck} (h : c.ok) : c.touch.ok := ⟨h.i, h.m, by simp [Ck.touch], h.a⟩
theorem upC_le (n : Nat) : upC n ≤ 4294967295 := Nat.min_le_right ..
theorem Ck.ok.up {c : Ck} (h : c.ok) : c.up.ok := ⟨h.i, h.m, upC_le _, upC_le _⟩
theorem Ck.ok.tick {c : Ck} (h : c.ok) : c.tickC.ok := by
  unfold Ck.tickC
  split
  · exact h
  · split
    · exact h.stop
    · split
      · exact h.stop
      · exact h.up

def Ck.cells (c : Ck) : Array Value := #[.int .u32 (c.idle : Int), .int .u32 (c.most : Int), .bool c.goes, .int .u32 (c.rest : Int), .int .u32 (c.all : Int)]

/-- What a call leaves: its clock as said, all else as it was. -/
def Did (t g : Nat) (w : World) (c : Ck) (v : Value) (e : Ending) (w' : World) : Prop := e = .returned v ∧ QBk w' g t c.cells ∧ GW w w' (fun x => x = g)

theorem Did.next {t g : Nat} {w w1 w2 : World} {c : Ck} {v : Value} {e : Ending} (G : GW w w1 (fun x => x = g)) (h : Did t g w1 c v e w2) : Did t g w c v e w2 := ⟨h.1, h.2.1, G.trans h.2.2 (fun _ _ hx => hx)⟩

theorem QBk.put {w : World} {t g : Nat} {cs : Array Value} (h : QBk w g t cs) (i : Nat) (v : Value) : QBk (w.setCell ⟨g, i, none⟩ v) g t (cs.setIfInBounds i v) ∧ GW w (w.setCell ⟨g, i, none⟩ v) (fun x => x = g) := ⟨h.set i v, (GW.refl _ _).set _ _ (.inl rfl)⟩

theorem refadd1_any (n : Nat) (w : World) (hn : n ≤ 4294967295) :
    Calls Try.prog 22 #[.int .u32 (n : Int), .int .u32 1] w fun e w' => e = .returned (.int .u32 ((upC n : Nat) : Int)) ∧ w = w' := by
  by_cases h : n = 4294967295
  · subst h
    go_enter Try.func22, Try.ntmps22
    go_wp2
    go_ret
    exact ⟨rfl, rfl⟩
  · have e : upC n = n + 1 := by unfold upC; omega
    rw [e]
    have h1 : ¬ ((4294967295 : Int) - (n : Int) < 1) := by omega
    have hlt : n + 1 < 4294967296 := by omega
    clear e h
    go_enter Try.func22, Try.ntmps22
    go_wp2
    go_ret
    exact ⟨ret_int (by omega), rfl⟩

theorem rstart_any (w : World) (g : Nat) (c : Ck) (h : QBk w g 27 c.cells) :
    Calls Try.prog 15 #[.pointer (some ⟨g, 0, none⟩)] w (Did 27 g w c.start (.tuple #[])) := by
  have HR : Hid (Did 27 g w c.start (.tuple #[]) (.returned (.tuple #[])) (((w.setCell ⟨g, 2, none⟩ (.bool true)).setCell ⟨g, 3, none⟩ (.int .u32 0)).setCell ⟨g, 4, none⟩ (.int .u32 0))) := by
    obtain ⟨q0, k0⟩ := h.put 2 ((.bool true))
    obtain ⟨q1, k1⟩ := q0.put 3 ((.int .u32 0))
    obtain ⟨q2, k2⟩ := q1.put 4 ((.int .u32 0))
    exact ⟨rfl, by simpa [Ck.cells, Ck.start] using q2, ((k0.trans k1 (fun _ _ hx => hx)).trans k2 (fun _ _ hx => hx))⟩
  have c2 := h.cell 2
  have f2 := h.free 2
  have c3 := h.cell 3
  have f3 := h.free 3
  have c4 := h.cell 4
  have f4 := h.free 4
  simp [Ck.cells] at c2 c3 c4
  clear h
  go_enter Try.func15, Try.ntmps15
  go_wp2
  go_end0
  exact HR.out

theorem rstop_any (w : World) (g : Nat) (c : Ck) (h : QBk w g 27 c.cells) :
    Calls Try.prog 16 #[.pointer (some ⟨g, 0, none⟩)] w (Did 27 g w c.stop (.tuple #[])) := by
  have HR : Hid (Did 27 g w c.stop (.tuple #[]) (.returned (.tuple #[])) (((w.setCell ⟨g, 2, none⟩ (.bool false)).setCell ⟨g, 3, none⟩ (.int .u32 0)).setCell ⟨g, 4, none⟩ (.int .u32 0))) := by
    obtain ⟨q0, k0⟩ := h.put 2 ((.bool false))
    obtain ⟨q1, k1⟩ := q0.put 3 ((.int .u32 0))
    obtain ⟨q2, k2⟩ := q1.put 4 ((.int .u32 0))
    exact ⟨rfl, by simpa [Ck.cells, Ck.stop] using q2, ((k0.trans k1 (fun _ _ hx => hx)).trans k2 (fun _ _ hx => hx))⟩
  have c2 := h.cell 2
  have f2 := h.free 2
  have c3 := h.cell 3
  have f3 := h.free 3
  have c4 := h.cell 4
  have f4 := h.free 4
  simp [Ck.cells] at c2 c3 c4
  clear h
  go_enter Try.func16, Try.ntmps16
  go_wp2
  go_end0
  exact HR.out

theorem rtouch_any (w : World) (g : Nat) (c : Ck) (h : QBk w g 27 c.cells) :
    Calls Try.prog 17 #[.pointer (some ⟨g, 0, none⟩)] w (Did 27 g w c.touch (.tuple #[])) := by
  have HR : Hid (Did 27 g w c.touch (.tuple #[]) (.returned (.tuple #[])) (w.setCell ⟨g, 3, none⟩ (.int .u32 0))) := by
    obtain ⟨q0, k0⟩ := h.put 3 ((.int .u32 0))
    exact ⟨rfl, by simpa [Ck.cells, Ck.touch] using q0, k0⟩
  have c3 := h.cell 3
  have f3 := h.free 3
  simp [Ck.cells] at c3
  clear h
  go_enter Try.func17, Try.ntmps17
  go_wp2
  go_end0
  exact HR.out

end Go.Proofs.Ytnkdcehnamkoaaa
