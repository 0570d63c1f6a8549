/-
  Package asm reads: what function values do to a reader.
-/
import Derived.Test.YtcapmbeabfhjoaaDoorAsmR
namespace Go.Proofs.YtcapmbeabfhjoaaDoor
open Go.RowKit
set_option maxRecDepth 100000

/-- What is left by a step of a row: told whether it fits, and where it does, what is read. -/
def StepPost (w w' : World) (e : Ending) (p : Nat) (r : Option Rd) : Prop := ∃ (S : ByteArray) (c t f k : Nat) (b : Bool), e = .returned (.bool b) ∧ RdAt w' p S c t f k ∧ w.grownBy w' (some p) ∧ S.size ≤ 1048576
  ∧ (b = true → r = some (sl S, c, t, f, k)) ∧ (b = false → r = none)

/-- Blocks that lie as they are listed. -/
abbrev Fp : Type := List (Nat × Obj)
def Held (fp : Fp) (w : World) : Prop := ∀ x ∈ fp, w.heap[x.1]? = some x.2
theorem Held.lt {fp : Fp} {w : World} (h : Held fp w) {x : Nat × Obj} (hx : x ∈ fp) : x.1 < w.heap.size := by
  have := h x hx
  by_cases hb : x.1 < w.heap.size
  · exact hb
  · rw [Array.getElem?_eq_none (by omega)] at this; cases this
theorem Held.grown {fp : Fp} {w w' : World} {row : Option Nat} (h : Held fp w) (G : w.grownBy w' row) (hr : ∀ x ∈ fp, row ≠ some x.1) : Held fp w' := fun x hx => by
  rw [G.block x.1 (h.lt hx) (Ne.symm (hr x hx))]
  exact h x hx
theorem Held.none {fp : Fp} {w w' : World} (h : Held fp w) (G : w.grownBy w' none) : Held fp w' := h.grown G (fun _ _ => by simp)
theorem Held.app {fp fq : Fp} {w : World} (h : Held fp w) (k : Held fq w) : Held (fp ++ fq) w := fun x hx => by
  rcases List.mem_append.1 hx with hx | hx
  · exact h x hx
  · exact k x hx
/-- None of them is of kind e. -/
def Kin (e : TypeId) (fp : Fp) : Prop := ∀ x ∈ fp, ∃ cs k fz, x.2 = .cells cs k fz ∧ k ≠ e
theorem Kin.app {e : TypeId} {fp fq : Fp} (h : Kin e fp) (k : Kin e fq) : Kin e (fp ++ fq) := fun x hx => by
  rcases List.mem_append.1 hx with hx | hx
  · exact h x hx
  · exact k x hx
theorem Kin.apart {e : TypeId} {fp : Fp} {w : World} (h : Kin e fp) (H : Held fp w) {g : Nat} {cs : Array Value} {fz : Nat × Nat} (hg : w.heap[g]? = some (.cells cs e fz)) {x : Nat × Obj} (hx : x ∈ fp) : x.1 ≠ g := by
  intro e1
  have h1 := H x hx
  rw [e1, hg] at h1
  obtain ⟨cs', k, fz', h2, hk⟩ := h x hx
  rw [h2] at h1
  injection h1 with h1
  injection h1 with _ h1
  exact hk h1.symm
theorem Held.own {fp : Fp} {w w' : World} {base e n size : Nat} {v : Value} {vs : List Value} (h : Held fp w) (O : w.ownsRow base e size v n vs) (hk : Kin e fp) (G : w.grownBy w' v.ownBlock) : Held fp w' := by
  refine h.grown G fun x hx e1 => ?_
  rcases O.2 with ⟨rfl, -⟩ | ⟨g, cap, cur, rfl, -, hg, -⟩
  · cases e1
  · have : g = x.1 := Option.some.inj e1
    exact hk.apart h hg hx this.symm

/-- A function value that does such a step, wherever some blocks lie as they did. -/
def Does (fp : Fp) (v : Value) (g : Rd → Option Rd) : Prop := ∃ (n : Nat) (lb : Array Value), v = .func (.func n) #[] lb ∧ (∀ args w, (callFunc n args).run Tryd.prog w = .ok (.enter n args) w)
  ∧ ∀ (W : World) (p : Nat) (S : ByteArray) (c t f k : Nat), Held fp W → (∀ x ∈ fp, x.1 ≠ p) → RdAt W p S c t f k → S.size ≤ 1048576 →
    Calls Tryd.prog n (#[.pointer (some ⟨p, 0, none⟩)] ++ lb) W fun e W' => StepPost W W' e p (g (sl S, c, t, f, k))

theorem Does.more {fp fq : Fp} {v : Value} {g : Rd → Option Rd} (h : Does fp v g) (hs : ∀ x ∈ fp, x ∈ fq) : Does fq v g := by
  obtain ⟨n, lb, rfl, he, hd⟩ := h
  exact ⟨n, lb, rfl, he, fun W p S c t f k H hp R hS => hd W p S c t f k (fun x hx => H x (hs x hx)) (fun x hx => hp x (hs x hx)) R hS⟩

theorem num_step {x : UInt8} {S S' : ByteArray} {c t f k n : Nat} (h : numAhead (mostOf x) (sl S) = some n) (h' : sl S' = past (sl S)) : numV x (sl S, c, t, f, k) = some (setOf x n (sl S', c, t, f, k)) := by
  simp only [numV, h, Option.map_some, h']
theorem num_stop {x : UInt8} {S : ByteArray} {c t f k : Nat} (h : numAhead (mostOf x) (sl S) = none) : numV x (sl S, c, t, f, k) = none := by
  simp only [numV, h, Option.map_none]

set_option maxHeartbeats 1000000 in
theorem code_any (p : Nat) (S : ByteArray) (c t f k : Nat) (w : World) (R : RdAt w p S c t f k) (hS : S.size ≤ 1048576) :
    Calls Tryd.prog 61 #[.pointer (some ⟨p, 0, none⟩)] w fun e w' => StepPost w w' e p (numV 67 (sl S, c, t, f, k)) := by
  go_enter Tryd.func61, Tryd.ntmps61
  go_wp2_with fail
  refine (number_any p S c t f k 65535 _ R hS (by omega)).mono ?_
  rintro e w1 ⟨S', n, b, rfl, R1, G1, hn, hs, hy, hno⟩
  clear R
  have hfz := R1.free 1
  have hx := R1.cells.2.1
  have hy' : Hid _ := hy
  have hno' : Hid _ := hno
  clear hy hno
  go_wp2
  go_ret
  exact ⟨S', n, t, f, k, b, rfl, R1.set1 n, grown_trans G1 (grown_set _ _ _ _), by omega, fun hb => num_step (x := 67) (hy'.out hb).1 (hy'.out hb).2, fun hb => num_stop (x := 67) (hno'.out hb)⟩

set_option maxHeartbeats 1000000 in
theorem jt_any (p : Nat) (S : ByteArray) (c t f k : Nat) (w : World) (R : RdAt w p S c t f k) (hS : S.size ≤ 1048576) :
    Calls Tryd.prog 62 #[.pointer (some ⟨p, 0, none⟩)] w fun e w' => StepPost w w' e p (numV 84 (sl S, c, t, f, k)) := by
  go_enter Tryd.func62, Tryd.ntmps62
  go_wp2_with fail
  refine (number_any p S c t f k 255 _ R hS (by omega)).mono ?_
  rintro e w1 ⟨S', n, b, rfl, R1, G1, hn, hs, hy, hno⟩
  clear R
  have hfz := R1.free 2
  have hx := R1.cells.2.2.1
  have hy' : Hid _ := hy
  have hno' : Hid _ := hno
  clear hy hno
  go_wp2
  go_ret
  exact ⟨S', c, n, f, k, b, rfl, R1.set2 n, grown_trans G1 (grown_set _ _ _ _), by omega, fun hb => num_step (x := 84) (hy'.out hb).1 (hy'.out hb).2, fun hb => num_stop (x := 84) (hno'.out hb)⟩

set_option maxHeartbeats 1000000 in
theorem jf_any (p : Nat) (S : ByteArray) (c t f k : Nat) (w : World) (R : RdAt w p S c t f k) (hS : S.size ≤ 1048576) :
    Calls Tryd.prog 63 #[.pointer (some ⟨p, 0, none⟩)] w fun e w' => StepPost w w' e p (numV 70 (sl S, c, t, f, k)) := by
  go_enter Tryd.func63, Tryd.ntmps63
  go_wp2_with fail
  refine (number_any p S c t f k 255 _ R hS (by omega)).mono ?_
  rintro e w1 ⟨S', n, b, rfl, R1, G1, hn, hs, hy, hno⟩
  clear R
  have hfz := R1.free 3
  have hx := R1.cells.2.2.2.1
  have hy' : Hid _ := hy
  have hno' : Hid _ := hno
  clear hy hno
  go_wp2
  go_ret
  exact ⟨S', c, t, n, k, b, rfl, R1.set3 n, grown_trans G1 (grown_set _ _ _ _), by omega, fun hb => num_step (x := 70) (hy'.out hb).1 (hy'.out hb).2, fun hb => num_stop (x := 70) (hno'.out hb)⟩

set_option maxHeartbeats 1000000 in
theorem const_any (p : Nat) (S : ByteArray) (c t f k : Nat) (w : World) (R : RdAt w p S c t f k) (hS : S.size ≤ 1048576) :
    Calls Tryd.prog 64 #[.pointer (some ⟨p, 0, none⟩)] w fun e w' => StepPost w w' e p (numV 75 (sl S, c, t, f, k)) := by
  go_enter Tryd.func64, Tryd.ntmps64
  go_wp2_with fail
  refine (number_any p S c t f k 4294967295 _ R hS (by omega)).mono ?_
  rintro e w1 ⟨S', n, b, rfl, R1, G1, hn, hs, hy, hno⟩
  clear R
  have hfz := R1.free 4
  have hx := R1.cells.2.2.2.2
  have hy' : Hid _ := hy
  have hno' : Hid _ := hno
  clear hy hno
  go_wp2
  go_ret
  exact ⟨S', c, t, f, n, b, rfl, R1.set4 n, grown_trans G1 (grown_set _ _ _ _), by omega, fun hb => num_step (x := 75) (hy'.out hb).1 (hy'.out hb).2, fun hb => num_stop (x := 75) (hno'.out hb)⟩

theorem lit_step {S X V : ByteArray} {c t f k : Nat} (h : Lib.hasPrefix (sl S) (sl X) = true) (hV : sl V = Lib.trimPrefix (sl S) (sl X)) : litV (sl X) (sl S, c, t, f, k) = some (sl V, c, t, f, k) := by
  rw [Lib.trimPrefix, if_pos h] at hV
  rw [litV, if_pos (show (sl X).isPrefixOf (sl S) = true from h), hV]
theorem lit_stop {S X : ByteArray} {c t f k : Nat} (h : Lib.hasPrefix (sl S) (sl X) = false) : litV (sl X) (sl S, c, t, f, k) = none := by
  rw [litV, if_neg (by show ¬ (sl X).isPrefixOf (sl S) = true; rw [show (sl X).isPrefixOf (sl S) = false from h]; simp)]

set_option maxHeartbeats 4000000 in
theorem lit1_any (p B : Nat) (S X : ByteArray) (c t f k : Nat) (w : World) (R : RdAt w p S c t f k) (hS : S.size ≤ 1048576) (hX : w.cell? ⟨B, 0, none⟩ = some (.string X)) :
    Calls Tryd.prog 59 #[.pointer (some ⟨p, 0, none⟩), .pointer (some ⟨B, 0, none⟩)] w fun e w' => StepPost w w' e p (litV (sl X) (sl S, c, t, f, k)) := by
  have hx := R.cells.1
  have hfz := R.free 0
  have C := fun w => Tryd.strings_CutPrefix S X w
  have HR : Hid (RdAt w p S c t f k) := R
  have hlen := Lib.trimPrefix_le S.data.toList X.data.toList
  obtain ⟨V, hV⟩ : ∃ V : ByteArray, V = ⟨(Lib.trimPrefix S.data.toList X.data.toList).toArray⟩ := ⟨_, rfl⟩
  rw [← hV] at C
  have hVs : Hid (V.size ≤ 1048576) := by
    show V.size ≤ 1048576
    have e : V.size = (Lib.trimPrefix S.data.toList X.data.toList).length := by rw [hV]; show (Lib.trimPrefix S.data.toList X.data.toList).toArray.size = _; simp
    have e2 : S.data.toList.length = S.size := sl_len S
    omega
  have hVl : Hid (sl V = Lib.trimPrefix (sl S) (sl X)) := by
    show sl V = Lib.trimPrefix (sl S) (sl X)
    rw [hV, sl_str]; rfl
  clear hV hlen R
  obtain ⟨b, hb⟩ : ∃ b, b = Lib.hasPrefix S.data.toList X.data.toList := ⟨_, rfl⟩
  rw [← hb] at C
  have Hb : Hid (b = Lib.hasPrefix (sl S) (sl X)) := hb
  clear hb
  go_enter Tryd.func59, Tryd.ntmps59
  go_wp2
  go_region_with (first | (go_at_call 60; refine (C _).mono ?_; rintro e w' ⟨rfl, rfl⟩))
  all_goals
    go_wp2
    go_ret
    exact ⟨V, c, t, f, k, b, rfl, HR.out.set0 V, grown_trans (grown_set _ _ _ _) (grown_drewN _ 1 _), hVs.out, fun h => lit_step (Hb.out ▸ h) hVl.out, fun h => lit_stop (Hb.out ▸ h)⟩

/-- A text that a function value has caught. -/
def txtAt (b : Nat) (X : ByteArray) : Fp := [(b, .cells #[.string X] 9 (0, 0))]

set_option maxHeartbeats 1000000 in
theorem literal_any (X : ByteArray) (w : World) :
    Calls Tryd.prog 49 #[.string X] w fun e w' => ∃ v, e = .returned v ∧ Does (txtAt w.heap.size X) v (litV (sl X)) ∧ Held (txtAt w.heap.size X) w' ∧ w.grownBy w' none := by
  have hmf : ∀ (fn : Fn) (first cap : Array Value) (w : World), (Instr.makeFunc fn first cap).run Tryd.prog w = .ok (.func fn first cap) w := fun _ _ _ _ => rfl
  go_enter Tryd.func49, Tryd.ntmps49
  go_wp2
  go_ret
  refine ⟨_, rfl, ⟨59, _, rfl, enters_of Tryd.func59 (by kernel_rfl) rfl, ?_⟩, ?_, World.grownBy_alloc _ _ _⟩
  · intro W p S c t f k H hp R hs
    refine lit1_any p w.heap.size S X c t f k W R hs ?_
    have := H (w.heap.size, .cells #[.string X] 9 (0, 0)) (by simp [txtAt])
    simp only at this
    simp [World.cell?, this]
  · intro x hx
    simp only [txtAt, List.mem_singleton] at hx
    subst hx
    exact heap_alloc_new w _

end Go.Proofs.YtcapmbeabfhjoaaDoor
