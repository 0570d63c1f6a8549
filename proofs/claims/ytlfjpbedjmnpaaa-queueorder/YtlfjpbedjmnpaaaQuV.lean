/-
  Queues by class in words: no Go text here.
-/
import Derived.Test.YtlfjpbedjmnpaaaBase
namespace Go.Proofs.Ytlfjpbedjmnpaaa
open Go.RowKit
set_option maxRecDepth 100000

/-- A class: how many it may hold, how many were dropped, and what waits. -/
structure Qc where
  dep : Nat
  lost : Nat
  fr : List (List UInt8)

def qc0 : Qc := ⟨0, 0, []⟩

/-- One frame more, or one dropped more. -/
def Qc.room (q : Qc) : Bool := decide (q.fr.length < q.dep)
def Qc.put (q : Qc) (b : List UInt8) : Qc := if q.room = true then ⟨q.dep, q.lost, q.fr ++ [b]⟩ else ⟨q.dep, min (q.lost + 1) 4294967295, q.fr⟩

def putE (cs : List Qc) (c : Int) (b : List UInt8) : Int := if c < 0 ∨ (cs.length : Int) ≤ c then 211 else if 65535 < b.length then 212 else 0
def putB (cs : List Qc) (c : Int) (b : List UInt8) : Bool := if putE cs c b = 0 then (cs.getD c.toNat qc0).room else false
def putP (cs : List Qc) (c : Int) (b : List UInt8) : List Qc := if putE cs c b = 0 then cs.set c.toNat ((cs.getD c.toNat qc0).put b) else cs

/-- The first frame of the least class that holds one. -/
def takeP : List Qc → Option (Nat × List UInt8 × List Qc)
  | [] => none
  | q :: r => match q.fr with
    | b :: t => some (0, b, ⟨q.dep, q.lost, t⟩ :: r)
    | [] => match takeP r with
      | none => none
      | some (n, b, r') => some (n + 1, b, q :: r')

def Qc.clear (q : Qc) : Qc := ⟨q.dep, q.lost, []⟩
def allP (cs : List Qc) : List (List UInt8) := cs.flatMap Qc.fr
def lensP (cs : List Qc) : List Int := cs.map fun q => (q.fr.length : Int)

def depB (z : Int) : Bool := decide (1 ≤ z ∧ z ≤ 1024)
def newB (zs : List Int) : Bool := decide (1 ≤ zs.length ∧ zs.length ≤ 17) && zs.all depB
def newP (zs : List Int) : List Qc := zs.map fun z => ⟨z.toNat, 0, []⟩

theorem take_at : ∀ (cs : List Qc) (k : Nat) (q : Qc) (b : List UInt8) (t : List (List UInt8)), cs[k]? = some q → q.fr = b :: t → (∀ j, j < k → ∀ x, cs[j]? = some x → x.fr = []) → takeP cs = some (k, b, cs.set k ⟨q.dep, q.lost, t⟩)
  | [], k, q, b, t, h, _, _ => by simp at h
  | x :: r, 0, q, b, t, h, hf, _ => by
    simp at h
    subst h
    simp [takeP, hf]
  | x :: r, k + 1, q, b, t, h, hf, ha => by
    have hx : x.fr = [] := ha 0 (by omega) x rfl
    have := take_at r k q b t (by simpa using h) hf (fun j hj y hy => ha (j + 1) (by omega) y (by simpa using hy))
    simp [takeP, hx, this]

theorem take_none : ∀ (cs : List Qc), (∀ x ∈ cs, x.fr = []) → takeP cs = none
  | [], _ => rfl
  | x :: r, h => by
    have hx : x.fr = [] := h x (List.mem_cons_self ..)
    have := take_none r (fun y hy => h y (List.mem_cons_of_mem _ hy))
    simp [takeP, hx, this]

theorem take_no : ∀ (cs : List Qc), takeP cs = none → allP cs = [] ∧ cs.map Qc.clear = cs
  | [], _ => ⟨rfl, rfl⟩
  | x :: r, h => by
    cases hx : x.fr with
    | cons b t => simp [takeP, hx] at h
    | nil =>
      have hr : takeP r = none := by
        cases e : takeP r with
        | none => rfl
        | some p => simp [takeP, hx, e] at h
      obtain ⟨h1, h2⟩ := take_no r hr
      refine ⟨?_, ?_⟩
      · simp only [allP, List.flatMap_cons, hx, List.nil_append] at h1 ⊢
        exact h1
      · rw [List.map_cons, h2]
        congr 1
        unfold Qc.clear
        rw [← hx]

theorem take_yes : ∀ (cs : List Qc) (n : Nat) (b : List UInt8) (ds : List Qc), takeP cs = some (n, b, ds) → allP cs = b :: allP ds ∧ cs.map Qc.clear = ds.map Qc.clear ∧ ds.length = cs.length ∧ n < cs.length
  | [], n, b, ds, h => by simp [takeP] at h
  | x :: r, n, b, ds, h => by
    cases hx : x.fr with
    | cons c t =>
      simp only [takeP, hx, Option.some.injEq, Prod.mk.injEq] at h
      obtain ⟨rfl, rfl, rfl⟩ := h
      simp [allP, hx, Qc.clear]
    | nil =>
      cases e : takeP r with
      | none => simp [takeP, hx, e] at h
      | some p =>
        obtain ⟨m, c, es⟩ := p
        simp only [takeP, hx, e, Option.some.injEq, Prod.mk.injEq] at h
        obtain ⟨rfl, rfl, rfl⟩ := h
        obtain ⟨h1, h2, h3, h4⟩ := take_yes r m c es e
        refine ⟨?_, ?_, by simp [h3], by simp; omega⟩
        · simp only [allP, List.flatMap_cons, hx, List.nil_append] at h1 ⊢
          exact h1
        · simp [h2]

theorem put_len (cs : List Qc) (c : Int) (b : List UInt8) : (putP cs c b).length = cs.length := by
  unfold putP
  split <;> simp

theorem clear_all (cs : List Qc) : allP (cs.map Qc.clear) = [] := by
  induction cs with
  | nil => rfl
  | cons x r ih =>
    simp only [allP, List.map_cons, List.flatMap_cons] at ih ⊢
    rw [ih]
    rfl

end Go.Proofs.Ytlfjpbedjmnpaaa
