/-
  Join: the bytes of all parts, in new memory.
-/
import Derived.Test.YtnkdcehnamkoaaaSum
namespace Go.Proofs.Ytnkdcehnamkoaaa
open Go.RowKit
set_option maxRecDepth 100000

theorem info22 : (Try.prog.info? 22).map (fun i => (i.zero, i.size, i.bytes)) = some (some (.int .u32 0), 1, 4) := by kernel_rfl

/-- One list of bytes among many: where it lies, its capacity, its bytes. -/
structure Part where
  ao : Option Addr
  cap : Nat
  bs : List UInt8

def Part.v (p : Part) : Value := .slice p.ao p.bs.length p.cap

/-- It can be read. -/
def Part.ok (p : Part) (w : World) : Prop := Cells w p.ao p.bs ∧ (p.ao = none → p.cap = 0)

def joinS (ps : List Part) : List UInt8 := ps.flatMap (·.bs)

theorem joinS_succ (ps : List Part) (k : Nat) (hk : k < ps.length) : joinS (ps.take (k + 1)) = joinS (ps.take k) ++ ps[k].bs := by
  rw [List.take_succ_eq_append_getElem hk]; simp only [joinS, List.flatMap_append, List.flatMap_cons, List.flatMap_nil, List.append_nil]

theorem joinS_append (ps qs : List Part) : joinS (ps ++ qs) = joinS ps ++ joinS qs := by simp only [joinS, List.flatMap_append]

theorem joinS_le (ps : List Part) (k : Nat) : (joinS (ps.take k)).length ≤ (joinS ps).length := by
  have h := joinS_append (ps.take k) (ps.drop k)
  rw [List.take_append_drop] at h
  rw [h, List.length_append]
  omega

theorem CV.parts {w : World} {ao : Option Addr} {ps : List Part} (h : CV w ao (ps.map Part.v)) {k : Nat} (hk : k < ps.length) :
    ∃ b off, ao = some ⟨b, off, none⟩ ∧ ∀ i (hi : i < ps.length), w.cell? ⟨b, off + i, none⟩ = some (.slice ps[i].ao ps[i].bs.length ps[i].cap) := by
  obtain ⟨b, off, hao, hc⟩ := h.addr (k := k) (by simpa using hk)
  refine ⟨b, off, hao, fun i hi => ?_⟩
  rw [hc i (by simpa using hi)]
  simp [Part.v]

/-- The list of sizes while it is filled. -/
def SizesRel (w : World) (g n : Nat) (wr : World) : Prop :=
  ∃ xs : List UInt32, xs.length = n ∧ wr.ownsRow w.heap.size 22 1 (.slice (some ⟨g, 0, none⟩) n n) n (xs.map wv) ∧ w.grownBy wr none

theorem SizesRel.store {w wr : World} {g n : Nat} (h : SizesRel w g n wr) (i : Nat) (m : Nat) : SizesRel w g n (wr.setCell ⟨g, i, none⟩ (.int .u32 ((m : Int) % 4294967296))) := by
  obtain ⟨xs, hx, ho, hg⟩ := h
  refine ⟨xs.set i (UInt32.ofNat m), by simpa using hx, ?_, ?_⟩
  · have := ho.stored i (.int .u32 ((m : Int) % 4294967296))
    rw [List.map_set]
    have e : wv (UInt32.ofNat m) = .int .u32 ((m : Int) % 4294967296) := by simp [wv]
    rw [e]
    exact this.1
  · exact grown_setCell hg _ _ (.inr (ho.lt g rfl).1)

theorem SizesRel.cell {w wr : World} {g n : Nat} (h : SizesRel w g n wr) {i : Nat} (hi : i < n) : ∃ u, wr.cell? ⟨g, i, none⟩ = some u := by
  obtain ⟨xs, hx, ho, hg⟩ := h
  have := ho.cellAt i (by omega)
  refine ⟨wv (xs[i]'(by omega)), ?_⟩
  rw [this]
  simp [show i < xs.length by omega]

theorem SizesRel.free {w wr : World} {g n : Nat} (h : SizesRel w g n wr) (i : Nat) : wr.frozen? ⟨g, i, none⟩ = false := by
  obtain ⟨xs, hx, ho, hg⟩ := h
  exact ho.frozenAt i

theorem Part.ok.kept {p : Part} {w w' : World} (h : p.ok w) (hg : w.grownBy w' none) : p.ok w' := ⟨h.1.keptNone hg, h.2⟩

end Go.Proofs.Ytnkdcehnamkoaaa
