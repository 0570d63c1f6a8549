/-
  Tokens in memory: four cells each; SameTokens, SpoilTokens.
-/
import Derived.Test.YthmfpodibgheiabDoorLexV
import Derived.Test.YthmfpodibgheiabDoorICopy
import Derived.Test.YthmfpodibgheiabDoorCopy
namespace Go.Proofs.YthmfpodibgheiabDoor
open Go.RowKit
set_option maxRecDepth 100000

def Tk.cells (x : Tk) : List Value := [.int .i64 (x.kind : Int), .int .i64 (x.pos : Int), str x.text, .int .u32 (x.num : Int)]

/-- The cells of a list of them. -/
def flatT (xs : List Tk) : List Value := xs.flatMap Tk.cells

theorem flatT_nil : flatT [] = [] := rfl
theorem flatT_cons (x : Tk) (xs : List Tk) : flatT (x :: xs) = x.cells ++ flatT xs := rfl
theorem flatT_append (xs ys : List Tk) : flatT (xs ++ ys) = flatT xs ++ flatT ys := by simp only [flatT, List.flatMap_append]

theorem flatT_len (xs : List Tk) : (flatT xs).length = xs.length * 4 := by
  induction xs with
  | nil => rfl
  | cons x xs ih => rw [flatT_cons, List.length_append, ih, List.length_cons]; simp [Tk.cells]; omega

theorem flatT_get (xs : List Tk) (i j : Nat) (hi : i < xs.length) (hj : j < 4) : (flatT xs)[i * 4 + j]? = (xs[i].cells)[j]? := by
  induction xs generalizing i with
  | nil => simp at hi
  | cons x xs ih =>
    rw [flatT_cons]
    have hl : x.cells.length = 4 := rfl
    cases i with
    | zero => rw [List.getElem?_append_left (by omega)]; simp
    | succ i =>
      rw [List.getElem?_append_right (by omega), hl, show (i + 1) * 4 + j - 4 = i * 4 + j by omega, ih i (by simpa using hi)]
      simp

theorem flatT_one (xs : List Tk) : ∀ u ∈ flatT xs, u.oneCell' = true := by
  intro u hu
  obtain ⟨x, _, hx⟩ := List.mem_flatMap.1 hu
  simp only [Tk.cells, List.mem_cons, List.not_mem_nil, or_false] at hx
  rcases hx with rfl | rfl | rfl | rfl <;> rfl

theorem CV.toks {w : World} {ao : Option Addr} {xs : List Tk} (h : CV w ao (flatT xs)) {k : Nat} (hk : k < xs.length) :
    ∃ b off, ao = some ⟨b, off, none⟩ ∧ ∀ i (hi : i < xs.length), w.cell? ⟨b, off + i * 4, none⟩ = some (.int .i64 (xs[i].kind : Int)) ∧ w.cell? ⟨b, off + i * 4 + 1, none⟩ = some (.int .i64 (xs[i].pos : Int)) ∧
      w.cell? ⟨b, off + i * 4 + 2, none⟩ = some (str xs[i].text) ∧ w.cell? ⟨b, off + i * 4 + 3, none⟩ = some (.int .u32 (xs[i].num : Int)) := by
  have hl := flatT_len xs
  obtain ⟨b, off, hao, hc⟩ := h.addr (k := k * 4) (by omega)
  refine ⟨b, off, hao, fun i hi => ?_⟩
  have key : ∀ j (hj : j < 4), w.cell? ⟨b, off + i * 4 + j, none⟩ = (xs[i].cells)[j]? := fun j hj => by
    rw [← flatT_get xs i j hi hj, Nat.add_assoc, hc (i * 4 + j) (by omega), List.getElem?_eq_getElem (by omega)]
  exact ⟨key 0 (by omega), key 1 (by omega), key 2 (by omega), key 3 (by omega)⟩

set_option maxHeartbeats 400000 in
theorem tsame_any (a b : Option Addr) (ca cb : Nat) (xs : List Tk) (w : World) (ha : CV w a (flatT xs)) (hb : CV w b (flatT xs)) (hm : xs.length ≤ 9223372036854775807) :
    Calls Tryd.prog 6 #[.slice a xs.length ca, .slice b xs.length cb] w fun e w' => e = .returned (.bool true) ∧ ∃ n, w' = w.drewN n := by
  have hne : ((xs.length : Int) != (xs.length : Int)) = false := by simp
  go_enter Tryd.func6, Tryd.ntmps6
  go_wp2
  go_loopw [5] (fun i wr => ∃ k : Nat, k ≤ xs.length ∧ i = .int .i64 k ∧ ∃ n, wr = w.drewN n) (fun i _ => xs.length - (intOf i).toNat)
  case atStart => exact ⟨0, Nat.zero_le _, rfl, 0, rfl⟩
  case round =>
    obtain ⟨k, hk, rfl, n, rfl⟩ := hrel
    by_cases hlt : k < xs.length
    · obtain ⟨b1, o1, rfl, h1⟩ := ha.toks hlt
      obtain ⟨b2, o2, rfl, h2⟩ := hb.toks hlt
      obtain ⟨c1, c2, c3, c4⟩ := h1 k hlt
      obtain ⟨d1, d2, d3, d4⟩ := h2 k hlt
      clear ha hb h1 h2
      generalize xs[k] = x at *
      obtain ⟨xk, xp, xt, xn⟩ := x
      simp only at *
      generalize (⟨xt.toArray⟩ : ByteArray) = xb at *
      have hl : (k : Int) < (xs.length : Int) := by omega
      go_wp2
      go_quiet (fail)
      go_wp2
      go_roundw
      case rel => exact ⟨k + 1, by omega, by go_num, _, by rfl⟩
      case measure => simp [intOf]; omega
    · go_wp2
      go_ret
      exact ⟨rfl, n, rfl⟩

theorem info34 : (Tryd.prog.info? 34).map (fun i => (i.zero, i.size, i.bytes)) = some (some (.agg #[.int .i64 0, .int .i64 0, .string .empty, .int .u32 0]), 4, 40) := by kernel_rfl
/-- An owned row of tokens. -/
abbrev TOwns (w : World) (base : Nat) (v : Value) (xs : List Tk) : Prop := w.ownsRow base 34 4 v xs.length (flatT xs)

/-- The two loops of SpoilTokens, behind its append. -/
def TSpoilRel (w : World) (row : Option Nat) (g g' n n' : Nat) (wr : World) : Prop := BlkN wr 34 g n ∧ BlkN wr 34 g' n' ∧ w.grownBy wr row
theorem TSpoilRel.set {w wr : World} {row : Option Nat} {g g' n n' : Nat} (h : TSpoilRel w row g g' n n' wr) {p : Addr} (hp : row = some p.block ∨ w.heap.size ≤ p.block) (u : Value) : TSpoilRel w row g g' n n' (wr.setCell p u) :=
  ⟨h.1.setCell _ _, h.2.1.setCell _ _, grown_setCell h.2.2 _ _ hp⟩

end Go.Proofs.YthmfpodibgheiabDoor
