/-
  The program of a graph and the graph: their runs come to the same. No Go text here. Rows of two kinds apart; places behind others.
-/
import Derived.Test.YtelgfegkobkhiaaLotP27
import Derived.Test.YtelgfegkobkhiaaLotP9
import Derived.Test.YtelgfegkobkhiaaLotP16
namespace Go.Proofs.Ytelgfegkobkhiaa
open Go.RowKit
set_option maxRecDepth 100000

/-- The same value and fault, in no fewer steps. -/
def SimR (v : Nat × Int × List Nat) (r : Nat × Int × Nat) : Prop := v.1 = r.1 ∧ v.2.1 = r.2.1 ∧ r.2.2 ≤ v.2.2.length
theorem sim_hd {v : Nat × Int × List Nat} {r : Nat × Int × Nat} (j : Nat) (h : SimR v r) : SimR (hdV j v) (addS 1 r) := by
  obtain ⟨h1, h2, h3⟩ := h
  exact ⟨h1, h2, by simp only [hdV, addS, List.length_cons]; omega⟩
theorem sim_hd0 {v : Nat × Int × List Nat} {r : Nat × Int × Nat} (j : Nat) (h : SimR v r) : SimR (hdV j v) r := by
  obtain ⟨h1, h2, h3⟩ := h
  exact ⟨h1, h2, by simp only [hdV, List.length_cons]; omega⟩
theorem addS_add2 (a b : Nat) (r : Nat × Int × Nat) : addS a (addS b r) = addS (a + b) r := by simp only [addS, Nat.add_assoc]
theorem getD_some {P : List In} {a : Nat} {x : In} (h : P[a]? = some x) : P.getD a zIn = x := by rw [List.getD_eq_getElem?_getD, h]; rfl

theorem run_plain {P : List In} {pk : List UInt8} {m a : Nat} {M : Mc} {x : In} (h : P[a]? = some x) (hp : leavesB x = false) :
    runF P pk (m + 1) a M = if (stepV x.code.toNat x.k.toNat pk M).2 = 0 then hdV a (runF P pk m (a + 1) (stepV x.code.toNat x.k.toNat pk M).1) else (0, (stepV x.code.toNat x.k.toNat pk M).2, [a]) := by
  obtain ⟨h6, h22, h5, hj⟩ := plain_codes hp
  rw [runF, getD_some h, h6, h22, h5, hj, if_neg (by simp), if_neg (by simp), if_neg (by simp), if_neg (by simp)]
theorem run_ja {P : List In} {pk : List UInt8} {m a : Nat} {M : Mc} {K : UInt32} (h : P[a]? = some ⟨5, 0, 0, K⟩) : runF P pk (m + 1) a M = hdV a (runF P pk m (a + 1 + K.toNat) M) := by
  rw [runF, getD_some h]
  rfl
theorem run_ret {P : List In} {pk : List UInt8} {m a : Nat} {M : Mc} {x : In} (h : P[a]? = some x) (h6 : (classV x.code.toNat == 6) = true) : runF P pk (m + 1) a M = (giveV x M, 0, [a]) := by
  rw [runF, getD_some h]
  rcases ret_codes h6 with q | ⟨q, r⟩
  · rw [if_pos q, giveV, beq_iff_eq.1 q, if_pos (by decide)]
  · rw [if_neg (by rw [q]; simp), if_pos r, giveV, beq_iff_eq.1 r, if_neg (by decide)]
theorem run_test {P : List In} {pk : List UInt8} {m a : Nat} {M : Mc} {x : In} (h : P[a]? = some x) (hu : usesJ x.code.toNat = true) : runF P pk (m + 1) a M = hdV a (runF P pk m (a + 1 + goalV x M) M) := by
  rw [usesJ, Bool.and_eq_true] at hu
  have hj := hu.2
  have hj' := hj
  simp only [jumpB, Bool.or_eq_true, beq_iff_eq] at hj'
  have h6 : ((x.code.toNat : Int) == 6) = false := by rw [beq_eq_false_iff_ne]; omega
  have h22 : ((x.code.toNat : Int) == 22) = false := by rw [beq_eq_false_iff_ne]; omega
  have h5 : ((x.code.toNat : Int) == 5) = false := by rw [beq_eq_false_iff_ne]; omega
  rw [runF, getD_some h, h6, h22, h5, hj, if_neg (by simp), if_neg (by simp), if_neg (by simp), if_pos rfl]

theorem code_sim {P : List In} {pk : List UInt8} : ∀ (code : List In) (s : Nat) (M : Mc), (∀ i (h : i < code.length), P[s + i]? = some code[i]) → straightB code = true → ∀ m,
    ((codeF pk code M).2.1 ≠ 0 → SimR (runF P pk (code.length + m) s M) (0, (codeF pk code M).2.1, (codeF pk code M).2.2)) ∧
    ((codeF pk code M).2.1 = 0 → ∀ r, SimR (runF P pk m (s + code.length) (codeF pk code M).1) r → SimR (runF P pk (code.length + m) s M) (addS (codeF pk code M).2.2 r))
  | [], s, M, _, _, m => by
    refine ⟨fun h => absurd rfl h, fun _ r h => ?_⟩
    simp only [codeF, List.length_nil, Nat.add_zero, Nat.zero_add, addS] at h ⊢
    exact h
  | x :: c, s, M, hx, hs, m => by
    have h0 : P[s]? = some x := hx 0 (by simp)
    simp only [straightB, List.all_cons, Bool.and_eq_true] at hs
    have hp := hs.1
    simp only [plainI, Bool.and_eq_true, Bool.not_eq_true', beq_iff_eq] at hp
    have e : runF P pk ((x :: c).length + m) s M = runF P pk (c.length + m + 1) s M := by rw [List.length_cons, show c.length + 1 + m = c.length + m + 1 by omega]
    rw [e, run_plain h0 hp.1, codeF]
    by_cases hf : (stepV x.code.toNat x.k.toNat pk M).2 = 0
    · rw [if_pos hf, if_pos hf]
      have ih := code_sim (P := P) (pk := pk) c (s + 1) (stepV x.code.toNat x.k.toNat pk M).1 (fun i h => by
        have := hx (i + 1) (by simpa using h)
        rw [show s + 1 + i = s + (i + 1) by omega]
        simpa using this) hs.2 m
      simp only
      refine ⟨fun h => ?_, fun h r hr => ?_⟩
      · have := sim_hd s (ih.1 h)
        obtain ⟨q1, q2, q3⟩ := this
        refine ⟨q1, q2, ?_⟩
        simp only [addS] at q3 ⊢
        omega
      · rw [List.length_cons, show s + (c.length + 1) = s + 1 + c.length by omega] at hr
        have := sim_hd s (ih.2 h r hr)
        rw [addS_add2, Nat.add_comm 1] at this
        exact this
    · rw [if_neg hf, if_neg hf]
      simp only
      exact ⟨fun _ => ⟨rfl, rfl, by simp⟩, fun h => absurd h hf⟩

theorem goes_sim {P : List In} {pk : List UInt8} {a b : Nat} {M : Mc} {r : Nat × Int × Nat} (h : Goes P a b) (ha : a < P.length) (hr : ∀ m, P.length ≤ m + b → SimR (runF P pk m b M) r) : ∀ m, P.length ≤ m + a → SimR (runF P pk m a M) r := by
  intro m hm
  rcases h with rfl | ⟨k, hk, hb⟩
  · exact hr m hm
  · obtain ⟨m', rfl⟩ : ∃ m', m = m' + 1 := ⟨m - 1, by omega⟩
    rw [run_ja hk, hb]
    exact sim_hd0 _ (hr m' (by omega))

theorem line_sim {g : List Bk} (T : TakenG g) (hM : countG measE g ≤ 4096) (pk : List UInt8) : ∀ d j, g.length ≤ d + j → (hj : j < g.length) → ∀ M m, (progG g).length ≤ m + plN (zipL 0 g) j → SimR (runF (progG g) pk m (plN (zipL 0 g) j) M) (goG g pk d j M) := by
  intro d
  induction d with
  | zero => intro j h1 hj; omega
  | succ d ih =>
    intro j h1 hj M m hm
    have L := lay_ok T hM hj
    obtain ⟨o1, o2, o3⟩ := T.ok j hj
    obtain ⟨ha2, ha3⟩ := goals_ahead T hj
    have hb : g.getD j bk0 = g[j] := by rw [List.getD_eq_getElem?_getD, List.getElem?_eq_getElem hj]; rfl
    have hlt := fun j hj => pl_lt T hM (j := j) hj
    have hend : plN (zipL 0 g) j + g[j].code.length < (progG g).length := by
      rcases ens_of T g[j] (List.getElem_mem hj) with q | q | q
      · exact (List.getElem?_eq_some_iff.1 (L.ret q)).1
      · exact goes_lt (L.go q) (hlt _ (ha2 q).2)
      · obtain ⟨t, f, p1, -⟩ := L.test q
        exact (List.getElem?_eq_some_iff.1 p1).1
    have C := fun m => code_sim (P := progG g) (pk := pk) g[j].code (plN (zipL 0 g) j) M L.code o1 m
    rw [goG, hb]
    obtain ⟨m', rfl⟩ : ∃ m', m = g[j].code.length + m' := ⟨m - g[j].code.length, by omega⟩
    by_cases hf : (codeF pk g[j].code M).2.1 = 0
    · rw [if_neg (by rw [hf]; simp)]
      generalize (codeF pk g[j].code M).2.2 = st at *
      have C2 := (C m').2 hf
      generalize (codeF pk g[j].code M).1 = M' at *
      rcases ens_of T g[j] (List.getElem_mem hj) with q | q | q
      · rw [if_pos q]
        rw [gendsB, if_pos q] at o2
        simp only [Bool.and_eq_true] at o2
        obtain ⟨k, rfl⟩ : ∃ k, m' = k + 1 := ⟨m' - 1, by omega⟩
        have := C2 (giveV g[j].last M', 0, 1) (by rw [run_ret (L.ret q) o2.1.1]; exact ⟨rfl, rfl, by simp⟩)
        exact this
      · rw [if_neg (by omega), if_pos q]
        refine C2 _ (goes_sim (L.go q) hend (fun m hm => ih _ ?_ (ha2 q).2 M' m hm) m' (by omega))
        have := ha2 q
        omega
      · rw [if_neg (by omega), if_neg (by omega)]
        obtain ⟨t, f, p1, p2, p3⟩ := L.test q
        rw [gendsB, if_neg (by omega), if_neg (by omega), if_pos q] at o2
        simp only [Bool.and_eq_true] at o2
        obtain ⟨k, rfl⟩ : ∃ k, m' = k + 1 := ⟨m' - 1, by omega⟩
        rw [← addS_add2]
        refine C2 _ ?_
        rw [run_test p1 o2.1]
        refine sim_hd _ ?_
        have ea : asksV ⟨g[j].last.code, t, f, g[j].last.k⟩ M' = asksV g[j].last M' := rfl
        rw [goalV, ea]
        have := ha3 q
        cases asksV g[j].last M' with
        | true =>
          simp only [if_true]
          exact goes_sim p2 (goes_lt p2 (hlt _ this.1.2)) (fun m hm => ih _ (by omega) this.1.2 M' m hm) k (by omega)
        | false =>
          simp only [Bool.false_eq_true, if_false]
          exact goes_sim p3 (goes_lt p3 (hlt _ this.2.2)) (fun m hm => ih _ (by omega) this.2.2 M' m hm) k (by omega)
    · rw [if_pos hf]
      exact (C m').1 hf

/-- P18.2, of the program that package line lays. -/
theorem line_runs {g : List Bk} (hT : (gckG g).2 = 0) (hM : countG measE g ≤ 4096) {pk : List UInt8} (hp : pk.length ≤ 65536) : runE (progG g) pk = 0 ∧ runGE g pk = 0 ∧ SimR (runV (progG g) pk) (runG g pk) := by
  have T := taken_g hT
  have hc := (prog_taken T hM).1
  have e1 : runE (progG g) pk = 0 := by rw [runE, hc, if_pos rfl, if_neg (by omega)]
  have e2 : runGE g pk = 0 := by rw [runGE, if_pos hT, if_neg (by omega)]
  refine ⟨e1, e2, ?_⟩
  rw [runV, if_pos e1, runG, if_pos e2]
  have h0 : plN (zipL 0 g) 0 = 0 := rfl
  have := line_sim T hM pk g.length 0 (by omega) T.pos mc0 (progG g).length (by omega)
  rwa [h0] at this

end Go.Proofs.Ytelgfegkobkhiaa

namespace Go.Proofs.Ytelgfegkobkhiaa
open Go.RowKit
set_option maxRecDepth 100000

/-- Rows of two kinds of elements: the one stays where the other is written. -/
theorem row_kinds {w w' : World} {base base' e e' size size' n n' : Nat} {v v' : Value} {vs vs' : List Value} (h : w.ownsRow base e size v n vs) (O : w.ownsRow base' e' size' v' n' vs') (he : e ≠ e') (K : w.grownBy w' v'.ownBlock) : w'.ownsRow base e size v n vs := by
  refine h.kept K ?_
  rcases h.2 with ⟨rfl, -⟩ | ⟨g, cap, cur, rfl, -, hg, -⟩
  · exact .inl rfl
  · right
    intro hh
    rcases O.2 with ⟨rfl, -⟩ | ⟨g', cap', cur', rfl, -, hg', -⟩
    · cases hh
    · simp only [Value.ownBlock, Option.some.injEq] at hh
      subst hh
      rw [hg] at hg'
      simp only [Option.some.injEq, Obj.cells.injEq] at hg'
      exact he hg'.2.1

theorem row_blk {w w' : World} {base e e' size n g m : Nat} {v : Value} {vs : List Value} (h : w.ownsRow base e size v n vs) (B : BlkN w e' g m) (he : e ≠ e') (K : w.grownBy w' (some g)) : w'.ownsRow base e size v n vs := by
  refine h.kept K ?_
  rcases h.2 with ⟨rfl, -⟩ | ⟨g1, cap, cur, rfl, -, hg, -⟩
  · exact .inl rfl
  · right
    intro hh
    simp only [Value.ownBlock, Option.some.injEq] at hh
    subst hh
    obtain ⟨cur', hb, -⟩ := B
    rw [hg] at hb
    simp only [Option.some.injEq, Obj.cells.injEq] at hb
    exact he hb.2.1

theorem blk_row {w w' : World} {base e e' size n g m : Nat} {v : Value} {vs : List Value} (B : BlkN w e' g m) (h : w.ownsRow base e size v n vs) (he : e ≠ e') (K : w.grownBy w' v.ownBlock) : BlkN w' e' g m := by
  refine B.kept K ?_
  rcases h.2 with ⟨rfl, -⟩ | ⟨g1, cap, cur, rfl, -, hg, -⟩
  · simp [Value.ownBlock]
  · intro hh
    simp only [Value.ownBlock, Option.some.injEq] at hh
    subst hh
    obtain ⟨cur', hb, -⟩ := B
    rw [hg] at hb
    simp only [Option.some.injEq, Obj.cells.injEq] at hb
    exact he hb.2.1

theorem vblk_set {w : World} {g i : Nat} {cur : Array Value} {e : TypeId} (h : w.heap[g]? = some (.cells cur e (0, 0))) (u : Value) : (w.setCell ⟨g, i, none⟩ u).heap[g]? = some (.cells (cur.setIfInBounds i u) e (0, 0)) := heap_setCell_same w g i cur e u h

/-- Three cells, written one behind the other. -/
theorem set3 {W : World} {g : Nat} {e : TypeId} (h : BlkN W e g 3) (v0 v1 v2 : Value) :
    let W3 := ((W.setCell ⟨g, 0, none⟩ v0).setCell ⟨g, 1, none⟩ v1).setCell ⟨g, 2, none⟩ v2
    W3.cell? ⟨g, 0, none⟩ = some v0 ∧ W3.cell? ⟨g, 1, none⟩ = some v1 ∧ W3.cell? ⟨g, 2, none⟩ = some v2 := by
  obtain ⟨cur, hh, hs⟩ := h
  have k := vblk_set (i := 2) (vblk_set (i := 1) (vblk_set (i := 0) hh v0) v1) v2
  intro W3
  have hc : ∀ i, W3.cell? ⟨g, i, none⟩ = (((cur.setIfInBounds 0 v0).setIfInBounds 1 v1).setIfInBounds 2 v2)[i]? := fun i => cell_of_row W3 g i _ _ _ k
  refine ⟨?_, ?_, ?_⟩ <;> rw [hc] <;> simp [hs]

/-- Places behind others. -/
def preV (ts : List Nat) (r : Nat × Int × List Nat) : Nat × Int × List Nat := (r.1, r.2.1, ts ++ r.2.2)
def zl (ts : List Nat) : List Int := ts.map fun n : Nat => (n : Int)

theorem preV_hd (ts : List Nat) (j : Nat) (r : Nat × Int × List Nat) : preV ts (hdV j r) = preV (ts ++ [j]) r := by
  simp [preV, hdV]

/-- Cells of an instruction that is boxed. -/
abbrev Bx (w : World) (b : Nat) (c t f k : Int) : Prop := w.cell? ⟨b, 0, none⟩ = some (.int .u16 c) ∧ w.cell? ⟨b, 1, none⟩ = some (.int .u8 t) ∧ w.cell? ⟨b, 2, none⟩ = some (.int .u8 f) ∧ w.cell? ⟨b, 3, none⟩ = some (.int .u32 k)

theorem bx_alloc (w : World) (e : TypeId) (c t f k : Int) : Bx (w.alloc (.cells #[.int .u16 c, .int .u8 t, .int .u8 f, .int .u32 k] e)) w.heap.size c t f k := by
  have h : ∀ i : Nat, (w.alloc (.cells #[.int .u16 c, .int .u8 t, .int .u8 f, .int .u32 k] e)).cell? ⟨w.heap.size, i, none⟩ = (#[.int .u16 c, .int .u8 t, .int .u8 f, .int .u32 k] : Array Value)[i]? := fun i => cell_of_row _ w.heap.size i _ _ _ (heap_alloc_new w _)
  exact ⟨h 0, h 1, h 2, h 3⟩

end Go.Proofs.Ytelgfegkobkhiaa
