/-
  What both bundles' walks share.
-/
import Derived.Test.YtgfiadljjlajaaaBundleV
import Derived.Test.YtgfiadljjlajaaaFrameR
import Derived.Test.YtgfiadljjlajaaaLMem
import Derived.Test.YtgfiadljjlajaaaLFrame
import Derived.Deep.RegionWith
import Derived.Deep.DeepCutAuto
import Derived.Maps.AppendAt
namespace Go.Proofs.Ytgfiadljjlajaaa
open Go.RowKit
set_option maxRecDepth 100000

theorem piece_er9 {l : Lk} {b : List UInt8} {e : Int} (h : pieceV l b = .error e) : (e != 0) = true := by
  unfold pieceV at h
  split at h
  · cases h; rfl
  · cases hp : plainV l b with
    | error x => rw [hp] at h; cases h; exact plain_err hp
    | ok p =>
      rw [bind_of hp] at h
      cases hq : protoV l b p with
      | error x => rw [hq] at h; cases h; exact proto_err hq
      | ok q =>
        rw [bind_of hq] at h
        split at h
        · cases h
        · cases hh : headV l b q.2 with
          | error x => rw [hh] at h; cases h; exact head_err hh
          | ok z => rw [bind_of hh] at h; cases h

theorem owns_not {w : World} {base e size n g t : Nat} {v : Value} {vs : List Value} {cs : Array Value} (O : w.ownsRow base e size v n vs) (A : VAt w g t cs) (he : e ≠ t) : v.ownBlock ≠ some g := by
  intro hv
  rcases O.2 with ⟨rfl, -⟩ | ⟨g', cap, cur, rfl, -, hg, -⟩
  · cases hv
  · simp only [Value.ownBlock, Option.some.injEq] at hv
    subst hv
    unfold VAt at A
    rw [A] at hg
    simp only [Option.some.injEq, Obj.cells.injEq] at hg
    exact he hg.2.1.symm
theorem vat_not {w : World} {g g' t t' : Nat} {cs cs' : Array Value} (A : VAt w g t cs) (B : VAt w g' t' cs') (he : t ≠ t') : g ≠ g' := by
  rintro rfl
  unfold VAt at A B
  rw [A] at B
  simp only [Option.some.injEq, Obj.cells.injEq] at B
  exact he B.2.1

/-- The bytes from a place on, as a slice. -/
theorem drop_any {w : World} {a : Option Addr} {ca k : Nat} {b : List UInt8} (h : Cells w a b) (hle : k ≤ b.length) (hc : b.length ≤ ca) : Cells w (if ca = k then a else Option.map (fun x => x.add k) a) (b.drop k) := by
  cases b with
  | nil =>
    rw [List.drop_nil]
    exact ⟨fun _ => rfl, fun ad _ j hj => absurd hj (by simp)⟩
  | cons x xs =>
    obtain ⟨bb, o, rfl, -⟩ := h.addr (k := 0) (by simp)
    rw [show Option.map (fun x : Addr => x.add k) (some ⟨bb, o, none⟩) = some ⟨bb, o + k, none⟩ from congrArg some (Addr.add_lit _ _ _)]
    by_cases hck : ca = k
    · have hd : (x :: xs).drop k = [] := List.drop_eq_nil_of_le (by omega)
      rw [hd]
      exact ⟨fun _ => rfl, fun ad _ j hj => absurd hj (by simp)⟩
    · rw [if_neg hck]
      refine ⟨fun e => by simp at e, fun ad had j hj => ?_⟩
      obtain rfl := Option.some.inj had
      have hj2 : j < (x :: xs).length - k := by
        rw [List.length_drop] at hj
        exact hj
      have q := h.2 _ rfl (k + j) (by omega)
      rw [Addr.add_lit] at q ⊢
      rw [show o + k + j = o + (k + j) by omega, q]
      congr 2
      rw [List.getElem_drop]

/-- Bytes appended in a region that draws its order, and where they lie. -/
theorem step_append_at {P : Program} {ops : Array Oper} {o : Oper} {a : Act} {w : World} {K : Act → World → Prop} {Q : Exit → Act → World → Prop} {E : Prop}
    (hgd : o.guard = none) (s x : Operand) (t : TypeId) (ho : o.op = .call { callee := .builtin .append, args := #[s, x], argTypes := #[t, t] })
    (i : TypeInfo) (ht : P.underlying t = some (.slice 5)) (hi : P.info? 5 = some i) (hz : i.zero = some (.int .u8 0)) (hsize : i.size = 1) (hby : i.bytes = 1)
    (base : Nat) (v : Value) (xs : List UInt8) (hs : a.eval s = v) (hown : Owns w base v xs)
    (ad : Addr) (c : Nat) (ys : List UInt8) (hx : a.eval x = .slice (some ad) ys.length c) (hys : Cells w (some ad) ys)
    (hbytes : xs.length + ys.length ≤ 140737488355328) (hbase : base ≤ w.heap.size)
    (hK : ∀ v' w', Owns w' base v' (xs ++ ys) → w.grownBy w' v.ownBlock → (v'.ownBlock = v.ownBlock ∨ v'.ownBlock = some w.heap.size) → K (a.put o.dst v') w') :
    if Region.wanted o (yielded ops a.tmps) = true then Oper.wp P o a w K Q else E := by
  have hw : Region.wanted o (yielded ops a.tmps) = true := by simp [Region.wanted, hgd]
  rw [if_pos hw]
  obtain ⟨v', w', hr, h2, h3, _, h5⟩ := run_append_own_at (P := P) w base t o.type 5 i (.int .u8 0) 1 1 ht hi hz hsize hby rfl (by decide) v xs.length (xs.map bv) hown ad ys.length c (ys.map bv) (by simp) (by
    intro j u hj
    obtain ⟨hlt, e⟩ := List.getElem?_eq_some_iff.1 hj
    simp only [List.length_map] at hlt
    rw [hys.2 ad rfl j hlt, ← e]
    simp) (bv_one ys) (by unfold maxLen; omega) (by omega) hbase
  unfold Oper.wp execOp
  simp only [ho, resolve, invoke, builtin, Sem.run_bind, Sem.run_pure, Result.andThen_ok, List.map_toArray, List.map_cons, List.map_nil, hs, hx, hr]
  refine hK v' w' ?_ h3 h5
  unfold Owns
  rw [List.length_append, List.map_append]
  exact h2

theorem fed_eq {sp sq nn : Nat} {u : Bs} {be fi o1 o2 : Bool} {c h1 h2 : List UInt8} (e1 : (if sq = u.nxt then u.opn else false) = o1 ∧ (if sq = u.nxt then u.has else []) = h1) (e2 : (be || o1) = o2 ∧ (if be = true then c else if o1 = true then h1 ++ c else h1) = h2) (hn : (sq + 1) % sp = nn) :
    fedV sp u sq be fi c = if 65535 < h2.length then (⟨nn, false, []⟩, [], false) else if o2 = true ∧ fi = true then (⟨nn, false, []⟩, h2, true) else (⟨nn, o2, h2⟩, [], false) := by
  obtain ⟨a1, a2⟩ := e1
  obtain ⟨b1, b2⟩ := e2
  subst a1 a2 b1 b2 hn
  unfold fedV
  cases be
  · by_cases hs : sq = u.nxt
    · cases u.opn <;> simp [hs]
    · simp [hs]
  · simp

end Go.Proofs.Ytgfiadljjlajaaa
