/-
  Lists of numbers that wait, class by class, beside a queue; riddlelaw21.first.
-/
import Derived.Test.YtlfjpbedjmnpaaaQuD2
import Derived.Test.YtlfjpbedjmnpaaaQuY3
namespace Go.Proofs.Ytlfjpbedjmnpaaa
open Go.RowKit
set_option maxRecDepth 100000

/-- The numbers that wait in a class. -/
structure Wq where
  h : Value
  xs : List Int
def wg (c : Wq) : List Nat := c.h.ownBlock.toList
def wblk (ws : List Wq) : List Nat := ws.flatMap wg
theorem mem_wg {c : Wq} {x : Nat} : x ∈ wg c ↔ c.h.ownBlock = some x := by simp [wg, Option.mem_toList]

theorem wcount_set (a : Nat) (c' : Wq) : ∀ (cs : List Wq) (i : Nat) (c : Wq), cs[i]? = some c → ((cs.set i c').flatMap wg).count a + (wg c).count a = (cs.flatMap wg).count a + (wg c').count a
  | [], i, c, h => by simp at h
  | x :: r, 0, c, h => by
    simp at h
    subst h
    simp only [List.set_cons_zero, List.flatMap_cons, List.count_append]
    omega
  | x :: r, i + 1, c, h => by
    have := wcount_set a c' r i c (by simpa using h)
    simp only [List.set_cons_succ, List.flatMap_cons, List.count_append]
    omega
theorem wcount_two (a : Nat) : ∀ (cs : List Wq) (i j : Nat) (c d : Wq), cs[i]? = some c → cs[j]? = some d → i ≠ j → a ∈ wg c → a ∈ wg d → 2 ≤ (cs.flatMap wg).count a
  | [], i, j, c, d, h, _, _, _, _ => by simp at h
  | x :: r, 0, 0, c, d, _, _, hn, _, _ => absurd rfl hn
  | x :: r, 0, j + 1, c, d, h, k, _, hc, hd => by
    simp at h
    subst h
    have h1 := List.count_pos_iff.2 hc
    have hm : d ∈ r := List.mem_of_getElem? (by simpa using k)
    have h2 := List.count_pos_iff.2 (List.mem_flatMap.2 ⟨d, hm, hd⟩)
    simp only [List.flatMap_cons, List.count_append]
    omega
  | x :: r, i + 1, 0, c, d, h, k, _, hc, hd => by
    simp at k
    subst k
    have h1 := List.count_pos_iff.2 hd
    have hm : c ∈ r := List.mem_of_getElem? (by simpa using h)
    have h2 := List.count_pos_iff.2 (List.mem_flatMap.2 ⟨c, hm, hc⟩)
    simp only [List.flatMap_cons, List.count_append]
    omega
  | x :: r, i + 1, j + 1, c, d, h, k, hn, hc, hd => by
    have := wcount_two a r i j c d (by simpa using h) (by simpa using k) (by omega) hc hd
    simp only [List.flatMap_cons, List.count_append]
    omega

/-- The lists that wait, in memory. -/
structure WtAt (w : World) (base gw cap : Nat) (ws : List Wq) : Prop where
  row : w.ownsRow base 22 1 (.slice (some ⟨gw, 0, none⟩) ws.length cap) ws.length (ws.map Wq.h)
  each : ∀ c ∈ ws, ORow w base 3 c.h (c.xs.map iv)
  nh : ∀ a, (wblk ws).count a ≤ 1
  lo : base ≤ w.heap.size

theorem orow_bk {w : World} {base e : Nat} {v : Value} {vs : List Value} (h : ORow w base e v vs) {x : Nat} (hx : v.ownBlock = some x) : ∃ cur, QBk w x e cur := by
  rcases h with ⟨rfl, _⟩ | ⟨g, off, cap, cur, rfl, hb, hg, _⟩
  · cases hx
  · cases hx
    exact ⟨cur, hg⟩
theorem orow_tys {w : World} {base e t k : Nat} {v : Value} {vs : List Value} {cs : Array Value} (h : ORow w base e v vs) (A : QBk w k t cs) (he : e ≠ t) : v.ownBlock ≠ some k := fun hx => by
  obtain ⟨cur, B⟩ := orow_bk h hx
  exact QBk.tys B A he rfl
theorem WtAt.bk {w : World} {base gw cap : Nat} {ws : List Wq} (h : WtAt w base gw cap ws) : ∃ cur, QBk w gw 22 cur := by
  rcases h.row.2 with ⟨hv, _⟩ | ⟨g', cap', cur, hv, _, hg', _⟩
  · cases hv
  · simp only [Value.slice.injEq, Option.some.injEq, Addr.mk.injEq] at hv
    obtain ⟨⟨rfl, -⟩, -, -⟩ := hv
    exact ⟨cur, hg'⟩
theorem WtAt.gw {w w' : World} {base gw cap : Nat} {ws : List Wq} {S : Nat → Prop} (h : WtAt w base gw cap ws) (G : GW w w' S) (h1 : ¬ S gw) (h2 : ∀ c ∈ ws, ∀ x, c.h.ownBlock = some x → ¬ S x) : WtAt w' base gw cap ws :=
  ⟨G.row h.row (fun x hx => by cases hx; exact h1), fun c hc => G.orow (h.each c hc) (h2 c hc), h.nh, Nat.le_trans h.lo G.size⟩
theorem WtAt.keptNone {w w' : World} {base gw cap : Nat} {ws : List Wq} (h : WtAt w base gw cap ws) (K : w.grownBy w' none) : WtAt w' base gw cap ws := h.gw (GW.non (S := fun _ => False) K) (fun h => h) (fun _ _ _ _ h => h)

/-- A queue's blocks are of other kinds. -/
theorem LqAt.tys {w : World} {base k t : Nat} {q : Lq} {cs : Array Value} (h : LqAt w base q) (A : QBk w k t cs) (ht : t = 3 ∨ t = 22) : ¬ q.foot k := by
  have hne : t ≠ 35 ∧ t ≠ 5 ∧ t ≠ 59 ∧ t ≠ 64 := by
    rcases ht with rfl | rfl <;> decide
  obtain ⟨n1, n2⟩ := h.hl.tys A hne.1 hne.2.1
  rintro (e | e | e | e)
  · exact QBk.tys A h.blk hne.2.2.1 e
  · exact QBk.tys A h.cls hne.2.2.2 e
  · exact n1 e
  · exact n2 e
theorem WtAt.apart {w w' : World} {base base' gw cap : Nat} {ws : List Wq} {q : Lq} (h : WtAt w base gw cap ws) (L : LqAt w base' q) (G : GW w w' q.foot) : WtAt w' base gw cap ws := by
  obtain ⟨cur, B⟩ := h.bk
  refine h.gw G (L.tys B (.inr rfl)) (fun c hc x hx => ?_)
  obtain ⟨cur, B⟩ := orow_bk (h.each c hc) hx
  exact L.tys B (.inl rfl)

/-- One class's list is another one: the world behind the store. -/
theorem WtAt.set {w w' : World} {base gw cap i : Nat} {ws : List Wq} {c : Wq} {v' : Value} {xs' : List Int} (h : WtAt w base gw cap ws) (hi : ws[i]? = some c) (K : w.grownBy w' c.h.ownBlock) (R : ORow w' base 3 v' (xs'.map iv)) (hv : v'.ownBlock = c.h.ownBlock ∨ ∀ y, v'.ownBlock = some y → w.heap.size ≤ y) :
    WtAt (w'.setCell ⟨gw, i, none⟩ v') base gw cap (ws.set i ⟨v', xs'⟩) ∧ (∃ u, w'.cell? ⟨gw, i, none⟩ = some u) ∧ w'.frozen? ⟨gw, i, none⟩ = false := by
  have hcm := List.mem_of_getElem? hi
  obtain ⟨hil, -⟩ := List.getElem?_eq_some_iff.1 hi
  obtain ⟨cur, B⟩ := h.bk
  have hcg : c.h.ownBlock ≠ some gw := orow_tys (h.each c hcm) B (by decide)
  have R1 : w'.ownsRow base 22 1 (.slice (some ⟨gw, 0, none⟩) ws.length cap) ws.length (ws.map Wq.h) := World.ownsRow.kept h.row K (.inr (by simpa [Value.ownBlock] using Ne.symm hcg))
  have B' : ∃ cur, QBk w' gw 22 cur := by
    rcases R1.2 with ⟨hv, _⟩ | ⟨g', cap', cur, hv, _, hg', _⟩
    · cases hv
    · simp only [Value.slice.injEq, Option.some.injEq, Addr.mk.injEq] at hv
      obtain ⟨⟨rfl, -⟩, -, -⟩ := hv
      exact ⟨cur, hg'⟩
  obtain ⟨cur', B'⟩ := B'
  have G2 : w'.grownBy (w'.setCell ⟨gw, i, none⟩ v') (some gw) := grown_set1 w' ⟨gw, i, none⟩ v'
  have each : ∀ d ∈ ws.set i ⟨v', xs'⟩, d = ⟨v', xs'⟩ ∨ ∃ j, j ≠ i ∧ ws[j]? = some d := fun d hd => by
    obtain ⟨j, hj, e⟩ := List.mem_iff_getElem.1 hd
    rw [List.getElem_set] at e
    split at e
    · exact .inl e.symm
    · rename_i hne
      refine .inr ⟨j, fun e => hne e.symm, ?_⟩
      rw [List.length_set] at hj
      rw [List.getElem?_eq_getElem hj, e]
  refine ⟨⟨?_, fun d hd => ?_, fun a => ?_, Nat.le_trans h.lo (Nat.le_trans K.size G2.size)⟩, ?_, R1.frozenAt i⟩
  · have := (R1.stored i v').1
    rw [List.length_set, List.map_set]
    exact this
  · rcases each d hd with rfl | ⟨j, hj, hd⟩
    · exact R.kept G2 (fun k hk e => by
        have e := Option.some.inj e
        subst e
        exact orow_tys R B' (by decide) hk)
    · have Rd := h.each d (List.mem_of_getElem? hd)
      have Rd' : ORow w' base 3 d.h (d.xs.map iv) := Rd.kept K (fun k hk e => by
        have := wcount_two k ws j i d c hd hi hj (mem_wg.2 hk) (mem_wg.2 e)
        have := h.nh k
        unfold wblk at this
        omega)
      exact Rd'.kept G2 (fun k hk e => by
        have e := Option.some.inj e
        subst e
        exact orow_tys Rd' B' (by decide) hk)
  · have e1 := wcount_set a ⟨v', xs'⟩ ws i c hi
    have e2 := h.nh a
    unfold wblk at *
    cases hvv : v'.ownBlock with
    | none =>
      have : (wg ⟨v', xs'⟩).count a = 0 := by simp [wg, hvv]
      omega
    | some y =>
      have e3 : (wg ⟨v', xs'⟩).count a ≤ 1 := by
        simp only [wg, hvv, Option.toList_some]
        have := List.count_le_length (a := a) (l := [y])
        simpa using this
      by_cases hay : a = y
      · subst hay
        rcases hv with h9 | h9
        · have : (wg c).count a = 1 := by
            have : c.h.ownBlock = some a := by rw [← h9, hvv]
            simp [wg, this]
          omega
        · have hya := h9 a hvv
          have : (ws.flatMap wg).count a = 0 := List.count_eq_zero.2 (fun hm => by
            obtain ⟨d, hd, hx⟩ := List.mem_flatMap.1 hm
            have := ((h.each d hd).lt a (mem_wg.1 hx)).2
            omega)
          omega
      · have : (wg ⟨v', xs'⟩).count a = 0 := List.count_eq_zero.2 (fun hm => hay (by rw [mem_wg, hvv] at hm; exact (Option.some.inj hm).symm))
        omega
  · exact ⟨_, (R1.cellAt i (by omega)).trans (List.getElem?_eq_getElem (by simpa using hil))⟩

/-- A frame that says its number. -/
def bq (z : Int) : List UInt8 := [UInt8.ofNat z.toNat]

theorem take_inv : ∀ (cs : List Qc) (n : Nat) (b : List UInt8) (ds : List Qc), takeP cs = some (n, b, ds) → ∃ c t, cs[n]? = some c ∧ c.fr = b :: t ∧ (∀ j, j < n → ∀ x, cs[j]? = some x → x.fr = []) ∧ ds = cs.set n ⟨c.dep, c.lost, t⟩
  | [], n, b, ds, h => by simp [takeP] at h
  | x :: r, n, b, ds, h => by
    cases hx : x.fr with
    | cons c t =>
      simp only [takeP, hx, Option.some.injEq, Prod.mk.injEq] at h
      obtain ⟨rfl, rfl, rfl⟩ := h
      exact ⟨x, t, rfl, hx, fun j hj => by omega, rfl⟩
    | nil =>
      cases e : takeP r with
      | none => simp [takeP, hx, e] at h
      | some p =>
        obtain ⟨m, c, es⟩ := p
        simp only [takeP, hx, e, Option.some.injEq, Prod.mk.injEq] at h
        obtain ⟨rfl, rfl, rfl⟩ := h
        obtain ⟨d, t, h1, h2, h3, h4⟩ := take_inv r m c es e
        refine ⟨d, t, by simpa using h1, h2, fun j hj y hy => ?_, by rw [h4]; rfl⟩
        cases j with
        | zero =>
          simp at hy
          subst hy
          exact hx
        | succ j => exact h3 j (by omega) y (by simpa using hy)

/-- The queue and the numbers. -/
structure Ord (W wr : World) (g gw cap : Nat) (q : Lq) (cs : List Qc) (ws : List Wq) : Prop where
  aw : AwQ W wr g q cs
  wt : WtAt wr W.heap.size gw cap ws
  rel : cs.map Qc.fr = ws.map fun c => c.xs.map bq
  small : ∀ c ∈ ws, ∀ z ∈ c.xs, 0 ≤ z ∧ z < 250

theorem Ord.len {W wr : World} {g gw cap : Nat} {q : Lq} {cs : List Qc} {ws : List Wq} (h : Ord W wr g gw cap q cs ws) : cs.length = ws.length ∧ ws.length ≤ 17 := by
  have h1 := congrArg List.length h.rel
  rw [List.length_map, List.length_map] at h1
  have h2 := h.aw.at'.few
  have h3 : cs.length = q.cs.length := by rw [← h.aw.abs]; simp [Lq.abs]
  omega
theorem Ord.get {W wr : World} {g gw cap : Nat} {q : Lq} {cs : List Qc} {ws : List Wq} (h : Ord W wr g gw cap q cs ws) {i : Nat} {c : Qc} {x : Wq} (hc : cs[i]? = some c) (hx : ws[i]? = some x) : c.fr = x.xs.map bq := by
  have := congrArg (fun l => l[i]?) h.rel
  simp only [List.getElem?_map, hc, hx, Option.map_some, Option.some.injEq] at this
  exact this
theorem Ord.kept {W wr w2 : World} {g gw cap : Nat} {q : Lq} {cs : List Qc} {ws : List Wq} (h : Ord W wr g gw cap q cs ws) (K : wr.grownBy w2 none) : Ord W w2 g gw cap q cs ws := ⟨h.aw.kept K, h.wt.keptNone K, h.rel, h.small⟩

/-- Behind a take: the number at the head of its class's list away too. -/
theorem Ord.first {W wr w2 : World} {g gw cap n : Nat} {q q' : Lq} {cs ds : List Qc} {ws : List Wq} {b : List UInt8} (h : Ord W wr g gw cap q cs ws) (t0 : takeP cs = some (n, b, ds)) (L : LqAt w2 W.heap.size q') (hg : q'.g = q.g) (ha : q'.abs = ds) (G : GW wr w2 q.foot) :
    ∃ x z t, ws[n]? = some x ∧ x.xs = z :: t ∧ b = bq z ∧ 0 ≤ z ∧ z < 250 ∧ (∀ j, j < n → ∀ y, ws[j]? = some y → y.xs = []) ∧ WtAt w2 W.heap.size gw cap ws ∧
      ∀ v', ORow w2 W.heap.size 3 v' (t.map iv) → v'.ownBlock = x.h.ownBlock → Ord W (w2.setCell ⟨gw, n, none⟩ v') g gw cap q' ds (ws.set n ⟨v', t⟩) ∧ (∃ u, w2.cell? ⟨gw, n, none⟩ = some u) ∧ w2.frozen? ⟨gw, n, none⟩ = false := by
  obtain ⟨c, t, h1, h2, h3, h4⟩ := take_inv cs n b ds t0
  have hlen := h.len
  have hn : n < ws.length := by
    have := (List.getElem?_eq_some_iff.1 h1).1
    omega
  have hx : ws[n]? = some ws[n] := List.getElem?_eq_getElem hn
  have hf := h.get h1 hx
  rw [h2] at hf
  cases hxs : ws[n].xs with
  | nil => rw [hxs] at hf; cases hf
  | cons z tt =>
    rw [hxs] at hf
    simp only [List.map_cons, List.cons.injEq] at hf
    obtain ⟨rfl, rfl⟩ := hf
    have hz := h.small _ (List.getElem_mem hn) z (by rw [hxs]; exact List.mem_cons_self ..)
    have W2 := h.wt.apart h.aw.at' G
    refine ⟨ws[n], z, tt, hx, hxs, rfl, hz.1, hz.2, fun j hj y hy => ?_, W2, fun v' R hv => ?_⟩
    · have hjl : j < cs.length := by omega
      have := h.get (List.getElem?_eq_getElem hjl) hy
      rw [h3 j hj _ (List.getElem?_eq_getElem hjl)] at this
      exact List.map_eq_nil_iff.1 this.symm
    · obtain ⟨S1, S2, S3⟩ := W2.set hx (grown_mono (World.grownBy.refl _ _)) R (.inl hv)
      refine ⟨⟨?_, S1, ?_, ?_⟩, S2, S3⟩
      · have A2 := h.aw.step L hg ha G
        obtain ⟨cur, B⟩ := W2.bk
        have G2 : GW w2 (w2.setCell ⟨gw, n, none⟩ v') (fun x => x = gw) := GW.of (grown_set1 w2 ⟨gw, n, none⟩ v') (fun x hx => (Option.some.inj hx).symm)
        refine ⟨A2.at'.gw G2 (fun x hx e => A2.at'.tys B (.inr rfl) (e ▸ hx)), A2.g, A2.abs, ((GW.non (S := fun x => x = gw) A2.gr).trans G2 (fun x _ h => h)).grown (fun x hl e => ?_)⟩
        have := (W2.row.lt gw rfl).1
        omega
      · rw [h4, List.map_set, List.map_set, h.rel]
      · intro d hd y hy
        rcases List.mem_or_eq_of_mem_set hd with hd | rfl
        · exact h.small d hd y hy
        · exact h.small _ (List.getElem_mem hn) y (by rw [hxs]; exact List.mem_cons_of_mem _ hy)

end Go.Proofs.Ytlfjpbedjmnpaaa
