/-
  The landed queue and the document's own, in memory.
-/
import Derived.Test.YtlfjpbedjmnpaaaQuH
namespace Go.Proofs.Ytlfjpbedjmnpaaa
open Go.RowKit
set_option maxRecDepth 100000

theorem set_same {α : Type} : ∀ (l : List α) (i : Nat) (x : α), l[i]? = some x → l.set i x = l
  | [], i, x, h => by simp at h
  | y :: r, 0, x, h => by simp at h; simp [h]
  | y :: r, i + 1, x, h => by
    have := set_same r i x (by simpa using h)
    simp [this]

/-- The cells of the landed classes. -/
def Cq.cells (c : Cq) : List Value := [.int .u32 (c.lost : Int), .int .i64 (c.dep : Int), c.h]
def qcells (cs : List Cq) : List Value := cs.flatMap Cq.cells

theorem qcells_len (cs : List Cq) : (qcells cs).length = cs.length * 3 := by
  induction cs with
  | nil => rfl
  | cons x r ih =>
    simp only [qcells, List.flatMap_cons, List.length_append, List.length_cons] at ih ⊢
    rw [ih]
    simp [Cq.cells]
    omega
theorem qcells_get : ∀ (cs : List Cq) (k j : Nat) (c : Cq), cs[k]? = some c → j < 3 → (qcells cs)[k * 3 + j]? = c.cells[j]?
  | [], k, j, c, h, _ => by simp at h
  | x :: r, 0, j, c, h, hj => by
    simp at h
    subst h
    simp only [qcells, List.flatMap_cons, Nat.zero_mul, Nat.zero_add]
    exact List.getElem?_append_left (by simp [Cq.cells]; omega)
  | x :: r, k + 1, j, c, h, hj => by
    have := qcells_get r k j c (by simpa using h) hj
    simp only [qcells, List.flatMap_cons] at this ⊢
    rw [List.getElem?_append_right (by simp [Cq.cells]; omega)]
    rw [← this]
    congr 1
    simp [Cq.cells]
    omega
theorem qcells_set (j : Nat) (hj : j < 3) (u : Value) (c' : Cq) : ∀ (cs : List Cq) (k : Nat) (c : Cq), cs[k]? = some c → c.cells.set j u = c'.cells → (qcells cs).set (k * 3 + j) u = qcells (cs.set k c')
  | [], k, c, h, _ => by simp at h
  | x :: r, 0, c, h, hc => by
    simp at h
    subst h
    simp only [qcells, List.flatMap_cons, Nat.zero_mul, Nat.zero_add, List.set_cons_zero]
    rw [List.set_append_left (h := by simp [Cq.cells]; omega), hc]
  | x :: r, k + 1, c, h, hc => by
    have := qcells_set j hj u c' r k c (by simpa using h) hc
    simp only [qcells, List.flatMap_cons, List.set_cons_succ] at this ⊢
    rw [← this, List.set_append_right (h := by simp [Cq.cells]; omega)]
    congr 2
    simp [Cq.cells]
    omega

/-- The landed queue: its block, its classes' block, its classes. -/
structure Lq where
  g : Nat
  gc : Nat
  cs : List Cq
def Lq.foot (q : Lq) (x : Nat) : Prop := x = q.g ∨ x = q.gc ∨ x ∈ hblk q.cs ∨ x ∈ fblk q.cs
def Lq.sv (q : Lq) : Value := .slice (some ⟨q.gc, 0, none⟩) q.cs.length q.cs.length
def Lq.with (q : Lq) (i : Nat) (c : Cq) : Lq := ⟨q.g, q.gc, q.cs.set i c⟩

structure LqAt (w : World) (base : Nat) (q : Lq) : Prop where
  blk : QBk w q.g 59 #[q.sv]
  cls : QBk w q.gc 64 (qcells q.cs).toArray
  hl : HL w base q.cs
  lo : base ≤ q.g ∧ base ≤ q.gc ∧ base ≤ w.heap.size
  few : q.cs.length ≤ 17
  dep : ∀ c ∈ q.cs, c.dep ≤ 1024 ∧ c.fs.length ≤ 1024 ∧ c.lost ≤ 4294967295

/-- What a call leaves of a footprint. -/
def Foots (w : World) (F F' : Nat → Prop) : Prop := ∀ x, F' x → F x ∨ w.heap.size ≤ x
theorem Foots.refl (w : World) (F : Nat → Prop) : Foots w F F := fun _ h => .inl h
theorem Foots.trans {w w1 : World} {F F' F'' : Nat → Prop} (h : Foots w F F') (k : Foots w1 F' F'') (hs : w.heap.size ≤ w1.heap.size) : Foots w F F'' := fun x hx => by
  rcases k x hx with h1 | h1
  · exact h x h1
  · exact .inr (Nat.le_trans hs h1)

theorem LqAt.lt {w : World} {base : Nat} {q : Lq} (h : LqAt w base q) : ∀ x, q.foot x → base ≤ x ∧ x < w.heap.size := by
  intro x hx
  rcases hx with rfl | rfl | hx | hx
  · exact ⟨h.lo.1, h.blk.lt⟩
  · exact ⟨h.lo.2.1, h.cls.lt⟩
  · exact h.hl.lt.1 x hx
  · exact h.hl.lt.2 x hx

theorem LqAt.gw {w w' : World} {base : Nat} {q : Lq} {S : Nat → Prop} (h : LqAt w base q) (G : GW w w' S) (hs : ∀ x, q.foot x → ¬ S x) : LqAt w' base q :=
  ⟨G.qbk h.blk (hs _ (.inl rfl)), G.qbk h.cls (hs _ (.inr (.inl rfl))), h.hl.gw G (fun x hx => hs x (.inr (.inr (.inl hx)))) (fun x hx => hs x (.inr (.inr (.inr hx)))), ⟨h.lo.1, h.lo.2.1, Nat.le_trans h.lo.2.2 G.size⟩, h.few, h.dep⟩
theorem LqAt.keptNone {w w' : World} {base : Nat} {q : Lq} (h : LqAt w base q) (G : w.grownBy w' none) : LqAt w' base q := h.gw (GW.non (S := fun _ => False) G) (fun _ _ h => h)

theorem LqAt.cell0 {w : World} {base : Nat} {q : Lq} (h : LqAt w base q) : w.cell? ⟨q.g, 0, none⟩ = some q.sv := h.blk.cell 0
theorem LqAt.lostc {w : World} {base : Nat} {q : Lq} (h : LqAt w base q) {k : Nat} {c : Cq} (hk : q.cs[k]? = some c) : w.cell? ⟨q.gc, k * 3, none⟩ = some (.int .u32 (c.lost : Int)) := by
  have := h.cls.cell (k * 3 + 0)
  rw [List.getElem?_toArray, qcells_get _ _ _ _ hk (by omega)] at this
  exact this
theorem LqAt.depc {w : World} {base : Nat} {q : Lq} (h : LqAt w base q) {k : Nat} {c : Cq} (hk : q.cs[k]? = some c) : w.cell? ⟨q.gc, k * 3 + 1, none⟩ = some (.int .i64 (c.dep : Int)) := by
  have := h.cls.cell (k * 3 + 1)
  rw [List.getElem?_toArray, qcells_get _ _ _ _ hk (by omega)] at this
  exact this
theorem LqAt.heldc {w : World} {base : Nat} {q : Lq} (h : LqAt w base q) {k : Nat} {c : Cq} (hk : q.cs[k]? = some c) : w.cell? ⟨q.gc, k * 3 + 2, none⟩ = some c.h := by
  have := h.cls.cell (k * 3 + 2)
  rw [List.getElem?_toArray, qcells_get _ _ _ _ hk (by omega)] at this
  exact this
theorem LqAt.free {w : World} {base : Nat} {q : Lq} (h : LqAt w base q) (i : Nat) : w.frozen? ⟨q.gc, i, none⟩ = false := h.cls.free i

/-- The held row of one class is another one: the world behind the store. -/
theorem LqAt.held {w w' : World} {base : Nat} {q : Lq} {k : Nat} {c : Cq} {v' : Value} {fs' : List Fr} (h : LqAt w base q) (hk : q.cs[k]? = some c) (G : GW w w' (fun x => c.h.ownBlock = some x)) (H : HL w' base (q.cs.set k ⟨c.dep, c.lost, v', fs'⟩)) (hl : fs'.length ≤ 1024) :
    LqAt (w'.setCell ⟨q.gc, k * 3 + 2, none⟩ v') base (q.with k ⟨c.dep, c.lost, v', fs'⟩) := by
  have hcm := List.mem_of_getElem? hk
  have n1 := (h.hl.tys h.cls (by decide) (by decide)).1
  have n2 := (h.hl.tys h.blk (by decide) (by decide)).1
  have B := G.qbk h.blk (fun e => n2 (mem_hblk hcm e))
  have C := G.qbk h.cls (fun e => n1 (mem_hblk hcm e))
  have hne : q.gc ≠ q.g := QBk.tys h.cls h.blk (by decide)
  have G2 : w'.grownBy (w'.setCell ⟨q.gc, k * 3 + 2, none⟩ v') (some q.gc) := grown_setCell (World.grownBy.refl _ _) _ _ (.inl rfl)
  have C2 := C.set (k * 3 + 2) v'
  rw [List.setIfInBounds_toArray, qcells_set 2 (by omega) v' ⟨c.dep, c.lost, v', fs'⟩ q.cs k c hk rfl] at C2
  refine ⟨?_, C2, H.other C (by decide) (by decide) G2, ⟨h.lo.1, h.lo.2.1, ?_⟩, by simpa [Lq.with] using h.few, fun d hd => ?_⟩
  · have := B.kept G2 (by simpa using hne)
    unfold Lq.with Lq.sv at *
    simpa using this
  · exact Nat.le_trans h.lo.2.2 (Nat.le_trans G.size G2.size)
  · rcases List.mem_or_eq_of_mem_set hd with hd | rfl
    · exact h.dep d hd
    · have := h.dep c hcm
      exact ⟨this.1, hl, this.2.2⟩

theorem LqAt.drop {w : World} {base : Nat} {q : Lq} {k : Nat} {c : Cq} (h : LqAt w base q) (hk : q.cs[k]? = some c) (n : Nat) (hn : n ≤ 4294967295) : LqAt (w.setCell ⟨q.gc, k * 3, none⟩ (.int .u32 (n : Int))) base (q.with k ⟨c.dep, n, c.h, c.fs⟩) := by
  have hcm := List.mem_of_getElem? hk
  have hne : q.gc ≠ q.g := QBk.tys h.cls h.blk (by decide)
  have G2 : w.grownBy (w.setCell ⟨q.gc, k * 3, none⟩ (.int .u32 (n : Int))) (some q.gc) := grown_setCell (World.grownBy.refl _ _) _ _ (.inl rfl)
  have C2 := h.cls.set (k * 3 + 0) (.int .u32 (n : Int))
  rw [List.setIfInBounds_toArray, qcells_set 0 (by omega) _ ⟨c.dep, n, c.h, c.fs⟩ q.cs k c hk rfl] at C2
  refine ⟨?_, C2, (h.hl.lost hk n).other h.cls (by decide) (by decide) G2, ⟨h.lo.1, h.lo.2.1, Nat.le_trans h.lo.2.2 G2.size⟩, by simpa [Lq.with] using h.few, fun d hd => ?_⟩
  · have := h.blk.kept G2 (by simpa using hne)
    unfold Lq.with Lq.sv at *
    simpa using this
  · rcases List.mem_or_eq_of_mem_set hd with hd | rfl
    · exact h.dep d hd
    · have := h.dep c hcm
      exact ⟨this.1, this.2.1, hn⟩

theorem lq_foots {w : World} {q : Lq} {k : Nat} {c c' : Cq} (hk : q.cs[k]? = some c) (hh : ∀ y, c'.h.ownBlock = some y → c.h.ownBlock = some y ∨ w.heap.size ≤ y) (hf : ∀ f ∈ c'.fs, f ∈ c.fs ∨ ∀ y, f.v.ownBlock = some y → w.heap.size ≤ y) : Foots w q.foot (q.with k c').foot := by
  have hcm := List.mem_of_getElem? hk
  intro x hx
  rcases hx with hx | hx | hx | hx
  · exact .inl (.inl hx)
  · exact .inl (.inr (.inl hx))
  · rcases hblk_set hk hx with h | h
    · exact .inl (.inr (.inr (.inl h)))
    · rcases hh x h with h | h
      · exact .inl (.inr (.inr (.inl (mem_hblk hcm h))))
      · exact .inr h
  · rcases fblk_set hk hx with h | h
    · exact .inl (.inr (.inr (.inr h)))
    · obtain ⟨f, hm, hx⟩ := List.mem_flatMap.1 h
      rcases hf f hm with h | h
      · exact .inl (.inr (.inr (.inr (mem_fblk hcm h (mem_gf1.1 hx)))))
      · exact .inr (h x (mem_gf1.1 hx))

/-- The document's own queue. -/
structure Rq where
  g : Nat
  gd : Nat
  cd : Nat
  gf : Nat
  gl : Nat
  cs : List Cq
def Rq.foot (q : Rq) (x : Nat) : Prop := x = q.g ∨ x = q.gd ∨ x = q.gf ∨ x = q.gl ∨ x ∈ hblk q.cs ∨ x ∈ fblk q.cs
def Rq.dv (q : Rq) : Value := .slice (some ⟨q.gd, 0, none⟩) q.cs.length q.cd
def Rq.fv (q : Rq) : Value := .slice (some ⟨q.gf, 0, none⟩) q.cs.length q.cs.length
def Rq.lv (q : Rq) : Value := .slice (some ⟨q.gl, 0, none⟩) q.cs.length q.cs.length
def Rq.with (q : Rq) (i : Nat) (c : Cq) : Rq := ⟨q.g, q.gd, q.cd, q.gf, q.gl, q.cs.set i c⟩
def dcells (cs : List Cq) : List Value := cs.map fun c => .int .i64 (c.dep : Int)
def lcells (cs : List Cq) : List Value := cs.map fun c => .int .u32 (c.lost : Int)

structure RqAt (w : World) (base : Nat) (q : Rq) : Prop where
  blk : QBk w q.g 56 #[q.dv, q.fv, q.lv]
  dps : ∃ cur, QBk w q.gd 3 cur ∧ ∀ i, i < q.cs.length → cur[i]? = (dcells q.cs)[i]?
  frs : QBk w q.gf 45 (q.cs.map Cq.h).toArray
  lst : QBk w q.gl 60 (lcells q.cs).toArray
  hl : HL w base q.cs
  lo : base ≤ q.g ∧ base ≤ q.gd ∧ base ≤ q.gf ∧ base ≤ q.gl ∧ base ≤ w.heap.size
  few : q.cs.length ≤ 17 ∧ q.cs.length ≤ q.cd
  dep : ∀ c ∈ q.cs, c.dep ≤ 1024 ∧ c.fs.length ≤ 1024 ∧ c.lost ≤ 4294967295

theorem RqAt.lt {w : World} {base : Nat} {q : Rq} (h : RqAt w base q) : ∀ x, q.foot x → base ≤ x ∧ x < w.heap.size := by
  intro x hx
  obtain ⟨cur, hd, _⟩ := h.dps
  rcases hx with rfl | rfl | rfl | rfl | hx | hx
  · exact ⟨h.lo.1, h.blk.lt⟩
  · exact ⟨h.lo.2.1, hd.lt⟩
  · exact ⟨h.lo.2.2.1, h.frs.lt⟩
  · exact ⟨h.lo.2.2.2.1, h.lst.lt⟩
  · exact h.hl.lt.1 x hx
  · exact h.hl.lt.2 x hx
theorem RqAt.gw {w w' : World} {base : Nat} {q : Rq} {S : Nat → Prop} (h : RqAt w base q) (G : GW w w' S) (hs : ∀ x, q.foot x → ¬ S x) : RqAt w' base q := by
  obtain ⟨cur, hd, hd2⟩ := h.dps
  exact ⟨G.qbk h.blk (hs _ (.inl rfl)), ⟨cur, G.qbk hd (hs _ (.inr (.inl rfl))), hd2⟩, G.qbk h.frs (hs _ (.inr (.inr (.inl rfl)))), G.qbk h.lst (hs _ (.inr (.inr (.inr (.inl rfl))))), h.hl.gw G (fun x hx => hs x (.inr (.inr (.inr (.inr (.inl hx)))))) (fun x hx => hs x (.inr (.inr (.inr (.inr (.inr hx)))))), ⟨h.lo.1, h.lo.2.1, h.lo.2.2.1, h.lo.2.2.2.1, Nat.le_trans h.lo.2.2.2.2 G.size⟩, h.few, h.dep⟩
theorem RqAt.keptNone {w w' : World} {base : Nat} {q : Rq} (h : RqAt w base q) (G : w.grownBy w' none) : RqAt w' base q := h.gw (GW.non (S := fun _ => False) G) (fun _ _ h => h)

theorem RqAt.cells3 {w : World} {base : Nat} {q : Rq} (h : RqAt w base q) : w.cell? ⟨q.g, 0, none⟩ = some q.dv ∧ w.cell? ⟨q.g, 1, none⟩ = some q.fv ∧ w.cell? ⟨q.g, 2, none⟩ = some q.lv := ⟨h.blk.cell 0, h.blk.cell 1, h.blk.cell 2⟩
theorem RqAt.depc {w : World} {base : Nat} {q : Rq} (h : RqAt w base q) {k : Nat} {c : Cq} (hk : q.cs[k]? = some c) : w.cell? ⟨q.gd, k, none⟩ = some (.int .i64 (c.dep : Int)) := by
  obtain ⟨cur, hd, hd2⟩ := h.dps
  rw [hd.cell, hd2 k (List.getElem?_eq_some_iff.1 hk).1]
  simp [dcells, hk]
theorem RqAt.heldc {w : World} {base : Nat} {q : Rq} (h : RqAt w base q) {k : Nat} {c : Cq} (hk : q.cs[k]? = some c) : w.cell? ⟨q.gf, k, none⟩ = some c.h := by
  rw [h.frs.cell]
  simp [hk]
theorem RqAt.lostc {w : World} {base : Nat} {q : Rq} (h : RqAt w base q) {k : Nat} {c : Cq} (hk : q.cs[k]? = some c) : w.cell? ⟨q.gl, k, none⟩ = some (.int .u32 (c.lost : Int)) := by
  rw [h.lst.cell]
  simp [lcells, hk]

theorem RqAt.ne {w : World} {base : Nat} {q : Rq} (h : RqAt w base q) : q.g ≠ q.gd ∧ q.g ≠ q.gf ∧ q.g ≠ q.gl ∧ q.gd ≠ q.gf ∧ q.gd ≠ q.gl ∧ q.gf ≠ q.gl := by
  obtain ⟨cur, hd, _⟩ := h.dps
  exact ⟨QBk.tys h.blk hd (by decide), QBk.tys h.blk h.frs (by decide), QBk.tys h.blk h.lst (by decide), QBk.tys hd h.frs (by decide), QBk.tys hd h.lst (by decide), QBk.tys h.frs h.lst (by decide)⟩

theorem RqAt.held {w w' : World} {base : Nat} {q : Rq} {k : Nat} {c : Cq} {v' : Value} {fs' : List Fr} (h : RqAt w base q) (hk : q.cs[k]? = some c) (G : GW w w' (fun x => c.h.ownBlock = some x)) (H : HL w' base (q.cs.set k ⟨c.dep, c.lost, v', fs'⟩)) (hl : fs'.length ≤ 1024) :
    RqAt (w'.setCell ⟨q.gf, k, none⟩ v') base (q.with k ⟨c.dep, c.lost, v', fs'⟩) := by
  have hcm := List.mem_of_getElem? hk
  obtain ⟨cur, hd, hd2⟩ := h.dps
  have n1 := (h.hl.tys h.blk (by decide) (by decide)).1
  have n2 := (h.hl.tys hd (by decide) (by decide)).1
  have n3 := (h.hl.tys h.frs (by decide) (by decide)).1
  have n4 := (h.hl.tys h.lst (by decide) (by decide)).1
  have B := G.qbk h.blk (fun e => n1 (mem_hblk hcm e))
  have D := G.qbk hd (fun e => n2 (mem_hblk hcm e))
  have C := G.qbk h.frs (fun e => n3 (mem_hblk hcm e))
  have L := G.qbk h.lst (fun e => n4 (mem_hblk hcm e))
  obtain ⟨e1, e2, e3, e4, e5, e6⟩ := h.ne
  have G2 : w'.grownBy (w'.setCell ⟨q.gf, k, none⟩ v') (some q.gf) := grown_setCell (World.grownBy.refl _ _) _ _ (.inl rfl)
  have C2 := C.set k v'
  rw [List.setIfInBounds_toArray, ← List.map_set (f := Cq.h) (a := ⟨c.dep, c.lost, v', fs'⟩)] at C2
  have eD : dcells (q.cs.set k ⟨c.dep, c.lost, v', fs'⟩) = dcells q.cs := by
    unfold dcells
    rw [List.map_set]
    exact set_same _ _ _ (by simp [hk])
  have eL : lcells (q.cs.set k ⟨c.dep, c.lost, v', fs'⟩) = lcells q.cs := by
    unfold lcells
    rw [List.map_set]
    exact set_same _ _ _ (by simp [hk])
  refine ⟨?_, ⟨cur, ?_, fun i hi => ?_⟩, C2, ?_, H.other C (by decide) (by decide) G2, ⟨h.lo.1, h.lo.2.1, h.lo.2.2.1, h.lo.2.2.2.1, ?_⟩, by simpa [Rq.with] using h.few, fun d hd => ?_⟩
  · have := B.kept G2 (by simpa using Ne.symm e2)
    unfold Rq.with Rq.dv Rq.fv Rq.lv at *
    simpa using this
  · exact D.kept G2 (by simpa using Ne.symm e4)
  · unfold Rq.with
    rw [eD]
    exact hd2 i (by simpa [Rq.with] using hi)
  · unfold Rq.with
    rw [eL]
    exact L.kept G2 (by simpa using e6)
  · exact Nat.le_trans h.lo.2.2.2.2 (Nat.le_trans G.size G2.size)
  · rcases List.mem_or_eq_of_mem_set hd with hd | rfl
    · exact h.dep d hd
    · have := h.dep c hcm
      exact ⟨this.1, hl, this.2.2⟩

theorem RqAt.drop {w : World} {base : Nat} {q : Rq} {k : Nat} {c : Cq} (h : RqAt w base q) (hk : q.cs[k]? = some c) (n : Nat) (hn : n ≤ 4294967295) : RqAt (w.setCell ⟨q.gl, k, none⟩ (.int .u32 (n : Int))) base (q.with k ⟨c.dep, n, c.h, c.fs⟩) := by
  have hcm := List.mem_of_getElem? hk
  obtain ⟨cur, hd, hd2⟩ := h.dps
  obtain ⟨e1, e2, e3, e4, e5, e6⟩ := h.ne
  have G2 : w.grownBy (w.setCell ⟨q.gl, k, none⟩ (.int .u32 (n : Int))) (some q.gl) := grown_setCell (World.grownBy.refl _ _) _ _ (.inl rfl)
  have C2 := h.lst.set k (.int .u32 (n : Int))
  have eL : (lcells q.cs).set k (.int .u32 (n : Int)) = lcells (q.cs.set k ⟨c.dep, n, c.h, c.fs⟩) := by
    unfold lcells
    rw [List.map_set]
  rw [List.setIfInBounds_toArray, eL] at C2
  have eD : dcells (q.cs.set k ⟨c.dep, n, c.h, c.fs⟩) = dcells q.cs := by
    unfold dcells
    rw [List.map_set]
    exact set_same _ _ _ (by simp [hk])
  have eH : (q.cs.set k ⟨c.dep, n, c.h, c.fs⟩).map Cq.h = q.cs.map Cq.h := by
    rw [List.map_set]
    exact set_same _ _ _ (by simp [hk])
  refine ⟨?_, ⟨cur, hd.kept G2 (by simpa using Ne.symm e5), fun i hi => ?_⟩, ?_, C2, (h.hl.lost hk n).other h.lst (by decide) (by decide) G2, ⟨h.lo.1, h.lo.2.1, h.lo.2.2.1, h.lo.2.2.2.1, Nat.le_trans h.lo.2.2.2.2 G2.size⟩, by simpa [Rq.with] using h.few, fun d hd => ?_⟩
  · have := h.blk.kept G2 (by simpa using Ne.symm e3)
    unfold Rq.with Rq.dv Rq.fv Rq.lv at *
    simpa using this
  · unfold Rq.with
    rw [eD]
    exact hd2 i (by simpa [Rq.with] using hi)
  · unfold Rq.with
    rw [eH]
    exact h.frs.kept G2 (by simpa using Ne.symm e6)
  · rcases List.mem_or_eq_of_mem_set hd with hd | rfl
    · exact h.dep d hd
    · have := h.dep c hcm
      exact ⟨this.1, this.2.1, hn⟩

theorem rq_foots {w : World} {q : Rq} {k : Nat} {c c' : Cq} (hk : q.cs[k]? = some c) (hh : ∀ y, c'.h.ownBlock = some y → c.h.ownBlock = some y ∨ w.heap.size ≤ y) (hf : ∀ f ∈ c'.fs, f ∈ c.fs ∨ ∀ y, f.v.ownBlock = some y → w.heap.size ≤ y) : Foots w q.foot (q.with k c').foot := by
  have hcm := List.mem_of_getElem? hk
  intro x hx
  rcases hx with hx | hx | hx | hx | hx | hx
  · exact .inl (.inl hx)
  · exact .inl (.inr (.inl hx))
  · exact .inl (.inr (.inr (.inl hx)))
  · exact .inl (.inr (.inr (.inr (.inl hx))))
  · rcases hblk_set hk hx with h | h
    · exact .inl (.inr (.inr (.inr (.inr (.inl h)))))
    · rcases hh x h with h | h
      · exact .inl (.inr (.inr (.inr (.inr (.inl (mem_hblk hcm h))))))
      · exact .inr h
  · rcases fblk_set hk hx with h | h
    · exact .inl (.inr (.inr (.inr (.inr (.inr h)))))
    · obtain ⟨f, hm, hx⟩ := List.mem_flatMap.1 h
      rcases hf f hm with h | h
      · exact .inl (.inr (.inr (.inr (.inr (.inr (mem_fblk hcm h (mem_gf1.1 hx)))))))
      · exact .inr (h x (mem_gf1.1 hx))

theorem HL.mono {w : World} {base base' : Nat} {cs : List Cq} (h : HL w base cs) (hb : base' ≤ base) : HL w base' cs := ⟨fun c hc => (h.row c hc).mono hb, fun c hc f hf => owns_mono (h.own c hc f hf) hb, h.nh, h.nf⟩
theorem LqAt.mono {w : World} {base base' : Nat} {q : Lq} (h : LqAt w base q) (hb : base' ≤ base) : LqAt w base' q := ⟨h.blk, h.cls, h.hl.mono hb, ⟨Nat.le_trans hb h.lo.1, Nat.le_trans hb h.lo.2.1, Nat.le_trans hb h.lo.2.2⟩, h.few, h.dep⟩
theorem RqAt.mono {w : World} {base base' : Nat} {q : Rq} (h : RqAt w base q) (hb : base' ≤ base) : RqAt w base' q := ⟨h.blk, h.dps, h.frs, h.lst, h.hl.mono hb, ⟨Nat.le_trans hb h.lo.1, Nat.le_trans hb h.lo.2.1, Nat.le_trans hb h.lo.2.2.1, Nat.le_trans hb h.lo.2.2.2.1, Nat.le_trans hb h.lo.2.2.2.2⟩, h.few, h.dep⟩

end Go.Proofs.Ytlfjpbedjmnpaaa
