/-
  What waits in a queue, in memory: for each class a row of frames, each frame in a block of its own.
-/
import Derived.Test.YtlfjpbedjmnpaaaQuM
import Derived.Test.YtlfjpbedjmnpaaaQuV
namespace Go.Proofs.Ytlfjpbedjmnpaaa
open Go.RowKit
set_option maxRecDepth 100000

/-- A frame that waits; a class with its row. -/
structure Fr where
  v : Value
  b : List UInt8
structure Cq where
  dep : Nat
  lost : Nat
  h : Value
  fs : List Fr

def Cq.abs (c : Cq) : Qc := ⟨c.dep, c.lost, c.fs.map Fr.b⟩
def Cq.row (c : Cq) : List Value := c.fs.map Fr.v
def gh (c : Cq) : List Nat := c.h.ownBlock.toList
def gf1 (f : Fr) : List Nat := f.v.ownBlock.toList
def gf (c : Cq) : List Nat := c.fs.flatMap gf1
def hblk (cs : List Cq) : List Nat := cs.flatMap gh
def fblk (cs : List Cq) : List Nat := cs.flatMap gf

theorem mem_gh {c : Cq} {x : Nat} : x ∈ gh c ↔ c.h.ownBlock = some x := by simp [gh, Option.mem_toList]
theorem mem_gf1 {f : Fr} {x : Nat} : x ∈ gf1 f ↔ f.v.ownBlock = some x := by simp [gf1, Option.mem_toList]

theorem count_set (g : Cq → List Nat) (a : Nat) (c' : Cq) : ∀ (cs : List Cq) (i : Nat) (c : Cq), cs[i]? = some c → ((cs.set i c').flatMap g).count a + (g c).count a = (cs.flatMap g).count a + (g c').count a
  | [], i, c, h => by simp at h
  | x :: r, 0, c, h => by
    simp at h
    subst h
    simp only [List.set_cons_zero, List.flatMap_cons, List.count_append]
    omega
  | x :: r, i + 1, c, h => by
    have := count_set g a c' r i c (by simpa using h)
    simp only [List.set_cons_succ, List.flatMap_cons, List.count_append]
    omega

theorem count_two (g : Cq → List Nat) (a : Nat) : ∀ (cs : List Cq) (i j : Nat) (c d : Cq), cs[i]? = some c → cs[j]? = some d → i ≠ j → a ∈ g c → a ∈ g d → 2 ≤ (cs.flatMap g).count a
  | [], i, j, c, d, h, _, _, _, _ => by simp at h
  | x :: r, 0, 0, c, d, _, _, hn, _, _ => absurd rfl hn
  | x :: r, 0, j + 1, c, d, h, k, _, hc, hd => by
    simp at h
    subst h
    have h1 := List.count_pos_iff.2 hc
    have hm : d ∈ r := List.mem_of_getElem? (by simpa using k)
    have h2 := List.count_pos_iff.2 (List.mem_flatMap.2 ⟨d, hm, hd⟩)
    simp only [List.flatMap_cons, List.count_append]
    omega
  | x :: r, i + 1, 0, c, d, h, k, _, hc, hd => by
    simp at k
    subst k
    have h1 := List.count_pos_iff.2 hd
    have hm : c ∈ r := List.mem_of_getElem? (by simpa using h)
    have h2 := List.count_pos_iff.2 (List.mem_flatMap.2 ⟨c, hm, hc⟩)
    simp only [List.flatMap_cons, List.count_append]
    omega
  | x :: r, i + 1, j + 1, c, d, h, k, hn, hc, hd => by
    have := count_two g a r i j c d (by simpa using h) (by simpa using k) (by omega) hc hd
    simp only [List.flatMap_cons, List.count_append]
    omega

/-- What waits. -/
structure HL (w : World) (base : Nat) (cs : List Cq) : Prop where
  row : ∀ c ∈ cs, ORow w base 35 c.h c.row
  own : ∀ c ∈ cs, ∀ f ∈ c.fs, Owns w base f.v f.b
  nh : ∀ a, (hblk cs).count a ≤ 1
  nf : ∀ a, (fblk cs).count a ≤ 1

theorem mem_hblk {cs : List Cq} {c : Cq} {x : Nat} (hc : c ∈ cs) (hx : c.h.ownBlock = some x) : x ∈ hblk cs := List.mem_flatMap.2 ⟨c, hc, mem_gh.2 hx⟩
theorem mem_gf {c : Cq} {f : Fr} {x : Nat} (hf : f ∈ c.fs) (hx : f.v.ownBlock = some x) : x ∈ gf c := List.mem_flatMap.2 ⟨f, hf, mem_gf1.2 hx⟩
theorem mem_fblk {cs : List Cq} {c : Cq} {f : Fr} {x : Nat} (hc : c ∈ cs) (hf : f ∈ c.fs) (hx : f.v.ownBlock = some x) : x ∈ fblk cs := List.mem_flatMap.2 ⟨c, hc, mem_gf hf hx⟩

theorem HL.lt {w : World} {base : Nat} {cs : List Cq} (h : HL w base cs) : (∀ x ∈ hblk cs, base ≤ x ∧ x < w.heap.size) ∧ ∀ x ∈ fblk cs, base ≤ x ∧ x < w.heap.size := by
  constructor
  · intro x hx
    obtain ⟨c, hc, hx⟩ := List.mem_flatMap.1 hx
    exact (h.row c hc).lt x (mem_gh.1 hx)
  · intro x hx
    obtain ⟨c, hc, hx⟩ := List.mem_flatMap.1 hx
    obtain ⟨f, hf, hx⟩ := List.mem_flatMap.1 hx
    exact (h.own c hc f hf).lt x (mem_gf1.1 hx)

theorem HL.gw {w w' : World} {base : Nat} {cs : List Cq} {S : Nat → Prop} (h : HL w base cs) (G : GW w w' S) (h1 : ∀ x ∈ hblk cs, ¬ S x) (h2 : ∀ x ∈ fblk cs, ¬ S x) : HL w' base cs :=
  ⟨fun c hc => G.orow (h.row c hc) (fun x hx => h1 x (mem_hblk hc hx)), fun c hc f hf => G.row (h.own c hc f hf) (fun x hx => h2 x (mem_fblk hc hf hx)), h.nh, h.nf⟩
theorem HL.keptNone {w w' : World} {base : Nat} {cs : List Cq} (h : HL w base cs) (G : w.grownBy w' none) : HL w' base cs := h.gw (GW.non (S := fun _ => False) G) (fun _ _ h => h) (fun _ _ h => h)

/-- A block of another type is none of these. -/
theorem HL.tys {w : World} {base g t : Nat} {cs : List Cq} {ds : Array Value} (h : HL w base cs) (A : QBk w g t ds) (h1 : t ≠ 35) (h2 : t ≠ 5) : g ∉ hblk cs ∧ g ∉ fblk cs := by
  constructor
  · intro hx
    obtain ⟨c, hc, hx⟩ := List.mem_flatMap.1 hx
    rcases h.row c hc with ⟨hv, _⟩ | ⟨g', off, cap, cur, hv, hb, hg, _⟩
    · rw [mem_gh, hv] at hx; cases hx
    · rw [mem_gh, hv] at hx
      simp only [Value.ownBlock, Option.some.injEq] at hx
      exact QBk.tys A (show QBk w g' 35 cur from hg) h1 hx.symm
  · intro hx
    obtain ⟨c, hc, hx⟩ := List.mem_flatMap.1 hx
    obtain ⟨f, hf, hx⟩ := List.mem_flatMap.1 hx
    rcases (h.own c hc f hf).2 with ⟨hv, _⟩ | ⟨g', cap, cur, hv, hb, hg, _⟩
    · rw [mem_gf1, hv] at hx; cases hx
    · rw [mem_gf1, hv] at hx
      simp only [Value.ownBlock, Option.some.injEq] at hx
      exact QBk.tys A (show QBk w g' 5 cur from hg) h2 hx.symm
theorem HL.other {w w' : World} {base g t : Nat} {cs : List Cq} {ds : Array Value} (h : HL w base cs) (A : QBk w g t ds) (h1 : t ≠ 35) (h2 : t ≠ 5) (G : w.grownBy w' (some g)) : HL w' base cs := by
  obtain ⟨n1, n2⟩ := h.tys A h1 h2
  exact h.gw (GW.of (S := fun x => x = g) G (fun x hx => (Option.some.inj hx).symm)) (fun x hx e => n1 (e ▸ hx)) (fun x hx e => n2 (e ▸ hx))

/-- A row and a list of bytes lie in blocks of their own. -/
theorem row_ne {w : World} {base base' : Nat} {v v' : Value} {vs : List Value} {b : List UInt8} (h : ORow w base 35 v vs) (k : Owns w base' v' b) : ∀ x, v'.ownBlock = some x → v.ownBlock ≠ some x := by
  intro x hx hv
  rcases h with ⟨rfl, _⟩ | ⟨g, off, cap, cur, rfl, hb, hg, _⟩
  · cases hv
  · rcases k.2 with ⟨rfl, _⟩ | ⟨g', cap', cur', rfl, hb', hg', _⟩
    · cases hx
    · simp only [Value.ownBlock, Option.some.injEq] at hv hx
      subst hv
      exact QBk.tys (show QBk w g 35 cur from hg) (show QBk w g' 5 cur' from hg') (by decide) hx.symm

/-- A class's row is another one: all else stays. -/
theorem HL.set {w w' : World} {base i : Nat} {cs : List Cq} {c c' : Cq} (H : HL w base cs) (hi : cs[i]? = some c) (G : GW w w' (fun x => c.h.ownBlock = some x)) (R : ORow w' base 35 c'.h c'.row)
    (hh : ∀ y, c'.h.ownBlock = some y → c.h.ownBlock = some y ∨ w.heap.size ≤ y) (F : ∀ f ∈ c'.fs, Owns w' base f.v f.b) (nf : ∀ a, (fblk (cs.set i c')).count a ≤ 1) : HL w' base (cs.set i c') := by
  have hcm : c ∈ cs := List.mem_of_getElem? hi
  have each : ∀ d ∈ cs.set i c', d = c' ∨ ∃ j, j ≠ i ∧ cs[j]? = some d := fun d hd => by
    obtain ⟨j, hj, e⟩ := List.mem_iff_getElem.1 hd
    rw [List.getElem_set] at e
    split at e
    · exact .inl e.symm
    · rename_i hne
      refine .inr ⟨j, fun e => hne e.symm, ?_⟩
      rw [List.length_set] at hj
      rw [List.getElem?_eq_getElem hj, e]
  refine ⟨fun d hd => ?_, fun d hd f hf => ?_, fun a => ?_, nf⟩
  · rcases each d hd with rfl | ⟨j, hj, hd⟩
    · exact R
    · refine G.orow (H.row d (List.mem_of_getElem? hd)) (fun x hx hx' => ?_)
      have := count_two gh x cs j i d c hd hi hj (mem_gh.2 hx) (mem_gh.2 hx')
      have := H.nh x
      unfold hblk at this
      omega
  · rcases each d hd with rfl | ⟨j, hj, hd⟩
    · exact F f hf
    · exact G.row (H.own d (List.mem_of_getElem? hd) f hf) (fun x hx => row_ne (H.row c hcm) (H.own d (List.mem_of_getElem? hd) f hf) x hx)
  · have e1 := count_set gh a c' cs i c hi
    have e2 := H.nh a
    unfold hblk at *
    cases hv : c'.h.ownBlock with
    | none =>
      have : (gh c').count a = 0 := by simp [gh, hv]
      omega
    | some y =>
      have e3 : (gh c').count a ≤ 1 := by
        simp only [gh, hv, Option.toList_some]
        have := List.count_le_length (a := a) (l := [y])
        simpa using this
      by_cases hay : a = y
      · subst hay
        rcases hh a hv with h | h
        · have : (gh c).count a = 1 := by simp [gh, h]
          omega
        · have : (cs.flatMap gh).count a = 0 := List.count_eq_zero.2 (fun hm => by have := (H.lt.1 a hm).2; omega)
          omega
      · have : (gh c').count a = 0 := List.count_eq_zero.2 (fun hm => hay (by rw [mem_gh, hv] at hm; exact (Option.some.inj hm).symm))
        omega

/-- What is left of the footprints. -/
theorem hblk_set {cs : List Cq} {i : Nat} {c c' : Cq} (hi : cs[i]? = some c) {x : Nat} (hx : x ∈ hblk (cs.set i c')) : x ∈ hblk cs ∨ c'.h.ownBlock = some x := by
  have e1 := count_set gh x c' cs i c hi
  have e2 := List.count_pos_iff.2 hx
  unfold hblk at *
  by_cases h : 0 < (gh c').count x
  · exact .inr (mem_gh.1 (List.count_pos_iff.1 h))
  · exact .inl (List.count_pos_iff.1 (by omega))
theorem fblk_set {cs : List Cq} {i : Nat} {c c' : Cq} (hi : cs[i]? = some c) {x : Nat} (hx : x ∈ fblk (cs.set i c')) : x ∈ fblk cs ∨ x ∈ gf c' := by
  have e1 := count_set gf x c' cs i c hi
  have e2 := List.count_pos_iff.2 hx
  unfold fblk at *
  by_cases h : 0 < (gf c').count x
  · exact .inr (List.count_pos_iff.1 h)
  · exact .inl (List.count_pos_iff.1 (by omega))

theorem gf_snoc (dep lost : Nat) (h : Value) (fs : List Fr) (f : Fr) (a : Nat) : (gf ⟨dep, lost, h, fs ++ [f]⟩).count a = (fs.flatMap gf1).count a + (gf1 f).count a := by
  simp [gf, List.flatMap_append, List.count_append]

/-- One frame more. -/
theorem HL.put {w w1 w' : World} {base i : Nat} {cs : List Cq} {c : Cq} {v' p : Value} {b : List UInt8} (H : HL w base cs) (hi : cs[i]? = some c) (hb : base ≤ w.heap.size) (K : w.grownBy w1 none) (O : Owns w1 w.heap.size p b) (R : ORow w' base 35 v' (c.row ++ [p])) (G : w1.grownBy w' c.h.ownBlock)
    (hv : v'.ownBlock = c.h.ownBlock ∨ ∀ y, v'.ownBlock = some y → w1.heap.size ≤ y) : HL w' base (cs.set i ⟨c.dep, c.lost, v', c.fs ++ [⟨p, b⟩]⟩) := by
  have hcm : c ∈ cs := List.mem_of_getElem? hi
  have GG : GW w w' (fun x => c.h.ownBlock = some x) := (GW.non K).trans (GW.of G (fun x hx => hx)) (fun x _ h => h)
  have O' : Owns w' base p b := by
    refine owns_mono ?_ hb
    have R1 : ORow w1 base 35 c.h c.row := (H.row c hcm).keptNone K
    refine World.ownsRow.kept O G ?_
    cases hp : p.ownBlock with
    | none => exact .inl rfl
    | some x =>
      right
      rw [← hp]
      intro e
      exact row_ne R1 O x hp (by rw [← e, hp])
  refine H.set hi GG (by unfold Cq.row at R ⊢; rw [List.map_append]; exact R) (fun y hy => ?_) (fun f hf => ?_) (fun a => ?_)
  · rcases hv with h | h
    · exact .inl (by rw [← h]; exact hy)
    · have := K.size
      have := h y hy
      exact .inr (by omega)
  · rcases List.mem_append.1 hf with h | h
    · exact GG.row (H.own c hcm f h) (fun x hx => row_ne (H.row c hcm) (H.own c hcm f h) x hx)
    · have : f = ⟨p, b⟩ := by simpa using h
      subst this
      exact O'
  · have e1 := count_set gf a ⟨c.dep, c.lost, v', c.fs ++ [⟨p, b⟩]⟩ cs i c hi
    have e2 := H.nf a
    rw [gf_snoc] at e1
    have e3 : (gf c).count a = (c.fs.flatMap gf1).count a := rfl
    unfold fblk at *
    by_cases h : 0 < (gf1 ⟨p, b⟩).count a
    · have hp : p.ownBlock = some a := mem_gf1.1 (List.count_pos_iff.1 h)
      have h9 := (O.lt a hp).1
      have : (cs.flatMap gf).count a = 0 := List.count_eq_zero.2 (fun hm => by have := (H.lt.2 a hm).2; omega)
      have : (gf1 ⟨p, b⟩).count a ≤ 1 := by
        simp only [gf1, hp, Option.toList_some]
        simp
      omega
    · omega

/-- The first frame away: what is left, and that it lies in none of the blocks that are left. -/
theorem HL.take {w w' : World} {base i : Nat} {cs : List Cq} {c : Cq} {f : Fr} {t : List Fr} {v' : Value} (H : HL w base cs) (hi : cs[i]? = some c) (hf : c.fs = f :: t) (G : w.grownBy w' c.h.ownBlock) (R : ORow w' base 35 v' (t.map Fr.v)) (hv : v'.ownBlock = c.h.ownBlock) :
    HL w' base (cs.set i ⟨c.dep, c.lost, v', t⟩) ∧ Owns w' base f.v f.b ∧ (∀ x, f.v.ownBlock = some x → x ∈ fblk cs ∧ x ∉ fblk (cs.set i ⟨c.dep, c.lost, v', t⟩) ∧ x ∉ hblk (cs.set i ⟨c.dep, c.lost, v', t⟩)) := by
  have hcm : c ∈ cs := List.mem_of_getElem? hi
  have hfm : f ∈ c.fs := by rw [hf]; exact List.mem_cons_self ..
  have GG : GW w w' (fun x => c.h.ownBlock = some x) := GW.of G (fun x hx => hx)
  have own : ∀ g ∈ c.fs, Owns w' base g.v g.b := fun g hg => GG.row (H.own c hcm g hg) (fun x hx => row_ne (H.row c hcm) (H.own c hcm g hg) x hx)
  have cnt : ∀ a, (fblk (cs.set i ⟨c.dep, c.lost, v', t⟩)).count a + (gf1 f).count a = (fblk cs).count a := fun a => by
    have e1 := count_set gf a ⟨c.dep, c.lost, v', t⟩ cs i c hi
    have e2 : (gf c).count a = (gf1 f).count a + (t.flatMap gf1).count a := by
      unfold gf
      rw [hf, List.flatMap_cons, List.count_append]
    have e3 : (gf ⟨c.dep, c.lost, v', t⟩).count a = (t.flatMap gf1).count a := rfl
    unfold fblk
    omega
  have H' : HL w' base (cs.set i ⟨c.dep, c.lost, v', t⟩) := H.set hi GG R (fun y hy => .inl (by rw [← hv]; exact hy)) (fun g hg => own g (by rw [hf]; exact List.mem_cons_of_mem _ hg)) (fun a => by have := cnt a; have := H.nf a; omega)
  refine ⟨H', own f hfm, fun x hx => ⟨mem_fblk hcm hfm hx, fun hm => ?_, fun hm => ?_⟩⟩
  · have h1 := List.count_pos_iff.2 hm
    have h2 := List.count_pos_iff.2 (mem_gf1.2 hx)
    have := cnt x
    have := H.nf x
    omega
  · obtain ⟨d, hd, hx'⟩ := List.mem_flatMap.1 hm
    exact row_ne (H'.row d hd) (own f hfm) x hx (mem_gh.1 hx')

/-- A class's frames away, all of them. -/
theorem HL.drain {w w' : World} {base i : Nat} {cs : List Cq} {c : Cq} (H : HL w base cs) (hi : cs[i]? = some c) (G : w.grownBy w' none) :
    HL w' base (cs.set i ⟨c.dep, c.lost, .slice none 0 0, []⟩) ∧ (∀ x, (fblk (cs.set i ⟨c.dep, c.lost, .slice none 0 0, []⟩)).count x + (gf c).count x = (fblk cs).count x) := by
  have cnt : ∀ a, (fblk (cs.set i ⟨c.dep, c.lost, .slice none 0 0, []⟩)).count a + (gf c).count a = (fblk cs).count a := fun a => by
    have e1 := count_set gf a ⟨c.dep, c.lost, .slice none 0 0, []⟩ cs i c hi
    have e3 : (gf ⟨c.dep, c.lost, .slice none 0 0, []⟩).count a = 0 := rfl
    unfold fblk
    omega
  exact ⟨H.set hi (GW.non G) (ORow.nil _ _ _) (fun y hy => by cases hy) (fun f hf => by cases hf) (fun a => by have := cnt a; have := H.nf a; omega), cnt⟩

/-- Another count of what was dropped. -/
theorem HL.lost {w : World} {base i : Nat} {cs : List Cq} {c : Cq} (H : HL w base cs) (hi : cs[i]? = some c) (n : Nat) : HL w base (cs.set i ⟨c.dep, n, c.h, c.fs⟩) := by
  have hcm : c ∈ cs := List.mem_of_getElem? hi
  refine H.set hi (GW.refl _ _) (H.row c hcm) (fun y hy => .inl hy) (H.own c hcm) (fun a => ?_)
  have e1 := count_set gf a ⟨c.dep, n, c.h, c.fs⟩ cs i c hi
  have e2 := H.nf a
  have e3 : (gf ⟨c.dep, n, c.h, c.fs⟩).count a = (gf c).count a := rfl
  unfold fblk at *
  omega

end Go.Proofs.Ytlfjpbedjmnpaaa
