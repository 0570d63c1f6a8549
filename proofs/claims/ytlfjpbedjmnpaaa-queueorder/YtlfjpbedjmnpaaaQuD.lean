/-
  Package queue as landed: a class that is taken from, that is emptied.
-/
import Derived.Test.YtlfjpbedjmnpaaaQuC
namespace Go.Proofs.Ytlfjpbedjmnpaaa
open Go.RowKit
set_option maxRecDepth 100000

set_option maxHeartbeats 2000000 in
theorem ltake_none (base k : Nat) (q : Lq) (c : Cq) (w : World) (hq : LqAt w base q) (hk : q.cs[k]? = some c) (hf : c.fs = []) :
    Calls Try.prog 37 #[.pointer (some ⟨q.gc, k * 3, none⟩)] w fun e w' => e = .returned (.tuple #[.slice none 0 0, .bool false]) ∧ w = w' := by
  have c2 := hq.heldc hk
  obtain ⟨ao, cap, hh, -⟩ := (hq.hl.row c (List.mem_of_getElem? hk)).cv
  have hrl : c.row.length = 0 := by unfold Cq.row; rw [hf]; rfl
  rw [hrl] at hh
  rw [hh] at c2
  clear hh hrl hf hk hq
  go_enter Try.func37, Try.ntmps37
  go_wp2
  go_ret2
  exact ⟨rfl, rfl⟩

/-- What a frame that is taken leaves. -/
def TookL (w : World) (base : Nat) (q : Lq) (k : Nat) (c : Cq) (f : Fr) (t : List Fr) (w' : World) : Prop :=
  ∃ v', LqAt w' base (q.with k ⟨c.dep, c.lost, v', t⟩) ∧ GW w w' q.foot ∧ Foots w q.foot (q.with k ⟨c.dep, c.lost, v', t⟩).foot ∧ Owns w' base f.v f.b ∧ ∀ x, f.v.ownBlock = some x → q.foot x ∧ ¬ (q.with k ⟨c.dep, c.lost, v', t⟩).foot x

theorem ltake_end {w w1 : World} {base k g off off' cap cap' : Nat} {q : Lq} {c : Cq} {f : Fr} {t : List Fr} (hq : LqAt w base q) (hk : q.cs[k]? = some c) (hf : c.fs = f :: t) (hh : c.h = .slice (some ⟨g, off, none⟩) (t.length + 1) cap) (G : w.grownBy w1 (some g)) (R : ORow w1 base 35 (.slice (some ⟨g, off', none⟩) t.length cap') (t.map Fr.v)) :
    TookL w base q k c f t (w1.setCell ⟨q.gc, k * 3 + 2, none⟩ (.slice (some ⟨g, off', none⟩) t.length cap')) := by
  have hcm := List.mem_of_getElem? hk
  have ho : c.h.ownBlock = some g := by rw [hh]; rfl
  obtain ⟨HT, O, HN⟩ := hq.hl.take hk hf (by rw [ho]; exact G) R (by rw [ho]; rfl)
  have GG : GW w w1 (fun x => c.h.ownBlock = some x) := GW.of G (fun x hx => by rw [ho]; exact hx)
  have hl : t.length ≤ 1024 := by
    have := (hq.dep c hcm).2.1
    rw [hf, List.length_cons] at this
    omega
  have AT := hq.held hk GG HT hl
  have n1 := hq.hl.tys hq.cls (by decide) (by decide)
  have n2 := hq.hl.tys hq.blk (by decide) (by decide)
  refine ⟨_, AT, (GG.mono (fun x _ h => lq_foot_held hk h)).set _ _ (.inl (.inr (.inl rfl))), lq_foots hk (fun y hy => .inl (by rw [ho]; exact hy)) (fun h hm => .inl (by rw [hf]; exact List.mem_cons_of_mem _ hm)), ?_, fun x hx => ?_⟩
  · refine World.ownsRow.kept O (grown_set1 w1 ⟨q.gc, k * 3 + 2, none⟩ _) ?_
    cases hv : f.v.ownBlock with
    | none => exact .inl rfl
    | some x =>
      right
      intro e
      exact n1.2 (by have := (HN x hv).1; rw [Option.some.inj e] at this; exact this)
  · obtain ⟨h1, h2, h3⟩ := HN x hx
    refine ⟨.inr (.inr (.inr h1)), ?_⟩
    rintro (h | h | h | h)
    · exact n2.2 (by have h : x = q.g := h; rw [← h]; exact h1)
    · exact n1.2 (by have h : x = q.gc := h; rw [← h]; exact h1)
    · exact h3 h
    · exact h2 h

set_option maxHeartbeats 2000000 in
theorem ltake_some (base k : Nat) (q : Lq) (c : Cq) (f : Fr) (t : List Fr) (w : World) (hq : LqAt w base q) (hk : q.cs[k]? = some c) (hf : c.fs = f :: t) :
    Calls Try.prog 37 #[.pointer (some ⟨q.gc, k * 3, none⟩)] w fun e w' => e = .returned (.tuple #[f.v, .bool true]) ∧ TookL w base q k c f t w' := by
  have hcm := List.mem_of_getElem? hk
  have c2 := hq.heldc hk
  have f2 := hq.free (k * 3 + 2)
  have R := hq.hl.row c hcm
  have hrow : c.row = f.v :: t.map Fr.v := by unfold Cq.row; rw [hf]; rfl
  rw [hrow] at R
  obtain ⟨g, off, cap, hh, cf, ff, hb, hg, hcap, hmax, ⟨cur, QG⟩, htail⟩ := R.first
  rw [List.length_map] at hh hcap htail
  have HQ : Hid (LqAt w base q ∧ q.cs[k]? = some c ∧ c.fs = f :: t ∧ c.h = .slice (some ⟨g, off, none⟩) (t.length + 1) cap) := ⟨hq, hk, hf, hh⟩
  have HT := fun off' ho => (htail off' ho).2 (.slice none 0 0)
  have HTH : Hid (∀ off', off' = off + 1 ∨ (cap = 1 ∧ off' = off) → ORow (w.setCell ⟨g, off, none⟩ (.slice none 0 0)) base 35 (.slice (some ⟨g, off', none⟩) t.length (cap - 1)) (t.map Fr.v)) := HT
  rw [hh] at c2
  obtain ⟨ao, cao, hfv, -⟩ := (hq.hl.own c hcm f (by rw [hf]; exact List.mem_cons_self ..)).shape
  rw [hfv] at cf
  have hne : g ≠ q.gc := QBk.tys QG hq.cls (by decide)
  have z1 : (cap : Int) ≤ (9223372036854775807 : Int) := by unfold maxLen at hmax; omega
  have z2 : (1 : Int) ≤ (t.length : Int) + 1 := by omega
  have z3 : ((t.length : Int) + 1) ≤ (cap : Int) := by omega
  clear htail hrow hh hf R HT hk hq QG
  obtain ⟨R, hR⟩ : ∃ R : World → Prop, TookL w base q k c f t = R := ⟨_, rfl⟩
  have HRR : Hid (TookL w base q k c f t = R) := hR
  rw [hR, hfv]
  clear hR
  go_enter Try.func37, Try.ntmps37
  go_upto_region 4 with fail
  go_upto_region 5 with fail
  have c2w : (w.setCell ⟨g, off, none⟩ (.slice none 0 0)).cell? ⟨q.gc, k * 3 + 2, none⟩ = some (.slice (some ⟨g, off, none⟩) (t.length + 1) cap) := (grown_set1 w ⟨g, off, none⟩ (.slice none 0 0)).cell c2 (by simpa using Ne.symm hne)
  have f2w : (w.setCell ⟨g, off, none⟩ (.slice none 0 0)).frozen? ⟨q.gc, k * 3 + 2, none⟩ = false := by
    rw [World.frozen?_of_block (w := w)]
    · exact f2
    · exact (grown_set1 w ⟨g, off, none⟩ (.slice none 0 0)).block q.gc (World.block_lt_of_cell? w _ c2) (by simpa using Ne.symm hne)
  have HG : Hid (w.grownBy (w.setCell ⟨g, off, none⟩ (.slice none 0 0)) (some g)) := grown_set1 w ⟨g, off, none⟩ (.slice none 0 0)
  generalize w.setCell ⟨g, off, none⟩ (.slice none 0 0) = w1 at *
  clear c2 f2 cf ff
  have HE : Hid (∀ off' cap', (off' = off + 1 ∨ (cap = 1 ∧ off' = off)) → cap' = cap - 1 → R (w1.setCell ⟨q.gc, k * 3 + 2, none⟩ (.slice (some ⟨g, off', none⟩) t.length cap'))) := fun off' cap' h1 h2 => by
    subst h2
    rw [← HRR.out]
    exact ltake_end HQ.out.1 HQ.out.2.1 HQ.out.2.2.1 HQ.out.2.2.2 HG.out (HTH.out off' h1)
  clear HG HTH HQ hb hg hne hfv hcm
  go_wp2
  · go_ret2
    rename_i h
    exact ⟨rfl, HE.out _ _ (.inr ⟨h, rfl⟩) (by omega)⟩
  · go_ret2
    exact ⟨rfl, HE.out _ _ (.inl rfl) rfl⟩

/-- A class that is emptied. -/
def DrainL (w : World) (base : Nat) (q : Lq) (k : Nat) (c : Cq) (w' : World) : Prop :=
  LqAt w' base (q.with k ⟨c.dep, c.lost, .slice none 0 0, []⟩) ∧ w.grownBy w' (some q.gc) ∧ (∀ x, (q.with k ⟨c.dep, c.lost, .slice none 0 0, []⟩).foot x → q.foot x)

set_option maxHeartbeats 2000000 in
theorem ldrain_any (base k : Nat) (q : Lq) (c : Cq) (w : World) (hq : LqAt w base q) (hk : q.cs[k]? = some c) :
    Calls Try.prog 36 #[.pointer (some ⟨q.gc, k * 3, none⟩)] w fun e w' => e = .returned c.h ∧ DrainL w base q k c w' := by
  have hcm := List.mem_of_getElem? hk
  have c2 := hq.heldc hk
  have f2 := hq.free (k * 3 + 2)
  obtain ⟨ao, cap, hh, -⟩ := (hq.hl.row c hcm).cv
  obtain ⟨R, hR⟩ : ∃ R : World → Prop, DrainL w base q k c = R := ⟨_, rfl⟩
  have HE : Hid (R (w.setCell ⟨q.gc, k * 3 + 2, none⟩ (.slice none 0 0))) := by
    show R _
    rw [← hR]
    have AT := hq.held (w' := w) (v' := .slice none 0 0) (fs' := []) hk (GW.refl _ _) (hq.hl.drain hk (World.grownBy.refl _ _)).1 (by simp)
    refine ⟨AT, grown_set1 w ⟨q.gc, k * 3 + 2, none⟩ _, fun x hx => ?_⟩
    rcases lq_foots (w := w) hk (fun y hy => by cases hy) (fun f hf => by cases hf) x hx with h | h
    · exact h
    · have := (AT.lt x hx).2
      have e : (w.setCell ⟨q.gc, k * 3 + 2, none⟩ (.slice none 0 0)).heap.size = w.heap.size := by simp [World.setCell]
      omega
  rw [hR, hh]
  rw [hh] at c2
  clear hh hR hq hk hcm
  go_enter Try.func36, Try.ntmps36
  go_wp2
  go_ret
  exact ⟨rfl, HE.out⟩

end Go.Proofs.Ytlfjpbedjmnpaaa
