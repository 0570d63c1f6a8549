/-
  The document's own queue: Take, Drain, Lens.
-/
import Derived.Test.YtlfjpbedjmnpaaaQuS
namespace Go.Proofs.Ytlfjpbedjmnpaaa
open Go.RowKit
set_option maxRecDepth 100000

/-- What a frame that is taken leaves. -/
def TookR (w : World) (base : Nat) (q : Rq) (k : Nat) (c : Cq) (f : Fr) (t : List Fr) (w' : World) : Prop :=
  ∃ v', RqAt w' base (q.with k ⟨c.dep, c.lost, v', t⟩) ∧ GW w w' q.foot ∧ Foots w q.foot (q.with k ⟨c.dep, c.lost, v', t⟩).foot ∧ Owns w' base f.v f.b ∧ ∀ x, f.v.ownBlock = some x → q.foot x ∧ ¬ (q.with k ⟨c.dep, c.lost, v', t⟩).foot x

theorem rtake_end {w w1 : World} {base k g off off' cap cap' : Nat} {q : Rq} {c : Cq} {f : Fr} {t : List Fr} (hq : RqAt w base q) (hk : q.cs[k]? = some c) (hf : c.fs = f :: t) (hh : c.h = .slice (some ⟨g, off, none⟩) (t.length + 1) cap) (K : w.grownBy w1 none) (R : ORow w1 base 35 (.slice (some ⟨g, off', none⟩) t.length cap') (t.map Fr.v)) :
    TookR w base q k c f t (w1.setCell ⟨q.gf, k, none⟩ (.slice (some ⟨g, off', none⟩) t.length cap')) := by
  have hcm := List.mem_of_getElem? hk
  have ho : c.h.ownBlock = some g := by rw [hh]; rfl
  have G : w.grownBy w1 (some g) := grown_mono K
  obtain ⟨HT, O, HN⟩ := hq.hl.take hk hf (by rw [ho]; exact G) R (by rw [ho]; rfl)
  have GG : GW w w1 (fun x => c.h.ownBlock = some x) := GW.of G (fun x hx => by rw [ho]; exact hx)
  have hl : t.length ≤ 1024 := by
    have := (hq.dep c hcm).2.1
    rw [hf, List.length_cons] at this
    omega
  have AT := hq.held hk GG HT hl
  obtain ⟨cur, hd, _⟩ := hq.dps
  have n1 := (hq.hl.tys hq.blk (by decide) (by decide)).2
  have n2 := (hq.hl.tys hd (by decide) (by decide)).2
  have n3 := (hq.hl.tys hq.frs (by decide) (by decide)).2
  have n4 := (hq.hl.tys hq.lst (by decide) (by decide)).2
  refine ⟨_, AT, (GG.mono (fun x _ h => rq_foot_held hk h)).set _ _ (.inl (.inr (.inr (.inl rfl)))), rq_foots hk (fun y hy => .inl (by rw [ho]; exact hy)) (fun h hm => .inl (by rw [hf]; exact List.mem_cons_of_mem _ hm)), ?_, fun x hx => ?_⟩
  · refine World.ownsRow.kept O (grown_set1 w1 ⟨q.gf, k, none⟩ _) ?_
    cases hv : f.v.ownBlock with
    | none => exact .inl rfl
    | some x =>
      right
      intro e
      exact n3 (by have := (HN x hv).1; rw [Option.some.inj e] at this; exact this)
  · obtain ⟨h1, h2, h3⟩ := HN x hx
    refine ⟨.inr (.inr (.inr (.inr (.inr h1)))), ?_⟩
    rintro (h | h | h | h | h | h)
    · exact n1 (by have h : x = q.g := h; rw [← h]; exact h1)
    · exact n2 (by have h : x = q.gd := h; rw [← h]; exact h1)
    · exact n3 (by have h : x = q.gf := h; rw [← h]; exact h1)
    · exact n4 (by have h : x = q.gl := h; rw [← h]; exact h1)
    · exact h3 h
    · exact h2 h

/-- What Take leaves. -/
def TakeR (w : World) (base : Nat) (q : Rq) (e : Ending) (w' : World) : Prop :=
  (takeP q.abs = none ∧ e = .returned (.tuple #[.int .i64 0, .slice none 0 0, .bool false]) ∧ w.grownBy w' none) ∨
  ∃ n v b, ∃ q' : Rq, takeP q.abs = some (n, b, q'.abs) ∧ e = .returned (.tuple #[.int .i64 (n : Int), v, .bool true]) ∧ RqAt w' base q' ∧ q'.g = q.g ∧ GW w w' q.foot ∧ Foots w q.foot q'.foot ∧ Owns w' base v b ∧ ∀ x, v.ownBlock = some x → q.foot x ∧ ¬ q'.foot x

set_option maxHeartbeats 4000000 in
theorem rqtake_any (base : Nat) (q : Rq) (w : World) (hq : RqAt w base q) :
    Calls Try.prog 25 #[.pointer (some ⟨q.g, 0, none⟩)] w (TakeR w base q) := by
  obtain ⟨x0, x1, x2⟩ := hq.cells3
  have HQ : Hid (RqAt w base q) := hq
  have HS : Hid (w.cell? ⟨q.g, 1, none⟩ = some q.fv) := x1
  unfold Rq.fv at x1
  clear hq x0 x2
  obtain ⟨N, hN⟩ : ∃ N, q.cs.length = N := ⟨_, rfl⟩
  have HN : Hid (q.cs.length = N) := hN
  have hN17 : N ≤ 17 := by rw [← hN]; exact HQ.out.few.1
  rw [hN] at x1
  clear hN
  go_enter Try.func25, Try.ntmps25
  go_wp2
  go_loopw [5] (fun i wr => ∃ k : Nat, k ≤ N ∧ i = .int .i64 k ∧ SameW w wr ∧ ∀ j, j < k → ∀ c, q.cs[j]? = some c → c.fs = []) (fun i _ => N - (intOf i).toNat)
  case atStart => exact ⟨0, Nat.zero_le _, rfl, SameW.refl _, fun j hj => by omega⟩
  case round =>
    obtain ⟨k, hk, rfl, hw, HB⟩ := hrel
    obtain rfl : w = wr := hw
    have HBH : Hid (∀ j, j < k → ∀ c, q.cs[j]? = some c → c.fs = []) := HB
    clear HB
    by_cases hlt : k < N
    · have hkc : q.cs[k]? = some (q.cs[k]'(by have := HN.out; omega)) := List.getElem?_eq_getElem _
      generalize q.cs[k]'(by have := HN.out; omega) = c at *
      have hli : (k : Int) < (N : Int) := by omega
      have c2 := HQ.out.heldc hkc
      have hcm := List.mem_of_getElem? hkc
      cases hf : c.fs with
      | nil =>
        obtain ⟨ao, cap, hh, -⟩ := (HQ.out.hl.row c hcm).cv
        have hrl : c.row.length = 0 := by unfold Cq.row; rw [hf]; rfl
        rw [hrl] at hh
        rw [hh] at c2
        have HR : Hid (∀ j, j < k + 1 → ∀ c, q.cs[j]? = some c → c.fs = []) := fun j hj d hd => by
          by_cases e : j = k
          · subst e
            rw [hkc] at hd
            cases hd
            exact hf
          · exact HBH.out j (by omega) d hd
        clear hkc hf HBH hh hrl hcm
        go_wp2
        go_roundw
        case rel => exact ⟨k + 1, by omega, by go_num, SameW.refl _, HR.out⟩
        case measure => simp [intOf]; omega
      | cons f t =>
        have f2 := HQ.out.frs.free k
        have R := HQ.out.hl.row c hcm
        have hrow : c.row = f.v :: t.map Fr.v := by unfold Cq.row; rw [hf]; rfl
        rw [hrow] at R
        obtain ⟨g, off, cap, hh, cf, ff, hb, hg, hcap, hmax, ⟨cur, QG⟩, htail⟩ := R.first
        rw [List.length_map] at hh hcap htail
        obtain ⟨ao, cao, hfv, -⟩ := (HQ.out.hl.own c hcm f (by rw [hf]; exact List.mem_cons_self ..)).shape
        have HR : Hid (∀ w1 off' cap', w.grownBy w1 none → (off' = off + 1 ∨ (cap = 1 ∧ off' = off)) → cap' = cap - 1 → TakeR w base q (.returned (.tuple #[.int .i64 (k : Int), f.v, .bool true])) (w1.setCell ⟨q.gf, k, none⟩ (.slice (some ⟨g, off', none⟩) t.length cap'))) := fun w1 off' cap' K1 h1 h2 => by
          subst h2
          obtain ⟨v', h1, h2, h3, h4, h5⟩ := rtake_end HQ.out hkc hf hh K1 ((htail off' h1).1.keptNone K1)
          refine .inr ⟨k, f.v, f.b, q.with k ⟨c.dep, c.lost, v', t⟩, ?_, rfl, h1, rfl, h2, h3, h4, h5⟩
          have := take_at q.abs k c.abs f.b (t.map Fr.b) (by simp [Rq.abs, hkc]) (by rw [abs_fr, hf]; rfl) (fun j hj x hx => by
            unfold Rq.abs at hx
            rw [List.getElem?_map] at hx
            cases hd : q.cs[j]? with
            | none => rw [hd] at hx; cases hx
            | some d =>
              rw [hd] at hx
              cases hx
              rw [abs_fr, HBH.out j hj d hd]
              rfl)
          rw [this]
          simp [Rq.abs, Rq.with, List.map_set, Cq.abs]
        rw [hh] at c2
        rw [hfv] at cf HR
        have HNE : Hid (q.gf ≠ q.g) := Ne.symm HQ.out.ne.2.1
        have z1 : (cap : Int) ≤ (9223372036854775807 : Int) := by unfold maxLen at hmax; omega
        have z2 : (1 : Int) ≤ (t.length : Int) + 1 := by omega
        have z3 : ((t.length : Int) + 1) ≤ (cap : Int) := by omega
        clear hkc hf HBH hh htail hrow R QG hfv
        go_upto_region 6 with fail
        refine wp_region_held_drew (S := fun W => W.cell? ⟨q.g, 1, none⟩ = some q.fv) (by kernel_rfl) (HS.out) (fun hHeld => ?_)
        refine wpAnyH_take (i := 0) (v := .pointer (some ⟨q.g, 0, none⟩)) rfl (by kernel_rfl) (by kernel_rfl) (by kernel_rfl) (fun _ _ _ h => h) (Or.inl ⟨by rfl, fun W hW => ?_⟩) hHeld ?_
        · clear hW
          go_simp
        try simp only [Act.put, List.getElem_toArray, List.getElem_cons_zero, List.setIfInBounds_toArray, List.set_cons_zero, List.set_cons_succ]
        refine wpAnyH_take (i := 1) (v := .pointer (some ⟨q.g, 0, none⟩)) rfl (by kernel_rfl) (by kernel_rfl) (by kernel_rfl) (fun _ _ _ h => h) (Or.inl ⟨by rfl, fun W hW => ?_⟩) hHeld ?_
        · clear hW
          go_simp
        try simp only [Act.put, List.getElem_toArray, List.getElem_cons_zero, List.getElem_cons_succ, List.setIfInBounds_toArray, List.set_cons_zero, List.set_cons_succ]
        refine wpAnyH_take (i := 2) (v := .pointer (some ⟨q.g, 1, none⟩)) rfl (by kernel_rfl) (by kernel_rfl) (by kernel_rfl) (fun _ _ _ h => h) (Or.inl ⟨by rfl, fun W hW => ?_⟩) hHeld ?_
        · clear hW
          go_simp
        try simp only [Act.put, List.getElem_toArray, List.getElem_cons_zero, List.getElem_cons_succ, List.setIfInBounds_toArray, List.set_cons_zero, List.set_cons_succ]
        refine wpAnyH_take (i := 3) (v := .slice (some ⟨q.gf, 0, none⟩) N N) rfl (by kernel_rfl) (by kernel_rfl) (by kernel_rfl) (fun _ _ _ h => h) (Or.inl ⟨by rfl, fun W hW => ?_⟩) hHeld ?_
        · have hx : W.cell? ⟨q.g, 1, none⟩ = some (.slice (some ⟨q.gf, 0, none⟩) N N) := by have h9 : W.cell? ⟨q.g, 1, none⟩ = some q.fv := hW; unfold Rq.fv at h9; rw [HN.out] at h9; exact h9
          clear hW
          go_simp
        try simp only [Act.put, List.getElem_toArray, List.getElem_cons_zero, List.getElem_cons_succ, List.setIfInBounds_toArray, List.set_cons_zero, List.set_cons_succ]
        refine wpAnyH_take (i := 4) (v := .int .i64 (k : Int)) rfl (by kernel_rfl) (by kernel_rfl) (by kernel_rfl) (fun _ _ _ h => h) (Or.inl ⟨by rfl, fun W hW => ?_⟩) hHeld ?_
        · clear hW
          go_simp
        try simp only [Act.put, List.getElem_toArray, List.getElem_cons_zero, List.getElem_cons_succ, List.setIfInBounds_toArray, List.set_cons_zero, List.set_cons_succ]
        refine wpAnyH_take (i := 5) (v := .pointer (some ⟨q.g, 0, none⟩)) rfl (by kernel_rfl) (by kernel_rfl) (by kernel_rfl) (fun _ _ _ h => h) (Or.inl ⟨by rfl, fun W hW => ?_⟩) hHeld ?_
        · clear hW
          go_simp
        try simp only [Act.put, List.getElem_toArray, List.getElem_cons_zero, List.getElem_cons_succ, List.setIfInBounds_toArray, List.set_cons_zero, List.set_cons_succ]
        refine wpAnyH_take (i := 6) (v := .pointer (some ⟨q.g, 0, none⟩)) rfl (by kernel_rfl) (by kernel_rfl) (by kernel_rfl) (fun _ _ _ h => h) (Or.inl ⟨by rfl, fun W hW => ?_⟩) hHeld ?_
        · clear hW
          go_simp
        try simp only [Act.put, List.getElem_toArray, List.getElem_cons_zero, List.getElem_cons_succ, List.setIfInBounds_toArray, List.set_cons_zero, List.set_cons_succ]
        refine wpAnyH_take (i := 7) (v := .pointer (some ⟨q.g, 1, none⟩)) rfl (by kernel_rfl) (by kernel_rfl) (by kernel_rfl) (fun _ _ _ h => h) (Or.inl ⟨by rfl, fun W hW => ?_⟩) hHeld ?_
        · clear hW
          go_simp
        try simp only [Act.put, List.getElem_toArray, List.getElem_cons_zero, List.getElem_cons_succ, List.setIfInBounds_toArray, List.set_cons_zero, List.set_cons_succ]
        refine wpAnyH_take (i := 8) (v := .slice (some ⟨q.gf, 0, none⟩) N N) rfl (by kernel_rfl) (by kernel_rfl) (by kernel_rfl) (fun _ _ _ h => h) (Or.inl ⟨by rfl, fun W hW => ?_⟩) hHeld ?_
        · have hx : W.cell? ⟨q.g, 1, none⟩ = some (.slice (some ⟨q.gf, 0, none⟩) N N) := by have h9 : W.cell? ⟨q.g, 1, none⟩ = some q.fv := hW; unfold Rq.fv at h9; rw [HN.out] at h9; exact h9
          clear hW
          go_simp
        try simp only [Act.put, List.getElem_toArray, List.getElem_cons_zero, List.getElem_cons_succ, List.setIfInBounds_toArray, List.set_cons_zero, List.set_cons_succ]
        refine wpAnyH_take (i := 9) (v := .int .i64 (k : Int)) rfl (by kernel_rfl) (by kernel_rfl) (by kernel_rfl) (fun _ _ _ h => h) (Or.inl ⟨by rfl, fun W hW => ?_⟩) hHeld ?_
        · clear hW
          go_simp
        try simp only [Act.put, List.getElem_toArray, List.getElem_cons_zero, List.getElem_cons_succ, List.setIfInBounds_toArray, List.set_cons_zero, List.set_cons_succ]
        refine wpAnyH_take (i := 10) (v := .pointer (some ⟨q.gf, k, none⟩)) rfl (by kernel_rfl) (by kernel_rfl) (by kernel_rfl) (fun _ _ _ h => h) (Or.inl ⟨by rfl, fun W hW => ?_⟩) hHeld ?_
        · clear hW
          go_simp
        try simp only [Act.put, List.getElem_toArray, List.getElem_cons_zero, List.getElem_cons_succ, List.setIfInBounds_toArray, List.set_cons_zero, List.set_cons_succ]
        have HG : Hid (w.grownBy w.drew none) := ⟨rfl, rfl, rfl, Nat.le_refl _, fun _ _ _ => rfl⟩
        have c2w : w.drew.cell? ⟨q.gf, k, none⟩ = some (.slice (some ⟨g, off, none⟩) (t.length + 1) cap) := c2
        have f2w : w.drew.frozen? ⟨q.gf, k, none⟩ = false := f2
        generalize w.drew = wc at *
        clear c2 f2 x1 cf ff
        refine wpAnyH_ready (rs := [11]) (by kernel_rfl) (by simp) (AllReadyH.cons rfl (fun K hK => ?_) AllReadyH.nil)
        go_simp
        refine hK.out _ _ hHeld (fun hHeld => ?_)
        clear hK K
        try simp only [Act.put, List.getElem_toArray, List.getElem_cons_zero, List.getElem_cons_succ, List.setIfInBounds_toArray, List.set_cons_zero, List.set_cons_succ]
        refine wpAnyH_ready (rs := [12]) (by kernel_rfl) (by simp) (AllReadyH.cons rfl (fun K hK => ?_) AllReadyH.nil)
        go_simp
        obtain ⟨off', ho1, ho2⟩ : ∃ off', (if cap = 1 then some (⟨g, off, none⟩ : Addr) else some ⟨g, off + 1, none⟩) = some ⟨g, off', none⟩ ∧ (off' = off + 1 ∨ (cap = 1 ∧ off' = off)) := by
          by_cases h1 : cap = 1
          · exact ⟨off, by rw [if_pos h1], .inr ⟨h1, rfl⟩⟩
          · exact ⟨off + 1, by rw [if_neg h1], .inl rfl⟩
        rw [ho1]
        refine hK.out _ _ hHeld (fun hHeld => ?_)
        clear hK K
        try simp only [Act.put, List.getElem_toArray, List.getElem_cons_zero, List.getElem_cons_succ, List.setIfInBounds_toArray, List.set_cons_zero, List.set_cons_succ]
        refine wpAnyH_take (i := 13) (v := .pointer (some ⟨q.gf, k, none⟩)) rfl (by kernel_rfl) (by kernel_rfl) (by kernel_rfl) (fun _ _ _ h => h) (Or.inl ⟨by rfl, fun W hW => ?_⟩) hHeld ?_
        · clear hW
          go_simp
        try simp only [Act.put, List.getElem_toArray, List.getElem_cons_zero, List.getElem_cons_succ, List.setIfInBounds_toArray, List.set_cons_zero, List.set_cons_succ]
        refine wpAnyH_ready (rs := [14]) (by kernel_rfl) (by simp) (AllReadyH.cons rfl (fun K hK => ?_) AllReadyH.nil)
        go_simp
        refine hK.out _ _ ((grown_set1 wc ⟨q.gf, k, none⟩ _).cell hHeld (by simpa using Ne.symm HNE.out)) (fun hHeld => ?_)
        clear hK K
        try simp only [Act.put, List.getElem_toArray, List.getElem_cons_zero, List.getElem_cons_succ, List.setIfInBounds_toArray, List.set_cons_zero, List.set_cons_succ]
        refine wpAnyH_done (by kernel_rfl) ?_ _
        have HE : Hid _ := HR.out wc off' (cap - 1) HG.out ho2 rfl
        clear HR HG ho1 ho2 c2w f2w
        go_wp2
        go_ret3
        exact HE.out
    · obtain rfl : k = N := by omega
      have HR : Hid (TakeR w base q (.returned (.tuple #[.int .i64 0, .slice none 0 0, .bool false])) w) := by
        refine .inl ⟨take_none _ (fun x hx => ?_), rfl, World.grownBy.refl _ _⟩
        obtain ⟨c, hc, rfl⟩ := List.mem_map.1 hx
        obtain ⟨j, hj, rfl⟩ := List.mem_iff_getElem.1 hc
        rw [abs_fr, HBH.out j (by have := HN.out; omega) _ (List.getElem?_eq_getElem hj)]
        rfl
      clear HBH
      go_wp2
      go_ret3
      exact HR.out

theorem rlens_len (cs : List Cq) (k : Nat) : ((cs.take k).map fun c => Value.int .i64 (c.fs.length : Int)).length = min k cs.length := by simp

set_option maxHeartbeats 2000000 in
theorem rqlens_any (base : Nat) (q : Rq) (w : World) (hq : RqAt w base q) :
    Calls Try.prog 30 #[.pointer (some ⟨q.g, 0, none⟩)] w fun e w' => ∃ v, e = .returned v ∧ ZOwns w' w.heap.size v (lensP q.abs) ∧ w.grownBy w' none := by
  obtain ⟨i0, hi, hz0, hz1, hz2⟩ := info_parts infoInt
  obtain ⟨x0, x1, x2⟩ := hq.cells3
  have HQ : Hid (RqAt w base q) := hq
  clear hq x0 x2 x1
  obtain ⟨N, hN⟩ : ∃ N, q.cs.length = N := ⟨_, rfl⟩
  have HN : Hid (q.cs.length = N) := hN
  have hN17 : N ≤ 17 := by rw [← hN]; exact HQ.out.few.1
  clear hN
  have HI : Hid (Try.prog.info? 3 = some i0 ∧ i0.zero = some (.int .i64 0) ∧ i0.size = 1 ∧ i0.bytes = 8) := ⟨hi, hz0, hz1, hz2⟩
  clear hi hz0 hz1 hz2
  go_enter Try.func30, Try.ntmps30
  go_wp2
  go_loopw [3, 4] (fun v i wr => ∃ k : Nat, k ≤ N ∧ i = .int .i64 k ∧ wr.ownsRow w.heap.size 3 1 v k ((q.cs.take k).map fun c => .int .i64 (c.fs.length : Int)) ∧ w.grownBy wr none) (fun _ i _ => N - (intOf i).toNat)
  case atStart => exact ⟨0, Nat.zero_le _, rfl, by simpa using World.ownsRow_nil _ _ _ _, World.grownBy.refl _ _⟩
  case round =>
    obtain ⟨k, hk, rfl, O, K⟩ := hrel
    have RQ := HQ.out.keptNone K
    obtain ⟨x0, x1, x2⟩ := RQ.cells3
    unfold Rq.fv at x1
    rw [HN.out] at x1
    by_cases hlt : k < N
    · have hkc : q.cs[k]? = some (q.cs[k]'(by have := HN.out; omega)) := List.getElem?_eq_getElem _
      generalize q.cs[k]'(by have := HN.out; omega) = c at *
      have c2 := RQ.heldc hkc
      obtain ⟨ao, cap, hh, -⟩ := (RQ.hl.row c (List.mem_of_getElem? hkc)).cv
      have hrl : c.row.length = c.fs.length := by unfold Cq.row; rw [List.length_map]
      rw [hrl] at hh
      rw [hh] at c2
      have hli : (k : Int) < (N : Int) := by omega
      have HO : Hid (wr.ownsRow w.heap.size 3 1 u3 k ((q.cs.take k).map fun c => .int .i64 (c.fs.length : Int)) ∧ w.grownBy wr none ∧ q.cs[k]? = some c) := ⟨O, K, hkc⟩
      obtain ⟨vl, vc, hvs⟩ : ∃ (a : Option Addr) (c : Nat), u3 = .slice a k c := by
        obtain ⟨a, c, hv, -⟩ := CV.ofRow O
        exact ⟨a, c, hv⟩
      subst hvs
      clear O K RQ x0 x2 hkc hh hrl
      go_wp2_with (at_builtin; refine wpList_append_cv rfl (.tmp 14) (.tmp 23) 22 rfl 3 i0 _ 1 8 Try.underlying22 HI.out.1 HI.out.2.1 HI.out.2.2.1 HI.out.2.2.2 rfl (by decide) w.heap.size _ k ((q.cs.take k).map fun c => .int .i64 (c.fs.length : Int)) rfl (HO.out.1.alloc _) (some ⟨wr.heap.size, 0, none⟩) 1 1 [.int .i64 (c.fs.length : Int)] rfl rfl (by simp) (cv_lit wr _ _) (by simp [Value.oneCell']) (by unfold maxLen; omega) (by omega) (Nat.le_trans HO.out.2.1.size (World.grownBy_alloc wr _ none).size) ?_)
      intro v3 w3 O3 K3
      have K4 : w.grownBy w3 none := grown_trans_new (grown_trans HO.out.2.1 (World.grownBy_alloc wr _ _)) K3 (fun x hx => (HO.out.1.lt x hx).1)
      have e4 : ((q.cs.take k).map fun c => Value.int .i64 (c.fs.length : Int)) ++ [.int .i64 (c.fs.length : Int)] = (q.cs.take (k + 1)).map fun c => .int .i64 (c.fs.length : Int) := by
        obtain ⟨hl9, e9⟩ := List.getElem?_eq_some_iff.1 HO.out.2.2
        rw [List.take_succ_eq_append_getElem hl9, List.map_append, e9]
        rfl
      rw [← List.map_take, e4] at O3
      have HF : Hid (w3.ownsRow w.heap.size 3 1 v3 (k + 1) ((q.cs.take (k + 1)).map fun c => .int .i64 (c.fs.length : Int)) ∧ w.grownBy w3 none) := ⟨O3, K4⟩
      clear O3 K3 K4 e4 HO c2 x1
      go_wp2
      go_roundw
      case rel => exact ⟨k + 1, by omega, by go_num, HF.out.1, HF.out.2⟩
      case measure => simp [intOf]; omega
    · obtain rfl : k = N := by omega
      have HR : Hid (ZOwns wr w.heap.size u3 (lensP q.abs) ∧ w.grownBy wr none) := by
        refine ⟨?_, K⟩
        have e : (q.cs.take k).map (fun c => Value.int .i64 (c.fs.length : Int)) = (lensP q.abs).map iv := by
          rw [← HN.out, List.take_length]
          simp [lensP, Rq.abs, iv, Cq.abs]
        rw [e] at O
        have el : (lensP q.abs).length = k := by simp [lensP, Rq.abs, HN.out]
        unfold ZOwns
        rw [el]
        exact O
      clear O K RQ x0 x2
      go_wp2
      go_ret
      exact ⟨_, rfl, HR.out⟩

end Go.Proofs.Ytlfjpbedjmnpaaa
