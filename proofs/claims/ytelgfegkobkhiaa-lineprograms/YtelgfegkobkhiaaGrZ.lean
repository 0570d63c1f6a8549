/-
  KeptBlocks: the lent blocks are as they were; then they are written over.
-/
import Derived.Test.YtelgfegkobkhiaaGrX
import Derived.Test.YtelgfegkobkhiaaGrY
namespace Go.Proofs.Ytelgfegkobkhiaa
open Go.RowKit
set_option maxRecDepth 100000

theorem bcv_front {w : World} {base g cap n : Nat} {xs ys : List Bv} (h : w.ownsRow base 47 8 (.slice (some ⟨g, 0, none⟩) n cap) n (flatB (xs ++ ys))) : CV w (some ⟨g, 0, none⟩) (flatB xs) ∧ CV w (some ⟨g, xs.length * 8, none⟩) (flatB ys) := by
  have hl := flatB_len xs
  refine ⟨⟨fun h => (by cases h), fun ad had i hi => ?_⟩, ⟨fun h => (by cases h), fun ad had i hi => ?_⟩⟩
  · obtain rfl := Option.some.inj had
    refine h.cells (g := g) rfl i _ ?_
    rw [flatB_append, List.getElem?_append_left hi]
    simp [hi]
  · obtain rfl := Option.some.inj had
    have := h.cells (g := g) rfl ((flatB xs).length + i) ((flatB ys)[i]) (by rw [flatB_append, List.getElem?_append_right (by omega)]; simp [hi])
    rw [Addr.add_lit, Nat.zero_add, hl] at this
    rw [Addr.add_lit]
    exact this

/-- A lent Code stays where another block of memory is written. -/
theorem ILent.other {w w' : World} {base z : Nat} {a : Option Addr} {n ca : Nat} {xs : List In} (h : ILent w base (.slice a n ca) xs) (K : w.grownBy w' (some z)) (hne : (a.map (·.block)) ≠ some z) : ILent w' base (.slice a n ca) xs := by
  obtain ⟨g, cap, h1, h2, h3, h4, h5, h6⟩ := h
  simp only [Value.slice.injEq] at h1
  obtain ⟨rfl, rfl, rfl⟩ := h1
  exact ⟨g, ca, rfl, h2, h3, h4, Nat.lt_of_lt_of_le h5 K.size, h6.kept K (.inr (by simpa [Value.ownBlock] using hne))⟩

/-- While the lent blocks are written over. -/
def BSp (w0 : World) (g n : Nat) (wr : World) : Prop := BlkN wr 47 g n ∧ w0.grownBy wr none
theorem BSp.set {w0 wr : World} {g n : Nat} (h : BSp w0 g n wr) {p : Addr} (hp : w0.heap.size ≤ p.block) (u : Value) : BSp w0 g n (wr.setCell p u) := ⟨h.1.setCell _ _, grown_setCell h.2 _ _ (.inr hp)⟩

set_option maxRecDepth 100000 in
set_option maxHeartbeats 4000000 in
theorem bkept_any (w0 : World) (a : Option Addr) (ca : Nat) (v : Value) (xs ys : List Bv) (w : World) (hL : BLent w w0.heap.size v ys) (ha : GC w0 a xs) (G0 : w0.grownBy w none) (he : gOf ys = gOf xs) (hn : (xs.length + 2) * 56 ≤ 140737488355328) (hlen : ∀ x ∈ xs, x.b.code.length * 8 ≤ 140737488351232) :
    Calls Try.prog 10 #[v, .slice a xs.length ca] w fun e w' => e = .returned (.bool true) ∧ w0.grownBy w' none := by
  obtain ⟨g, cap, rfl, hc, hcm, hg0, hrow, hil, hap⟩ := hL
  have hyl : ys.length = xs.length := by have := congrArg List.length he; rwa [gOf_len, gOf_len] at this
  rw [hyl] at hc hrow ⊢
  have GL : GC w (some ⟨g, 0, none⟩) ys := ⟨(bcv_front hrow).1, fun y hy => by
    obtain ⟨-, h2, h3, h4, -⟩ := (hil y hy).cv
    exact ⟨h2, h3, h4⟩⟩
  have CS := bsameb_any (some ⟨g, 0, none⟩) a cap ca ys xs w GL (ha.keptNone G0) he (by omega) (fun y hy => by
    have : y.b ∈ gOf xs := by rw [← he]; exact List.mem_map.2 ⟨y, hy, rfl⟩
    obtain ⟨x, hx, hxb⟩ := List.mem_map.1 this
    have := hlen x hx
    rw [hxb] at this
    omega)
  rw [hyl] at CS
  have HA : Hid (GC w0 a xs) := ha
  have HI : Hid (∀ y ∈ ys, ILent w w0.heap.size (.slice y.a y.b.code.length y.ca) y.b.code) := hil
  have HP : Hid (Apart ys) := hap
  have HR : Hid (w.ownsRow w0.heap.size 47 8 (.slice (some ⟨g, 0, none⟩) (xs.length + 2) cap) (xs.length + 2) (flatB (ys ++ [m77, m77]))) := hrow
  have HY : Hid (ys.length = xs.length) := hyl
  have HE : Hid (gOf ys = gOf xs) := he
  have cm := (bcv_front hrow).2
  rw [hyl] at cm
  have m1 : w.cell? ⟨g, xs.length * 8 + 1, none⟩ = some (.int .i64 77) := cm.2 _ rfl 1 (by decide)
  have m2 : w.cell? ⟨g, xs.length * 8 + 9, none⟩ = some (.int .i64 77) := cm.2 _ rfl 9 (by decide)
  have m2' : w.cell? ⟨g, (xs.length + 1) * 8 + 1, none⟩ = some (.int .i64 77) := by rw [show (xs.length + 1) * 8 + 1 = xs.length * 8 + 9 by omega]; exact m2
  clear GL hil hap hrow hyl he ha cm m2
  have hcm0 := hcm
  unfold maxLen at hcm
  have hx : (xs.length : Int) + 2 ≤ (cap : Int) := by omega
  have hx1 : (xs.length : Int) < (xs.length : Int) + 2 := by omega
  have hx2 : (xs.length : Int) + 1 < (xs.length : Int) + 2 := by omega
  have hxn : ((xs.length : Int) + 2).toNat = xs.length + 2 := by omega
  have hxm : ((xs.length : Int) + 1).toNat = xs.length + 1 := by omega
  go_enter Try.func10, Try.ntmps10
  go_wp2_with fail
  refine CS.mono ?_
  rintro e w1 ⟨rfl, n1, rfl⟩
  clear CS
  go_upto_region 3 with fail
  have G1 := grown_trans G0 (grown_drewN w n1 none)
  have HR1 : Hid ((w.drewN n1).ownsRow w0.heap.size 47 8 (.slice (some ⟨g, 0, none⟩) (xs.length + 2) cap) (xs.length + 2) (flatB (ys ++ [m77, m77]))) := owns_keptNone HR.out (grown_drewN _ _ none)
  have HI1 : Hid (∀ j (hj : j < ys.length), 0 ≤ j → ILent (w.drewN n1) w0.heap.size (.slice ys[j].a ys[j].b.code.length ys[j].ca) ys[j].b.code) := fun j hj _ => (HI.out _ (List.getElem_mem hj)).keptNone (grown_drewN _ _ none)
  clear HR HI m1 m2' G0
  generalize w.drewN n1 = w2 at *
  go_wp2
  go_loopw [6, 7] (fun ok i wr => ok = .bool true ∧ ∃ k : Nat, k ≤ xs.length ∧ i = .int .i64 k ∧ w0.grownBy wr none ∧ Hid (wr.ownsRow w0.heap.size 47 8 (.slice (some ⟨g, 0, none⟩) (xs.length + 2) cap) (xs.length + 2) (flatB (ys ++ [m77, m77]))) ∧ Hid (∀ j (hj : j < ys.length), k ≤ j → ILent wr w0.heap.size (.slice ys[j].a ys[j].b.code.length ys[j].ca) ys[j].b.code)) (fun _ i _ => xs.length - (intOf i).toNat)
  case atStart => exact ⟨rfl, 0, Nat.zero_le _, rfl, G1, HR1, HI1⟩
  case round =>
    clear G1 HR1 HI1
    obtain ⟨rfl, k, hk, rfl, G, HRr, HIr⟩ := hrel
    by_cases hlt : k < xs.length
    · have hl : (k : Int) < (xs.length : Int) := by omega
      have hky : k < ys.length := by have := HY.out; omega
      obtain ⟨b2, o2, hae, d2⟩ := (HA.out.1).blocks hlt
      have hb2 : b2 < w0.heap.size := by
        have := (HA.out.1).under hae (by intro e; have := congrArg List.length e; rw [flatB_len] at this; simp at this; omega)
        exact this
      have c0 := G.cell (d2 k hlt 0 _ rfl) (by simp)
      obtain ⟨b3, o3, hbe, d3⟩ := (bcv_front HRr.out).1.blocks hky
      simp only [Option.some.injEq, Addr.mk.injEq, and_true] at hbe
      obtain ⟨rfl, rfl⟩ := hbe
      have e0 := d3 k hky 0 _ rfl
      have hbb : ys[k].b = xs[k].b := by
        have := congrArg (fun z => z[k]?) HE.out
        simpa [gOf, hlt, hky] using this
      have hxk := ((HA.out.keptNone G).2 _ (List.getElem_mem hlt)).1
      have hmm := hlen _ (List.getElem_mem hlt)
      have hIk := HIr.out k hky (Nat.le_refl _)
      have HAPk : Hid (∀ j (hj : j < ys.length), k + 1 ≤ j → ∀ z, (ys[k].a.map (·.block)) = some z → (ys[j].a.map (·.block)) ≠ some z) := fun j hj hkj z hz => (List.pairwise_iff_getElem.1 HP.out) k j hky hj (by omega) z hz
      rw [hbb] at hIk e0
      rw [Nat.add_zero] at c0 e0
      rw [Nat.zero_add] at e0
      obtain ⟨-, hcvk, -, -, gk, hgk, hgk1, hgk2, hrowk⟩ := hIk.cv
      have HGK : Hid (ys[k].a = some ⟨gk, 0, none⟩) := hgk
      rw [hgk] at e0
      obtain ⟨code, hcode⟩ : ∃ code, xs[k].b.code = code := ⟨_, rfl⟩
      rw [hcode] at c0 e0 hxk hmm hrowk
      generalize xs[k].a = xa at *
      generalize xs[k].ca = xc at *
      obtain ⟨yc, hyc⟩ : ∃ yc, ys[k].ca = yc := ⟨_, rfl⟩
      rw [hyc] at e0 hrowk
      have hgg : gk ≠ g := fun e => by
        subst e
        rcases hrowk.2 with ⟨hv, -⟩ | ⟨g2, cap2, cur, hv, -, hg, -⟩
        · cases hv
        · simp only [Value.slice.injEq, Option.some.injEq, Addr.mk.injEq, and_true] at hv
          obtain ⟨rfl, -, -⟩ := hv
          rcases HRr.out.2 with ⟨hv2, -⟩ | ⟨g3, cap3, cur3, hv2, -, hg3, -⟩
          · cases hv2
          · simp only [Value.slice.injEq, Option.some.injEq, Addr.mk.injEq, and_true] at hv2
            obtain ⟨rfl, -, -⟩ := hv2
            rw [hg] at hg3
            simp only [Option.some.injEq, Obj.cells.injEq] at hg3
            exact absurd hg3.2.1 (by decide)
      have CK := fun W (G' : wr.grownBy W none) => ikept_any gk yc xa xc code W (owns_mono (owns_keptNone hrowk G') (Nat.zero_le _)) (hxk.keptNone G') hmm
      have HCK : Hid (∀ W, wr.grownBy W none → Calls Try.prog 27 #[.slice (some ⟨gk, 0, none⟩) code.length yc, .slice xa code.length xc] W fun e w' => e = .returned (.bool true) ∧ W.grownBy w' (some gk)) := CK
      clear CK d2 d3 hIk hcvk hxk hbb hgk hrowk hcode hyc
      subst hae
      go_upto_region 6 with fail
      refine wp_region_held_drew (S := fun V => V.cell? ⟨g, k * 8, none⟩ = some (.slice (some ⟨gk, 0, none⟩) code.length yc) ∧ V.cell? ⟨b2, o2 + k * 8, none⟩ = some (.slice xa code.length xc) ∧ w0.grownBy V none) (by kernel_rfl) (⟨(grown_drewN wr 1 none).cell e0 (by simp), (grown_drewN wr 1 none).cell c0 (by simp), grown_trans G (grown_drewN wr 1 none)⟩) (fun hHeld => ?_)
      refine wpAnyH_take (i := 0) (v := .slice (some ⟨g, 0, none⟩) xs.length cap) rfl (by kernel_rfl) (by kernel_rfl) (by kernel_rfl) (fun _ _ _ h => h) (Or.inl ⟨by rfl, fun W hW => ?_⟩) hHeld ?_
      · clear hW
        go_simp
      try simp only [Act.put, List.getElem_toArray, List.getElem_cons_zero, List.setIfInBounds_toArray, List.set_cons_zero, List.set_cons_succ]
      refine wpAnyH_take (i := 1) (v := .int .i64 (k : Int)) rfl (by kernel_rfl) (by kernel_rfl) (by kernel_rfl) (fun _ _ _ h => h) (Or.inl ⟨by rfl, fun W hW => ?_⟩) hHeld ?_
      · clear hW
        go_simp
      try simp only [Act.put, List.getElem_toArray, List.getElem_cons_zero, List.getElem_cons_succ, List.setIfInBounds_toArray, List.set_cons_zero, List.set_cons_succ]
      refine wpAnyH_take (i := 2) (v := .pointer (some ⟨g, k * 8, none⟩)) rfl (by kernel_rfl) (by kernel_rfl) (by kernel_rfl) (fun _ _ _ h => h) (Or.inl ⟨by rfl, fun W hW => ?_⟩) hHeld ?_
      · clear hW
        go_simp
      try simp only [Act.put, List.getElem_toArray, List.getElem_cons_zero, List.getElem_cons_succ, List.setIfInBounds_toArray, List.set_cons_zero, List.set_cons_succ]
      refine wpAnyH_take (i := 3) (v := .pointer (some ⟨g, k * 8, none⟩)) rfl (by kernel_rfl) (by kernel_rfl) (by kernel_rfl) (fun _ _ _ h => h) (Or.inl ⟨by rfl, fun W hW => ?_⟩) hHeld ?_
      · clear hW
        go_simp
      try simp only [Act.put, List.getElem_toArray, List.getElem_cons_zero, List.getElem_cons_succ, List.setIfInBounds_toArray, List.set_cons_zero, List.set_cons_succ]
      refine wpAnyH_take (i := 4) (v := .slice (some ⟨gk, 0, none⟩) code.length yc) rfl (by kernel_rfl) (by kernel_rfl) (by kernel_rfl) (fun _ _ _ h => h) (Or.inl ⟨by rfl, fun W hW => ?_⟩) hHeld ?_
      · have q0 := hW.1
        clear hW
        go_simp
      try simp only [Act.put, List.getElem_toArray, List.getElem_cons_zero, List.getElem_cons_succ, List.setIfInBounds_toArray, List.set_cons_zero, List.set_cons_succ]
      refine wpAnyH_take (i := 5) (v := .slice (some ⟨b2, o2, none⟩) xs.length ca) rfl (by kernel_rfl) (by kernel_rfl) (by kernel_rfl) (fun _ _ _ h => h) (Or.inl ⟨by rfl, fun W hW => ?_⟩) hHeld ?_
      · clear hW
        go_simp
      try simp only [Act.put, List.getElem_toArray, List.getElem_cons_zero, List.getElem_cons_succ, List.setIfInBounds_toArray, List.set_cons_zero, List.set_cons_succ]
      refine wpAnyH_take (i := 6) (v := .int .i64 (k : Int)) rfl (by kernel_rfl) (by kernel_rfl) (by kernel_rfl) (fun _ _ _ h => h) (Or.inl ⟨by rfl, fun W hW => ?_⟩) hHeld ?_
      · clear hW
        go_simp
      try simp only [Act.put, List.getElem_toArray, List.getElem_cons_zero, List.getElem_cons_succ, List.setIfInBounds_toArray, List.set_cons_zero, List.set_cons_succ]
      refine wpAnyH_take (i := 7) (v := .pointer (some ⟨b2, o2 + k * 8, none⟩)) rfl (by kernel_rfl) (by kernel_rfl) (by kernel_rfl) (fun _ _ _ h => h) (Or.inl ⟨by rfl, fun W hW => ?_⟩) hHeld ?_
      · clear hW
        go_simp
      try simp only [Act.put, List.getElem_toArray, List.getElem_cons_zero, List.getElem_cons_succ, List.setIfInBounds_toArray, List.set_cons_zero, List.set_cons_succ]
      refine wpAnyH_take (i := 8) (v := .pointer (some ⟨b2, o2 + k * 8, none⟩)) rfl (by kernel_rfl) (by kernel_rfl) (by kernel_rfl) (fun _ _ _ h => h) (Or.inl ⟨by rfl, fun W hW => ?_⟩) hHeld ?_
      · clear hW
        go_simp
      try simp only [Act.put, List.getElem_toArray, List.getElem_cons_zero, List.getElem_cons_succ, List.setIfInBounds_toArray, List.set_cons_zero, List.set_cons_succ]
      refine wpAnyH_take (i := 9) (v := .slice xa code.length xc) rfl (by kernel_rfl) (by kernel_rfl) (by kernel_rfl) (fun _ _ _ h => h) (Or.inl ⟨by rfl, fun W hW => ?_⟩) hHeld ?_
      · have q0 := hW.2.1
        clear hW
        go_simp
      try simp only [Act.put, List.getElem_toArray, List.getElem_cons_zero, List.getElem_cons_succ, List.setIfInBounds_toArray, List.set_cons_zero, List.set_cons_succ]
      refine wpAnyH_ready (rs := [10]) (by kernel_rfl) (by simp) (AllReadyH.cons rfl (fun K hK => ?_) AllReadyH.nil)
      go_simp
      refine (HCK.out _ (grown_drewN wr 1 none)).mono ?_
      rintro e w5 ⟨rfl, K5⟩
      go_wp2_with fail
      refine hK.out _ _ (⟨K5.cell hHeld.1 (by simpa using Ne.symm hgg), K5.cell hHeld.2.1 (by simp; omega), grown_trans_new hHeld.2.2 K5 (fun z e => by cases e; exact hgk1)⟩) (fun hHeld => ?_)
      clear hK K
      try simp only [Act.put, List.getElem_toArray, List.getElem_cons_zero, List.getElem_cons_succ, List.setIfInBounds_toArray, List.set_cons_zero, List.set_cons_succ]
      refine wpAnyH_take (i := 11) (v := .bool true) rfl (by kernel_rfl) (by kernel_rfl) (by kernel_rfl) (fun _ _ _ h => h) (Or.inl ⟨by rfl, fun W hW => ?_⟩) hHeld ?_
      · clear hW
        go_simp
      try simp only [Act.put, List.getElem_toArray, List.getElem_cons_zero, List.getElem_cons_succ, List.setIfInBounds_toArray, List.set_cons_zero, List.set_cons_succ]
      refine wpAnyH_take (i := 12) (v := .bool true) rfl (by kernel_rfl) (by kernel_rfl) (by kernel_rfl) (fun _ _ _ h => h) (Or.inl ⟨by rfl, fun W hW => ?_⟩) hHeld ?_
      · clear hW
        go_simp
      try simp only [Act.put, List.getElem_toArray, List.getElem_cons_zero, List.getElem_cons_succ, List.setIfInBounds_toArray, List.set_cons_zero, List.set_cons_succ]
      refine wpAnyH_take (i := 13) (v := .bool true) rfl (by kernel_rfl) (by kernel_rfl) (by kernel_rfl) (fun _ _ _ h => h) (Or.inl ⟨by rfl, fun W hW => ?_⟩) hHeld ?_
      · clear hW
        go_simp
      try simp only [Act.put, List.getElem_toArray, List.getElem_cons_zero, List.getElem_cons_succ, List.setIfInBounds_toArray, List.set_cons_zero, List.set_cons_succ]
      refine wpAnyH_take (i := 14) (v := .bool true) rfl (by kernel_rfl) (by kernel_rfl) (by kernel_rfl) (fun _ _ _ h => h) (Or.inl ⟨by rfl, fun W hW => ?_⟩) hHeld ?_
      · clear hW
        go_simp
      try simp only [Act.put, List.getElem_toArray, List.getElem_cons_zero, List.getElem_cons_succ, List.setIfInBounds_toArray, List.set_cons_zero, List.set_cons_succ]
      refine wpAnyH_done (by kernel_rfl) ?_ _

      have G5 := hHeld.2.2
      have K6 := grown_trans (grown_drewN wr 1 (some gk)) K5
      have HR5 : Hid (w5.ownsRow w0.heap.size 47 8 (.slice (some ⟨g, 0, none⟩) (xs.length + 2) cap) (xs.length + 2) (flatB (ys ++ [m77, m77]))) := World.ownsRow.kept HRr.out K6 (.inr (by simpa [Value.ownBlock] using Ne.symm hgg))
      have HI5 : Hid (∀ j (hj : j < ys.length), k + 1 ≤ j → ILent w5 w0.heap.size (.slice ys[j].a ys[j].b.code.length ys[j].ca) ys[j].b.code) := fun j hj hkj => (HIr.out j hj (by omega)).other K6 (HAPk.out j hj hkj gk (by rw [HGK.out]; rfl))
      clear hHeld HRr HIr HAPk HGK HCK K5 K6 c0 e0 G
      go_wp2
      go_roundw
      case rel => exact ⟨rfl, k + 1, by omega, by go_num, G5, HR5, HI5⟩
      case measure => simp [intOf]; omega
    · have hl : ¬ (k : Int) < (xs.length : Int) := by omega
      have R : BSp w0 g (cap * 8) wr := ⟨(BlkN.ofRow HRr.out).1, G⟩
      clear HRr HIr G
      go_wp2
      clear hk hlt hl
      go_loopw [8] (fun i wr => ∃ k : Nat, k ≤ xs.length + 2 ∧ i = .int .i64 k ∧ BSp w0 g (cap * 8) wr) (fun i _ => xs.length + 2 - (intOf i).toNat)
      case atStart => exact ⟨0, Nat.zero_le _, rfl, R⟩
      case round =>
        clear R
        obtain ⟨k, hk, rfl, R⟩ := hrel
        by_cases hlt : k < xs.length + 2
        · have hl : (k : Int) < (xs.length : Int) + 2 := by omega
          obtain ⟨u0, hu0⟩ := R.1.cell (i := k * 8) (by omega)
          have hf0 := R.1.free (k * 8)
          obtain ⟨u1, hu1⟩ := R.1.cell (i := k * 8 + 1) (by omega)
          have hf1 := R.1.free (k * 8 + 1)
          obtain ⟨u2, hu2⟩ := R.1.cell (i := k * 8 + 2) (by omega)
          have hf2 := R.1.free (k * 8 + 2)
          obtain ⟨u3, hu3⟩ := R.1.cell (i := k * 8 + 3) (by omega)
          have hf3 := R.1.free (k * 8 + 3)
          obtain ⟨u4, hu4⟩ := R.1.cell (i := k * 8 + 4) (by omega)
          have hf4 := R.1.free (k * 8 + 4)
          obtain ⟨u5, hu5⟩ := R.1.cell (i := k * 8 + 5) (by omega)
          have hf5 := R.1.free (k * 8 + 5)
          obtain ⟨u6, hu6⟩ := R.1.cell (i := k * 8 + 6) (by omega)
          have hf6 := R.1.free (k * 8 + 6)
          obtain ⟨u7, hu7⟩ := R.1.cell (i := k * 8 + 7) (by omega)
          have hf7 := R.1.free (k * 8 + 7)
          have R' := ((((((((R.set (p := ⟨g, k * 8, none⟩) hg0 (.slice none 0 0)).set (p := ⟨g, k * 8 + 1, none⟩) hg0 (.int .i64 (-7))).set (p := ⟨g, k * 8 + 2, none⟩) hg0 (.int .u16 0)).set (p := ⟨g, k * 8 + 3, none⟩) hg0 (.int .u8 0)).set (p := ⟨g, k * 8 + 4, none⟩) hg0 (.int .u8 0)).set (p := ⟨g, k * 8 + 5, none⟩) hg0 (.int .u32 0)).set (p := ⟨g, k * 8 + 6, none⟩) hg0 (.int .i64 7)).set (p := ⟨g, k * 8 + 7, none⟩) hg0 (.int .i64 0))
          clear R
          go_wp2
          go_roundw
          case rel => exact ⟨k + 1, by omega, by go_num, R'⟩
          case measure => simp [intOf]; omega
        · have hl : ¬ (k : Int) < (xs.length : Int) + 2 := by omega
          go_wp2
          go_ret
          exact ⟨rfl, R.2⟩

end Go.Proofs.Ytelgfegkobkhiaa
