/-
  Lists of ints: CopyInts, LendInts, KeptInts; SpoilWords and SpoilLists of what is owned.
-/
import Derived.Test.YtlfjpbedjmnpaaaQuI
import Derived.Test.YtlfjpbedjmnpaaaWSpoil
import Derived.Test.YtlfjpbedjmnpaaaLPart
namespace Go.Proofs.Ytlfjpbedjmnpaaa
open Go.RowKit
set_option maxRecDepth 100000

theorem iv_one (xs : List Int) : ∀ u ∈ xs.map iv, u.oneCell' = true := by
  intro u hu
  obtain ⟨z, _, rfl⟩ := List.mem_map.1 hu
  rfl

set_option maxHeartbeats 400000 in
theorem zcopy_any (a : Option Addr) (ca : Nat) (xs : List Int) (w : World) (ha : CV w a (xs.map iv)) (hc0 : a = none → ca = 0) (hm : xs.length * 8 ≤ 140737488355328) :
    Calls Try.prog 12 #[.slice a xs.length ca] w fun e w' => ∃ v, e = .returned v ∧ ZOwns w' w.heap.size v xs ∧ w.grownBy w' none := by
  obtain ⟨i0, hi, hz0, hz1, hz2⟩ := info_parts infoInt
  have H : Hid (CV w a (xs.map iv)) := ha
  clear ha
  go_enter Try.func12, Try.ntmps12
  go_wp2_with (at_builtin; refine wpList_append_cv rfl (.tmp 3) (.tmp 4) 22 rfl 3 i0 _ 1 8 Try.underlying22 hi hz0 hz1 hz2 rfl (by decide) w.heap.size _ 0 [] rfl ?q1 a xs.length ca (xs.map iv) rfl (by simp) hc0 ?q2 (iv_one xs) ?q3 ?q4 ?q5 ?q6)
  case q1 => exact World.ownsRow_made w #[] 0 (Nat.le_refl _) (Nat.zero_le _) rfl
  case q2 => exact H.out.keptNone (World.grownBy_alloc _ _ _)
  case q3 => unfold maxLen; omega
  case q4 => omega
  case q5 => simp
  case q6 =>
    intro v' w' h1 h2
    have G : w.grownBy w' none := grown_trans_new (World.grownBy_alloc w _ _) h2 (by intro x hx; simp [Value.ownBlock] at hx; omega)
    have O : ZOwns w' w.heap.size v' xs := by simpa using h1
    clear h2 h1
    go_wp2
    go_ret
    exact ⟨v', rfl, O, G⟩

/-- What was lent: ints with three marked ones behind them. -/
def ZLent (w : World) (base : Nat) (v : Value) (xs : List Int) : Prop :=
  ∃ g cap, v = .slice (some ⟨g, 0, none⟩) xs.length cap ∧ xs.length + 3 ≤ cap ∧ cap ≤ maxLen ∧ base ≤ g ∧ g < w.heap.size ∧ w.ownsRow base 3 1 (.slice (some ⟨g, 0, none⟩) (xs.length + 3) cap) (xs.length + 3) ((xs ++ [-77, -77, -77]).map iv)

set_option maxHeartbeats 400000 in
theorem zlend_any (a : Option Addr) (ca : Nat) (xs : List Int) (w : World) (ha : CV w a (xs.map iv)) (hc0 : a = none → ca = 0) (hm : xs.length * 8 ≤ 140737488351232) :
    Calls Try.prog 8 #[.slice a xs.length ca] w fun e w' => ∃ v, e = .returned v ∧ ZLent w' w.heap.size v xs ∧ w.grownBy w' none := by
  obtain ⟨i0, hi, hz0, hz1, hz2⟩ := info_parts infoInt
  go_enter Try.func8, Try.ntmps8
  go_wp2_with fail
  refine (zcopy_any a ca xs _ ha hc0 (by omega)).mono ?_
  rintro e w1 ⟨v, rfl, h1, h2⟩
  clear ha
  go_wp2_with (at_builtin; refine wpList_append_cv rfl (.tmp 5) (.tmp 6) 22 rfl 3 i0 _ 1 8 Try.underlying22 hi hz0 hz1 hz2 rfl (by decide) w.heap.size _ xs.length (xs.map iv) rfl ?q1 (some ⟨w1.heap.size, 0, none⟩) 3 3 ([-77, -77, -77].map iv) rfl (by simp) (by simp) ?q2 (iv_one _) ?q3 ?q4 ?q5 ?q6)
  case q1 => exact h1.alloc _
  case q2 => exact cv_lit w1 _ _
  case q3 => unfold maxLen; omega
  case q4 => omega
  case q5 => have := h2.size; simp; omega
  case q6 =>
    intro v' w' h3 h4
    have G : w.grownBy w' none := grown_trans_new h2 (grown_trans (World.grownBy_alloc w1 _ _) h4) (fun x hx => (h1.lt x hx).1)
    have e3 : xs.map iv ++ [iv (-77), iv (-77), iv (-77)] = (xs ++ [-77, -77, -77]).map iv := by simp
    rw [e3] at h3
    obtain ⟨g, cap, hv, hc, hcm, hg1, hg2⟩ := owns_head h3 (by omega)
    subst hv
    have R : ZLent w' w.heap.size (.slice (some ⟨g, 0, none⟩) xs.length cap) xs := ⟨g, cap, rfl, hc, hcm, hg1, hg2, h3⟩
    clear h4 h3 h2 h1
    unfold maxLen at hcm
    have hx : (xs.length : Int) ≤ (cap : Int) := by omega
    go_wp2
    go_ret
    exact ⟨_, rfl, R, G⟩

theorem zfront {w : World} {base g cap n : Nat} {xs ys : List Int} (h : w.ownsRow base 3 1 (.slice (some ⟨g, 0, none⟩) n cap) n ((xs ++ ys).map iv)) : CV w (some ⟨g, 0, none⟩) (xs.map iv) ∧ CV w (some ⟨g, xs.length, none⟩) (ys.map iv) := by
  refine ⟨⟨fun h => (by cases h), fun ad had i hi => ?_⟩, ⟨fun h => (by cases h), fun ad had i hi => ?_⟩⟩
  · obtain rfl := Option.some.inj had
    have hi' : i < xs.length := by simpa using hi
    refine h.cells (g := g) rfl i _ ?_
    rw [List.map_append, List.getElem?_append_left hi, List.getElem?_eq_getElem hi]
  · obtain rfl := Option.some.inj had
    have hi' : i < ys.length := by simpa using hi
    have := h.cells (g := g) rfl (xs.length + i) (iv ys[i]) (by simp [hi'])
    rw [Addr.add_lit, Nat.zero_add] at this
    rw [Addr.add_lit, this]
    simp

theorem ZLent.front {w : World} {base : Nat} {v : Value} {xs : List Int} (h : ZLent w base v xs) : ∃ g cap, v = .slice (some ⟨g, 0, none⟩) xs.length cap ∧ base ≤ g ∧ g < w.heap.size ∧ CV w (some ⟨g, 0, none⟩) (xs.map iv) ∧ (∃ cur, QBk w g 3 cur) := by
  obtain ⟨g, cap, rfl, hc, hcm, hb, hg, O⟩ := h
  refine ⟨g, cap, rfl, hb, hg, (zfront O).1, ?_⟩
  rcases O.2 with ⟨hv, _⟩ | ⟨g', cap', cur, hv, _, hg', _⟩
  · cases hv
  · simp only [Value.slice.injEq, Option.some.injEq, Addr.mk.injEq] at hv
    obtain ⟨⟨rfl, -⟩, -, -⟩ := hv
    exact ⟨cur, hg'⟩
theorem ZLent.keptNone {w w' : World} {base : Nat} {v : Value} {xs : List Int} (h : ZLent w base v xs) (G : w.grownBy w' none) : ZLent w' base v xs := by
  obtain ⟨g, cap, hv, hc, hcm, hb, hg, O⟩ := h
  exact ⟨g, cap, hv, hc, hcm, hb, Nat.lt_of_lt_of_le hg G.size, owns_keptNone O G⟩

set_option maxHeartbeats 1000000 in
theorem zkept_any (base : Nat) (v : Value) (ao : Option Addr) (ca : Nat) (xs : List Int) (w : World) (hL : ZLent w base v xs) (ha : CV w ao (xs.map iv)) (hm : xs.length * 8 ≤ 140737488351232) :
    Calls Try.prog 10 #[v, .slice ao xs.length ca] w fun e w' => e = .returned (.bool true) ∧ w.grownBy w' v.ownBlock := by
  obtain ⟨g, cap, rfl, hc, hcm, hb, hg, O⟩ := hL
  obtain ⟨c1, c2⟩ := zfront O
  have HB : Hid (w.ownsRow base 3 1 (.slice (some ⟨g, 0, none⟩) (xs.length + 3) cap) (xs.length + 3) ((xs ++ [-77, -77, -77]).map iv)) := O
  have HC : Hid (CV w (some ⟨g, xs.length, none⟩) ([-77, -77, -77].map iv)) := c2
  clear O c2
  have hcm0 := hcm
  unfold maxLen at hcm
  have hx : (xs.length : Int) + 3 ≤ (cap : Int) := by omega
  show Calls Try.prog 10 #[.slice (some ⟨g, 0, none⟩) xs.length cap, .slice ao xs.length ca] w fun e w' => e = .returned (.bool true) ∧ w.grownBy w' (some g)
  go_enter Try.func10, Try.ntmps10
  go_wp2_with fail
  refine (zsame_any _ ao _ ca xs _ c1 ha (by omega)).mono ?_
  rintro e w1 ⟨rfl, n1, rfl⟩
  clear c1 ha
  go_wp2_with fail
  have G1 : w.grownBy ((w.drewN n1).alloc (.cells #[.int .i64 (-77), .int .i64 (-77), .int .i64 (-77)] 3)) none := grown_trans (grown_drewN w n1 none) (World.grownBy_alloc _ _ _)
  have C1 := HC.out.keptNone G1
  have C2 : CV ((w.drewN n1).alloc (.cells #[.int .i64 (-77), .int .i64 (-77), .int .i64 (-77)] 3)) (some ⟨w.heap.size, 0, none⟩) ([-77, -77, -77].map iv) := cv_lit (w.drewN n1) 3 ([-77, -77, -77].map iv)
  have B1 := owns_keptNone HB.out G1
  generalize (w.drewN n1).alloc (.cells #[.int .i64 (-77), .int .i64 (-77), .int .i64 (-77)] 3) = w2 at *
  refine (zsame_any _ _ _ _ [-77, -77, -77] _ C1 C2 (by simp)).mono ?_
  rintro e w3 ⟨rfl, n2, rfl⟩
  clear C1 C2
  have G2 : w.grownBy (w2.drewN n2) none := grown_trans G1 (grown_drewN _ _ _)
  have B2 : (w2.drewN n2).ownsRow base 3 1 (.slice (some ⟨g, 0, none⟩) (xs.length + 3) cap) (xs.length + 3) ((xs ++ [-77, -77, -77]).map iv) := owns_keptNone B1 (grown_drewN _ _ _)
  clear G1 B1
  generalize w2.drewN n2 = w3 at *
  have SP : Calls Try.prog 22 #[.slice (some ⟨g, 0, none⟩) (xs.length + 3) cap] w3 fun e w' => e = .returned (.tuple #[]) ∧ w3.grownBy w' (some g) := by
    have el : (xs ++ [-77, -77, -77]).length = xs.length + 3 := by simp
    have := zspoil_own (base := base) (v := .slice (some ⟨g, 0, none⟩) (xs.length + 3) cap) (xs := xs ++ [-77, -77, -77]) w3 (by unfold ZOwns; rw [el]; exact B2) (by rw [el]; omega)
    exact this
  go_wp2_with fail
  refine SP.mono ?_
  rintro e w4 ⟨rfl, G3⟩
  have G4 : w.grownBy w4 (some g) := grown_trans (grown_mono G2) G3
  clear G3 G2 B2 SP
  go_wp2
  go_ret
  exact ⟨rfl, G4⟩

theorem wspoil_own {base : Nat} {v : Value} {n : Nat} {vs : List Value} (w : World) (h : w.ownsRow base 60 1 v n vs) (hm : n + 1 ≤ 35184372088832) :
    Calls Try.prog 31 #[v] w fun e w' => e = .returned (.tuple #[]) ∧ w.grownBy w' v.ownBlock := by
  rcases h.2 with ⟨rfl, _⟩ | ⟨g, cap, cur, rfl, hb, hg, hc, hcm, hs, ht⟩
  · exact Wd.spoil_nil w
  · exact Wd.spoil_any g n cap w ⟨cur, hg, by omega⟩ hc hcm hm

/-- The frames' blocks. -/
def fsBlk (fs : List Fr) (x : Nat) : Prop := x ∈ fs.flatMap gf1

set_option maxHeartbeats 2000000 in
/-- SpoilLists of a row of frames. -/
theorem spoilLists_any (base : Nat) (v : Value) (fs : List Fr) (w : World) (O : w.ownsRow base 35 1 v fs.length (fs.map Fr.v)) (hf : ∀ f ∈ fs, ∃ b, Owns w b f.v f.b) (h1 : ∀ x, (fs.flatMap gf1).count x ≤ 1) (hl : ∀ f ∈ fs, f.b.length ≤ 65535) (hn : fs.length ≤ 100000) :
    Calls Try.prog 29 #[v] w fun e w' => e = .returned (.tuple #[]) ∧ GW w w' (fun x => v.ownBlock = some x ∨ fsBlk fs x) := by
  obtain ⟨vl, vc, hv⟩ : ∃ (a : Option Addr) (c : Nat), v = .slice a fs.length c := by
    obtain ⟨a, c, hv, -⟩ := CV.ofRow O
    exact ⟨a, c, hv⟩
  subst hv
  have HF : Hid ((∀ f ∈ fs, ∃ b, Owns w b f.v f.b) ∧ (∀ x, (fs.flatMap gf1).count x ≤ 1) ∧ ∀ f ∈ fs, f.b.length ≤ 65535) := ⟨hf, h1, hl⟩
  have HO : Hid (w.ownsRow base 35 1 (.slice vl fs.length vc) fs.length (fs.map Fr.v)) := O
  clear hf h1 hl O
  go_enter Try.func29, Try.ntmps29
  go_wp2
  go_loopw [2] (fun i wr => ∃ k : Nat, k ≤ fs.length ∧ i = .int .i64 k ∧ GW w wr (fun x => (Value.slice vl fs.length vc).ownBlock = some x ∨ fsBlk fs x) ∧ (∃ vs, wr.ownsRow base 35 1 (.slice vl fs.length vc) fs.length vs ∧ ∀ j, k ≤ j → vs[j]? = (fs.map Fr.v)[j]?) ∧ ∀ j (hj : j < fs.length), k ≤ j → ∃ b, Owns wr b fs[j].v fs[j].b) (fun i _ => fs.length - (intOf i).toNat)
  case atStart => exact ⟨0, Nat.zero_le _, rfl, GW.refl _ _, ⟨_, HO.out, fun _ _ => rfl⟩, fun j hj _ => HF.out.1 _ (List.getElem_mem hj)⟩
  case round =>
    obtain ⟨k, hk, rfl, G, ⟨vs, O, hvs⟩, hfr⟩ := hrel
    by_cases hlt : k < fs.length
    · have hkl : vs.length = fs.length := by have := O.1; omega
      obtain ⟨g, cap, hv, hc, hcm, hb, hg⟩ := owns_head O (by omega)
      simp only [Value.slice.injEq] at hv
      obtain ⟨rfl, -, rfl⟩ := hv
      have hvk : vs[k]? = some fs[k].v := by rw [hvs k (Nat.le_refl _)]; simp [hlt]
      have ck : wr.cell? ⟨g, k, none⟩ = some fs[k].v := by rw [O.cellAt k (by omega), hvk]
      obtain ⟨bk, Ok⟩ := hfr k hlt (Nat.le_refl _)
      have hfl := HF.out.2.2 _ (List.getElem_mem hlt)
      have CS := spoil_own wr Ok (by omega)
      obtain ⟨ak, kc, hfv, -⟩ := Ok.shape
      have hne : ∀ x, fs[k].v.ownBlock = some x → x ≠ g := fun x hx e => by
        subst e
        rcases O.2 with ⟨hv, _⟩ | ⟨g', cap', cur, hv, _, hg', _⟩
        · cases hv
        · simp only [Value.slice.injEq, Option.some.injEq, Addr.mk.injEq] at hv
          obtain ⟨⟨rfl, -⟩, -, -⟩ := hv
          rcases Ok.2 with ⟨hv2, _⟩ | ⟨g2, cap2, cur2, hv2, _, hg2, _⟩
          · rw [hv2] at hx; cases hx
          · rw [hv2] at hx
            simp only [Value.ownBlock, Option.some.injEq] at hx
            subst hx
            exact QBk.tys (show QBk wr g2 35 cur from hg') (show QBk wr g2 5 cur2 from hg2) (by decide) rfl
      have hbl : ∀ x, fs[k].v.ownBlock = some x → fsBlk fs x := fun x hx => List.mem_flatMap.2 ⟨fs[k], List.getElem_mem hlt, mem_gf1.2 hx⟩
      have hoth : ∀ j (hj : j < fs.length), k < j → ∀ x, fs[k].v.ownBlock = some x → fs[j].v.ownBlock ≠ some x := fun j hj hkj x hx hx' => by
        have h2 := HF.out.2.1 x
        have h3 : 2 ≤ (fs.flatMap gf1).count x := by
          have e1 : fs = fs.take j ++ fs.drop j := (List.take_append_drop j fs).symm
          rw [e1, List.flatMap_append, List.count_append]
          have a1 : 0 < ((fs.take j).flatMap gf1).count x := List.count_pos_iff.2 (List.mem_flatMap.2 ⟨fs[k], List.mem_take_iff_getElem.2 ⟨k, by omega, by simp⟩, mem_gf1.2 hx⟩)
          have a2 : 0 < ((fs.drop j).flatMap gf1).count x := List.count_pos_iff.2 (List.mem_flatMap.2 ⟨fs[j], List.mem_drop_iff_getElem.2 ⟨0, by omega, by simp⟩, mem_gf1.2 hx'⟩)
          omega
        omega
      have HR : Hid (∀ w2, wr.grownBy w2 fs[k].v.ownBlock → ∀ u, ∃ G2 : GW w ((w2.alloc (.cells #[.int .u8 7] 5)).setCell ⟨g, k, none⟩ u) (fun x => (Value.slice (some ⟨g, 0, none⟩) fs.length vc).ownBlock = some x ∨ fsBlk fs x), (∃ vs, ((w2.alloc (.cells #[.int .u8 7] 5)).setCell ⟨g, k, none⟩ u).ownsRow base 35 1 (.slice (some ⟨g, 0, none⟩) fs.length vc) fs.length vs ∧ ∀ j, k + 1 ≤ j → vs[j]? = (fs.map Fr.v)[j]?) ∧ (∀ j (hj : j < fs.length), k + 1 ≤ j → ∃ b, Owns ((w2.alloc (.cells #[.int .u8 7] 5)).setCell ⟨g, k, none⟩ u) b fs[j].v fs[j].b)) := fun w2 K u => by
        have K2 := World.grownBy_alloc w2 (.cells #[.int .u8 7] 5) none
        have O2 : (w2.alloc (.cells #[.int .u8 7] 5)).ownsRow base 35 1 (.slice (some ⟨g, 0, none⟩) fs.length vc) fs.length vs := owns_keptNone (World.ownsRow.kept O K (by
          cases hx : fs[k].v.ownBlock with
          | none => right; simp [Value.ownBlock]
          | some x => right; simp only [Value.ownBlock, ne_eq, Option.some.injEq]; exact fun e => hne x hx e.symm)) K2
        refine ⟨((G.trans (GW.of (S := fun x => fs[k].v.ownBlock = some x) K (fun x hx => hx)) (fun x _ h => .inr (hbl x h))).trans (GW.non (S := fun _ => False) K2) (fun _ _ h => h.elim)).set _ _ (.inl (.inl rfl)), ⟨vs.set k u, (O2.stored k u).1, fun j hj => by rw [List.getElem?_set, if_neg (by omega)]; exact hvs j (by omega)⟩, fun j hj hkj => ?_⟩
        obtain ⟨b, Oj⟩ := hfr j hj (by omega)
        refine ⟨b, World.ownsRow.kept (owns_keptNone (World.ownsRow.kept Oj K ?_) K2) (grown_set1 _ ⟨g, k, none⟩ u) ?_⟩
        · cases hx : fs[k].v.ownBlock with
          | none => cases hj2 : fs[j].v.ownBlock <;> simp
          | some x =>
            cases hj2 : fs[j].v.ownBlock with
            | none => exact .inl rfl
            | some y =>
              right
              intro e
              exact hoth j hj (by omega) x hx (by rw [hj2]; exact e)
        · cases hj2 : fs[j].v.ownBlock with
          | none => exact .inl rfl
          | some y =>
            right
            intro e
            have e : y = g := Option.some.inj e
            subst e
            rcases O.2 with ⟨hv, _⟩ | ⟨g', cap', cur, hv, _, hg', _⟩
            · cases hv
            · simp only [Value.slice.injEq, Option.some.injEq, Addr.mk.injEq] at hv
              obtain ⟨⟨rfl, -⟩, -, -⟩ := hv
              rcases Oj.2 with ⟨hv2, _⟩ | ⟨g2, cap2, cur2, hv2, _, hg2, _⟩
              · rw [hv2] at hj2; cases hj2
              · rw [hv2] at hj2
                simp only [Value.ownBlock, Option.some.injEq] at hj2
                subst hj2
                exact QBk.tys (show QBk wr g2 35 cur from hg') (show QBk wr g2 5 cur2 from hg2) (by decide) rfl
      have HW : Hid (∀ w2, wr.grownBy w2 fs[k].v.ownBlock → (w2.alloc (.cells #[.int .u8 7] 5)).cell? ⟨g, k, none⟩ = some fs[k].v ∧ (w2.alloc (.cells #[.int .u8 7] 5)).frozen? ⟨g, k, none⟩ = false) := fun w2 K => by
        have K2 := World.grownBy_alloc w2 (.cells #[.int .u8 7] 5) none
        have O2 : (w2.alloc (.cells #[.int .u8 7] 5)).ownsRow base 35 1 (.slice (some ⟨g, 0, none⟩) fs.length vc) fs.length vs := owns_keptNone (World.ownsRow.kept O K (by
          cases hx : fs[k].v.ownBlock with
          | none => right; simp [Value.ownBlock]
          | some x => right; simp only [Value.ownBlock, ne_eq, Option.some.injEq]; exact fun e => hne x hx e.symm)) K2
        exact ⟨by rw [O2.cellAt k (by omega), hvk], O2.frozenAt k⟩
      have hli : (k : Int) < (fs.length : Int) := by omega
      clear G O hvs hfr hvk Ok hne hbl hoth hfl hkl
      rw [hfv] at ck CS
      go_wp2_with fail
      refine CS.mono ?_
      rintro e w2 ⟨rfl, K⟩
      rw [← hfv] at K
      obtain ⟨ck2, fk2⟩ := HW.out w2 K
      have HE : Hid _ := HR.out w2 K
      have HZ : Hid (∀ u, ∃ W, (w2.alloc (.cells #[.int .u8 7] 5)).setCell ⟨g, k, none⟩ u = W ∧ GW w W (fun x => (Value.slice (some ⟨g, 0, none⟩) fs.length vc).ownBlock = some x ∨ fsBlk fs x) ∧ (∃ vs, W.ownsRow base 35 1 (.slice (some ⟨g, 0, none⟩) fs.length vc) fs.length vs ∧ ∀ j, k + 1 ≤ j → vs[j]? = (fs.map Fr.v)[j]?) ∧ (∀ j (hj : j < fs.length), k + 1 ≤ j → ∃ b, Owns W b fs[j].v fs[j].b)) := fun u => by
        obtain ⟨h1, h2, h3⟩ := HE.out u
        exact ⟨_, rfl, h1, h2, h3⟩
      clear CS K HR HW ck HE
      go_upto_region 4 with fail
      go_wp2
      obtain ⟨W, hW, h1, h2, h3⟩ := HZ.out (.slice (some ⟨w2.heap.size, 0, none⟩) 1 1)
      rw [hW]
      have HZ2 : Hid _ := And.intro h1 (And.intro h2 h3)
      clear h1 h2 h3 hW HZ ck2 fk2
      go_roundw
      case rel => exact ⟨k + 1, by omega, by go_num, HZ2.out.1, HZ2.out.2.1, HZ2.out.2.2⟩
      case measure => simp [intOf]; omega
    · obtain rfl : k = fs.length := by omega
      have HG : Hid (GW w wr (fun x => (Value.slice vl fs.length vc).ownBlock = some x ∨ fsBlk fs x)) := G
      clear G O hvs hfr
      go_wp2
      go_end0
      exact ⟨rfl, HG.out⟩

end Go.Proofs.Ytlfjpbedjmnpaaa
