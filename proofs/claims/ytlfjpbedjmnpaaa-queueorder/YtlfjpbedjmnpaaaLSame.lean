/-
  SameLists: two lists of lists that read alike.
-/
import Derived.Test.YtlfjpbedjmnpaaaJoin
import Derived.Test.YtlfjpbedjmnpaaaSame
import Derived.Deep.RegionWith
import Derived.Deep.DeepCutAuto
namespace Go.Proofs.Ytlfjpbedjmnpaaa
open Go.RowKit
set_option maxRecDepth 100000

theorem part_kept {p : Part} {w w' : World} (h : p.ok w) (K : w.grownBy w' none) : p.ok w' := ⟨h.1.keptNone K, h.2⟩

set_option maxHeartbeats 1000000 in
theorem sameL_any (a b : Option Addr) (ca cb : Nat) (ps qs : List Part) (w : World) (ha : CV w a (ps.map Part.v)) (hb : CV w b (qs.map Part.v)) (hp : ∀ p ∈ ps, p.ok w) (hq : ∀ p ∈ qs, p.ok w) (he : ps.map (·.bs) = qs.map (·.bs)) (hn : ps.length ≤ 1099511627776) (hm : ∀ p ∈ ps, p.bs.length ≤ 9223372036854775807) :
    Calls Try.prog 28 #[.slice a ps.length ca, .slice b qs.length cb] w fun e w' => e = .returned (.bool true) ∧ w.grownBy w' none := by
  have hl : ps.length = qs.length := by have := congrArg List.length he; simpa using this
  have hlq : ((ps.length : Int) != (qs.length : Int)) = false := by rw [bne_eq_false_iff_eq]; omega
  have HA : Hid (CV w a (ps.map Part.v) ∧ CV w b (qs.map Part.v)) := ⟨ha, hb⟩
  have HP : Hid ((∀ p ∈ ps, p.ok w) ∧ ∀ p ∈ qs, p.ok w) := ⟨hp, hq⟩
  have HE : Hid (ps.map (·.bs) = qs.map (·.bs)) := he
  have HL : Hid (ps.length = qs.length) := hl
  clear ha hb hp hq he hl
  go_enter Try.func28, Try.ntmps28
  go_upto_region 4 with fail
  go_loopw [5] (fun i wr => ∃ k : Nat, k ≤ ps.length ∧ i = .int .i64 k ∧ w.grownBy wr none) (fun i _ => ps.length - (intOf i).toNat)
  case atStart => exact ⟨0, Nat.zero_le _, rfl, World.grownBy.refl _ _⟩
  case round =>
    obtain ⟨k, hk, rfl, K⟩ := hrel
    by_cases hlt : k < ps.length
    · have hlq2 : k < qs.length := by have := HL.out; omega
      have hli : (k : Int) < (ps.length : Int) := by omega
      have hlj : (k : Int) < (qs.length : Int) := by omega
      obtain ⟨b1, o1, rfl, d1⟩ := HA.out.1.parts hlt
      obtain ⟨b2, o2, rfl, d2⟩ := HA.out.2.parts hlq2
      have e1 := K.cell (d1 k hlt) (by simp)
      have e2 := K.cell (d2 k hlq2) (by simp)
      have hbs : ps[k].bs = qs[k].bs := by
        have := congrArg (fun z => z[k]?) HE.out
        simpa [hlt, hlq2] using this
      have hp1 := (HP.out.1 _ (List.getElem_mem hlt)).1.keptNone K
      have hp2 := (HP.out.2 _ (List.getElem_mem hlq2)).1.keptNone K
      have hmm := hm _ (List.getElem_mem hlt)
      rw [← hbs] at e2 hp2
      obtain ⟨xs, hxs⟩ : ∃ xs, ps[k].bs = xs := ⟨_, rfl⟩
      rw [hxs] at e1 e2 hp1 hp2 hmm
      have HS : Hid (∀ n, Calls Try.prog 19 #[.slice ps[k].ao xs.length ps[k].cap, .slice qs[k].ao xs.length qs[k].cap] (wr.drewN n) fun e w' => e = .returned (.bool true) ∧ w.grownBy w' none) := fun n => by
        refine (same_any _ _ _ _ xs (wr.drewN n) (hp1.keptNone (grown_drewN _ _ none)) (hp2.keptNone (grown_drewN _ _ none)) hmm).mono ?_
        rintro e w' ⟨rfl, m, rfl⟩
        exact ⟨rfl, grown_trans K (grown_trans (grown_drewN _ _ none) (grown_drewN _ _ none))⟩
      generalize ps[k].ao = a1 at *
      generalize ps[k].cap = c1 at *
      generalize qs[k].ao = a2 at *
      generalize qs[k].cap = c2 at *
      clear hp1 hp2 d1 d2 hbs hxs
      go_upto_region 6 with fail
      go_region_with (go_at_call 19; refine (HS.out _).mono ?_; rintro e w5 ⟨rfl, K5⟩)
      all_goals
        go_wp2
        go_roundw
        case rel => exact ⟨k + 1, by omega, by go_num, K5⟩
        case measure => simp [intOf]; omega
    · obtain rfl : k = ps.length := by omega
      go_wp2
      go_ret
      exact ⟨rfl, K⟩

end Go.Proofs.Ytlfjpbedjmnpaaa
