/-
  Package graph as landed: Reach. The document's own Size, Measure and Reach of a graph that is taken. The document's own Code and Run.
-/
import Derived.Test.YtelgfegkobkhiaaLotP39
import Derived.Test.YtelgfegkobkhiaaGrH
import Derived.Test.YtelgfegkobkhiaaLotP36
import Derived.Test.YtelgfegkobkhiaaLotP33
namespace Go.Proofs.Ytelgfegkobkhiaa
open Go.RowKit
set_option maxRecDepth 100000

/-- The beginning of an owned row is one. -/
theorem owns_take15 {w : World} {base e size g n cap m : Nat} {vs : List Value} (h : w.ownsRow base e size (.slice (some ⟨g, 0, none⟩) n cap) n vs) (hm : m ≤ n) : w.ownsRow base e size (.slice (some ⟨g, 0, none⟩) m cap) m (vs.take (m * size)) := by
  have h0 := h.1
  rcases h.2 with ⟨h, _⟩ | ⟨g', cap', cur, hv, hb, hg, hc, hmx, hs, ht⟩
  · cases h
  · simp only [Value.slice.injEq, Option.some.injEq, Addr.mk.injEq] at hv
    obtain ⟨⟨rfl, _⟩, _, rfl⟩ := hv
    have hle : m * size ≤ n * size := Nat.mul_le_mul_right _ hm
    refine ⟨by rw [List.length_take, h0]; omega, .inr ⟨g, cap, cur, rfl, hb, hg, by omega, hmx, hs, ?_⟩⟩
    rw [← ht, List.take_take, Nat.min_eq_left hle]

theorem kinds_ne {w : World} {base base' e e' size size' n n' g g' cap cap' : Nat} {vs vs' : List Value} (h : w.ownsRow base e size (.slice (some ⟨g, 0, none⟩) n cap) n vs) (O : w.ownsRow base' e' size' (.slice (some ⟨g', 0, none⟩) n' cap') n' vs') (he : e ≠ e') : g ≠ g' := by
  rintro rfl
  rcases h.2 with ⟨hv, -⟩ | ⟨g2, cap2, cur, hv, -, hg, -⟩
  · cases hv
  · simp only [Value.slice.injEq, Option.some.injEq, Addr.mk.injEq, and_true] at hv
    obtain ⟨rfl, -, -⟩ := hv
    rcases O.2 with ⟨hv2, -⟩ | ⟨g3, cap3, cur3, hv2, -, hg3, -⟩
    · cases hv2
    · simp only [Value.slice.injEq, Option.some.injEq, Addr.mk.injEq, and_true] at hv2
      obtain ⟨rfl, -, -⟩ := hv2
      rw [hg] at hg3
      simp only [Option.some.injEq, Obj.cells.injEq] at hg3
      exact he hg3.2.1

def slLen : Value → Nat
  | .slice _ n _ => n
  | _ => 0
theorem bool_cells {w : World} {base gb n cap : Nat} {bs : List Bool} (h : w.ownsRow base 4 1 (.slice (some ⟨gb, 0, none⟩) n cap) n (bs.map Value.bool)) (hl : bs.length = n) : ∀ i, i < n → w.cell? ⟨gb, i, none⟩ = some (.bool (bs.getD i false)) := fun i hi => by
  have := h.cells (g := gb) rfl i (.bool (bs.getD i false)) (by rw [List.getElem?_map, List.getD_eq_getElem?_getD, List.getElem?_eq_getElem (by omega)]; rfl)
  rwa [Addr.add_lit, Nat.zero_add] at this
theorem lit_zero (w : World) (base : Nat) (hb : base ≤ w.heap.size) : (w.alloc (.cells #[.int .i64 0] 3)).ownsRow base 3 1 (.slice (some ⟨w.heap.size, 0, none⟩) 1 1) 1 ([0].map nv) :=
  ⟨rfl, .inr ⟨w.heap.size, 1, _, rfl, hb, heap_alloc_new w _, Nat.le_refl _, by unfold maxLen; omega, rfl, rfl⟩⟩
/-- What lies in memory while blocks are marked. -/
structure CmW (w wr : World) (g0 : List Bk) (n gb : Nat) (l : Value) (ls : List Nat) (bs : List Bool) (cur : Option Nat) : Prop where
  inv : CmI g0 bs ls cur
  row : wr.ownsRow w.heap.size 3 1 l ls.length (ls.map nv)
  marks : wr.ownsRow w.heap.size 4 1 (.slice (some ⟨gb, 0, none⟩) n n) n (bs.map Value.bool)
  up : w.grownBy wr none
  few : ls.length ≤ 10000

end Go.Proofs.Ytelgfegkobkhiaa

namespace Go.Proofs.Ytelgfegkobkhiaa
open Go.RowKit
set_option maxRecDepth 100000

theorem size_le (b : Bk) : sizeE b ≤ 3 := by unfold sizeE; split <;> omega
theorem meas_le (b : Bk) : measE b ≤ 3 := by unfold measE; split <;> omega

set_option maxHeartbeats 2000000 in
theorem refmeasure_any (a : Option Addr) (ca : Nat) (xs : List Bv) (w : World) (ha : GC w a xs) (T : TakenG (gOf xs)) :
    Calls Try.prog 17 #[.slice a xs.length ca] w fun e w' => e = .returned (.int .i64 (countG measE (gOf xs) : Int)) ∧ w.grownBy w' none := by
  have H : Hid (GC w a xs) := ha
  have HT : Hid (TakenG (gOf xs)) := T
  have hfew : xs.length ≤ 4096 := by have := T.few; rwa [gOf_len] at this
  clear ha T
  go_enter Try.func17, Try.ntmps17
  go_wp2
  go_loopw [3, 4] (fun s i wr => ∃ (k : Nat), k ≤ xs.length ∧ i = .int .i64 k ∧ s = .int .i64 (countG measE ((gOf xs).take k) : Int) ∧ w.grownBy wr none) (fun _ i _ => xs.length - (intOf i).toNat)
  case atStart => exact ⟨0, Nat.zero_le _, rfl, by simp [countG], World.grownBy.refl _ _⟩
  case round =>
    obtain ⟨k, hk, rfl, rfl, G⟩ := hrel
    by_cases hlt : k < xs.length
    · have hl : (k : Int) < (xs.length : Int) := by omega
      obtain ⟨b1, o1, rfl, h1⟩ := ((H.out.keptNone G).1).blocks hlt
      have h1' := h1 k hlt
      have hT := (HT.out.ok k (by rw [gOf_len]; exact hlt)).2.1
      have hcl : codeLen ((gOf xs).take (k + 1)) ≤ 4096 := Nat.le_trans (codeLen_take _ _) HT.out.room
      have hcc := countG_le measE 3 meas_le ((gOf xs).take (k + 1))
      rw [List.length_take] at hcc
      have HQ' := countG_snoc measE ((gOf xs)[k]'(by rw [gOf_len]; exact hlt)) ((gOf xs).take k)
      rw [List.take_append_getElem (by rw [gOf_len]; exact hlt)] at HQ'
      rw [HQ'] at hcc
      rw [show (gOf xs)[k]'(by rw [gOf_len]; exact hlt) = xs[k].b by simp [gOf]] at hT HQ' hcc
      clear h1
      generalize xs[k] = x at *
      obtain ⟨b, xa, xc⟩ := x
      have hcc' : countG measE ((gOf xs).take k) + b.code.length ≤ 20000 := by simp only at hcc; omega
      have HQ : Hid (countG measE ((gOf xs).take k) + (b.code.length + measE b) = countG measE ((gOf xs).take (k + 1))) := HQ'.symm
      clear HQ' hcc hcl
      have c0 := h1' 0 _ rfl
      have c1 := h1' 1 _ rfl
      clear h1'
      rw [Nat.add_zero] at c0
      have hen := ends_cases hT
      obtain ⟨code, en, last, yes, no⟩ := b
      simp only at c0 c1 hen hcc'
      clear hT
      generalize countG measE ((gOf xs).take k) = S at *
      rcases hen with rfl | rfl | rfl
      · have HQ2 : Hid (S + (code.length + 1) = countG measE ((gOf xs).take (k + 1))) := HQ.out
        clear HQ
        go_wp2
        go_roundw
        case rel =>
          refine ⟨k + 1, by omega, by go_num, ?_, G⟩
          rw [← HQ2.out]
          congr 1 <;> omega
        case measure => simp [intOf]; omega
      · have HQ2 : Hid (S + (code.length + 1) = countG measE ((gOf xs).take (k + 1))) := HQ.out
        clear HQ
        go_wp2
        go_roundw
        case rel =>
          refine ⟨k + 1, by omega, by go_num, ?_, G⟩
          rw [← HQ2.out]
          congr 1 <;> omega
        case measure => simp [intOf]; omega
      · have HQ2 : Hid (S + (code.length + 3) = countG measE ((gOf xs).take (k + 1))) := HQ.out
        clear HQ
        go_wp2
        go_roundw
        case rel =>
          refine ⟨k + 1, by omega, by go_num, ?_, G⟩
          rw [← HQ2.out]
          congr 1 <;> omega
        case measure => simp [intOf]; omega
    · have hl : ¬ (k : Int) < (xs.length : Int) := by omega
      have HE : Hid (countG measE ((gOf xs).take k) = countG measE (gOf xs)) := by
        show _ = _
        rw [List.take_of_length_le (by rw [gOf_len]; omega)]
      generalize countG measE ((gOf xs).take k) = S at *
      go_wp2
      go_ret
      rw [← HE.out]
      exact ⟨rfl, G⟩

theorem reachGTo_no {g : List Bk} {k : Nat} (h : (reachGTo g k).getD k false = false) : reachGTo g (k + 1) = reachGTo g k := by rw [reachGTo, if_neg (by rw [h]; simp)]
theorem reachGTo_yes {g : List Bk} {k : Nat} (h : (reachGTo g k).getD k false = true) (hk : k < g.length) : reachGTo g (k + 1) = (nextL g[k]).foldl (fun bs j => bs.set j true) (reachGTo g k) := by rw [reachGTo, if_pos h, reachG_at hk]

end Go.Proofs.Ytelgfegkobkhiaa

namespace Go.Proofs.Ytelgfegkobkhiaa
open Go.RowKit
set_option maxRecDepth 100000

set_option maxHeartbeats 400000 in
theorem refcode_any (a b : Option Addr) (ca cb : Nat) (xs : List In) (pk : List UInt8) (w : World) (ha : CV w a (flat xs)) :
    Calls Try.prog 41 #[.slice a xs.length ca, .slice b pk.length cb] w fun e w' => e = .returned (.int .i64 (runE xs pk)) ∧ w.grownBy w' none := by
  obtain ⟨P, E, hPE⟩ : ∃ P E, checkV xs = (P, E) := ⟨_, _, rfl⟩
  have HR : Hid (∀ (W : World), CV W a (flat xs) → Calls Try.prog 14 #[.slice a xs.length ca] W fun e w' => e = .returned (.tuple #[.int .i64 (P : Int), .int .i64 E]) ∧ W.grownBy w' none) := fun W h => by
    have k := refcheck_any a ca xs W h
    rw [hPE] at k
    exact k
  have H : Hid (CV w a (flat xs)) := ha
  clear ha
  by_cases hE : E = 0
  · subst hE
    by_cases hl : 65536 < pk.length
    · have e : runE xs pk = 51 := by simp [runE, hPE, hl]
      rw [e]
      have hl' : (65536 : Int) < (pk.length : Int) := by omega
      clear hPE
      go_enter Try.func41, Try.ntmps41
      go_wp2_with fail
      refine (HR.out _ H.out).mono ?_
      rintro e w' ⟨rfl, G⟩
      go_wp2
      go_ret
      exact ⟨rfl, G⟩
    · have e : runE xs pk = 0 := by simp [runE, hPE, hl]
      rw [e]
      have hl' : ¬ ((65536 : Int) < (pk.length : Int)) := by omega
      clear hPE
      go_enter Try.func41, Try.ntmps41
      go_wp2_with fail
      refine (HR.out _ H.out).mono ?_
      rintro e w' ⟨rfl, G⟩
      go_wp2
      go_ret
      exact ⟨rfl, G⟩
  · have e : runE xs pk = 50 := by simp [runE, hPE, hE]
    rw [e]
    have hEb : (E != 0) = true := by rw [bne_iff_ne]; exact hE
    clear hPE hE
    go_enter Try.func41, Try.ntmps41
    go_wp2_with fail
    refine (HR.out _ H.out).mono ?_
    rintro e w' ⟨rfl, G⟩
    go_wp2
    go_ret
    exact ⟨rfl, G⟩

end Go.Proofs.Ytelgfegkobkhiaa
