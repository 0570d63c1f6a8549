/-
  Package graph as landed: Reach.
-/
import Derived.Test.YtpoleldfoahpoaaLotP6
import Derived.Test.YtpoleldfoahpoaaLotP15
import Derived.Test.YtpoleldfoahpoaaGrR
namespace Go.Proofs.Ytpoleldfoahpoaa
open Go.RowKit
set_option maxRecDepth 100000

/-- The beginning of an owned row is one. -/
theorem owns_take15 {w : World} {base e size g n cap m : Nat} {vs : List Value} (h : w.ownsRow base e size (.slice (some ⟨g, 0, none⟩) n cap) n vs) (hm : m ≤ n) : w.ownsRow base e size (.slice (some ⟨g, 0, none⟩) m cap) m (vs.take (m * size)) := by
  have h0 := h.1
  rcases h.2 with ⟨h, _⟩ | ⟨g', cap', cur, hv, hb, hg, hc, hmx, hs, ht⟩
  · cases h
  · simp only [Value.slice.injEq, Option.some.injEq, Addr.mk.injEq] at hv
    obtain ⟨⟨rfl, _⟩, _, rfl⟩ := hv
    have hle : m * size ≤ n * size := Nat.mul_le_mul_right _ hm
    refine ⟨by rw [List.length_take, h0]; omega, .inr ⟨g, cap, cur, rfl, hb, hg, by omega, hmx, hs, ?_⟩⟩
    rw [← ht, List.take_take, Nat.min_eq_left hle]

theorem kinds_ne {w : World} {base base' e e' size size' n n' g g' cap cap' : Nat} {vs vs' : List Value} (h : w.ownsRow base e size (.slice (some ⟨g, 0, none⟩) n cap) n vs) (O : w.ownsRow base' e' size' (.slice (some ⟨g', 0, none⟩) n' cap') n' vs') (he : e ≠ e') : g ≠ g' := by
  rintro rfl
  rcases h.2 with ⟨hv, -⟩ | ⟨g2, cap2, cur, hv, -, hg, -⟩
  · cases hv
  · simp only [Value.slice.injEq, Option.some.injEq, Addr.mk.injEq, and_true] at hv
    obtain ⟨rfl, -, -⟩ := hv
    rcases O.2 with ⟨hv2, -⟩ | ⟨g3, cap3, cur3, hv2, -, hg3, -⟩
    · cases hv2
    · simp only [Value.slice.injEq, Option.some.injEq, Addr.mk.injEq, and_true] at hv2
      obtain ⟨rfl, -, -⟩ := hv2
      rw [hg] at hg3
      simp only [Option.some.injEq, Obj.cells.injEq] at hg3
      exact he hg3.2.1

def slLen : Value → Nat
  | .slice _ n _ => n
  | _ => 0
theorem bool_cells {w : World} {base gb n cap : Nat} {bs : List Bool} (h : w.ownsRow base 4 1 (.slice (some ⟨gb, 0, none⟩) n cap) n (bs.map Value.bool)) (hl : bs.length = n) : ∀ i, i < n → w.cell? ⟨gb, i, none⟩ = some (.bool (bs.getD i false)) := fun i hi => by
  have := h.cells (g := gb) rfl i (.bool (bs.getD i false)) (by rw [List.getElem?_map, List.getD_eq_getElem?_getD, List.getElem?_eq_getElem (by omega)]; rfl)
  rwa [Addr.add_lit, Nat.zero_add] at this
theorem lit_zero (w : World) (base : Nat) (hb : base ≤ w.heap.size) : (w.alloc (.cells #[.int .i64 0] 3)).ownsRow base 3 1 (.slice (some ⟨w.heap.size, 0, none⟩) 1 1) 1 ([0].map nv) :=
  ⟨rfl, .inr ⟨w.heap.size, 1, _, rfl, hb, heap_alloc_new w _, Nat.le_refl _, by unfold maxLen; omega, rfl, rfl⟩⟩
/-- What lies in memory while blocks are marked. -/
structure CmW (w wr : World) (g0 : List Bk) (n gb : Nat) (l : Value) (ls : List Nat) (bs : List Bool) (cur : Option Nat) : Prop where
  inv : CmI g0 bs ls cur
  row : wr.ownsRow w.heap.size 3 1 l ls.length (ls.map nv)
  marks : wr.ownsRow w.heap.size 4 1 (.slice (some ⟨gb, 0, none⟩) n n) n (bs.map Value.bool)
  up : w.grownBy wr none
  few : ls.length ≤ 10000

set_option maxHeartbeats 8000000 in
theorem come_any (a : Option Addr) (ca : Nat) (xs : List Bv) (w : World) (ha : GC w a xs) (T : TakenG (gOf xs)) :
    Calls Try.prog 28 #[.slice a xs.length ca] w fun e w' => ∃ v, e = .returned v ∧ BOwns w' w.heap.size v (reachGTo (gOf xs) xs.length) ∧ w.grownBy w' none := by
  obtain ⟨i0, hi, hz0, hz1, hz2⟩ := info_parts info4
  obtain ⟨j0, hj, jz0, jz1, jz2⟩ := info_parts info3
  have H : Hid (GC w a xs) := ha
  have HT : Hid (TakenG (gOf xs)) := T
  have hn0 : 0 < xs.length := by have := T.pos; rwa [gOf_len] at this
  have hn : xs.length ≤ 4096 := by have := T.few; rwa [gOf_len] at this
  clear ha T
  go_enter Try.func28, Try.ntmps28
  go_wp2; go_step3
  go_wp2_with (at_make; refine wpList_make_full _ rfl (.tmp 8) (.tmp 8) 50 rfl w.heap.size 4 i0 (.bool false) 1 Try.underlying50 hi hz0 hz1 .i64 .i64 (xs.length : Int) (xs.length : Int) xs.length rfl rfl rfl rfl ?q1 ?q2 ?q3 ?q4)
  case q1 => rw [hz2]; omega
  case q2 => unfold maxLen; omega
  case q3 => exact Nat.le_refl _
  case q4 =>
    intro w2 h2 K2
    rw [toList_madeCells_one] at h2
    have R2 : w2.ownsRow w.heap.size 4 1 (.slice (some ⟨w.heap.size, 0, none⟩) xs.length xs.length) xs.length ((List.replicate xs.length false).map Value.bool) := by simpa using h2
    clear h2
    have KA : w2.grownBy (w2.alloc (.cells #[.int .i64 0] 3)) none := World.grownBy_alloc _ _ _
    have RL : (w2.alloc (.cells #[.int .i64 0] 3)).ownsRow w.heap.size 3 1 (.slice (some ⟨w2.heap.size, 0, none⟩) 1 1) 1 ([0].map nv) := lit_zero w2 _ K2.size
    have HW : Hid (CmW w (w2.alloc (.cells #[.int .i64 0] 3)) (gOf xs) xs.length w.heap.size (.slice (some ⟨w2.heap.size, 0, none⟩) 1 1) [0] (List.replicate xs.length false) none) := ⟨by rw [← gOf_len]; exact CmI.first, RL, owns_keptNone R2 KA, grown_trans K2 KA, by decide⟩
    clear R2 RL KA K2
    obtain ⟨gb, hgb⟩ : ∃ gb, w.heap.size = gb := ⟨_, rfl⟩
    have HGB : Hid (w.heap.size = gb) := hgb
    rw [show (Value.slice (some ⟨w.heap.size, 0, none⟩) xs.length xs.length) = .slice (some ⟨gb, 0, none⟩) xs.length xs.length by rw [hgb]]
    have HW : Hid (CmW w (w2.alloc (.cells #[.int .i64 0] 3)) (gOf xs) xs.length gb (.slice (some ⟨w2.heap.size, 0, none⟩) 1 1) [0] (List.replicate xs.length false) none) := by rw [← hgb]; exact HW.out
    clear hgb
    go_wp2; go_step3
    go_wp2
    generalize w2.alloc (.cells #[.int .i64 0] 3) = w3 at *
    generalize w2.heap.size = gl0 at *
    go_loopw [4] (fun l wr => ∃ (ls : List Nat) (bs : List Bool), Hid (CmW w wr (gOf xs) xs.length gb l ls bs none) ∧ 2 * unm bs xs.length + ls.length ≤ 2 * xs.length + 1) (fun l wr => 2 * unmW gb wr xs.length + slLen l)
    case atStart =>
      refine ⟨[0], List.replicate xs.length false, HW.out, ?_⟩
      have := unm_le (List.replicate xs.length false) xs.length
      simp only [List.length_singleton]
      omega
    case round =>
      clear HW
      obtain ⟨ls, bs, HC, hfew⟩ := hrel
      have hlen : bs.length = xs.length := by have := HC.out.inv.len; rwa [gOf_len] at this
      by_cases hls : 0 < ls.length
      · obtain ⟨init, c, rfl⟩ : ∃ init c, ls = init ++ [c] := ⟨ls.dropLast, ls.getLast (by intro e; rw [e] at hls; simp at hls), (List.dropLast_concat_getLast _).symm⟩
        obtain ⟨gl, cl, hl4, hcl, hclm, hgl1, hgl2⟩ := owns_head HC.out.row hls
        rw [List.length_append, List.length_singleton] at hl4 hfew hls hcl
        subst hl4
        have hrow := HC.out.row
        have c1 : wr.cell? ⟨gl, init.length, none⟩ = some (.int .i64 (c : Int)) := by
          have := hrow.cells (g := gl) rfl init.length (nv c) (by rw [List.map_append, List.getElem?_append_right (by simp)]; simp)
          rwa [Addr.add_lit, Nat.zero_add] at this
        have HC2 : Hid (CmW w wr (gOf xs) xs.length gb (.slice (some ⟨gl, 0, none⟩) init.length cl) init bs (some c)) := by
          refine ⟨HC.out.inv.pop, ?_, HC.out.marks, HC.out.up, by have := HC.out.few; rw [List.length_append] at this; simp at this; omega⟩
          rw [List.length_append, List.length_singleton] at hrow
          have := owns_take15 (m := init.length) hrow (by omega)
          rwa [List.map_append, Nat.mul_one, List.take_left' (by simp)] at this
        have h1 : (0 : Int) < (init.length : Int) + 1 := by omega
        have h2 : IntKind.i64.wrap ((init.length : Int) + 1 - 1) = (init.length : Int) := by rw [IntKind.wrap_i64]; omega
        have h3 : (init.length : Int) ≤ (cl : Int) := by omega
        obtain ⟨V, hV⟩ : ∃ V, 2 * unmW gb wr xs.length + (init.length + 1) = V := ⟨_, rfl⟩
        have hVu : 2 * unm bs xs.length + init.length + 1 ≤ V := by
          rw [← hV, unmW_eq (bool_cells HC.out.marks hlen)]
          omega
        have HV : Hid (2 * unmW gb wr xs.length + slLen (.slice (some ⟨gl, 0, none⟩) (init.length + 1) cl) = V) := hV
        unfold maxLen at hclm
        clear hrow HC hV
        have hV8 : V ≤ 2 * xs.length + 1 := by
          have := HV.out
          have e := unmW_eq (bool_cells HC2.out.marks hlen)
          simp only [slLen] at this
          rw [e] at this
          omega
        go_upto_region 7 with fail
        clear c1 h1 h2 h3 hcl hclm hgl1 hgl2 hls
        go_wp2
        go_loopw [4, 6] (fun l i wr => ∃ (ls : List Nat) (bs : List Bool) (c : Nat), i = .int .i64 (c : Int) ∧ Hid (CmW w wr (gOf xs) xs.length gb l ls bs (some c)) ∧ 2 * unm bs xs.length + ls.length + 1 ≤ V) (fun _ _ wr => unmW gb wr xs.length)
        case atStart => exact ⟨init, bs, c, rfl, HC2, hVu⟩
        case round =>
          clear HC2 hVu
          obtain ⟨ls, bs, c, rfl, HC, hVu⟩ := hrel
          have hlen : bs.length = xs.length := by have := HC.out.inv.len; rwa [gOf_len] at this
          have hc' : c < (gOf xs).length := come_lt HT.out (HC.out.inv.now c rfl)
          have hc : c < xs.length := by rwa [gOf_len] at hc'
          have hci : (c : Int) < (xs.length : Int) := by omega
          have hum := unmW_eq (bool_cells HC.out.marks hlen)
          have HUM : Hid (unmW gb wr xs.length = unm bs xs.length) := hum
          have hbc := bool_cells HC.out.marks hlen c hc
          have hbf := HC.out.marks.frozenAt c
          clear hum
          cases hb : bs.getD c false with
          | true =>
            rw [hb] at hbc
            have HD : Hid (CmW w wr (gOf xs) xs.length gb u4 ls bs none) := ⟨HC.out.inv.drop hb, HC.out.row, HC.out.marks, HC.out.up, HC.out.few⟩
            obtain ⟨al, cl2, rfl, -⟩ := cv_of_row HC.out.row
            clear hb HC
            go_wp2
            go_roundw
            case rel => exact ⟨ls, bs, HD, by omega⟩
            case measure =>
              rw [HV.out]
              rw [HUM.out]
              simp only [slLen]
              omega
          | false =>
            rw [hb] at hbc
            have K3 : wr.grownBy (wr.setCell ⟨gb, c, none⟩ (.bool true)) (some gb) := grown_set1 wr ⟨gb, c, none⟩ _
            have hgb0 := (HC.out.marks.lt gb rfl).1
            have G3 : w.grownBy (wr.setCell ⟨gb, c, none⟩ (.bool true)) none := grown_trans_new HC.out.up K3 (fun x e => by cases e; exact hgb0)
            have M3 : (wr.setCell ⟨gb, c, none⟩ (.bool true)).ownsRow w.heap.size 4 1 (.slice (some ⟨gb, 0, none⟩) xs.length xs.length) xs.length ((bs.set c true).map Value.bool) := by
              rw [List.map_set]
              exact (World.ownsRow.stored HC.out.marks c (.bool true)).1
            have R3 : (wr.setCell ⟨gb, c, none⟩ (.bool true)).ownsRow w.heap.size 3 1 u4 ls.length (ls.map nv) := kinds15 HC.out.row HC.out.marks (by decide) K3
            have HW3 : Hid (∀ ls' cur', CmI (gOf xs) (bs.set c true) ls' cur' → ∀ w4 l', (wr.setCell ⟨gb, c, none⟩ (.bool true)).grownBy w4 u4.ownBlock → w4.ownsRow w.heap.size 3 1 l' ls'.length (ls'.map nv) → ls'.length ≤ 10000 → w.grownBy w4 none → CmW w w4 (gOf xs) xs.length gb l' ls' (bs.set c true) cur') := fun ls' cur' hI w4 l' K R hf hu => ⟨hI, R, kinds15 M3 R3 (by decide) K, hu, hf⟩
            have hus := unm_set hb (by omega : c < bs.length) hc
            have HI := HC.out.inv
            have hfew := HC.out.few
            have HU3 : Hid (unmW gb (wr.setCell ⟨gb, c, none⟩ (.bool true)) xs.length = unm (bs.set c true) xs.length) := unmW_eq (bool_cells M3 (by rw [List.length_set]; exact hlen))
            obtain ⟨b1, o1, rfl, h1⟩ := ((H.out.keptNone G3).1).blocks hc
            have h1' := h1 c hc
            have hb1 : b1 < w.heap.size := (H.out.1).under rfl (by intro e; have := congrArg List.length e; rw [flatB_len] at this; simp at this; omega)
            have ht := HT.out.ok c hc'
            have hlb := fun z (hz : u4.ownBlock = some z) => (R3.lt z hz).1
            have HXB : Hid ((gOf xs)[c] = xs[c].b) := (by simp [gOf] : (gOf xs)[c] = xs[c].b)
            clear h1
            have hnx := leads_next ht.2.1 ht.2.2
            have hen := ends_cases ht.2.1
            have HMK : Hid (∀ ls' cur', (∀ i, i ∈ ls' ↔ (i ∈ ls ∨ (i ∈ ls' ∧ i ∈ nextL xs[c].b))) → (∀ i ∈ ls, i ∈ ls') → (∀ d, cur' = some d → d ∈ nextL xs[c].b) → (∀ j ∈ nextL xs[c].b, j ∈ ls' ∨ cur' = some j) → CmI (gOf xs) (bs.set c true) ls' cur') := fun ls' cur' q1 q2 q3 q4 => by
              have e := HXB.out
              exact HI.mark hc' (by rw [e]; exact q1) q2 (by rw [e]; exact q3) (by rw [e]; exact q4)
            rw [HXB.out] at hnx hen
            rw [gOf_len] at hnx
            clear ht HXB HI HC hb
            generalize xs[c] = x at *
            obtain ⟨⟨code, en, last, yes, no⟩, xa, xc⟩ := x
            have c1 := h1' 1 _ rfl
            have c6 := h1' 6 _ rfl
            have c7 := h1' 7 _ rfl
            clear h1' M3
            simp only at *
            go_upto_region 9 with fail
            generalize wr.setCell ⟨gb, c, none⟩ (.bool true) = w3 at *
            clear hbc hbf K3
            rcases hen with rfl | rfl | rfl
            · have hN : nextL ⟨code, 1, last, yes, no⟩ = [] := by rw [nextL, if_pos rfl]
              have HD : Hid (CmW w w3 (gOf xs) xs.length gb u4 ls (bs.set c true) none) := HW3.out ls none (HMK.out ls none (fun i => ⟨.inl, fun h => h.elim id (·.1)⟩) (fun i h => h) (fun d h => (by cases h)) (fun j h => (by rw [hN] at h; cases h))) w3 u4 (World.grownBy.refl _ _) R3 hfew G3
              obtain ⟨al, cl2, rfl, -⟩ := cv_of_row R3
              clear hN HMK HW3 hnx
              go_wp2
              go_roundw
              case rel => exact ⟨ls, bs.set c true, HD, by omega⟩
              case measure =>
                rw [HV.out, HU3.out]
                simp only [slLen]
                omega
            · have hN : nextL ⟨code, 2, last, yes, no⟩ = [yes.toNat] := by rw [nextL, if_neg (by simp), if_pos rfl]
              have hy := hnx yes.toNat (by rw [hN]; simp)
              have HD : Hid (CmW w w3 (gOf xs) xs.length gb u4 ls (bs.set c true) (some yes.toNat)) := HW3.out ls (some yes.toNat) (HMK.out ls _ (fun i => ⟨.inl, fun h => h.elim id (·.1)⟩) (fun i h => h) (fun d h => (by cases h; rw [hN]; simp)) (fun j h => (by rw [hN] at h; simp at h; exact .inr (by rw [h])))) w3 u4 (World.grownBy.refl _ _) R3 hfew G3
              clear hN HMK HW3 hnx
              go_wp2
              go_roundw
              case rel => exact ⟨ls, bs.set c true, yes.toNat, by rw [Int.toNat_of_nonneg (by omega)], HD, by omega⟩
              case measure =>
                rw [HU3.out, HUM.out]
                omega
            · have hN : nextL ⟨code, 3, last, yes, no⟩ = [yes.toNat, no.toNat] := by rw [nextL, if_neg (by simp), if_neg (by simp)]
              have hy := hnx yes.toNat (by rw [hN]; simp)
              have hz := hnx no.toNat (by rw [hN]; simp)
              have HNO : Hid ((Value.int .i64 no) = nv no.toNat) := (by rw [nv, Int.toNat_of_nonneg (by omega)] : (Value.int .i64 no) = nv no.toNat)
              have HI4 : Hid (CmI (gOf xs) (bs.set c true) (ls ++ [no.toNat]) (some yes.toNat)) := HMK.out (ls ++ [no.toNat]) (some yes.toNat) (fun i => ⟨fun h => (List.mem_append.1 h).elim .inl (fun h2 => .inr ⟨h, by simp at h2; rw [hN, h2]; simp⟩), fun h => h.elim (fun h2 => List.mem_append.2 (.inl h2)) (·.1)⟩) (fun i h => List.mem_append.2 (.inl h)) (fun d h => (by cases h; rw [hN]; simp)) (fun j h => (by rw [hN] at h; simp at h; rcases h with h | h; exact .inr (by rw [h]); exact .inl (by rw [h]; simp)))
              have KA : w3.grownBy (w3.alloc (.cells #[.int .i64 no] 3)) none := World.grownBy_alloc _ _ _
              have HR3 : Hid ((w3.alloc (.cells #[.int .i64 no] 3)).ownsRow w.heap.size 3 1 u4 ls.length (ls.map nv)) := owns_keptNone R3 KA
              have d6 := KA.cell c6 (by simp)
              clear hN HMK hnx
              go_wp2_with (at_builtin; refine wpList_append_cv rfl (.tmp 41) (.tmp 47) 40 rfl 3 j0 (.int .i64 0) 1 8 Try.underlying40 hj jz0 jz1 jz2 rfl (by decide) w.heap.size u4 ls.length (ls.map nv) rfl ?p1 (some ⟨w3.heap.size, 0, none⟩) 1 1 [.int .i64 no] rfl rfl (by simp) ?p2 (by simp [Value.oneCell']) ?p3 ?p4 ?p5 ?p6)
              case p1 => exact HR3.out
              case p2 => exact cv_lit w3 _ _
              case p3 => unfold maxLen; omega
              case p4 => omega
              case p5 => have := G3.size; have := KA.size; omega
              case p6 =>
                intro v' w5 O5 K5
                have K35 := grown_trans (World.grownBy_alloc w3 (.cells #[.int .i64 no] 3) u4.ownBlock) K5
                have G5 : w.grownBy w5 none := grown_trans_new G3 K35 hlb
                have R5 : w5.ownsRow w.heap.size 3 1 v' (ls ++ [no.toNat]).length ((ls ++ [no.toNat]).map nv) := by
                  rw [List.length_append, List.length_singleton, List.map_append, List.map_singleton, ← HNO.out]
                  exact O5
                have hl5 : (ls ++ [no.toNat]).length = ls.length + 1 := by simp
                have HD : Hid (CmW w w5 (gOf xs) xs.length gb v' (ls ++ [no.toNat]) (bs.set c true) (some yes.toNat)) := HW3.out _ _ HI4.out w5 v' K35 R5 (by omega) G5
                have HU5 : Hid (unmW gb w5 xs.length = unm (bs.set c true) xs.length) := unmW_eq (bool_cells HD.out.marks (by rw [List.length_set]; exact hlen))
                have e6 := K35.cell c6 (by intro e; have h : w.heap.size ≤ b1 := hlb b1 e.symm; omega)
                clear O5 K5 K35 R5 R3 HR3 HW3 c1 c6 c7 d6 KA HI4 HNO hlb
                go_wp2
                go_roundw
                case rel => exact ⟨ls ++ [no.toNat], bs.set c true, yes.toNat, by rw [Int.toNat_of_nonneg (by omega)], HD, by omega⟩
                case measure =>
                  rw [HU5.out, HUM.out]
                  omega
      · have hl0 : ls = [] := List.eq_nil_of_length_eq_zero (by omega)
        subst hl0
        have HO : Hid (reachGTo (gOf xs) xs.length = bs) := by
          show _ = _
          rw [← gOf_len]
          exact marks_eq (reachG_all HT.out) HC.out.inv.over
        have B : BOwns wr w.heap.size (.slice (some ⟨gb, 0, none⟩) xs.length xs.length) (reachGTo (gOf xs) xs.length) := by
          unfold BOwns
          rw [HO.out, hlen]
          exact HC.out.marks
        have G := HC.out.up
        obtain ⟨al, cl, rfl, -⟩ := cv_of_row HC.out.row
        clear HC HO hls
        simp only [List.length_nil]
        go_wp2
        rw [Exit.noGoto_ret]
        go_ret
        exact ⟨_, rfl, B, G⟩

set_option maxHeartbeats 1000000 in
theorem greach_any (a : Option Addr) (ca : Nat) (xs : List Bv) (w : World) (ha : GC w a xs) (hlen : ∀ x ∈ xs, x.b.code.length ≤ 4611686018427387904) :
    Calls Try.prog 17 #[.slice a xs.length ca] w fun e w' => ∃ v, e = .returned (.tuple #[v, .int .i64 (if takenB (gOf xs) = true then 0 else 155)]) ∧ BOwns w' w.heap.size v (reachG (gOf xs)) ∧ w.grownBy w' none := by
  have CT := taken_any a ca xs w ha hlen
  cases ht : takenB (gOf xs) with
  | false =>
    rw [ht] at CT
    have HR : Hid (reachG (gOf xs) = []) := by
      show _ = _
      rw [reachG, if_neg (by rw [← takenB_iff, ht]; simp)]
    rw [if_neg (by simp)]
    clear ht
    go_enter Try.func17, Try.ntmps17
    go_wp2_with fail
    refine CT.mono ?_
    rintro e w1 ⟨rfl, K⟩
    go_wp2
    go_ret2
    refine ⟨_, rfl, ?_, K⟩
    rw [HR.out]
    exact World.ownsRow_nil _ _ _ _
  | true =>
    rw [ht] at CT
    have T := taken_g (takenB_iff.1 ht)
    have HR : Hid (reachG (gOf xs) = reachGTo (gOf xs) xs.length) := by
      show _ = _
      rw [reachG, if_pos (takenB_iff.1 ht), gOf_len]
    rw [if_pos rfl]
    have CC := fun W (G : w.grownBy W none) => come_any a ca xs W (ha.keptNone G) T
    clear ht T ha
    go_enter Try.func17, Try.ntmps17
    go_wp2_with fail
    refine CT.mono ?_
    rintro e w1 ⟨rfl, K⟩
    go_wp2_with fail
    refine (CC _ K).mono ?_
    rintro e w2 ⟨v, rfl, B, K2⟩
    go_wp2
    go_ret2
    refine ⟨v, rfl, ?_, grown_trans K K2⟩
    rw [HR.out]
    exact owns_mono B K.size

end Go.Proofs.Ytpoleldfoahpoaa
