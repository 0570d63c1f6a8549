/-
  Package queue as landed: Lens, Dropped, Drain.
-/
import Derived.Test.YtlfjpbedjmnpaaaQuF
import Derived.Test.YtlfjpbedjmnpaaaLMem
namespace Go.Proofs.Ytlfjpbedjmnpaaa
open Go.RowKit
set_option maxRecDepth 100000

def lostP (cs : List Qc) : List UInt32 := cs.map fun q => UInt32.ofNat q.lost

/-- The lengths while they are laid. -/
def lensTo (cs : List Cq) (k : Nat) : List Value := (cs.take k).map (fun c => .int .i64 (c.fs.length : Int)) ++ List.replicate (cs.length - k) (.int .i64 0)
def lostTo (cs : List Cq) (k : Nat) : List Value := (cs.take k).map (fun c => .int .u32 (c.lost : Int)) ++ List.replicate (cs.length - k) (.int .u32 0)
theorem to_set (f : Cq → Value) (z : Value) (cs : List Cq) (k : Nat) (c : Cq) (hk : cs[k]? = some c) : ((cs.take k).map f ++ List.replicate (cs.length - k) z).set k (f c) = (cs.take (k + 1)).map f ++ List.replicate (cs.length - (k + 1)) z := by
  obtain ⟨hlt, e0⟩ := List.getElem?_eq_some_iff.1 hk
  rw [List.set_append_right (h := by simp; omega), List.take_succ_eq_append_getElem hlt, List.map_append, List.append_assoc, e0]
  congr 1
  have e : cs.length - k = (cs.length - (k + 1)) + 1 := by omega
  have e2 : k - ((cs.take k).map f).length = 0 := by simp; omega
  rw [e, e2, List.replicate_succ]
  rfl
theorem lens_end (q : Lq) : lensTo q.cs q.cs.length = (lensP q.abs).map iv := by
  simp [lensTo, lensP, Lq.abs, iv, Cq.abs]
theorem lost_end {w : World} {base : Nat} {q : Lq} (h : LqAt w base q) : lostTo q.cs q.cs.length = (lostP q.abs).map wv := by
  unfold lostTo lostP Lq.abs
  rw [List.take_length, Nat.sub_self]
  simp only [List.replicate_zero, List.append_nil, List.map_map]
  refine List.map_congr_left fun c hc => ?_
  have := (h.dep c hc).2.2
  have e0 : (UInt32.ofNat c.lost).toNat = c.lost := by simp; omega
  simp [wv, Cq.abs, e0]

theorem infoInt : (Try.prog.info? 3).map (fun i => (i.zero, i.size, i.bytes)) = some (some (.int .i64 0), 1, 8) := by kernel_rfl
theorem infoU32 : (Try.prog.info? 60).map (fun i => (i.zero, i.size, i.bytes)) = some (some (.int .u32 0), 1, 4) := by kernel_rfl

theorem row_stored {w : World} {base e n g : Nat} {xs : List Value} (h : w.ownsRow base e 1 (.slice (some ⟨g, 0, none⟩) n n) n xs) (i : Nat) (v : Value) : (w.setCell ⟨g, i, none⟩ v).ownsRow base e 1 (.slice (some ⟨g, 0, none⟩) n n) n (xs.set i v) := (h.stored i v).1

set_option maxHeartbeats 2000000 in
theorem lqlens_any (base : Nat) (q : Lq) (w : World) (hq : LqAt w base q) :
    Calls Try.prog 21 #[.pointer (some ⟨q.g, 0, none⟩)] w fun e w' => ∃ v, e = .returned v ∧ ZOwns w' w.heap.size v (lensP q.abs) ∧ w.grownBy w' none := by
  obtain ⟨i0, hi, hz0, hz1, hz2⟩ := info_parts infoInt
  have c0 := hq.cell0
  unfold Lq.sv at c0
  have HQ : Hid (LqAt w base q) := hq
  clear hq
  obtain ⟨N, hN⟩ : ∃ N, q.cs.length = N := ⟨_, rfl⟩
  have HN : Hid (q.cs.length = N) := hN
  have hN17 : N ≤ 17 := by rw [← hN]; exact HQ.out.few
  rw [hN] at c0
  clear hN
  go_enter Try.func21, Try.ntmps21
  go_wp2_with (at_make; refine wpList_make_full _ rfl (.tmp 9) (.tmp 9) 22 rfl w.heap.size 3 i0 (.int .i64 0) 1 Try.underlying22 hi hz0 hz1 .i64 .i64 (N : Int) (N : Int) N rfl rfl rfl rfl ?q1 ?q2 ?q3 ?q4)
  case q1 => rw [hz2]; omega
  case q2 => unfold maxLen; omega
  case q3 => exact Nat.le_refl _
  case q4 =>
    intro w1 O K
    rw [toList_madeCells_one] at O
    have O0 : w1.ownsRow w.heap.size 3 1 (.slice (some ⟨w.heap.size, 0, none⟩) N N) N (lensTo q.cs 0) := by
      simpa [lensTo, HN.out] using O
    have c0 := K.cell c0 (by simp)
    obtain ⟨S, hS⟩ : ∃ S, w.heap.size = S := ⟨_, rfl⟩
    have HS : Hid (w.heap.size = S) := hS
    rw [hS] at O0 ⊢
    clear O hi hz0 hz1 hz2 i0 hS
    go_wp2
    go_loopw [16] (fun i wr => ∃ k : Nat, k ≤ N ∧ i = .int .i64 k ∧ wr.ownsRow S 3 1 (.slice (some ⟨S, 0, none⟩) N N) N (lensTo q.cs k) ∧ w.grownBy wr none) (fun i _ => N - (intOf i).toNat)
    case atStart => exact ⟨0, Nat.zero_le _, rfl, O0, K⟩
    case round =>
      clear O0 K c0
      obtain ⟨k, hk, rfl, O, K⟩ := hrel
      by_cases hlt : k < N
      · have hkc : q.cs[k]? = some (q.cs[k]'(by have := HN.out; omega)) := List.getElem?_eq_getElem _
        generalize q.cs[k]'(by have := HN.out; omega) = c at *
        have LQ := HQ.out.keptNone K
        have c0 := LQ.cell0
        unfold Lq.sv at c0
        rw [HN.out] at c0
        have c2 := LQ.heldc hkc
        obtain ⟨ao, cap, hh, -⟩ := (LQ.hl.row c (List.mem_of_getElem? hkc)).cv
        have hrl : c.row.length = c.fs.length := by unfold Cq.row; rw [List.length_map]
        rw [hrl] at hh
        rw [hh] at c2
        have hli : (k : Int) < (N : Int) := by omega
        obtain ⟨u, cu⟩ : ∃ u, wr.cell? ⟨S, k, none⟩ = some u := by
          have := O.cellAt k (by omega)
          refine ⟨_, this.trans (List.getElem?_eq_getElem (by simp [lensTo, HN.out]; omega))⟩
        have fu := O.frozenAt k
        have O2 := row_stored O k (.int .i64 (c.fs.length : Int))
        have e2 : (lensTo q.cs k).set k (.int .i64 (c.fs.length : Int)) = lensTo q.cs (k + 1) := to_set _ _ q.cs k c hkc
        rw [e2] at O2
        have HK : Hid ((wr.setCell ⟨S, k, none⟩ (.int .i64 (c.fs.length : Int))).ownsRow S 3 1 (.slice (some ⟨S, 0, none⟩) N N) N (lensTo q.cs (k + 1)) ∧ w.grownBy (wr.setCell ⟨S, k, none⟩ (.int .i64 (c.fs.length : Int))) none) := ⟨O2, grown_setCell K _ _ (.inr (by rw [HS.out]; exact Nat.le_refl _))⟩
        clear O K O2 e2 LQ hkc hh hrl
        generalize c.fs.length = m at *
        go_wp2
        go_roundw
        case rel => exact ⟨k + 1, by omega, by go_num, HK.out.1, HK.out.2⟩
        case measure => simp [intOf]; omega
      · obtain rfl : k = N := by omega
        have HR : Hid (ZOwns wr w.heap.size (.slice (some ⟨S, 0, none⟩) k k) (lensP q.abs) ∧ w.grownBy wr none) := by
          refine ⟨?_, K⟩
          rw [HS.out]
          have e := lens_end q
          rw [HN.out] at e
          rw [e] at O
          have el : (lensP q.abs).length = k := by simp [lensP, Lq.abs, HN.out]
          unfold ZOwns
          rw [el]
          exact O
        clear O K
        go_wp2
        go_ret
        exact ⟨_, rfl, HR.out⟩

set_option maxHeartbeats 2000000 in
theorem lqdropped_any (base : Nat) (q : Lq) (w : World) (hq : LqAt w base q) :
    Calls Try.prog 24 #[.pointer (some ⟨q.g, 0, none⟩)] w fun e w' => ∃ v, e = .returned v ∧ w'.ownsRow w.heap.size 60 1 v (lostP q.abs).length ((lostP q.abs).map wv) ∧ w.grownBy w' none := by
  obtain ⟨i0, hi, hz0, hz1, hz2⟩ := info_parts infoU32
  have c0 := hq.cell0
  unfold Lq.sv at c0
  have HQ : Hid (LqAt w base q) := hq
  clear hq
  obtain ⟨N, hN⟩ : ∃ N, q.cs.length = N := ⟨_, rfl⟩
  have HN : Hid (q.cs.length = N) := hN
  have hN17 : N ≤ 17 := by rw [← hN]; exact HQ.out.few
  rw [hN] at c0
  clear hN
  go_enter Try.func24, Try.ntmps24
  go_wp2_with (at_make; refine wpList_make_full _ rfl (.tmp 9) (.tmp 9) 54 rfl w.heap.size 60 i0 (.int .u32 0) 1 Try.underlying54 hi hz0 hz1 .i64 .i64 (N : Int) (N : Int) N rfl rfl rfl rfl ?q1 ?q2 ?q3 ?q4)
  case q1 => rw [hz2]; omega
  case q2 => unfold maxLen; omega
  case q3 => exact Nat.le_refl _
  case q4 =>
    intro w1 O K
    rw [toList_madeCells_one] at O
    have O0 : w1.ownsRow w.heap.size 60 1 (.slice (some ⟨w.heap.size, 0, none⟩) N N) N (lostTo q.cs 0) := by
      simpa [lostTo, HN.out] using O
    have c0 := K.cell c0 (by simp)
    obtain ⟨S, hS⟩ : ∃ S, w.heap.size = S := ⟨_, rfl⟩
    have HS : Hid (w.heap.size = S) := hS
    rw [hS] at O0 ⊢
    clear O hi hz0 hz1 hz2 i0 hS
    go_wp2
    go_loopw [16] (fun i wr => ∃ k : Nat, k ≤ N ∧ i = .int .i64 k ∧ wr.ownsRow S 60 1 (.slice (some ⟨S, 0, none⟩) N N) N (lostTo q.cs k) ∧ w.grownBy wr none) (fun i _ => N - (intOf i).toNat)
    case atStart => exact ⟨0, Nat.zero_le _, rfl, O0, K⟩
    case round =>
      clear O0 K c0
      obtain ⟨k, hk, rfl, O, K⟩ := hrel
      by_cases hlt : k < N
      · have hkc : q.cs[k]? = some (q.cs[k]'(by have := HN.out; omega)) := List.getElem?_eq_getElem _
        generalize q.cs[k]'(by have := HN.out; omega) = c at *
        have LQ := HQ.out.keptNone K
        have c0 := LQ.cell0
        unfold Lq.sv at c0
        rw [HN.out] at c0
        have CD := ldropped_any q.gc (k * 3) c.lost wr (LQ.lostc hkc)
        have hli : (k : Int) < (N : Int) := by omega
        obtain ⟨u, cu⟩ : ∃ u, wr.cell? ⟨S, k, none⟩ = some u := by
          have := O.cellAt k (by omega)
          refine ⟨_, this.trans (List.getElem?_eq_getElem (by simp [lostTo, HN.out]; omega))⟩
        have fu := O.frozenAt k
        have O2 := row_stored O k (.int .u32 (c.lost : Int))
        have e2 : (lostTo q.cs k).set k (.int .u32 (c.lost : Int)) = lostTo q.cs (k + 1) := to_set _ _ q.cs k c hkc
        rw [e2] at O2
        have HK : Hid ((wr.setCell ⟨S, k, none⟩ (.int .u32 (c.lost : Int))).ownsRow S 60 1 (.slice (some ⟨S, 0, none⟩) N N) N (lostTo q.cs (k + 1)) ∧ w.grownBy (wr.setCell ⟨S, k, none⟩ (.int .u32 (c.lost : Int))) none) := ⟨O2, grown_setCell K _ _ (.inr (by rw [HS.out]; exact Nat.le_refl _))⟩
        clear O K O2 e2 LQ hkc
        generalize c.lost = m at *
        go_wp2_with fail
        refine CD.mono ?_
        rintro e w5 ⟨rfl, rfl⟩
        clear CD
        go_wp2
        go_roundw
        case rel => exact ⟨k + 1, by omega, by go_num, HK.out.1, HK.out.2⟩
        case measure => simp [intOf]; omega
      · obtain rfl : k = N := by omega
        have HR : Hid (wr.ownsRow w.heap.size 60 1 (.slice (some ⟨S, 0, none⟩) k k) (lostP q.abs).length ((lostP q.abs).map wv) ∧ w.grownBy wr none) := by
          refine ⟨?_, K⟩
          rw [HS.out]
          have e := lost_end HQ.out
          rw [HN.out] at e
          rw [e] at O
          have el : (lostP q.abs).length = k := by simp [lostP, Lq.abs, HN.out]
          rw [el]
          exact O
        clear O K
        go_wp2
        go_ret
        exact ⟨_, rfl, HR.out⟩

end Go.Proofs.Ytlfjpbedjmnpaaa
