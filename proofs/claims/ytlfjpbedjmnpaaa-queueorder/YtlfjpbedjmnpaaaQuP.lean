/-
  riddlelaw21.first: what is taken is the number that waits longest in the least class.
-/
import Derived.Test.YtlfjpbedjmnpaaaQuO
namespace Go.Proofs.Ytlfjpbedjmnpaaa
open Go.RowKit
set_option maxRecDepth 100000

theorem Ord.empty {W wr : World} {g gw cap : Nat} {q : Lq} {cs : List Qc} {ws : List Wq} (h : Ord W wr g gw cap q cs ws) (t0 : takeP cs = none) : ∀ x ∈ ws, x.xs = [] := fun x hx => by
  have h1 := (take_no cs t0).1
  have h2 : x.xs.map bq ∈ cs.map Qc.fr := by
    rw [h.rel]
    exact List.mem_map.2 ⟨x, hx, rfl⟩
  obtain ⟨c, hc, e⟩ := List.mem_map.1 h2
  have h3 := List.flatMap_eq_nil_iff.1 h1 c hc
  rw [h3] at e
  exact List.map_eq_nil_iff.1 e.symm

theorem dep_clear {cs ds : List Qc} (h : cs.map Qc.clear = ds.map Qc.clear) : ds.map Qc.dep = cs.map Qc.dep := by
  have := congrArg (List.map Qc.dep) h
  simp only [List.map_map] at this
  exact this.symm

/-- What first leaves. -/
def FirstQ (W : World) (g gw cap : Nat) (cs : List Qc) (ws : List Wq) (e : Ending) (w' : World) : Prop :=
  e = .returned (.bool true) ∧ ∃ q' ds ws', Ord W w' g gw cap q' ds ws' ∧ ds.map Qc.dep = cs.map Qc.dep ∧ ws'.length = ws.length ∧ (allP ds).length = (allP cs).length - 1

theorem Ord.cells {w : World} {base gw cap : Nat} {ws : List Wq} (h : WtAt w base gw cap ws) {i : Nat} {x : Wq} (hx : ws[i]? = some x) : w.cell? ⟨gw, i, none⟩ = some x.h ∧ w.frozen? ⟨gw, i, none⟩ = false := by
  obtain ⟨hil, -⟩ := List.getElem?_eq_some_iff.1 hx
  refine ⟨?_, h.row.frozenAt i⟩
  have := h.row.cellAt i (by omega)
  rw [this, List.getElem?_map, hx]
  rfl

theorem byte_of {z : Int} (h : 0 ≤ z ∧ z < 250) : bv (UInt8.ofNat z.toNat) = .int .u8 z := by
  simp [bv]
  omega

set_option maxHeartbeats 4000000 in
theorem first_any (W wr : World) (g gw cap : Nat) (q : Lq) (cs : List Qc) (ws : List Wq) (h : Ord W wr g gw cap q cs ws) :
    Calls Try.prog 16 #[.pointer (some ⟨g, 0, none⟩), .slice (some ⟨gw, 0, none⟩) ws.length cap] wr (FirstQ W g gw cap cs ws) := by
  have CT := lqtake_any W.heap.size q wr h.aw.at'
  rw [h.aw.g] at CT
  have HO : Hid (Ord W wr g gw cap q cs ws) := h
  obtain ⟨N, hN⟩ : ∃ N, ws.length = N := ⟨_, rfl⟩
  have HN : Hid (ws.length = N) := hN
  have hN17 : N ≤ 17 := by rw [← hN]; exact h.len.2
  rw [hN]
  clear h hN
  go_enter Try.func16, Try.ntmps16
  go_wp2_with fail
  refine CT.mono ?_
  rintro e w1 T
  clear CT
  rcases T with ⟨t0, rfl, rfl⟩ | ⟨n, v, b, q', t0, rfl, L, hg, G, F, O, hp⟩
  · rw [HO.out.aw.abs] at t0
    have HE : Hid (∀ x ∈ ws, x.xs = []) := HO.out.empty t0
    have HR : Hid (FirstQ W g gw cap cs ws (.returned (.bool true)) w1) := by
      refine ⟨rfl, q, cs, ws, HO.out, rfl, rfl, ?_⟩
      rw [(take_no cs t0).1]
      rfl
    clear t0
    go_wp2
    go_loopw [8] (fun i wx => ∃ k : Nat, k ≤ N ∧ i = .int .i64 k ∧ SameW w1 wx) (fun i _ => N - (intOf i).toNat)
    case atStart => exact ⟨0, Nat.zero_le _, rfl, SameW.refl _⟩
    case round =>
      obtain ⟨k, hk, rfl, hw⟩ := hrel
      obtain rfl : w1 = wr := hw
      by_cases hlt : k < N
      · have hli : (k : Int) < (N : Int) := by omega
        have hkl : k < ws.length := by rw [HN.out]; exact hlt
        have hx : ws[k]? = some ws[k] := List.getElem?_eq_getElem hkl
        obtain ⟨c0, -⟩ := Ord.cells HO.out.wt hx
        obtain ⟨ao, ca, hh, -⟩ := (HO.out.wt.each _ (List.getElem_mem hkl)).cv
        rw [HE.out _ (List.getElem_mem hkl)] at hh
        rw [hh] at c0
        simp at c0
        clear hx hh
        go_wp2
        go_roundw
        case rel => exact ⟨k + 1, by omega, by go_num, SameW.refl _⟩
        case measure => simp [intOf]; omega
      · obtain rfl : k = N := by omega
        go_wp2
        go_ret
        simp
        exact HR.out
  · rw [HO.out.aw.abs] at t0
    obtain ⟨x, z, t, hx, hxs, rfl, hz0, hz1, hbef, W2, hend⟩ := HO.out.first t0 L hg rfl G
    have hdep := dep_clear (take_yes cs n _ _ t0).2.1
    have hall := (take_yes cs n _ _ t0).1
    obtain ⟨hnl, -⟩ := List.getElem?_eq_some_iff.1 hx
    rw [HN.out] at hnl
    have R0 := W2.each x (List.mem_of_getElem? hx)
    rw [hxs, List.map_cons] at R0
    obtain ⟨gx, off, cx, hh, cf, ff, hb, hgl, hcap, hmax, ⟨cur, QG⟩, htail⟩ := R0.first
    rw [List.length_map] at hh hcap htail
    obtain ⟨c0, f0⟩ := Ord.cells W2 hx
    have HR : Hid (∀ off', (off' = off + 1 ∨ (cx = 1 ∧ off' = off)) → FirstQ W g gw cap cs ws (.returned (.bool true)) (w1.setCell ⟨gw, n, none⟩ (.slice (some ⟨gx, off', none⟩) t.length (cx - 1)))) := fun off' ho => by
      obtain ⟨e1, -, -⟩ := hend _ ((htail off' ho).1) (by rw [hh]; rfl)
      refine ⟨rfl, q', q'.abs, _, e1, hdep, by simp, ?_⟩
      rw [hall]
      rfl
    have HB : ∃ ab ob cv, v = .slice (some ⟨ab, ob, none⟩) 1 cv ∧ w1.cell? ⟨ab, ob, none⟩ = some (.int .u8 z) ∧ ab ≠ gw := by
      obtain ⟨B, hB⟩ := W2.bk
      obtain ⟨av, cv, hv, C1, -⟩ := O.shape
      have hl1 : 0 < ((bq z).map bv).length := by simp [bq]
      obtain ⟨ab, ob, rfl, hc⟩ := C1.cv.addr hl1
      refine ⟨ab, ob, cv, hv, ?_, ?_⟩
      · rw [← byte_of ⟨hz0, hz1⟩]
        exact hc 0 hl1
      · intro e
        subst e
        rcases O.2 with ⟨h0, _⟩ | ⟨g', cap', cur', hv', _, hg', _⟩
        · rw [hv] at h0
          cases h0
        · rw [hv] at hv'
          simp only [Value.slice.injEq, Option.some.injEq, Addr.mk.injEq] at hv'
          obtain ⟨⟨rfl, -⟩, -, -⟩ := hv'
          exact QBk.tys (show QBk w1 ab _ _ from hg') hB (by decide) rfl
    obtain ⟨ab, ob, cv, rfl, cb, hne⟩ := HB
    rw [hh] at c0
    have z1 : (cx : Int) ≤ (9223372036854775807 : Int) := by unfold maxLen at hmax; omega
    have z2 : (1 : Int) ≤ (t.length : Int) + 1 := by omega
    have z3 : ((t.length : Int) + 1) ≤ (cx : Int) := by omega
    have HBF : Hid (∀ j, j < n → ∀ y, ws[j]? = some y → y.xs = []) := hbef
    have HW : Hid (WtAt w1 W.heap.size gw cap ws) := W2
    have HA : Hid (1 ≤ cx ∧ cx ≤ maxLen ∧ t.length + 1 ≤ cx) := ⟨by omega, hmax, hcap⟩
    have HC : Hid (w1.cell? ⟨gw, n, none⟩ = some (.slice (some ⟨gx, off, none⟩) (t.length + 1) cx) ∧ w1.frozen? ⟨gw, n, none⟩ = false ∧ w1.cell? ⟨gx, off, none⟩ = some (.int .i64 z) ∧ w1.cell? ⟨ab, ob, none⟩ = some (.int .u8 z) ∧ ab ≠ gw) := ⟨c0, f0, cf, cb, hne⟩
    have hbl : (bq z).length = 1 := rfl
    clear t0 hx hxs hbef W2 hend hdep hall R0 hh cf ff hb hgl hmax QG htail c0 f0 L hg G F O hp cb hne hcap hbl z1 z2 z3
    go_wp2
    go_loopw [8] (fun i wx => ∃ k : Nat, k ≤ n ∧ i = .int .i64 k ∧ SameW w1 wx) (fun i _ => n - (intOf i).toNat)
    case atStart => exact ⟨0, Nat.zero_le _, rfl, SameW.refl _⟩
    case round =>
      obtain ⟨k, hk, rfl, hw⟩ := hrel
      obtain rfl : w1 = wr := hw
      have hli : (k : Int) < (N : Int) := by omega
      by_cases hlt : k < n
      · have hkl : k < ws.length := by rw [HN.out]; omega
        have hy : ws[k]? = some ws[k] := List.getElem?_eq_getElem hkl
        obtain ⟨c0, -⟩ := Ord.cells HW.out hy
        obtain ⟨ao, ca, hh, -⟩ := (HW.out.each _ (List.getElem_mem hkl)).cv
        rw [HBF.out k hlt _ hy] at hh
        rw [hh] at c0
        simp at c0
        clear hy hh
        go_wp2
        go_roundw
        case rel => exact ⟨k + 1, by omega, by go_num, SameW.refl _⟩
        case measure => simp [intOf]; omega
      · obtain rfl : k = n := by omega
        obtain ⟨c0, f0, cf, cb, hne⟩ := HC.out
        have z1 : (cx : Int) ≤ (9223372036854775807 : Int) := by have := HA.out.2.1; unfold maxLen at this; omega
        have z2 : (1 : Int) ≤ (t.length : Int) + 1 := by omega
        have z3 : ((t.length : Int) + 1) ≤ (cx : Int) := by have := HA.out.2.2; omega
        have z4 : (0 : Int) < (t.length : Int) + 1 := by omega
        go_wp2
        all_goals go_ret
        · subst h
          have HF := HR.out off (.inr ⟨rfl, rfl⟩)
          simp at HF ⊢
          exact HF
        · have HF := HR.out (off + 1) (.inl rfl)
          simp
          exact HF

theorem all_set : ∀ (cs : List Qc) (i : Nat) (c c' : Qc), cs[i]? = some c → (allP (cs.set i c')).length + c.fr.length = (allP cs).length + c'.fr.length
  | [], i, c, c', h => by simp at h
  | x :: r, 0, c, c', h => by
    simp at h
    subst h
    simp only [allP, List.set_cons_zero, List.flatMap_cons, List.length_append]
    omega
  | x :: r, i + 1, c, c', h => by
    have := all_set r i c c' (by simpa using h)
    simp only [allP, List.set_cons_succ, List.flatMap_cons, List.length_append] at this ⊢
    omega

/-- A number more behind a class's list. -/
theorem Ord.push {W w1 w2 : World} {g gw cap m : Nat} {q : Lq} {cs' : List Qc} {ws : List Wq} {x : Wq} {v' : Value} {z : Int} (A : AwQ W w1 g q cs') (T : WtAt w1 W.heap.size gw cap ws) (hx : ws[m]? = some x)
    (rel : cs'.map Qc.fr = (ws.set m ⟨v', x.xs ++ [z]⟩).map fun c => c.xs.map bq) (small : ∀ c ∈ ws, ∀ z ∈ c.xs, 0 ≤ z ∧ z < 250) (hz : 0 ≤ z ∧ z < 250)
    (K : w1.grownBy w2 x.h.ownBlock) (R : ORow w2 W.heap.size 3 v' ((x.xs ++ [z]).map iv)) (hv : v'.ownBlock = x.h.ownBlock ∨ ∀ y, v'.ownBlock = some y → w1.heap.size ≤ y) :
    Ord W (w2.setCell ⟨gw, m, none⟩ v') g gw cap q cs' (ws.set m ⟨v', x.xs ++ [z]⟩) ∧ (∃ u, w2.cell? ⟨gw, m, none⟩ = some u) ∧ w2.frozen? ⟨gw, m, none⟩ = false := by
  obtain ⟨S1, S2, S3⟩ := T.set hx K R hv
  refine ⟨⟨?_, S1, rel, ?_⟩, S2, S3⟩
  · obtain ⟨cur, B⟩ := T.bk
    have hxm := List.mem_of_getElem? hx
    have E := T.each x hxm
    have G1 : GW w1 w2 (fun y => x.h.ownBlock = some y) := GW.of K (fun y hy => hy)
    have G2 : GW w2 (w2.setCell ⟨gw, m, none⟩ v') (fun y => y = gw) := GW.of (grown_set1 w2 ⟨gw, m, none⟩ v') (fun y hy => (Option.some.inj hy).symm)
    have n1 : ∀ y, q.foot y → ¬ x.h.ownBlock = some y := fun y hy e => by
      obtain ⟨c1, B1⟩ := orow_bk E e
      exact A.at'.tys B1 (.inl rfl) hy
    have A2 := A.at'.gw G1 n1
    have n2 : ∀ y, q.foot y → ¬ y = gw := fun y hy e => A.at'.tys B (.inr rfl) (e ▸ hy)
    refine ⟨A2.gw G2 n2, A.g, A.abs, ?_⟩
    have G3 := (((GW.non (S := fun y => x.h.ownBlock = some y ∨ y = gw) A.gr).trans G1 (fun y _ h => .inl h)).trans G2 (fun y _ h => .inr h))
    refine G3.grown (fun y hl e => ?_)
    rcases e with e | e
    · have := (E.lt y e).1
      omega
    · have := (T.row.lt gw rfl).1
      omega
  · intro d hd y hy
    rcases List.mem_or_eq_of_mem_set hd with hd | rfl
    · exact small d hd y hy
    · rcases List.mem_append.1 hy with hy | hy
      · exact small x (List.mem_of_getElem? hx) y hy
      · obtain rfl : y = z := by simpa using hy
        exact hz

/-- A frame that says its number. -/
theorem Ord.put {W wr : World} {g gw cap m : Nat} {q : Lq} {cs : List Qc} {ws : List Wq} {x : Wq} {c : Qc} {z : Int} (h : Ord W wr g gw cap q cs ws) (hx : ws[m]? = some x) (hc : cs[m]? = some c) (hz : 0 ≤ z ∧ z < 250) (ok : Bool) (hok : ok = decide (x.xs.length < c.dep)) :
    Calls Try.prog 15 #[.pointer (some ⟨g, 0, none⟩), .int .i64 (m : Int), .slice (some ⟨wr.heap.size, 0, none⟩) 1 1] (wr.alloc (.cells #[.int .u8 z] 5)) fun e w' => e = .returned (.tuple #[.bool ok, .int .i64 0]) ∧ ∃ q' d, AwQ W w' g q' (cs.set m d) ∧ WtAt w' W.heap.size gw cap ws ∧ d.dep = c.dep ∧ d.fr = (if ok = true then c.fr ++ [bq z] else c.fr) := by
  have K := World.grownBy_alloc wr (.cells #[.int .u8 z] 5) none
  have h1 := h.kept K
  have C : Cells (wr.alloc (.cells #[.int .u8 z] 5)) (some ⟨wr.heap.size, 0, none⟩) (bq z) := by
    have := cells_lit wr (bq z)
    have e : ((bq z).map bv).toArray = #[.int .u8 z] := by
      rw [← byte_of hz]
      rfl
    rw [e] at this
    exact this
  have CP := lqput_any W.heap.size q (m : Int) (some ⟨wr.heap.size, 0, none⟩) 1 (bq z) _ h1.aw.at' C (fun e => by cases e)
  rw [h1.aw.g] at CP
  obtain ⟨hml, -⟩ := List.getElem?_eq_some_iff.1 hc
  have hE : putE cs (m : Int) (bq z) = 0 := by
    unfold putE
    rw [if_neg (by omega), if_neg (by simp [bq])]
  have hD : cs.getD m qc0 = c := by rw [List.getD_eq_getElem?_getD, hc]; rfl
  have hf := h.get hc hx
  have hr : c.room = ok := by
    rw [hok]
    unfold Qc.room
    rw [hf, List.length_map]
  refine CP.mono ?_
  rintro e w' ⟨rfl, q', L, hg, ha, G, F⟩
  rw [h1.aw.abs] at ha ⊢
  have hP : putP cs (m : Int) (bq z) = cs.set m (c.put (bq z)) := by
    unfold putP
    rw [if_pos hE, Int.toNat_natCast, hD]
  refine ⟨?_, q', c.put (bq z), ?_, h1.wt.apart h1.aw.at' G, ?_, ?_⟩
  · unfold putB
    rw [hE, if_pos rfl, Int.toNat_natCast, hD, hr]
  · rw [← hP]
    exact h1.aw.step L hg ha G
  · unfold Qc.put
    split <;> rfl
  · unfold Qc.put
    rw [hr]
    split <;> rfl

end Go.Proofs.Ytlfjpbedjmnpaaa
