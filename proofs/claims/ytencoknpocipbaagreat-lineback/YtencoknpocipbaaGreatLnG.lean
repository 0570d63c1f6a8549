/-
  Package line as landed: detours.
-/
import Derived.Test.YtencoknpocipbaaGreatLotP19
import Derived.Test.YtencoknpocipbaaGreatLotP20
import Derived.Test.YtencoknpocipbaaGreatLotP21
namespace Go.Proofs.YtencoknpocipbaaGreat
open Go.RowKit
open Go.Maps
set_option maxRecDepth 100000

/-- What stands in 'left' while k blocks are still to be done. -/
def lfL (g : List Bk) (k : Nat) : List Nat := List.replicate k 0 ++ leftL k (g.drop k)
theorem lfL_len {g : List Bk} {k : Nat} (hk : k ≤ g.length) : (lfL g k).length = g.length + 1 := by
  rw [lfL, List.length_append, List.length_replicate, leftL_len, List.length_drop]
  omega
theorem lfL_at {g : List Bk} {k i : Nat} (hi : k ≤ i) : (lfL g k).getD i 0 = (leftL k (g.drop k)).getD (i - k) 0 := by
  rw [lfL, List.getD_eq_getElem?_getD, List.getElem?_append_right (by rw [List.length_replicate]; exact hi), List.length_replicate, ← List.getD_eq_getElem?_getD]
theorem lfL_set {g : List Bk} {q : Nat} (hq : q < g.length) : (lfL g (q + 1)).set q ((leftL (q + 1) (g.drop (q + 1))).getD 0 0 + lenB (g[q], detG g q g[q])) = lfL g q := by
  have e : g.drop q = g[q] :: g.drop (q + 1) := List.drop_eq_getElem_cons hq
  rw [lfL, lfL, e, leftL]
  rw [List.replicate_succ', List.append_assoc, List.set_append_right _ _ (by simp), List.length_replicate, Nat.sub_self]
  rfl
theorem lf_le {g : List Bk} (T : TakenG g) (k i : Nat) : (leftL k (g.drop k)).getD i 0 ≤ 16384 := by
  rw [leftL_get]
  have h1 := zipL_drop 0 g k
  rw [Nat.zero_add] at h1
  rw [← h1, List.drop_drop]
  have h2 := pl_left (zipL 0 g) (k + i)
  have h3 := sum_meas (ens_of T) 0
  have h4 : countG measE g ≤ codeLen g + 3 * g.length := by
    clear T h1 h2 h3
    induction g with
    | nil => simp [countG, codeLen]
    | cons b r ih =>
      have e1 : countG measE (b :: r) = b.code.length + measE b + countG measE r := by simp [countG]
      have e2 := codeLen_cons b r
      have e3 : measE b ≤ 3 := by unfold measE; split <;> omega
      rw [List.length_cons]
      omega
  have h5 := T.room
  have h6 := T.few
  omega
theorem lfL_le {g : List Bk} (T : TakenG g) (k i : Nat) : (lfL g k).getD i 0 ≤ 16384 := by
  by_cases h : k ≤ i
  · rw [lfL_at h]; exact lf_le T k _
  · rw [lfL, List.getD_eq_getElem?_getD, List.getElem?_append_left (by simp; omega)]
    simp [List.getElem?_replicate]
    split <;> simp

/-- The goals that go by a Ja, out of what stands in 'left'. -/
theorem det_same {g : List Bk} (T : TakenG g) {q : Nat} (hq : q < g.length) : detV g[q] (((lfL g (q + 1)).getD (q + 1) 0 : Int) - ((lfL g (q + 1)).getD g[q].yes.toNat 0 : Int)) (((lfL g (q + 1)).getD (q + 1) 0 : Int) - ((lfL g (q + 1)).getD g[q].no.toNat 0 : Int)) = detG g q g[q] := by
  obtain ⟨h2, h3⟩ := goals_ahead T hq
  have e0 : (lfL g (q + 1)).getD (q + 1) 0 = (leftL (q + 1) (g.drop (q + 1))).getD 0 0 := by rw [lfL_at (Nat.le_refl _), Nat.sub_self]
  rw [detG, detL, e0]
  rcases ens_of T g[q] (List.getElem_mem hq) with h | h | h
  · simp [detV, h]
  · obtain ⟨y1, -⟩ := h2 h
    rw [lfL_at y1]
    simp [detV, h]
  · obtain ⟨⟨y1, -⟩, n1, -⟩ := h3 h
    rw [lfL_at y1, lfL_at n1]
theorem goal_in {g : List Bk} (T : TakenG g) {q : Nat} (hq : q < g.length) : (∃ y : Nat, g[q].yes = (y : Int) ∧ y < g.length) ∧ (∃ n : Nat, g[q].no = (n : Int) ∧ n < g.length) := by
  obtain ⟨-, he, hl⟩ := T.ok q hq
  rcases ends_cases he with h | h | h
  · rw [gendsB, if_pos h] at he
    simp only [Bool.and_eq_true, beq_iff_eq] at he
    exact ⟨⟨0, he.2.1, by omega⟩, 0, he.2.2, by omega⟩
  · rw [gendsB, if_neg (by omega), if_pos h] at he
    rw [leadsB, if_pos h] at hl
    simp only [Bool.and_eq_true, beq_iff_eq, aheadB, decide_eq_true_eq] at he hl
    exact ⟨⟨g[q].yes.toNat, by omega, by omega⟩, 0, he.2, by omega⟩
  · rw [leadsB, if_neg (by omega), if_pos h] at hl
    simp only [Bool.and_eq_true, aheadB, decide_eq_true_eq] at hl
    exact ⟨⟨g[q].yes.toNat, by omega, by omega⟩, g[q].no.toNat, by omega, by omega⟩

/-- Lists of goals, one for each block. -/
def DOwn (w : World) (base : Nat) (dvs : List Value) (ds : List (Bk × List Int)) : Prop := dvs.length = ds.length ∧ ∀ (i : Nat) (v : Value) (x : Bk × List Int), dvs[i]? = some v → ds[i]? = some x → ZOwns w base v x.2
theorem DOwn.kept {w w' : World} {base : Nat} {row : Option Nat} {dvs : List Value} {ds : List (Bk × List Int)} (h : DOwn w base dvs ds) (G : w.grownBy w' row) (hr : ∀ x, row = some x → x < base) : DOwn w' base dvs ds := ⟨h.1, fun i v (x : Bk × List Int) h1 h2 => by
  have O := h.2 i v x h1 h2
  cases row with
  | none => exact owns_keptNone O G
  | some z => exact O.kept G (.inr fun e => by have := (O.lt z e).1; have := hr z rfl; omega)⟩

theorem info_ints : (Tryz.prog.info? 50).map (fun i => (i.zero, i.size, i.bytes)) = some (some (.slice none 0 0), 1, 24) := by kernel_rfl

set_option maxHeartbeats 8000000 in
theorem detours_any (a : Option Addr) (ca : Nat) (xs : List Bv) (w : World) (ha : GC w a xs) (T : TakenG (gOf xs)) :
    Calls Tryz.prog 13 #[.slice a xs.length ca] w fun e w' => ∃ v dvs, e = .returned v ∧ w'.ownsRow w.heap.size 50 1 v xs.length dvs ∧ DOwn w' w.heap.size dvs (zipL 0 (gOf xs)) ∧ w.grownBy w' none := by
  obtain ⟨i0, hi, hz0, hz1, hz2⟩ := info_parts info_ints
  obtain ⟨j0, hj, jz0, jz1, jz2⟩ := info_parts infoI3
  have hlen := gOf_len xs
  have hn : xs.length ≤ 4096 := by have := T.few; omega
  have hn0 : 0 < xs.length := by have := T.pos; omega
  have HA : Hid (GC w a xs) := ha
  have HT : Hid (TakenG (gOf xs) ∧ (gOf xs).length = xs.length) := ⟨T, hlen⟩
  clear ha T hlen
  obtain ⟨N, hN⟩ : ∃ N, xs.length = N := ⟨_, rfl⟩
  rw [hN] at HT hn hn0 ⊢
  have HN : Hid (xs.length = N) := hN
  clear hN
  go_enter Tryz.func13, Tryz.ntmps13
  go_wp2_with (at_make; refine wpList_make_full _ rfl (.tmp 9) (.tmp 9) 48 rfl w.heap.size 50 i0 (.slice none 0 0) 1 Tryz.underlying48 hi hz0 hz1 .i64 .i64 (N : Int) (N : Int) N rfl rfl rfl rfl ?q1 ?q2 ?q3 ?q4)
  case q1 => rw [hz2]; omega
  case q2 => unfold maxLen; omega
  case q3 => exact Nat.le_refl _
  case q4 =>
  intro w1 h1 K1
  rw [toList_madeCells_one] at h1
  have hg1 : w.heap.size < w1.heap.size := by have := (h1.lt w.heap.size rfl).2; exact this
  have HK1 : Hid (w1.ownsRow w.heap.size 50 1 (.slice (some ⟨w.heap.size, 0, none⟩) N N) N (List.replicate N (.slice none 0 0)) ∧ w.grownBy w1 none) := ⟨h1, K1⟩
  clear h1 K1
  have hadd : IntKind.i64.wrap ((N : Int) + 1) = (N : Int) + 1 := by rw [IntKind.wrap_i64]; omega
  go_wp2_with (at_make; refine wpList_make_full _ rfl (.tmp 13) (.tmp 13) 50 rfl w.heap.size 3 j0 (.int .i64 0) 1 Tryz.underlying50 hj jz0 jz1 .i64 .i64 ((N : Int) + 1) ((N : Int) + 1) (N + 1) rfl rfl (by omega) (by omega) ?r1 ?r2 ?r3 ?r4)
  case r1 => rw [jz2]; omega
  case r2 => unfold maxLen; omega
  case r3 => omega
  case r4 =>
  intro w2 h2 K2
  rw [toList_madeCells_one] at h2
  have hg2 := (h2.lt w1.heap.size rfl).2
  have HK2 : Hid (w2.ownsRow w.heap.size 50 1 (.slice (some ⟨w.heap.size, 0, none⟩) N N) N (List.replicate N (.slice none 0 0)) ∧ w2.ownsRow w.heap.size 3 1 (.slice (some ⟨w1.heap.size, 0, none⟩) (N + 1) (N + 1)) (N + 1) (List.replicate (N + 1) (.int .i64 0)) ∧ w.grownBy w2 none) := ⟨owns_keptNone HK1.out.1 K2, h2, grown_trans HK1.out.2 K2⟩
  clear h2 K2 HK1
  obtain ⟨B1, hB1⟩ : ∃ B1, w.heap.size = B1 := ⟨_, rfl⟩
  obtain ⟨B2, hB2⟩ : ∃ B2, w1.heap.size = B2 := ⟨_, rfl⟩
  rw [hB2] at HK2 hg1 hg2 ⊢
  rw [hB1] at hg1
  have HK3 : Hid (w2.ownsRow w.heap.size 50 1 (.slice (some ⟨B1, 0, none⟩) N N) N (List.replicate N (.slice none 0 0)) ∧ w2.ownsRow w.heap.size 3 1 (.slice (some ⟨B2, 0, none⟩) (N + 1) (N + 1)) (N + 1) (List.replicate (N + 1) (.int .i64 0)) ∧ w.grownBy w2 none) := by rw [← hB1]; exact HK2.out
  have HBB : Hid (w.heap.size = B1 ∧ B1 < B2 ∧ B2 < w2.heap.size) := ⟨hB1, hg1, hg2⟩
  try rw [hB1]
  clear HK2 hg1 hg2 hB1 hB2 hi hz0 hz1 hz2 hj jz0 jz1 jz2 i0 j0
  have hsub : IntKind.i64.wrap ((N : Int) - 1) = (N : Int) - 1 := by rw [IntKind.wrap_i64]; omega
  go_wp2
  go_loopw [5] (fun i wr => ∃ k : Nat, k ≤ N ∧ i = .int .i64 ((k : Int) - 1) ∧ ∃ ds : List Value, wr.ownsRow w.heap.size 50 1 (.slice (some ⟨B1, 0, none⟩) N N) N (List.replicate k (.slice none 0 0) ++ ds) ∧ DOwn wr (B2 + 1) ds (zipL k ((gOf xs).drop k)) ∧ wr.ownsRow w.heap.size 3 1 (.slice (some ⟨B2, 0, none⟩) (N + 1) (N + 1)) (N + 1) ((lfL (gOf xs) k).map nv) ∧ w.grownBy wr none ∧ B2 + 1 ≤ wr.heap.size) (fun i _ => ((intOf i) + 1).toNat)
  case atStart =>
    have hl : (gOf xs).drop N = [] := by rw [List.drop_eq_nil_iff]; have := HT.out.2; omega
    refine ⟨N, Nat.le_refl _, rfl, [], by rw [List.append_nil]; exact HK3.out.1, ⟨by rw [hl]; rfl, fun i v x h1 _ => by simp at h1⟩, ?_, HK3.out.2.2, by have := HBB.out.2.2; omega⟩
    · rw [lfL, hl, leftL]
      have e : (List.replicate N 0 ++ [0]).map nv = List.replicate (N + 1) (.int .i64 0) := by
        rw [← List.replicate_succ', List.map_replicate]
        rfl
      rw [e]
      exact HK3.out.2.1
  case round =>
    obtain ⟨k, hk, hik, ds, R1, D1, R2, G, hsz⟩ := hrel
    rcases k with _ | q
    · subst hik
      have HE : Hid (∃ dvs, wr.ownsRow w.heap.size 50 1 (.slice (some ⟨B1, 0, none⟩) N N) N dvs ∧ DOwn wr w.heap.size dvs (zipL 0 (gOf xs)) ∧ w.grownBy wr none) := by
        refine ⟨ds, by simpa using R1, ⟨D1.1, fun i v x h1 h2 => zown_up (by have := HBB.out; omega) (D1.2 i v x h1 h2)⟩, G⟩
      clear R1 D1 R2 G hsz
      go_wp2
      go_ret
      obtain ⟨dvs, h1, h2, h3⟩ := HE.out
      exact ⟨_, dvs, rfl, h1, h2, h3⟩
    · have e1 : ((q + 1 : Nat) : Int) - 1 = (q : Int) := by omega
      rw [e1] at hik
      subst hik
      clear e1
      have hlt : q < xs.length := by have := HN.out; omega
      have hqg : q < (gOf xs).length := by have := HT.out.2; omega
      have hqN : q < N := by omega
      have hq0 : (0 : Int) ≤ (q : Int) := by omega
      have hq1 : (q : Int) < (N : Int) := by omega
      have hq2 : (q : Int) < (N : Int) + 1 := by omega
      have hbk : (gOf xs)[q] = xs[q].b := by simp [gOf]
      have hdet := det_same HT.out.1 hqg
      have hset := lfL_set hqg
      obtain ⟨⟨yn, hyn, hyl⟩, nn, hnn, hnl⟩ := goal_in HT.out.1 hqg
      have hlens := lfL_len (g := gOf xs) (k := q + 1) (by omega)
      have hle := lfL_le HT.out.1 (q + 1)
      have hzip : zipL q ((gOf xs).drop q) = (xs[q].b, detG (gOf xs) q xs[q].b) :: zipL (q + 1) ((gOf xs).drop (q + 1)) := by
        rw [List.drop_eq_getElem_cons hqg, zipL, hbk]
        rfl
      rw [hbk] at hdet hset hyn hnn
      rw [hyn, hnn] at hdet
      simp only [Int.toNat_natCast] at hdet
      rw [lfL_at (g := gOf xs) (k := q + 1) (i := q + 1) (Nat.le_refl _), Nat.sub_self] at hdet
      have hGC := HA.out.keptNone G
      obtain ⟨hx, hca, hcz⟩ := hGC.2 xs[q] (List.getElem_mem hlt)
      obtain ⟨gb, go, hao, hcell⟩ := hGC.1.blocks hlt
      have hcl : xs[q].b.code.length ≤ 4096 := by
        have h1 := HT.out.1.room
        have h2 : ∀ (l : List Bk) (i : Nat) (h : i < l.length), l[i].code.length ≤ codeLen l := by
          intro l
          induction l with
          | nil => intro i h; simp at h
          | cons b r ih =>
            intro i h
            have := codeLen_cons b r
            cases i with
            | zero => simp only [List.getElem_cons_zero]; omega
            | succ i => have := ih i (by simpa using h); simp only [List.getElem_cons_succ]; omega
        have := h2 (gOf xs) q hqg
        rw [hbk] at this
        omega
      have hlf : ∀ i, i ≤ N → wr.cell? ⟨B2, i, none⟩ = some (.int .i64 ((lfL (gOf xs) (q + 1)).getD i 0 : Int)) := fun i hi => by
        have := R2.cells (g := B2) rfl i (nv ((lfL (gOf xs) (q + 1)).getD i 0)) (by rw [List.getElem?_map, List.getD_eq_getElem?_getD, List.getElem?_eq_getElem (by have := HT.out.2; omega)]; rfl)
        rw [Addr.add_lit, Nat.zero_add] at this
        exact this
      have l1 := hlf (q + 1) (by omega)
      have l2 := hlf yn (by have := HT.out.2; omega)
      have l3 := hlf nn (by have := HT.out.2; omega)
      rw [lfL_at (g := gOf xs) (k := q + 1) (i := q + 1) (Nat.le_refl _), Nat.sub_self] at l1
      have b1 := lf_le HT.out.1 (q + 1) 0
      have b2 := hle yn
      have b3 := hle nn
      have c0 := hcell q hlt 0 _ rfl
      have c1 := hcell q hlt 1 _ rfl
      have c2 := hcell q hlt 2 _ rfl
      have c3 := hcell q hlt 3 _ rfl
      have c4 := hcell q hlt 4 _ rfl
      have c5 := hcell q hlt 5 _ rfl
      have c6 := hcell q hlt 6 _ rfl
      have c7 := hcell q hlt 7 _ rfl
      rw [Nat.add_zero] at c0
      have hyN : (yn : Int) < (N : Int) + 1 := by have := HT.out.2; omega
      have hnN : (nn : Int) < (N : Int) + 1 := by have := HT.out.2; omega
      have HX : Hid (∀ W' : World, B2 + 1 ≤ W'.heap.size → Calls Tryz.prog 25 #[bkV xs[q].b xs[q].a xs[q].ca, .int .i64 (((leftL (q + 1) ((gOf xs).drop (q + 1))).getD 0 0 : Int) - ((lfL (gOf xs) (q + 1)).getD yn 0 : Int)), .int .i64 (((leftL (q + 1) ((gOf xs).drop (q + 1))).getD 0 0 : Int) - ((lfL (gOf xs) (q + 1)).getD nn 0 : Int))] W' fun e w' => ∃ v, e = .returned v ∧ ZOwns w' (B2 + 1) v (detG (gOf xs) q xs[q].b) ∧ W'.grownBy w' none) := fun W' hW' => by
        have := detour_any xs[q].b xs[q].a xs[q].ca (((leftL (q + 1) ((gOf xs).drop (q + 1))).getD 0 0 : Int) - ((lfL (gOf xs) (q + 1)).getD yn 0 : Int)) (((leftL (q + 1) ((gOf xs).drop (q + 1))).getD 0 0 : Int) - ((lfL (gOf xs) (q + 1)).getD nn 0 : Int)) (B2 + 1) W' hW'
        rw [hdet] at this
        exact this
      have HRM : Hid (∀ W' : World, Calls Tryz.prog 26 #[bkV xs[q].b xs[q].a xs[q].ca] W' fun e w' => e = .returned (.int .i64 (roomV xs[q].b : Int)) ∧ W'.grownBy w' none) := fun W' => lroom_any xs[q].b xs[q].a xs[q].ca W' (by omega)
      have HDL : Hid ((detG (gOf xs) q xs[q].b).length ≤ 2 ∧ roomV xs[q].b ≤ 4097) := by
        constructor
        · rw [detG, detL, detV]
          split
          · exact (far_cases _ _ _).1
          · split <;> simp
        · unfold roomV sizeE
          split <;> omega
      have HSE : Hid (((lfL (gOf xs) (q + 1)).map nv).set q (nv ((leftL (q + 1) ((gOf xs).drop (q + 1))).getD 0 0 + lenB (xs[q].b, detG (gOf xs) q xs[q].b))) = (lfL (gOf xs) q).map nv) := by
        show _ = _
        rw [← List.map_set, hset]
      have HZI : Hid (zipL q ((gOf xs).drop q) = (xs[q].b, detG (gOf xs) q xs[q].b) :: zipL (q + 1) ((gOf xs).drop (q + 1))) := hzip
      have HLB : Hid (lenB (xs[q].b, detG (gOf xs) q xs[q].b) = roomV xs[q].b + (detG (gOf xs) q xs[q].b).length) := rfl
      clear hGC hx hca hcz hcell hcl hlf hle hlens hzip hset hdet hbk hqg hyl hnl
      subst hao
      generalize (leftL (q + 1) ((gOf xs).drop (q + 1))).getD 0 0 = nx at *
      generalize (lfL (gOf xs) (q + 1)).getD yn 0 = ly at *
      generalize (lfL (gOf xs) (q + 1)).getD nn 0 = ln at *
      generalize detG (gOf xs) q xs[q].b = dd at *
      generalize roomV xs[q].b = rm at *
      generalize xs[q] = X at *
      obtain ⟨⟨code, en, ⟨ic, it, jf, ik⟩, yes, no⟩, xa, xc⟩ := X
      simp only at hyn hnn
      subst hyn hnn
      simp only [bkV, bkA] at HX HRM
      have V1 := VAt.alloc wr 56 #[.slice xa code.length xc, .int .i64 en, .int .u16 (ic.toNat : Int), .int .u8 (it.toNat : Int), .int .u8 (jf.toNat : Int), .int .u32 (ik.toNat : Int), .int .i64 (yn : Int), .int .i64 (nn : Int)]
      have K1 : wr.grownBy (wr.alloc (.cells #[.slice xa code.length xc, .int .i64 en, .int .u16 (ic.toNat : Int), .int .u8 (it.toNat : Int), .int .u8 (jf.toNat : Int), .int .u32 (ik.toNat : Int), .int .i64 (yn : Int), .int .i64 (nn : Int)] 56)) none := World.grownBy_alloc _ _ _
      have HR : Hid (wr.ownsRow w.heap.size 50 1 (.slice (some ⟨B1, 0, none⟩) N N) N (List.replicate (q + 1) (.slice none 0 0) ++ ds) ∧ DOwn wr (B2 + 1) ds (zipL (q + 1) ((gOf xs).drop (q + 1))) ∧ wr.ownsRow w.heap.size 3 1 (.slice (some ⟨B2, 0, none⟩) (N + 1) (N + 1)) (N + 1) ((lfL (gOf xs) (q + 1)).map nv) ∧ w.grownBy wr none ∧ B2 + 1 ≤ wr.heap.size) := ⟨R1, D1, R2, G, hsz⟩
      clear R1 D1 R2 G hsz
      have hs1 : IntKind.i64.wrap ((q : Int) + 1) = (q : Int) + 1 := by rw [IntKind.wrap_i64]; omega
      have hs2 : (q : Int) + 1 < (N : Int) + 1 := by omega
      have hs3 : (0 : Int) ≤ (q : Int) + 1 := by omega
      have hs4 : IntKind.i64.wrap ((nx : Int) - (ly : Int)) = (nx : Int) - (ly : Int) := by rw [IntKind.wrap_i64]; omega
      have hs5 : IntKind.i64.wrap ((nx : Int) - (ln : Int)) = (nx : Int) - (ln : Int) := by rw [IntKind.wrap_i64]; omega
      go_upto_region 7 with fail
      generalize wr.alloc (.cells #[.slice xa code.length xc, .int .i64 en, .int .u16 (ic.toNat : Int), .int .u8 (it.toNat : Int), .int .u8 (jf.toNat : Int), .int .u32 (ik.toNat : Int), .int .i64 (yn : Int), .int .i64 (nn : Int)] 56) = w3 at *
      have HB : Hid (wr.heap.size = wr.heap.size) := rfl
      obtain ⟨B, hB⟩ : ∃ B, wr.heap.size = B := ⟨_, rfl⟩
      rw [hB] at V1 ⊢
      have m1 := K1.cell l1 (by simp)
      have m2 := K1.cell l2 (by simp)
      have m3 := K1.cell l3 (by simp)
      have HV : Hid (VAt w3 B 56 #[.slice xa code.length xc, .int .i64 en, .int .u16 (ic.toNat : Int), .int .u8 (it.toNat : Int), .int .u8 (jf.toNat : Int), .int .u32 (ik.toNat : Int), .int .i64 (yn : Int), .int .i64 (nn : Int)] ∧ wr.grownBy w3 none ∧ B1 < B2 ∧ B2 < B) := ⟨V1, K1, by have := HBB.out; omega, by have := HR.out.2.2.2.2; omega⟩
      clear V1 K1 c0 c1 c2 c3 c4 c5 c6 c7 l1 l2 l3 hB HB
      go_upto_region 8 with fail
      clear m1
      refine wp_region_held_drew (S := fun W' => VAt W' B 56 #[.slice xa code.length xc, .int .i64 en, .int .u16 (ic.toNat : Int), .int .u8 (it.toNat : Int), .int .u8 (jf.toNat : Int), .int .u32 (ik.toNat : Int), .int .i64 (yn : Int), .int .i64 (nn : Int)] ∧ W'.cell? ⟨B2, yn, none⟩ = some (.int .i64 (ly : Int)) ∧ W'.cell? ⟨B2, nn, none⟩ = some (.int .i64 (ln : Int))) (by kernel_rfl) (⟨HV.out.1, m2, m3⟩) (fun hHeld => ?_)
      refine wpAnyH_take (i := 0) (v := .slice (some ⟨B1, 0, none⟩) N N) rfl (by kernel_rfl) (by kernel_rfl) (by kernel_rfl) (fun _ _ _ h => h) (Or.inl ⟨by rfl, fun W hW => ?_⟩) hHeld ?_
      · clear hW
        go_simp
      try simp only [Act.put, List.getElem_toArray, List.getElem_cons_zero, List.setIfInBounds_toArray, List.set_cons_zero, List.set_cons_succ]
      refine wpAnyH_take (i := 1) (v := .int .i64 (q : Int)) rfl (by kernel_rfl) (by kernel_rfl) (by kernel_rfl) (fun _ _ _ h => h) (Or.inl ⟨by rfl, fun W hW => ?_⟩) hHeld ?_
      · clear hW
        go_simp
      try simp only [Act.put, List.getElem_toArray, List.getElem_cons_zero, List.getElem_cons_succ, List.setIfInBounds_toArray, List.set_cons_zero, List.set_cons_succ]
      refine wpAnyH_take (i := 2) (v := .agg (#[.slice xa code.length xc, .int .i64 en, .int .u16 (ic.toNat : Int), .int .u8 (it.toNat : Int), .int .u8 (jf.toNat : Int), .int .u32 (ik.toNat : Int), .int .i64 (yn : Int), .int .i64 (nn : Int)])) rfl (by kernel_rfl) (by kernel_rfl) (by kernel_rfl) (fun _ _ _ h => h) (gyieldsIf_load_row (by rfl) _ _ rfl B rfl 56 (#[.slice xa code.length xc, .int .i64 en, .int .u16 (ic.toNat : Int), .int .u8 (it.toNat : Int), .int .u8 (jf.toNat : Int), .int .u32 (ik.toNat : Int), .int .i64 (yn : Int), .int .i64 (nn : Int)]) _ (fun W hW => hW.1) Tryz.underlying56 rfl (by kernel_rfl)) hHeld ?_
      try simp only [Act.put, List.getElem_toArray, List.getElem_cons_zero, List.getElem_cons_succ, List.setIfInBounds_toArray, List.set_cons_zero, List.set_cons_succ]
      refine wpAnyH_take (i := 3) (v := .int .i64 (nx : Int)) rfl (by kernel_rfl) (by kernel_rfl) (by kernel_rfl) (fun _ _ _ h => h) (Or.inl ⟨by rfl, fun W hW => ?_⟩) hHeld ?_
      · clear hW
        go_simp
      try simp only [Act.put, List.getElem_toArray, List.getElem_cons_zero, List.getElem_cons_succ, List.setIfInBounds_toArray, List.set_cons_zero, List.set_cons_succ]
      refine wpAnyH_take (i := 4) (v := .slice (some ⟨B2, 0, none⟩) (N + 1) (N + 1)) rfl (by kernel_rfl) (by kernel_rfl) (by kernel_rfl) (fun _ _ _ h => h) (Or.inl ⟨by rfl, fun W hW => ?_⟩) hHeld ?_
      · clear hW
        go_simp
      try simp only [Act.put, List.getElem_toArray, List.getElem_cons_zero, List.getElem_cons_succ, List.setIfInBounds_toArray, List.set_cons_zero, List.set_cons_succ]
      refine wpAnyH_take (i := 5) (v := .pointer (some ⟨B, 6, none⟩)) rfl (by kernel_rfl) (by kernel_rfl) (by kernel_rfl) (fun _ _ _ h => h) (Or.inl ⟨by rfl, fun W hW => ?_⟩) hHeld ?_
      · clear hW
        go_simp
      try simp only [Act.put, List.getElem_toArray, List.getElem_cons_zero, List.getElem_cons_succ, List.setIfInBounds_toArray, List.set_cons_zero, List.set_cons_succ]
      refine wpAnyH_take (i := 6) (v := .int .i64 (yn : Int)) rfl (by kernel_rfl) (by kernel_rfl) (by kernel_rfl) (fun _ _ _ h => h) (Or.inl ⟨by rfl, fun W hW => ?_⟩) hHeld ?_
      · have c := hW.1.cell 6
        clear hW
        go_simp
      try simp only [Act.put, List.getElem_toArray, List.getElem_cons_zero, List.getElem_cons_succ, List.setIfInBounds_toArray, List.set_cons_zero, List.set_cons_succ]
      refine wpAnyH_take (i := 7) (v := .pointer (some ⟨B2, yn, none⟩)) rfl (by kernel_rfl) (by kernel_rfl) (by kernel_rfl) (fun _ _ _ h => h) (Or.inl ⟨by rfl, fun W hW => ?_⟩) hHeld ?_
      · clear hW
        go_simp
      try simp only [Act.put, List.getElem_toArray, List.getElem_cons_zero, List.getElem_cons_succ, List.setIfInBounds_toArray, List.set_cons_zero, List.set_cons_succ]
      refine wpAnyH_take (i := 8) (v := .int .i64 (ly : Int)) rfl (by kernel_rfl) (by kernel_rfl) (by kernel_rfl) (fun _ _ _ h => h) (Or.inl ⟨by rfl, fun W hW => ?_⟩) hHeld ?_
      · have c := hW.2.1
        clear hW
        go_simp
      try simp only [Act.put, List.getElem_toArray, List.getElem_cons_zero, List.getElem_cons_succ, List.setIfInBounds_toArray, List.set_cons_zero, List.set_cons_succ]
      refine wpAnyH_take (i := 9) (v := .int .i64 ((nx : Int) - (ly : Int))) rfl (by kernel_rfl) (by kernel_rfl) (by kernel_rfl) (fun _ _ _ h => h) (Or.inl ⟨by rfl, fun W hW => ?_⟩) hHeld ?_
      · clear hW
        go_simp
      try simp only [Act.put, List.getElem_toArray, List.getElem_cons_zero, List.getElem_cons_succ, List.setIfInBounds_toArray, List.set_cons_zero, List.set_cons_succ]
      refine wpAnyH_take (i := 10) (v := .int .i64 (nx : Int)) rfl (by kernel_rfl) (by kernel_rfl) (by kernel_rfl) (fun _ _ _ h => h) (Or.inl ⟨by rfl, fun W hW => ?_⟩) hHeld ?_
      · clear hW
        go_simp
      try simp only [Act.put, List.getElem_toArray, List.getElem_cons_zero, List.getElem_cons_succ, List.setIfInBounds_toArray, List.set_cons_zero, List.set_cons_succ]
      refine wpAnyH_take (i := 11) (v := .slice (some ⟨B2, 0, none⟩) (N + 1) (N + 1)) rfl (by kernel_rfl) (by kernel_rfl) (by kernel_rfl) (fun _ _ _ h => h) (Or.inl ⟨by rfl, fun W hW => ?_⟩) hHeld ?_
      · clear hW
        go_simp
      try simp only [Act.put, List.getElem_toArray, List.getElem_cons_zero, List.getElem_cons_succ, List.setIfInBounds_toArray, List.set_cons_zero, List.set_cons_succ]
      refine wpAnyH_take (i := 12) (v := .pointer (some ⟨B, 7, none⟩)) rfl (by kernel_rfl) (by kernel_rfl) (by kernel_rfl) (fun _ _ _ h => h) (Or.inl ⟨by rfl, fun W hW => ?_⟩) hHeld ?_
      · clear hW
        go_simp
      try simp only [Act.put, List.getElem_toArray, List.getElem_cons_zero, List.getElem_cons_succ, List.setIfInBounds_toArray, List.set_cons_zero, List.set_cons_succ]
      refine wpAnyH_take (i := 13) (v := .int .i64 (nn : Int)) rfl (by kernel_rfl) (by kernel_rfl) (by kernel_rfl) (fun _ _ _ h => h) (Or.inl ⟨by rfl, fun W hW => ?_⟩) hHeld ?_
      · have c := hW.1.cell 7
        clear hW
        go_simp
      try simp only [Act.put, List.getElem_toArray, List.getElem_cons_zero, List.getElem_cons_succ, List.setIfInBounds_toArray, List.set_cons_zero, List.set_cons_succ]
      refine wpAnyH_take (i := 14) (v := .pointer (some ⟨B2, nn, none⟩)) rfl (by kernel_rfl) (by kernel_rfl) (by kernel_rfl) (fun _ _ _ h => h) (Or.inl ⟨by rfl, fun W hW => ?_⟩) hHeld ?_
      · clear hW
        go_simp
      try simp only [Act.put, List.getElem_toArray, List.getElem_cons_zero, List.getElem_cons_succ, List.setIfInBounds_toArray, List.set_cons_zero, List.set_cons_succ]
      refine wpAnyH_take (i := 15) (v := .int .i64 (ln : Int)) rfl (by kernel_rfl) (by kernel_rfl) (by kernel_rfl) (fun _ _ _ h => h) (Or.inl ⟨by rfl, fun W hW => ?_⟩) hHeld ?_
      · have c := hW.2.2
        clear hW
        go_simp
      try simp only [Act.put, List.getElem_toArray, List.getElem_cons_zero, List.getElem_cons_succ, List.setIfInBounds_toArray, List.set_cons_zero, List.set_cons_succ]
      refine wpAnyH_take (i := 16) (v := .int .i64 ((nx : Int) - (ln : Int))) rfl (by kernel_rfl) (by kernel_rfl) (by kernel_rfl) (fun _ _ _ h => h) (Or.inl ⟨by rfl, fun W hW => ?_⟩) hHeld ?_
      · clear hW
        go_simp
      try simp only [Act.put, List.getElem_toArray, List.getElem_cons_zero, List.getElem_cons_succ, List.setIfInBounds_toArray, List.set_cons_zero, List.set_cons_succ]
      refine wpAnyH_ready (rs := [17]) (by kernel_rfl) (by simp) (AllReadyH.cons rfl (fun K hK => ?_) AllReadyH.nil)
      go_simp
      refine (HX.out w3.drew (Nat.le_trans HR.out.2.2.2.2 (HV.out.2.1).size)).mono ?_
      rintro e w4 ⟨dv, rfl, Z4, K4'⟩
      have K4 : w3.grownBy w4 none := grown_trans (grown_drewN w3 1 none) K4'
      obtain ⟨da, dc, hdv⟩ := own_slice Z4
      subst hdv
      have Kr := grown_trans HV.out.2.1 K4
      go_wp2_with fail
      refine hK.out _ _ (⟨hHeld.1.kept K4', K4'.cell hHeld.2.1 (by simp), K4'.cell hHeld.2.2 (by simp)⟩) (fun hHeld => ?_)
      clear hK K
      try simp only [Act.put, List.getElem_toArray, List.getElem_cons_zero, List.getElem_cons_succ, List.setIfInBounds_toArray, List.set_cons_zero, List.set_cons_succ]
      refine wpAnyH_take (i := 18) (v := .pointer (some ⟨B1, q, none⟩)) rfl (by kernel_rfl) (by kernel_rfl) (by kernel_rfl) (fun _ _ _ h => h) (Or.inl ⟨by rfl, fun W hW => ?_⟩) hHeld ?_
      · clear hW
        go_simp
      try simp only [Act.put, List.getElem_toArray, List.getElem_cons_zero, List.getElem_cons_succ, List.setIfInBounds_toArray, List.set_cons_zero, List.set_cons_succ]
      have R4 := owns_keptNone HR.out.1 Kr
      obtain ⟨R5, G5⟩ := World.ownsRow.stored R4 q (.slice da dd.length dc)
      have cq : w4.cell? ⟨B1, q, none⟩ = some (.slice none 0 0) := by
        have := R4.cells (g := B1) rfl q (.slice none 0 0) (by rw [List.getElem?_append_left (by simp)]; simp)
        rw [Addr.add_lit, Nat.zero_add] at this
        exact this
      have fq : w4.frozen? ⟨B1, q, none⟩ = false := (BlkN.ofRow R4).1.free q
      have hb12 := HV.out.2.2.1
      have hb2 := HV.out.2.2.2
      refine wpAnyH_ready (rs := [19]) (by kernel_rfl) (by simp) (AllReadyH.cons rfl (fun K hK => ?_) AllReadyH.nil)
      go_simp
      have hB5 : VAt (w4.setCell ⟨B1, q, none⟩ (.slice da dd.length dc)) B 56 #[.slice xa code.length xc, .int .i64 en, .int .u16 (ic.toNat : Int), .int .u8 (it.toNat : Int), .int .u8 (jf.toNat : Int), .int .u32 (ik.toNat : Int), .int .i64 (yn : Int), .int .i64 (nn : Int)] := hHeld.1.setOther (k := B1) (i := q) _ (by omega)
      refine hK.out _ _ ⟨hB5, G5.cell hHeld.2.1 (by simp; omega), G5.cell hHeld.2.2 (by simp; omega)⟩ (fun hHeld => ?_)
      refine wpAnyH_done (by kernel_rfl) ?_ _
      have e5 : (List.replicate (q + 1) (Value.slice none 0 0) ++ ds).set q (.slice da dd.length dc) = List.replicate q (.slice none 0 0) ++ (.slice da dd.length dc :: ds) := by
        rw [List.replicate_succ', List.append_assoc, List.set_append_right _ _ (by simp), List.length_replicate, Nat.sub_self]
        rfl
      rw [e5] at R5
      have hKB : ∀ x, some B1 = some x → x < B2 + 1 := fun x hx => by have := Option.some.inj hx; omega
      have D5 : DOwn (w4.setCell ⟨B1, q, none⟩ (.slice da dd.length dc)) (B2 + 1) (.slice da dd.length dc :: ds) (zipL q ((gOf xs).drop q)) := by
        have D4 := (HR.out.2.1.kept Kr (fun x hx => by cases hx)).kept G5 hKB
        have Z5 : ZOwns (w4.setCell ⟨B1, q, none⟩ (.slice da dd.length dc)) (B2 + 1) (.slice da dd.length dc) dd := Z4.kept G5 (.inr fun e => by have := (Z4.lt B1 e).1; omega)
        rw [HZI.out]
        refine ⟨by rw [List.length_cons, List.length_cons, D4.1], fun i v x h1 h2 => ?_⟩
        cases i with
        | zero =>
          simp only [List.getElem?_cons_zero, Option.some.injEq] at h1 h2
          subst h1 h2
          exact Z5
        | succ i => exact D4.2 i v x (by simpa using h1) (by simpa using h2)
      have R6 : (w4.setCell ⟨B1, q, none⟩ (.slice da dd.length dc)).ownsRow w.heap.size 3 1 (.slice (some ⟨B2, 0, none⟩) (N + 1) (N + 1)) (N + 1) ((lfL (gOf xs) (q + 1)).map nv) := (owns_keptNone HR.out.2.2.1 Kr).kept G5 (.inr (by simp [Value.ownBlock]; omega))
      have G6 : w.grownBy (w4.setCell ⟨B1, q, none⟩ (.slice da dd.length dc)) none := grown_trans_new (grown_trans HR.out.2.2.2.1 Kr) G5 (fun z e => by cases e; have := HBB.out; omega)
      have HR6 : Hid ((w4.setCell ⟨B1, q, none⟩ (.slice da dd.length dc)).ownsRow w.heap.size 50 1 (.slice (some ⟨B1, 0, none⟩) N N) N (List.replicate q (.slice none 0 0) ++ (.slice da dd.length dc :: ds)) ∧ DOwn (w4.setCell ⟨B1, q, none⟩ (.slice da dd.length dc)) (B2 + 1) (.slice da dd.length dc :: ds) (zipL q ((gOf xs).drop q)) ∧ (w4.setCell ⟨B1, q, none⟩ (.slice da dd.length dc)).ownsRow w.heap.size 3 1 (.slice (some ⟨B2, 0, none⟩) (N + 1) (N + 1)) (N + 1) ((lfL (gOf xs) (q + 1)).map nv) ∧ w.grownBy (w4.setCell ⟨B1, q, none⟩ (.slice da dd.length dc)) none ∧ B2 + 1 ≤ (w4.setCell ⟨B1, q, none⟩ (.slice da dd.length dc)).heap.size) := ⟨R5, D5, R6, G6, by have := HR.out.2.2.2.2; have := Kr.size; have := G5.size; omega⟩
      have HVB : Hid (VAt (w4.setCell ⟨B1, q, none⟩ (.slice da dd.length dc)) B 56 #[.slice xa code.length xc, .int .i64 en, .int .u16 (ic.toNat : Int), .int .u8 (it.toNat : Int), .int .u8 (jf.toNat : Int), .int .u32 (ik.toNat : Int), .int .i64 (yn : Int), .int .i64 (nn : Int)]) := hB5
      clear hK K hHeld R4 R5 D5 R6 G6 G5 cq fq e5 hKB hB5 Z4 K4' K4 Kr HR HX m2 m3 hs4 hs5
      generalize w4.setCell ⟨B1, q, none⟩ (.slice da dd.length dc) = w5 at *
      have o5 : w5.cell? ⟨B1, q, none⟩ = some (.slice da dd.length dc) := by
        have := HR6.out.1.cells (g := B1) rfl q (.slice da dd.length dc) (by rw [List.getElem?_append_right (by simp), List.length_replicate, Nat.sub_self]; rfl)
        rw [Addr.add_lit, Nat.zero_add] at this
        exact this
      go_wp2_with fail
      refine wp_region_held_drew (S := fun W' => VAt W' B 56 #[.slice xa code.length xc, .int .i64 en, .int .u16 (ic.toNat : Int), .int .u8 (it.toNat : Int), .int .u8 (jf.toNat : Int), .int .u32 (ik.toNat : Int), .int .i64 (yn : Int), .int .i64 (nn : Int)] ∧ W'.cell? ⟨B1, q, none⟩ = some (.slice da dd.length dc)) (by kernel_rfl) (⟨HVB.out, o5⟩) (fun hHeld => ?_)
      refine wpAnyH_take (i := 0) (v := .slice (some ⟨B2, 0, none⟩) (N + 1) (N + 1)) rfl (by kernel_rfl) (by kernel_rfl) (by kernel_rfl) (fun _ _ _ h => h) (Or.inl ⟨by rfl, fun W hW => ?_⟩) hHeld ?_
      · clear hW
        go_simp
      try simp only [Act.put, List.getElem_toArray, List.getElem_cons_zero, List.setIfInBounds_toArray, List.set_cons_zero, List.set_cons_succ]
      refine wpAnyH_take (i := 1) (v := .int .i64 (q : Int)) rfl (by kernel_rfl) (by kernel_rfl) (by kernel_rfl) (fun _ _ _ h => h) (Or.inl ⟨by rfl, fun W hW => ?_⟩) hHeld ?_
      · clear hW
        go_simp
      try simp only [Act.put, List.getElem_toArray, List.getElem_cons_zero, List.getElem_cons_succ, List.setIfInBounds_toArray, List.set_cons_zero, List.set_cons_succ]
      refine wpAnyH_take (i := 2) (v := .int .i64 (nx : Int)) rfl (by kernel_rfl) (by kernel_rfl) (by kernel_rfl) (fun _ _ _ h => h) (Or.inl ⟨by rfl, fun W hW => ?_⟩) hHeld ?_
      · clear hW
        go_simp
      try simp only [Act.put, List.getElem_toArray, List.getElem_cons_zero, List.getElem_cons_succ, List.setIfInBounds_toArray, List.set_cons_zero, List.set_cons_succ]
      refine wpAnyH_take (i := 3) (v := .agg (#[.slice xa code.length xc, .int .i64 en, .int .u16 (ic.toNat : Int), .int .u8 (it.toNat : Int), .int .u8 (jf.toNat : Int), .int .u32 (ik.toNat : Int), .int .i64 (yn : Int), .int .i64 (nn : Int)])) rfl (by kernel_rfl) (by kernel_rfl) (by kernel_rfl) (fun _ _ _ h => h) (gyieldsIf_load_row (by rfl) _ _ rfl B rfl 56 (#[.slice xa code.length xc, .int .i64 en, .int .u16 (ic.toNat : Int), .int .u8 (it.toNat : Int), .int .u8 (jf.toNat : Int), .int .u32 (ik.toNat : Int), .int .i64 (yn : Int), .int .i64 (nn : Int)]) _ (fun W hW => hW.1) Tryz.underlying56 rfl (by kernel_rfl)) hHeld ?_
      try simp only [Act.put, List.getElem_toArray, List.getElem_cons_zero, List.getElem_cons_succ, List.setIfInBounds_toArray, List.set_cons_zero, List.set_cons_succ]
      refine wpAnyH_take (i := 6) (v := .slice (some ⟨B1, 0, none⟩) N N) rfl (by kernel_rfl) (by kernel_rfl) (by kernel_rfl) (fun _ _ _ h => h) (Or.inl ⟨by rfl, fun W hW => ?_⟩) hHeld ?_
      · clear hW
        go_simp
      try simp only [Act.put, List.getElem_toArray, List.getElem_cons_zero, List.getElem_cons_succ, List.setIfInBounds_toArray, List.set_cons_zero, List.set_cons_succ]
      refine wpAnyH_take (i := 7) (v := .int .i64 (q : Int)) rfl (by kernel_rfl) (by kernel_rfl) (by kernel_rfl) (fun _ _ _ h => h) (Or.inl ⟨by rfl, fun W hW => ?_⟩) hHeld ?_
      · clear hW
        go_simp
      try simp only [Act.put, List.getElem_toArray, List.getElem_cons_zero, List.getElem_cons_succ, List.setIfInBounds_toArray, List.set_cons_zero, List.set_cons_succ]
      refine wpAnyH_take (i := 8) (v := .pointer (some ⟨B1, q, none⟩)) rfl (by kernel_rfl) (by kernel_rfl) (by kernel_rfl) (fun _ _ _ h => h) (Or.inl ⟨by rfl, fun W hW => ?_⟩) hHeld ?_
      · clear hW
        go_simp
      try simp only [Act.put, List.getElem_toArray, List.getElem_cons_zero, List.getElem_cons_succ, List.setIfInBounds_toArray, List.set_cons_zero, List.set_cons_succ]
      refine wpAnyH_take (i := 9) (v := .slice da dd.length dc) rfl (by kernel_rfl) (by kernel_rfl) (by kernel_rfl) (fun _ _ _ h => h) (Or.inl ⟨by rfl, fun W hW => ?_⟩) hHeld ?_
      · have c := hW.2
        clear hW
        go_simp
      try simp only [Act.put, List.getElem_toArray, List.getElem_cons_zero, List.getElem_cons_succ, List.setIfInBounds_toArray, List.set_cons_zero, List.set_cons_succ]
      refine wpAnyH_take (i := 10) (v := .int .i64 (dd.length : Int)) rfl (by kernel_rfl) (by kernel_rfl) (by kernel_rfl) (fun _ _ _ h => h) (Or.inl ⟨by rfl, fun W hW => ?_⟩) hHeld ?_
      · clear hW
        go_simp
      try simp only [Act.put, List.getElem_toArray, List.getElem_cons_zero, List.getElem_cons_succ, List.setIfInBounds_toArray, List.set_cons_zero, List.set_cons_succ]
      refine wpAnyH_ready (rs := [4]) (by kernel_rfl) (by simp) (AllReadyH.cons rfl (fun K hK => ?_) AllReadyH.nil)
      go_simp
      refine (HRM.out _).mono ?_
      rintro e w6 ⟨rfl, K6'⟩
      have K6 : w5.grownBy w6 none := grown_trans (grown_drewN w5 1 none) K6'
      have ht1 : IntKind.i64.wrap ((nx : Int) + (rm : Int)) = (nx : Int) + (rm : Int) := by rw [IntKind.wrap_i64]; have := HDL.out; omega
      have ht2 : IntKind.i64.wrap ((nx : Int) + (rm : Int) + (dd.length : Int)) = (nx : Int) + (rm : Int) + (dd.length : Int) := by rw [IntKind.wrap_i64]; have := HDL.out; omega
      go_wp2_with fail
      refine hK.out _ _ (⟨hHeld.1.kept K6', K6'.cell hHeld.2 (by simp)⟩) (fun hHeld => ?_)
      clear hK K
      try simp only [Act.put, List.getElem_toArray, List.getElem_cons_zero, List.getElem_cons_succ, List.setIfInBounds_toArray, List.set_cons_zero, List.set_cons_succ]
      refine wpAnyH_take (i := 5) (v := .int .i64 ((nx : Int) + (rm : Int))) rfl (by kernel_rfl) (by kernel_rfl) (by kernel_rfl) (fun _ _ _ h => h) (Or.inl ⟨by rfl, fun W hW => ?_⟩) hHeld ?_
      · clear hW
        go_simp
      try simp only [Act.put, List.getElem_toArray, List.getElem_cons_zero, List.getElem_cons_succ, List.setIfInBounds_toArray, List.set_cons_zero, List.set_cons_succ]
      refine wpAnyH_take (i := 11) (v := .int .i64 ((nx : Int) + (rm : Int) + (dd.length : Int))) rfl (by kernel_rfl) (by kernel_rfl) (by kernel_rfl) (fun _ _ _ h => h) (Or.inl ⟨by rfl, fun W hW => ?_⟩) hHeld ?_
      · clear hW
        go_simp
      try simp only [Act.put, List.getElem_toArray, List.getElem_cons_zero, List.getElem_cons_succ, List.setIfInBounds_toArray, List.set_cons_zero, List.set_cons_succ]
      refine wpAnyH_take (i := 12) (v := .pointer (some ⟨B2, q, none⟩)) rfl (by kernel_rfl) (by kernel_rfl) (by kernel_rfl) (fun _ _ _ h => h) (Or.inl ⟨by rfl, fun W hW => ?_⟩) hHeld ?_
      · clear hW
        go_simp
      try simp only [Act.put, List.getElem_toArray, List.getElem_cons_zero, List.getElem_cons_succ, List.setIfInBounds_toArray, List.set_cons_zero, List.set_cons_succ]
      have R7 := owns_keptNone HR6.out.2.2.1 K6
      obtain ⟨R8, G8⟩ := World.ownsRow.stored R7 q (.int .i64 ((nx : Int) + (rm : Int) + (dd.length : Int)))
      have e8 : (nv (nx + lenB (⟨code, en, ⟨ic, it, jf, ik⟩, (yn : Int), (nn : Int)⟩, dd)) : Value) = .int .i64 ((nx : Int) + (rm : Int) + (dd.length : Int)) := by
        rw [HLB.out, nv]
        congr 1
        omega
      rw [← e8, HSE.out, e8] at R8
      obtain ⟨u8, cq⟩ := (BlkN.ofRow R7).1.cell (i := q) (by omega)
      have fq : w6.frozen? ⟨B2, q, none⟩ = false := (BlkN.ofRow R7).1.free q
      have hb12 := HV.out.2.2.1
      have hb2 := HV.out.2.2.2
      refine wpAnyH_ready (rs := [13]) (by kernel_rfl) (by simp) (AllReadyH.cons rfl (fun K hK => ?_) AllReadyH.nil)
      go_simp
      refine hK.out _ _ ⟨hHeld.1.setOther (k := B2) (i := q) _ (by omega), G8.cell hHeld.2 (by simp; omega)⟩ (fun hHeld => ?_)
      refine wpAnyH_done (by kernel_rfl) ?_ _
      have R9 : (w6.setCell ⟨B2, q, none⟩ (.int .i64 ((nx : Int) + (rm : Int) + (dd.length : Int)))).ownsRow w.heap.size 50 1 (.slice (some ⟨B1, 0, none⟩) N N) N (List.replicate q (.slice none 0 0) ++ (.slice da dd.length dc :: ds)) := (owns_keptNone HR6.out.1 K6).kept G8 (.inr (by simp [Value.ownBlock]; omega))
      have D9 : DOwn (w6.setCell ⟨B2, q, none⟩ (.int .i64 ((nx : Int) + (rm : Int) + (dd.length : Int)))) (B2 + 1) (.slice da dd.length dc :: ds) (zipL q ((gOf xs).drop q)) := (HR6.out.2.1.kept K6 (fun x hx => by cases hx)).kept G8 (fun x hx => by have := Option.some.inj hx; omega)
      have G9 : w.grownBy (w6.setCell ⟨B2, q, none⟩ (.int .i64 ((nx : Int) + (rm : Int) + (dd.length : Int)))) none := grown_trans_new (grown_trans HR6.out.2.2.2.1 K6) G8 (fun z e => by cases e; have := HBB.out; omega)
      have HE : Hid (∃ ds : List Value, (w6.setCell ⟨B2, q, none⟩ (.int .i64 ((nx : Int) + (rm : Int) + (dd.length : Int)))).ownsRow w.heap.size 50 1 (.slice (some ⟨B1, 0, none⟩) N N) N (List.replicate q (.slice none 0 0) ++ ds) ∧ DOwn (w6.setCell ⟨B2, q, none⟩ (.int .i64 ((nx : Int) + (rm : Int) + (dd.length : Int)))) (B2 + 1) ds (zipL q ((gOf xs).drop q)) ∧ (w6.setCell ⟨B2, q, none⟩ (.int .i64 ((nx : Int) + (rm : Int) + (dd.length : Int)))).ownsRow w.heap.size 3 1 (.slice (some ⟨B2, 0, none⟩) (N + 1) (N + 1)) (N + 1) ((lfL (gOf xs) q).map nv) ∧ w.grownBy (w6.setCell ⟨B2, q, none⟩ (.int .i64 ((nx : Int) + (rm : Int) + (dd.length : Int)))) none ∧ B2 + 1 ≤ (w6.setCell ⟨B2, q, none⟩ (.int .i64 ((nx : Int) + (rm : Int) + (dd.length : Int)))).heap.size) := ⟨_, R9, D9, R8, G9, by have := HR6.out.2.2.2.2; have := K6.size; have := G8.size; omega⟩
      clear hK K hHeld R7 R8 R9 D9 G9 G8 cq fq e8 K6 K6' HR6 HVB HRM ht1 ht2 o5
      generalize w6.setCell ⟨B2, q, none⟩ (.int .i64 ((nx : Int) + (rm : Int) + (dd.length : Int))) = w7 at *
      have hd1 : IntKind.i64.wrap ((q : Int) - 1) = (q : Int) - 1 := by rw [IntKind.wrap_i64]; omega
      go_wp2
      go_roundw
      case rel => exact ⟨q, by omega, by go_num, HE.out⟩
      case measure => first | (simp [intOf]; done) | (simp [intOf]; omega)

end Go.Proofs.YtencoknpocipbaaGreat
