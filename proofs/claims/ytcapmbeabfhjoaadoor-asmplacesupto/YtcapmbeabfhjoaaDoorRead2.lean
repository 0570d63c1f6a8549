/-
  The document's own Read, walked.
-/
import Derived.Test.YtcapmbeabfhjoaaDoorParseD
import Derived.Deep.DeepCutAuto
namespace Go.Proofs.YtcapmbeabfhjoaaDoor
open Go.RowKit
set_option maxRecDepth 100000

theorem blk_set {W : World} {g i : Nat} {e : TypeId} {cur : Array Value} (h : W.heap[g]? = some (.cells cur e (0, 0))) (v : Value) : (W.setCell ⟨g, i, none⟩ v).heap[g]? = some (.cells (cur.setIfInBounds i v) e (0, 0)) := by
  simp only [World.setCell, Array.getElem?_modify, h]
  simp

/-- Four cells, written one behind the other. -/
theorem set4 {W : World} {g : Nat} {e : TypeId} (h : BlkN W e g 4) (v0 v1 v2 v3 : Value) :
    let W4 := (((W.setCell ⟨g, 0, none⟩ v0).setCell ⟨g, 1, none⟩ v1).setCell ⟨g, 2, none⟩ v2).setCell ⟨g, 3, none⟩ v3
    W4.cell? ⟨g, 0, none⟩ = some v0 ∧ W4.cell? ⟨g, 1, none⟩ = some v1 ∧ W4.cell? ⟨g, 2, none⟩ = some v2 ∧ W4.cell? ⟨g, 3, none⟩ = some v3 := by
  obtain ⟨cur, hh, hs⟩ := h
  have k := blk_set (i := 3) (blk_set (i := 2) (blk_set (i := 1) (blk_set (i := 0) hh v0) v1) v2) v3
  intro W4
  have hc : ∀ i, W4.cell? ⟨g, i, none⟩ = ((((cur.setIfInBounds 0 v0).setIfInBounds 1 v1).setIfInBounds 2 v2).setIfInBounds 3 v3)[i]? := fun i => cell_of_row W4 g i _ _ _ k
  refine ⟨?_, ?_, ?_, ?_⟩ <;> rw [hc] <;> simp [hs]

theorem mkI_cells {c t f k : Nat} (hc : c ≤ 65535) (ht : t ≤ 255) (hf : f ≤ 255) (hk : k ≤ 4294967295) : (mkI c t f k).cells = [.int .u16 (c : Int), .int .u8 (t : Int), .int .u8 (f : Int), .int .u32 (k : Int)] := by
  have e1 : (UInt16.ofNat c).toNat = c := by simp; omega
  have e2 : (UInt8.ofNat t).toNat = t := by simp; omega
  have e3 : (UInt8.ofNat f).toNat = f := by simp; omega
  have e4 : (UInt32.ofNat k).toNat = k := by simp; omega
  simp only [In.cells, mkI, e1, e2, e3, e4]

theorem numsG_le : ∀ (g : Nat) (s : List UInt8), ∀ n ∈ numsG g s, n ≤ 4294967295
  | 0, _, n, h => by simp [numsG] at h
  | g + 1, [], n, h => by simp [numsG] at h
  | g + 1, c :: r, n, h => by
    rw [numsG] at h
    split at h
    · cases hv : numberV 4294967295 (digs (c :: r)) with
      | none => rw [hv] at h; simp at h
      | some v =>
        rw [hv] at h
        rcases List.mem_cons.1 h with rfl | h
        · exact numberV_le hv
        · exact numsG_le g _ n h
    · exact numsG_le g r n h

theorem numsR_le (s : List UInt8) (i : Nat) : (numsR s).getD i 0 ≤ 4294967295 := by
  by_cases h : i < (numsR s).length
  · simp only [List.getD_eq_getElem?_getD, List.getElem?_eq_getElem h, Option.getD_some]
    exact numsG_le _ s _ (List.getElem_mem h)
  · simp [Nat.not_lt.1 h]

/-- The test of a raw line's numbers. -/
def rawOk (ns : List Nat) : Bool := decide (ns.length = 4 ∧ ns.getD 0 0 < 65536 ∧ ns.getD 1 0 < 256 ∧ ns.getD 2 0 < 256)
theorem rawOk_eq (ns : List Nat) {n0 n1 n2 : Nat} (h0 : ns.getD 0 0 = n0) (h1 : ns.getD 1 0 = n1) (h2 : ns.getD 2 0 = n2) : rawOk ns = decide (ns.length = 4 ∧ n0 < 65536 ∧ n1 < 256 ∧ n2 < 256) := by subst h0 h1 h2; rfl

theorem nums_len (s : List UInt8) : (numsR s).length ≤ s.length := by
  have key : ∀ (g : Nat) (s : List UInt8), (numsG g s).length ≤ s.length := by
    intro g
    induction g with
    | zero => intro s; simp [numsG]
    | succ g ih =>
      intro s
      cases s with
      | nil => simp [numsG]
      | cons c r =>
        rw [numsG]
        split
        · cases hv : numberV 4294967295 (digs (c :: r)) with
          | none => simp
          | some v => have := ih ((c :: r).drop ((digs (c :: r)).length + 1)); simp only [List.length_cons, List.length_drop] at *; omega
        · have := ih r; simp only [List.length_cons]; omega
  exact key _ s

theorem miss_step {s : List UInt8} {x : In} {rest : List In} {ans : Option In} (h : ([x] ++ rest).find? (hit s) = ans) (hx : lineV x ≠ s) : rest.find? (hit s) = ans := by
  rw [← h, List.find?_append]
  simp [hit, hx]

theorem cand_skip {ns : List Nat} {c i t f : Nat} (hj : usesJ c = true) (hi : nextJ c = i) (ht : ns.getD i 0 = t) (hf : ns.getD (i + 1) 0 = f) (h : 255 < t ∨ 255 < f) : candC ns c = [] := by
  subst hi ht hf
  unfold candC
  rw [if_pos hj, if_pos h]
theorem cand_goals {ns : List Nat} {c i t f k : Nat} (hj : usesJ c = true) (hi : nextJ c = i) (ht : ns.getD i 0 = t) (hf : ns.getD (i + 1) 0 = f) (hk : (if usesK c = true then ns.getD (nextK c) 0 else 0) = k) (h : ¬ 255 < t) (h' : ¬ 255 < f) : candC ns c = [mkI c t f k] := by
  subst hi ht hf hk
  unfold candC
  rw [if_pos hj, if_neg (by omega)]

theorem codesL_len : codesL.length = 49 := by decide +kernel

theorem codesL_at (j : Nat) (hj : j < 49) : ∃ c, codesL.drop j = c :: codesL.drop (j + 1) ∧ (codesL.map hv)[j]? = some (hv c) ∧ knownB c = true := by
  have h : j < codesL.length := by rw [codesL_len]; exact hj
  refine ⟨codesL[j], List.drop_eq_getElem_cons h, by simp [h], ?_⟩
  have := List.getElem_mem h
  exact (List.mem_filter.1 this).2

theorem known_lt {c : Nat} (h : knownB c = true) : c < 256 := by
  simp only [knownB, plainB, jumpB, operB, Bool.or_eq_true, beq_iff_eq] at h
  omega

set_option maxRecDepth 100000 in
set_option maxHeartbeats 4000000 in
theorem refread_any (s : ByteArray) (w : World) (hs : s.size ≤ 1099511627776) :
    Calls Tryd.prog 21 #[.string s] w fun e w' => e = .returned (.tuple #[.agg (readC (sl s)), .bool (readV (sl s)).isSome]) ∧ w.grownBy w' none := by
  unfold readC
  obtain ⟨ans, hans⟩ : ∃ ans, readV (sl s) = ans := ⟨_, rfl⟩
  rw [hans]
  have HANS : Hid (readV (sl s) = ans) := hans
  clear hans
  have hbd := fun i => numsR_le (sl s) i
  have hll := nums_len (sl s)
  rw [sl_len] at hll
  have HB : Hid (∀ i, (numsR (sl s)).getD i 0 ≤ 4294967295) := hbd
  clear hbd
  have B0 : BlkN (w.alloc (.cells #[.int .u16 0, .int .u8 0, .int .u8 0, .int .u32 0] 25)) 25 w.heap.size 4 := ⟨_, heap_alloc_new w _, rfl⟩
  have G0 : w.grownBy (w.alloc (.cells #[.int .u16 0, .int .u8 0, .int .u8 0, .int .u32 0] 25)) none := World.grownBy_alloc _ _ _
  go_enter Tryd.func21, Tryd.ntmps21
  go_wp2_with fail
  refine (refnumbers_any s _ hs).mono ?_
  rintro e w2 ⟨v2, rfl, O2, K2⟩
  have G2 := grown_trans G0 K2
  have B2 := B0.kept K2 (by simp)
  obtain ⟨an, cn, rfl, C2, -, -, -, -, -⟩ := cv_of_row O2
  clear O2 K2 B0 G0
  generalize hns : numsR (sl s) = ns at *
  have HNS : Hid (numsR (sl s) = ns) := hns
  clear hns
  obtain ⟨L, hL⟩ : ∃ L, ns.length = L := ⟨_, rfl⟩
  have HL : Hid (ns.length = L) := hL
  rw [hL] at hll ⊢
  clear hL
  have AT : Hid (∀ (i : Nat) (W : World), W = w2 → i ≤ 100 → Calls Tryd.prog 37 #[.slice an L cn, .int .i64 i] W fun e w' => e = .returned (.int .u32 ((ns.getD i 0 : Nat) : Int)) ∧ W = w') := fun i W hW hi => by subst hW; have := refat_any an cn ns i _ C2 hi; rw [HL.out] at this; exact this
  go_upto_region 2 with fail
  go_cut [32] (fun c wx => c = .bool (rawOk ns) ∧ wx = w2)
  case first =>
    obtain ⟨n0, hn0⟩ : ∃ n, ns.getD 0 0 = n := ⟨_, rfl⟩
    have H0 : Hid (∀ W : World, W = w2 → Calls Tryd.prog 37 #[.slice an L cn, .int .i64 0] W fun e w' => e = .returned (.int .u32 (n0 : Int)) ∧ W = w') := fun W hW => by rw [← hn0]; exact AT.out 0 W hW (by omega)
    obtain ⟨n1, hn1⟩ : ∃ n, ns.getD 1 0 = n := ⟨_, rfl⟩
    have H1 : Hid (∀ W : World, W = w2 → Calls Tryd.prog 37 #[.slice an L cn, .int .i64 1] W fun e w' => e = .returned (.int .u32 (n1 : Int)) ∧ W = w') := fun W hW => by rw [← hn1]; exact AT.out 1 W hW (by omega)
    obtain ⟨n2, hn2⟩ : ∃ n, ns.getD 2 0 = n := ⟨_, rfl⟩
    have H2 : Hid (∀ W : World, W = w2 → Calls Tryd.prog 37 #[.slice an L cn, .int .i64 2] W fun e w' => e = .returned (.int .u32 (n2 : Int)) ∧ W = w') := fun W hW => by rw [← hn2]; exact AT.out 2 W hW (by omega)
    clear C2 AT
    have HR : Hid (rawOk ns = decide (L = 4 ∧ n0 < 65536 ∧ n1 < 256 ∧ n2 < 256)) := by
      have := rawOk_eq ns hn0 hn1 hn2
      rw [HL.out] at this
      exact this
    clear hn0 hn1 hn2
    by_cases h4 : L = 4
    · have h4' : ((L : Int) == 4) = true := by rw [h4]; rfl
      have H4 : Hid (L = 4) := h4
      clear h4
      by_cases h0 : n0 < 65536
      · have h0' : (n0 : Int) < 65536 := by omega
        by_cases h1 : n1 < 256
        · have h1' : (n1 : Int) < 256 := by omega
          by_cases h2 : n2 < 256
          · have h2' : (n2 : Int) < 256 := by omega
            go_wp2_with fail
            refine (H0.out w2 rfl).mono ?_
            rintro e w' ⟨rfl, rfl⟩
            go_wp2_with fail
            refine (H1.out w2 rfl).mono ?_
            rintro e w' ⟨rfl, rfl⟩
            go_wp2_with fail
            refine (H2.out w2 rfl).mono ?_
            rintro e w' ⟨rfl, rfl⟩
            go_wp2
            go_meet
            exact ⟨by rw [HR.out, decide_eq_true ⟨H4.out, h0, h1, h2⟩], rfl⟩
          · have h2' : ¬ ((n2 : Int) < 256) := by omega
            have h2b : decide ((n2 : Int) < 256) = false := decide_eq_false h2'
            go_wp2_with fail
            refine (H0.out w2 rfl).mono ?_
            rintro e w' ⟨rfl, rfl⟩
            go_wp2_with fail
            refine (H1.out w2 rfl).mono ?_
            rintro e w' ⟨rfl, rfl⟩
            go_wp2_with fail
            refine (H2.out w2 rfl).mono ?_
            rintro e w' ⟨rfl, rfl⟩
            go_wp2
            go_meet
            exact ⟨by rw [HR.out, decide_eq_false (p := L = 4 ∧ n0 < 65536 ∧ n1 < 256 ∧ n2 < 256) (fun h => h2 h.2.2.2)]; try simp [*], rfl⟩
        · have h1' : ¬ ((n1 : Int) < 256) := by omega
          have h1b : decide ((n1 : Int) < 256) = false := decide_eq_false h1'
          go_wp2_with fail
          refine (H0.out w2 rfl).mono ?_
          rintro e w' ⟨rfl, rfl⟩
          go_wp2_with fail
          refine (H1.out w2 rfl).mono ?_
          rintro e w' ⟨rfl, rfl⟩
          go_wp2
          go_meet
          exact ⟨by rw [HR.out, decide_eq_false (p := L = 4 ∧ n0 < 65536 ∧ n1 < 256 ∧ n2 < 256) (fun h => h1 h.2.2.1)]; try simp [*], rfl⟩
      · have h0' : ¬ ((n0 : Int) < 65536) := by omega
        have h0b : decide ((n0 : Int) < 65536) = false := decide_eq_false h0'
        go_wp2_with fail
        refine (H0.out w2 rfl).mono ?_
        rintro e w' ⟨rfl, rfl⟩
        go_wp2
        go_meet
        exact ⟨by rw [HR.out, decide_eq_false (p := L = 4 ∧ n0 < 65536 ∧ n1 < 256 ∧ n2 < 256) (fun h => h0 h.2.1)]; try simp [*], rfl⟩
    · have h4' : ((L : Int) == 4) = false := by rw [beq_eq_false_iff_ne]; omega
      go_wp2
      go_meet
      exact ⟨by rw [HR.out, decide_eq_false (p := L = 4 ∧ n0 < 65536 ∧ n1 < 256 ∧ n2 < 256) (fun h => h4 h.1)]; try simp [*], rfl⟩
  case rest =>
    obtain ⟨rfl, rfl⟩ := hcut
    go_upto_if 32 with fail
    go_cut [] (fun wx => (candR ns).find? (hit (sl s)) = none ∧ w.grownBy wx none ∧ BlkN wx 25 w.heap.size 4 ∧ CV wx an (ns.map nv))
    case first =>
      cases hr : rawOk ns with
      | false =>
        have e : candR ns = [] := by
          have h := of_decide_eq_false hr
          simp only [candR]
          exact if_neg h
        have HF : Hid ((candR ns).find? (hit (sl s)) = none) := by
          show (candR ns).find? (hit (sl s)) = none
          rw [e]; rfl
        go_wp2
        go_meet
        exact ⟨HF.out, G2, B2, C2⟩
      | true =>
        have h := of_decide_eq_true hr
        obtain ⟨n0, hn0⟩ : ∃ n, ns.getD 0 0 = n := ⟨_, rfl⟩
        obtain ⟨n1, hn1⟩ : ∃ n, ns.getD 1 0 = n := ⟨_, rfl⟩
        obtain ⟨n2, hn2⟩ : ∃ n, ns.getD 2 0 = n := ⟨_, rfl⟩
        obtain ⟨n3, hn3⟩ : ∃ n, ns.getD 3 0 = n := ⟨_, rfl⟩
        have b3 := HB.out 3
        rw [hn0, hn1, hn2] at h
        rw [hn3] at b3
        obtain ⟨b4, b0, b1, b2⟩ := h
        have e : candR ns = [mkI n0 n1 n2 n3] := by
          simp only [candR, hn0, hn1, hn2, hn3]
          exact if_pos ⟨b4, b0, b1, b2⟩
        have HE : Hid (candR ns = [mkI n0 n1 n2 n3]) := e
        have H0 : Hid (∀ W : World, W = wc → Calls Tryd.prog 37 #[.slice an L cn, .int .i64 0] W fun e w' => e = .returned (.int .u32 (n0 : Int)) ∧ W = w') := fun W hW => by rw [← hn0]; exact AT.out 0 W hW (by omega)
        have H1 : Hid (∀ W : World, W = wc → Calls Tryd.prog 37 #[.slice an L cn, .int .i64 1] W fun e w' => e = .returned (.int .u32 (n1 : Int)) ∧ W = w') := fun W hW => by rw [← hn1]; exact AT.out 1 W hW (by omega)
        have H2 : Hid (∀ W : World, W = wc → Calls Tryd.prog 37 #[.slice an L cn, .int .i64 2] W fun e w' => e = .returned (.int .u32 (n2 : Int)) ∧ W = w') := fun W hW => by rw [← hn2]; exact AT.out 2 W hW (by omega)
        have H3 : Hid (∀ W : World, W = wc → Calls Tryd.prog 37 #[.slice an L cn, .int .i64 3] W fun e w' => e = .returned (.int .u32 (n3 : Int)) ∧ W = w') := fun W hW => by rw [← hn3]; exact AT.out 3 W hW (by omega)
        clear hn0 hn1 hn2 hn3 e b4
        go_wp2_with fail
        refine (H0.out wc rfl).mono ?_
        rintro e w' ⟨rfl, rfl⟩
        go_wp2_with fail
        refine (H1.out wc rfl).mono ?_
        rintro e w' ⟨rfl, rfl⟩
        go_wp2_with fail
        refine (H2.out wc rfl).mono ?_
        rintro e w' ⟨rfl, rfl⟩
        go_wp2_with fail
        refine (H3.out wc rfl).mono ?_
        rintro e w' ⟨rfl, rfl⟩
        go_wp2_with fail
        refine (refline_any n0 n1 n2 n3 _ (by omega) (by omega) (by omega) (by omega)).mono ?_
        rintro e w3 ⟨rfl, K3⟩
        obtain ⟨q0, q1, q2, q3, K4⟩ := box4_call K3 (box4_alloc wc 25 (.int .u16 n0) (.int .u8 n1) (.int .u8 n2) (.int .u32 n3))
        have G3 := grown_trans G2 K4
        have B3 := B2.kept K4 (by simp)
        have C3 := C2.keptNone K4
        clear G2 B2 C2 K3 K4 H0 H1 H2 H3 AT
        by_cases hh : lineN n0 n1 n2 n3 = sl s
        · have hB : (lineN n0 n1 n2 n3 == s.toList) = true := by rw [hh, toList_sl]; simp
          have HA : Hid (ans = some (mkI n0 n1 n2 n3)) := by
            show ans = some (mkI n0 n1 n2 n3)
            rw [← HANS.out, read_iff, lineV_mkI (by omega) (by omega) (by omega) (by omega)]
            exact hh
          clear hh
          have HMC : Hid ((mkI n0 n1 n2 n3).cells = [.int .u16 (n0 : Int), .int .u8 (n1 : Int), .int .u8 (n2 : Int), .int .u32 (n3 : Int)]) := mkI_cells (by omega) (by omega) (by omega) (by omega)
          obtain ⟨u0, hu0⟩ := B3.cell (i := 0) (by omega)
          obtain ⟨u1, hu1⟩ := B3.cell (i := 1) (by omega)
          obtain ⟨u2, hu2⟩ := B3.cell (i := 2) (by omega)
          obtain ⟨u3, hu3⟩ := B3.cell (i := 3) (by omega)
          have hf0 := B3.free 0
          have hf1 := B3.free 1
          have hf2 := B3.free 2
          have hf3 := B3.free 3
          have G4 := grown_setCell (grown_setCell (grown_setCell (grown_setCell G3 ⟨w.heap.size, 0, none⟩ (.int .u16 n0) (.inr (Nat.le_refl _))) ⟨w.heap.size, 1, none⟩ (.int .u8 n1) (.inr (Nat.le_refl _))) ⟨w.heap.size, 2, none⟩ (.int .u8 n2) (.inr (Nat.le_refl _))) ⟨w.heap.size, 3, none⟩ (.int .u32 n3) (.inr (Nat.le_refl _))
          obtain ⟨z0, z1, z2, z3⟩ := set4 B3 (.int .u16 n0) (.int .u8 n1) (.int .u8 n2) (.int .u32 n3)
          clear B3 C3 G3
          go_wp2
          generalize (((w3.setCell ⟨w.heap.size, 0, none⟩ (.int .u16 (n0 : Int))).setCell ⟨w.heap.size, 1, none⟩ (.int .u8 (n1 : Int))).setCell ⟨w.heap.size, 2, none⟩ (.int .u8 (n2 : Int))).setCell ⟨w.heap.size, 3, none⟩ (.int .u32 (n3 : Int)) = wz at *
          refine bodyPost_ret (v := .tuple #[.agg #[.int .u16 n0, .int .u8 n1, .int .u8 n2, .int .u32 n3], .bool true]) ?_ rfl ⟨?_, G4⟩
          · simp [results, Tryd.results21, go_sem, z0, z1, z2, z3]
          · rw [HA.out]
            simp only [Option.getD_some, HMC.out, Option.isSome_some]
        · have hB : (lineN n0 n1 n2 n3 == s.toList) = false := by rw [toList_sl]; simpa using hh
          have HF : Hid ((candR ns).find? (hit (sl s)) = none) := by
            show (candR ns).find? (hit (sl s)) = none
            rw [HE.out]
            simp [hit, lineV_mkI (show n0 ≤ 65535 by omega) (show n1 ≤ 255 by omega) (show n2 ≤ 255 by omega) b3, hh]
          go_wp2
          go_meet
          exact ⟨HF.out, G3, B3, C3⟩
    case rest =>
      obtain ⟨hnone, G5, B5, C5⟩ := hcut
      have HI0 : Hid ((codesL.flatMap (candC ns)).find? (hit (sl s)) = ans) := by
        show (codesL.flatMap (candC ns)).find? (hit (sl s)) = ans
        rw [← HANS.out, readV, HNS.out, List.find?_append, hnone, Option.none_or]
      clear hnone G2 B2 C2 AT
      go_wp2_with fail
      refine (refcodes_any _).mono ?_
      rintro e w6 ⟨v6, rfl, O6, K6⟩
      have G6 := grown_trans G5 K6
      have B6 := B5.kept K6 (by simp)
      have C6 := C5.keptNone K6
      obtain ⟨ac, cc, rfl, D6, -, -, -, -, -⟩ := cv_of_row O6
      clear O6 K6 G5 B5 C5
      rw [codesL_len] at *
      go_wp2
      go_loopw [7] (fun i wr => ∃ j : Nat, j ≤ 49 ∧ i = .int .i64 j ∧ ((codesL.drop j).flatMap (candC ns)).find? (hit (sl s)) = ans ∧ w.grownBy wr none ∧ BlkN wr 25 w.heap.size 4 ∧ CV wr an (ns.map nv) ∧ CV wr ac (codesL.map hv)) (fun i _ => 49 - (intOf i).toNat)
      case atStart => exact ⟨0, Nat.zero_le _, rfl, HI0.out, G6, B6, C6, D6⟩
      case round =>
        clear G6 B6 C6 D6
        obtain ⟨j, hj, rfl, hi, G, B, C, D⟩ := hrel
        have HI : Hid (((codesL.drop j).flatMap (candC ns)).find? (hit (sl s)) = ans) := hi
        clear hi
        by_cases hlt : j < 49
        · obtain ⟨c, hc, hD⟩ : ∃ c, codesL.drop j = c :: codesL.drop (j + 1) ∧ (codesL.map hv)[j]? = some (hv c) ∧ knownB c = true := codesL_at j hlt
          obtain ⟨hD, hkn⟩ := hD
          have hc65 : c ≤ 65535 := by
            have := known_lt hkn
            omega
          have HD : Hid (codesL.drop j = c :: codesL.drop (j + 1)) := hc
          obtain ⟨b, o, rfl, hcells⟩ := D.addr (k := j) (by rw [List.length_map, codesL_len]; exact hlt)
          have cc0 : wr.cell? ⟨b, o + j, none⟩ = some (.int .u16 (c : Int)) := by
            have hjj : j < (codesL.map hv).length := by rw [List.length_map, codesL_len]; exact hlt
            rw [hcells j hjj, ← List.getElem?_eq_getElem hjj]
            exact hD
          clear hcells hc hD
          have ATw : Hid (∀ (i : Nat) (W : World), wr.grownBy W none → i ≤ 100 → Calls Tryd.prog 37 #[.slice an L cn, .int .i64 i] W fun e w' => e = .returned (.int .u32 ((ns.getD i 0 : Nat) : Int)) ∧ W = w') := fun i W hW hi => by have := refat_any an cn ns i _ (C.keptNone hW) hi; rw [HL.out] at this; exact this
          have hjl : (j : Int) < 49 := by omega
          obtain ⟨kk, hkd⟩ : ∃ n, (if usesK c = true then ns.getD (nextK c) 0 else 0) = n := ⟨_, rfl⟩
          have HKK : Hid ((if usesK c = true then ns.getD (nextK c) 0 else 0) = kk) := hkd
          have hkk : kk ≤ 4294967295 := by
            rw [← hkd]
            split
            · exact HB.out _
            · omega
          clear hkd
          go_upto_if 71 with (go_at_call 24; refine (refuses_any _ _).mono ?_; rintro e w' ⟨rfl, rfl⟩)
          go_cut [12] (fun nx wx => nx = .int .i64 ((nextK c : Nat) : Int) ∧ wx = wr.alloc (.cells #[.int .u16 (c : Int), .int .u8 0, .int .u8 0, .int .u32 0] 25))
          case first =>
            by_cases h177 : c = 177
            · have h177b : ((c : Int) == 177) = true := by rw [h177]; rfl
              have HNK : Hid (nextK c = 1) := by
                show nextK c = 1
                simp [nextK, h177]
              clear h177
              go_wp2
              go_meet
              exact ⟨by rw [HNK.out]; rfl, rfl⟩
            · have h177b : ((c : Int) == 177) = false := by rw [beq_eq_false_iff_ne]; omega
              have HNK : Hid (nextK c = 0) := by
                show nextK c = 0
                simp [nextK, h177]
              clear h177
              go_wp2
              go_meet
              exact ⟨by rw [HNK.out]; rfl, rfl⟩
          case rest =>
            obtain ⟨rfl, rfl⟩ := hcut
            have hnk : nextK c ≤ 1 := by unfold nextK; split <;> omega
            go_upto_if 72 with fail
            go_cut [9, 12] (fun ks nx wx => ks = .bool (usesK c) ∧ nx = .int .i64 ((nextJ c : Nat) : Int) ∧ wx = wr.alloc (.cells #[.int .u16 (c : Int), .int .u8 0, .int .u8 0, .int .u32 (kk : Int)] 25))
            case first =>
              cases hu : usesK c with
              | true =>
                have HNJ : Hid (nextJ c = nextK c + 1) := by
                  show nextJ c = nextK c + 1
                  simp [nextJ, hu]
                have HK2 : Hid (ns.getD (nextK c) 0 = kk) := by
                  show ns.getD (nextK c) 0 = kk
                  rw [← HKK.out, hu]; simp
                go_wp2_with fail
                refine (ATw.out (nextK c) _ (World.grownBy_alloc _ _ _) (by omega)).mono ?_
                rintro e w' ⟨rfl, rfl⟩
                rw [HK2.out]
                go_wp2
                go_meet
                exact ⟨by rw [hu], by rw [HNJ.out]; rfl, rfl⟩
              | false =>
                have HNJ : Hid (nextJ c = nextK c) := by
                  show nextJ c = nextK c
                  simp [nextJ, hu]
                have HK2 : Hid (kk = 0) := by
                  show kk = 0
                  rw [← HKK.out, hu]; simp
                go_wp2
                go_meet
                exact ⟨by rw [hu], by rw [HNJ.out], by rw [HK2.out]; rfl⟩
            case rest =>
              obtain ⟨rfl, rfl, rfl⟩ := hcut
              have hnj : nextJ c ≤ 2 := by unfold nextJ; split <;> omega
              obtain ⟨m, hm⟩ : ∃ m, nextJ c = m := ⟨_, rfl⟩
              have HM : Hid (nextJ c = m) := hm
              rw [hm] at hnj ⊢
              clear hm
              go_upto_if 79 with fail
              go_cut [10] (fun js wx => js = .bool (usesJ c) ∧ ∃ t f : Nat, t ≤ 255 ∧ f ≤ 255 ∧ candC ns c = [mkI c t f kk] ∧ wx = wr.alloc (.cells #[.int .u16 (c : Int), .int .u8 (t : Int), .int .u8 (f : Int), .int .u32 (kk : Int)] 25))
              case first =>
                cases hj2 : usesJ c with
                | false =>
                  have HCD : Hid (candC ns c = [mkI c 0 0 kk]) := by
                    show candC ns c = [mkI c 0 0 kk]
                    rw [← HKK.out, candC, if_neg (by rw [hj2]; simp)]
                  go_wp2
                  go_meet
                  exact ⟨by rw [hj2], 0, 0, by omega, by omega, HCD.out, rfl⟩
                | true =>
                  obtain ⟨t, htd⟩ : ∃ t, ns.getD m 0 = t := ⟨_, rfl⟩
                  obtain ⟨f, hfd⟩ : ∃ f, ns.getD (m + 1) 0 = f := ⟨_, rfl⟩
                  have bt := HB.out m
                  have bf := HB.out (m + 1)
                  rw [htd] at bt
                  rw [hfd] at bf
                  have Ht : Hid (∀ W : World, wr.grownBy W none → Calls Tryd.prog 37 #[.slice an L cn, .int .i64 (m : Int)] W fun e w' => e = .returned (.int .u32 (t : Int)) ∧ W = w') := fun W hW => by rw [← htd]; exact ATw.out m W hW (by omega)
                  have Hf : Hid (∀ W : World, wr.grownBy W none → Calls Tryd.prog 37 #[.slice an L cn, .int .i64 ((m : Int) + 1)] W fun e w' => e = .returned (.int .u32 (f : Int)) ∧ W = w') := fun W hW => by
                    have := ATw.out (m + 1) W hW (by omega)
                    rw [hfd] at this
                    exact this
                  have HSK : Hid (255 < t ∨ 255 < f → candC ns c = []) := fun h => cand_skip hj2 HM.out htd hfd h
                  have HGO : Hid (¬ 255 < t → ¬ 255 < f → candC ns c = [mkI c t f kk]) := fun h h' => cand_goals hj2 HM.out htd hfd HKK.out h h'
                  clear htd hfd
                  by_cases hT : 255 < t
                  · have hT1 : (255 : Int) < (t : Int) := by omega
                    have HN : Hid (((codesL.drop (j + 1)).flatMap (candC ns)).find? (hit (sl s)) = ans) := by
                      show ((codesL.drop (j + 1)).flatMap (candC ns)).find? (hit (sl s)) = ans
                      rw [← HI.out, HD.out, List.flatMap_cons, HSK.out (.inl hT), List.nil_append]
                    go_wp2_with fail
                    refine (Ht.out _ (World.grownBy_alloc _ _ _)).mono ?_
                    rintro e w' ⟨rfl, rfl⟩
                    go_wp2
                    go_roundw
                    case rel => exact ⟨j + 1, by omega, by go_num, HN.out, grown_trans G (World.grownBy_alloc _ _ _), B.kept (World.grownBy_alloc _ _ none) (by simp), C.keptNone (World.grownBy_alloc _ _ _), D.keptNone (World.grownBy_alloc _ _ _)⟩
                    case measure => simp [intOf]; omega
                  · have hT1 : ¬ ((255 : Int) < (t : Int)) := by omega
                    have hT2 : decide ((255 : Int) < (t : Int)) = false := decide_eq_false hT1
                    by_cases hF : 255 < f
                    · have hF1 : (255 : Int) < (f : Int) := by omega
                      have HN : Hid (((codesL.drop (j + 1)).flatMap (candC ns)).find? (hit (sl s)) = ans) := by
                        show ((codesL.drop (j + 1)).flatMap (candC ns)).find? (hit (sl s)) = ans
                        rw [← HI.out, HD.out, List.flatMap_cons, HSK.out (.inr hF), List.nil_append]
                      go_wp2_with fail
                      refine (Ht.out _ (World.grownBy_alloc _ _ _)).mono ?_
                      rintro e w' ⟨rfl, rfl⟩
                      go_wp2_with fail
                      refine (Hf.out _ (World.grownBy_alloc _ _ _)).mono ?_
                      rintro e w' ⟨rfl, rfl⟩
                      go_wp2
                      go_roundw
                      case rel => exact ⟨j + 1, by omega, by go_num, HN.out, grown_trans G (World.grownBy_alloc _ _ _), B.kept (World.grownBy_alloc _ _ none) (by simp), C.keptNone (World.grownBy_alloc _ _ _), D.keptNone (World.grownBy_alloc _ _ _)⟩
                      case measure => simp [intOf]; omega
                    · have hF1 : ¬ ((255 : Int) < (f : Int)) := by omega
                      have hF2 : decide ((255 : Int) < (f : Int)) = false := decide_eq_false hF1
                      go_wp2_with fail
                      refine (Ht.out _ (World.grownBy_alloc _ _ _)).mono ?_
                      rintro e w' ⟨rfl, rfl⟩
                      go_wp2_with fail
                      refine (Hf.out _ (World.grownBy_alloc _ _ _)).mono ?_
                      rintro e w' ⟨rfl, rfl⟩
                      go_wp2_with fail
                      refine (Ht.out _ (World.grownBy_alloc _ _ _)).mono ?_
                      rintro e w' ⟨rfl, rfl⟩
                      go_wp2_with fail
                      refine (Hf.out _ (World.grownBy_alloc _ _ _)).mono ?_
                      rintro e w' ⟨rfl, rfl⟩
                      go_wp2
                      go_meet
                      exact ⟨by rw [hj2], t, f, by omega, by omega, HGO.out hT hF, rfl⟩
              case rest =>
                obtain ⟨rfl, t, f, ht8, hf8, hcd, rfl⟩ := hcut
                have HCC : Hid ((codesL.drop j).flatMap (candC ns) = [mkI c t f kk] ++ (codesL.drop (j + 1)).flatMap (candC ns)) := by
                  show (codesL.drop j).flatMap (candC ns) = _
                  rw [HD.out, List.flatMap_cons, hcd]
                clear hcd ATw cc0
                go_wp2_with fail
                refine (refline_any c t f kk _ hc65 ht8 hf8 hkk).mono ?_
                rintro e w7 ⟨rfl, K7⟩
                obtain ⟨q0, q1, q2, q3, K8⟩ := box4_call K7 (box4_alloc wr 25 (.int .u16 c) (.int .u8 (t : Nat)) (.int .u8 (f : Nat)) (.int .u32 (kk : Nat)))
                have G7 := grown_trans G K8
                have B7 := B.kept K8 (by simp)
                have C7 := C.keptNone K8
                have D7 := D.keptNone K8
                clear G B C D K7 K8
                by_cases hh : lineN c t f kk = sl s
                · have hB : (lineN c t f kk == s.toList) = true := by rw [hh, toList_sl]; simp
                  have HA : Hid (ans = some (mkI c t f kk)) := by
                    show ans = some (mkI c t f kk)
                    rw [← HANS.out, read_iff, lineV_mkI hc65 ht8 hf8 hkk]
                    exact hh
                  clear hh
                  have HMC : Hid ((mkI c t f kk).cells = [.int .u16 (c : Int), .int .u8 ((t : Nat) : Int), .int .u8 ((f : Nat) : Int), .int .u32 ((kk : Nat) : Int)]) := mkI_cells hc65 ht8 hf8 hkk
                  obtain ⟨x0, hu0⟩ := B7.cell (i := 0) (by omega)
                  obtain ⟨x1, hu1⟩ := B7.cell (i := 1) (by omega)
                  obtain ⟨x2, hu2⟩ := B7.cell (i := 2) (by omega)
                  obtain ⟨x3, hu3⟩ := B7.cell (i := 3) (by omega)
                  have hf0 := B7.free 0
                  have hf1 := B7.free 1
                  have hf2 := B7.free 2
                  have hf3 := B7.free 3
                  have G8 := grown_setCell (grown_setCell (grown_setCell (grown_setCell G7 ⟨w.heap.size, 0, none⟩ (.int .u16 c) (.inr (Nat.le_refl _))) ⟨w.heap.size, 1, none⟩ (.int .u8 (t : Nat)) (.inr (Nat.le_refl _))) ⟨w.heap.size, 2, none⟩ (.int .u8 (f : Nat)) (.inr (Nat.le_refl _))) ⟨w.heap.size, 3, none⟩ (.int .u32 (kk : Nat)) (.inr (Nat.le_refl _))
                  obtain ⟨z0, z1, z2, z3⟩ := set4 B7 (.int .u16 c) (.int .u8 (t : Nat)) (.int .u8 (f : Nat)) (.int .u32 (kk : Nat))
                  clear B7 C7 D7 G7
                  go_wp2
                  generalize (((w7.setCell ⟨w.heap.size, 0, none⟩ (.int .u16 (c : Int))).setCell ⟨w.heap.size, 1, none⟩ (.int .u8 ((t : Nat) : Int))).setCell ⟨w.heap.size, 2, none⟩ (.int .u8 ((f : Nat) : Int))).setCell ⟨w.heap.size, 3, none⟩ (.int .u32 ((kk : Nat) : Int)) = wz at *
                  refine bodyPost_ret (v := .tuple #[.agg #[.int .u16 c, .int .u8 (t : Nat), .int .u8 (f : Nat), .int .u32 (kk : Nat)], .bool true]) ?_ rfl ⟨?_, G8⟩
                  · simp [results, Tryd.results21, go_sem, z0, z1, z2, z3]
                  · rw [HA.out]
                    simp only [Option.getD_some, HMC.out, Option.isSome_some]
                · have hB : (lineN c t f kk == s.toList) = false := by rw [toList_sl]; simpa using hh
                  have HN : Hid (((codesL.drop (j + 1)).flatMap (candC ns)).find? (hit (sl s)) = ans) := miss_step (x := mkI c t f kk) (by rw [← HCC.out]; exact HI.out) (by rw [lineV_mkI hc65 ht8 hf8 hkk]; exact hh)
                  clear q0 q1 q2 q3
                  go_wp2
                  go_roundw
                  case rel => exact ⟨j + 1, by omega, by go_num, HN.out, G7, B7, C7, D7⟩
                  case measure => simp [intOf]; omega
        · obtain rfl : j = 49 := by omega
          have HA : Hid (ans = none) := by
            show ans = none
            rw [← HI.out, List.drop_eq_nil_of_le (by rw [codesL_len]; omega)]
            rfl
          obtain ⟨x0, hu0⟩ := B.cell (i := 0) (by omega)
          obtain ⟨x1, hu1⟩ := B.cell (i := 1) (by omega)
          obtain ⟨x2, hu2⟩ := B.cell (i := 2) (by omega)
          obtain ⟨x3, hu3⟩ := B.cell (i := 3) (by omega)
          have hf0 := B.free 0
          have hf1 := B.free 1
          have hf2 := B.free 2
          have hf3 := B.free 3
          have G8 := grown_setCell (grown_setCell (grown_setCell (grown_setCell G ⟨w.heap.size, 0, none⟩ (.int .u16 0) (.inr (Nat.le_refl _))) ⟨w.heap.size, 1, none⟩ (.int .u8 0) (.inr (Nat.le_refl _))) ⟨w.heap.size, 2, none⟩ (.int .u8 0) (.inr (Nat.le_refl _))) ⟨w.heap.size, 3, none⟩ (.int .u32 0) (.inr (Nat.le_refl _))
          obtain ⟨z0, z1, z2, z3⟩ := set4 B (.int .u16 0) (.int .u8 0) (.int .u8 0) (.int .u32 0)
          clear B C D G
          go_wp2
          generalize (((wr.setCell ⟨w.heap.size, 0, none⟩ (.int .u16 0)).setCell ⟨w.heap.size, 1, none⟩ (.int .u8 0)).setCell ⟨w.heap.size, 2, none⟩ (.int .u8 0)).setCell ⟨w.heap.size, 3, none⟩ (.int .u32 0) = wz at *
          refine bodyPost_ret (v := .tuple #[.agg #[.int .u16 0, .int .u8 0, .int .u8 0, .int .u32 0], .bool false]) ?_ rfl ⟨?_, G8⟩
          · simp [results, Tryd.results21, go_sem, z0, z1, z2, z3]
          · rw [HA.out]
            rfl

end Go.Proofs.YtcapmbeabfhjoaaDoor
