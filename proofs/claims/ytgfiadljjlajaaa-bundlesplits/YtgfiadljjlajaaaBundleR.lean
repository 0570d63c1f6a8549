/-
  The document's own Split.
-/
import Derived.Test.YtgfiadljjlajaaaBundleV
import Derived.Test.YtgfiadljjlajaaaForgeR
import Derived.Test.YtgfiadljjlajaaaFrameQ
import Derived.Test.YtgfiadljjlajaaaLMem
namespace Go.Proofs.Ytgfiadljjlajaaa
open Go.RowKit
set_option maxRecDepth 100000

set_option maxHeartbeats 1000000 in
theorem may_any (l : Lk) (w : World) : Calls Try.prog 25 #[.agg (lkA l)] w fun e w' => e = .returned (.bool (mayB l)) ∧ w.grownBy w' none := by
  have L0 := VAt.alloc w 23 (lkA l)
  have G0 : w.grownBy (w.alloc (.cells (lkA l) 23)) none := World.grownBy_alloc _ _ _
  have HL : Hid ((Try.prog.info? 23).map (·.size) = some (lkA l).size) := size23
  have CK := refchk_any l (w.alloc (.cells (lkA l) 23))
  have hB : mayB l = (decide (checkF l = 0) && decide (l.mp ≠ 0)) := rfl
  rw [hB]
  by_cases h0 : checkF l = 0
  · rw [h0] at CK
    rw [decide_eq_true h0, Bool.true_and]
    clear h0 hB
    go_enter Try.func25, Try.ntmps25
    go_wp2_with (refine wpList_load_row rfl 23 (.tmp 1) rfl w.heap.size rfl 23 (lkA l) (0, 0) _ L0 Try.underlying23 rfl HL.out ?_)
    refine CK.mono ?_
    rintro e w1 ⟨rfl, K⟩
    have c2 : w1.cell? ⟨w.heap.size, 2, none⟩ = some (.int .i64 l.mp) := (L0.kept K).cell 2
    have G1 := grown_trans G0 K
    clear CK L0 G0 K
    go_wp2
    go_ret
    refine ⟨ret_bool ?_, G1⟩
    by_cases hm : l.mp = 0
    · rw [hm]; rfl
    · rw [decide_eq_true hm, bne_iff_ne]; exact hm
  · have hz : (checkF l == 0) = false := by rw [beq_eq_false_iff_ne]; exact h0
    rw [decide_eq_false h0, Bool.false_and]
    clear h0 hB
    generalize checkF l = er at *
    go_enter Try.func25, Try.ntmps25
    go_wp2_with (refine wpList_load_row rfl 23 (.tmp 1) rfl w.heap.size rfl 23 (lkA l) (0, 0) _ L0 Try.underlying23 rfl HL.out ?_)
    refine CK.mono ?_
    rintro e w1 ⟨rfl, K⟩
    have G1 := grown_trans G0 K
    clear CK L0 G0 K
    go_wp2
    go_ret
    exact ⟨rfl, G1⟩

/-- The test at the loop's head. -/
theorem cnt_iff {n most i : Nat} (hm : 1 ≤ most) (hi : 1 ≤ i) : i < cntV n most ↔ i * most < n := by
  constructor
  · intro h
    have := cnt_lt (n := n) (i := i - 1) hm (by omega)
    rw [show i - 1 + 1 = i by omega] at this
    exact this
  · intro h
    have := cnt_ge (n := n) hm
    have h2 : i * most < cntV n most * most := by omega
    exact Nat.lt_of_mul_lt_mul_right h2
theorem last_iff {n most i : Nat} (hm : 1 ≤ most) (hi : i < cntV n most) (hle : i * most ≤ n) : (i + 1 = cntV n most) ↔ n - i * most ≤ most := by
  have h1 := cnt_iff (n := n) (i := i + 1) hm (by omega)
  have h2 : (i + 1) * most = i * most + most := Nat.succ_mul _ _
  omega
theorem at_le {n most i : Nat} (hm : 1 ≤ most) (hi : i < cntV n most) : i * most ≤ n := by
  by_cases h0 : i = 0
  · subst h0; omega
  · have := (cnt_iff (n := n) hm (by omega)).1 hi
    omega

/-- A chunk, as a slice of the load. -/
theorem chunk_cells {w : World} {bb o ca k : Nat} {b : List UInt8} {most i : Nat} (h : Cells w (some ⟨bb, o, none⟩) b) (hk : i * most = k) (hle : k ≤ b.length) (hc : b.length ≤ ca) : Cells w (if ca = k then some ⟨bb, o, none⟩ else some ⟨bb, o + k, none⟩) (chunkV b most i) := by
  unfold chunkV
  rw [hk]
  by_cases hck : ca = k
  · have hd : b.drop k = [] := List.drop_eq_nil_of_le (by omega)
    rw [hd]
    exact ⟨fun _ => by simp, fun ad _ j hj => absurd hj (by simp)⟩
  · rw [if_neg hck]
    refine ⟨fun e => by simp at e, fun ad had j hj => ?_⟩
    obtain rfl := Option.some.inj had
    have hj2 : j < most ∧ j < b.length - k := by
      rw [List.length_take, List.length_drop] at hj
      omega
    have q := h.2 _ rfl (k + j) (by omega)
    rw [Addr.add_lit] at q ⊢
    rw [show o + k + j = o + (k + j) by omega, q]
    congr 2
    rw [List.getElem_take, List.getElem_drop]
theorem chunk_any {w : World} {a : Option Addr} {ca k : Nat} {b : List UInt8} {most i : Nat} (h : Cells w a b) (hk : i * most = k) (hle : k ≤ b.length) (hc : b.length ≤ ca) : Cells w (if ca = k then a else Option.map (fun x => x.add k) a) (chunkV b most i) := by
  cases b with
  | nil =>
    have e : chunkV [] most i = [] := by simp [chunkV]
    rw [e]
    exact ⟨fun _ => rfl, fun ad _ j hj => absurd hj (by simp)⟩
  | cons x xs =>
    obtain ⟨bb, o, rfl, -⟩ := h.addr (k := 0) (by simp)
    have q := chunk_cells h hk hle hc
    rw [show Option.map (fun x : Addr => x.add k) (some ⟨bb, o, none⟩) = some ⟨bb, o + k, none⟩ from congrArg some (Addr.add_lit _ _ _)]
    exact q
theorem chunk_size (b : List UInt8) (most i : Nat) (hm : 1 ≤ most) (hi : i < cntV b.length most) : (chunkV b most i).length = if i + 1 = cntV b.length most then b.length - i * most else most := by
  have h1 := last_iff hm hi (at_le hm hi)
  unfold chunkV
  rw [List.length_take, List.length_drop]
  split <;> omega

theorem infoS24 : (Try.prog.info? 24).map (fun i => (i.zero, i.size, i.bytes)) = some (some (.slice none 0 0), 1, 24) := by kernel_rfl

theorem below_all {w : World} {base : Nat} {v : Value} {vs : List Value} {xss : List (List UInt8)} (h : LLv w base v vs xss) : (∀ x, v.ownBlock = some x → x < w.heap.size) ∧ ∀ i, i < xss.length → ∀ x, (vs.getD i undef).ownBlock = some x → x < w.heap.size :=
  ⟨fun x hx => (h.1.lt x hx).2, fun i hi x hx => (World.ownsRow.lt (h.2.2.1 i hi) x hx).2⟩
/-- What is written from a block on that lies behind all of it. -/
theorem LLv.keptUp {w w1 w2 : World} {base g : Nat} {v f : Value} {vs : List Value} {xss : List (List UInt8)} {n : Nat} {ys : List Value} (h0 : LLv w base v vs xss) (h : LLv w1 base v vs xss) (hg : w.heap.size ≤ g) (O : w1.ownsRow g 5 1 f n ys) (K : w1.grownBy w2 f.ownBlock) : LLv w2 base v vs xss := by
  obtain ⟨b1, b2⟩ := below_all h0
  cases hf : f.ownBlock with
  | none =>
    rw [hf] at K
    exact h.keptNone K
  | some y =>
    have hy := (O.lt y hf).1
    rw [hf] at K
    exact h.keptNew K (fun x hx => by have := b1 x hx; omega) (fun i hi x hx => by have := b2 i hi x hx; omega)

set_option maxRecDepth 100000 in
set_option maxHeartbeats 4000000 in
theorem refsplit_ok (l : Lk) (a : Option Addr) (ca : Nat) (b : List UInt8) (most first : Nat) (w : World) (ha : Cells w a b) (hc0 : a = none → ca = 0) (hca : b.length ≤ ca) (hn : b.length ≤ 140737488355328) (h1 : 1 ≤ most) (hm : most ≤ 65527) (hf : first < spV l) (hb : b.length ≤ 65535) (hmany : b.length ≤ 4096 * most) (hmay : mayB l = true) :
    Calls Try.prog 9 #[.agg (lkA l), .slice a b.length ca, .int .i64 (most : Int), .int .u32 (first : Int)] w fun e w' => ∃ v, e = .returned (.tuple #[v, .int .i64 0]) ∧ LL w' w.heap.size v (splitL l b most first) ∧ w.grownBy w' none := by
  obtain ⟨i0, hi, hz0, hz1, hz2⟩ := info_parts info5
  have L0 := VAt.alloc w 23 (lkA l)
  have G0 : w.grownBy (w.alloc (.cells (lkA l) 23)) none := World.grownBy_alloc _ _ _
  have HL : Hid ((Try.prog.info? 23).map (·.size) = some (lkA l).size) := size23
  have H : Hid (Cells (w.alloc (.cells (lkA l) 23)) a b) := ha.keptNone G0
  have CM := may_any l (w.alloc (.cells (lkA l) 23))
  rw [hmay] at CM
  have HSP : Hid (∀ W, Calls Try.prog 26 #[.agg (lkA l)] W fun e w' => e = .returned (.int .u32 (spV l : Int)) ∧ W.grownBy w' none) := fun W => space_any l W
  have hfs : decide (spV l ≤ first) = false := by rw [decide_eq_false_iff_not]; omega
  have hm1 : decide ((most : Int) < 1) = false := by rw [decide_eq_false_iff_not]; omega
  have hm2 : decide ((65527 : Int) < (most : Int)) = false := by rw [decide_eq_false_iff_not]; omega
  have hb1 : decide ((65535 : Int) < (b.length : Int)) = false := by rw [decide_eq_false_iff_not]; omega
  have hb2 : decide (4096 * (most : Int) < (b.length : Int)) = false := by rw [decide_eq_false_iff_not]; omega
  have hw : IntKind.i64.wrap (4096 * (most : Int)) = 4096 * (most : Int) := by rw [IntKind.wrap_i64]; omega
  have hsp : spV l ≤ 16777216 := by unfold spV; split <;> omega
  have HSPP : Hid (0 < spV l ∧ spV l ≤ 16777216 ∧ first < spV l) := ⟨sp_pos l, hsp, hf⟩
  clear ha hmay hf hsp
  generalize hww : w.alloc (.cells (lkA l) 23) = wa at *
  go_enter Try.func9, Try.ntmps9
  go_upto_region 1 with fail
  obtain ⟨L, hL⟩ : ∃ L, w.heap.size = L := ⟨_, rfl⟩
  have HLE : Hid (w.heap.size = L) := hL
  rw [hL] at L0 ⊢
  clear hL hww
  go_wp2_with (refine wpList_load_row rfl 23 (.tmp 4) rfl L rfl 23 (lkA l) (0, 0) _ L0 Try.underlying23 rfl HL.out ?_)
  refine CM.mono ?_
  rintro e w1 ⟨rfl, K1⟩
  have L1 := L0.kept K1
  have G1 := grown_trans G0 K1
  have H1 : Hid (Cells w1 a b) := H.out.keptNone K1
  clear CM L0 G0 K1 H
  have x0 : w1.cell? ⟨L, 0, none⟩ = some (.bool l.acfc) := L1.cell 0
  have x1 : w1.cell? ⟨L, 1, none⟩ = some (.bool l.pfc) := L1.cell 1
  have x2 : w1.cell? ⟨L, 2, none⟩ = some (.int .i64 l.mp) := L1.cell 2
  go_wp2_with fail
  refine (HSP.out _).mono ?_
  rintro e w2 ⟨rfl, K2⟩
  have L2 := L1.kept K2
  have G2 := grown_trans G1 K2
  have H2 : Hid (Cells w2 a b) := H1.out.keptNone K2
  clear L1 G1 K2 H1 x0 x1 x2
  have HWN : Hid (cntV b.length most ≤ 4096) := by
    show cntV b.length most ≤ 4096
    apply Classical.byContradiction
    intro hgt
    have := (cnt_iff (n := b.length) (i := 4096) h1 (by omega)).1 (by omega)
    omega
  go_upto_region 12 with fail
  go_loopw [10, 11, 12] (fun u q t wr => ∃ (i : Nat) (vs : List Value), i ≤ cntV b.length most ∧ q = .int .u32 (((first + i) % spV l : Nat) : Int) ∧ t = .int .i64 ((i * most : Nat) : Int) ∧ LLv wr w2.heap.size u vs ((List.range i).map (pcV l b most first)) ∧ w2.grownBy wr none) (fun _ _ t _ => b.length + most - (intOf t).toNat)
  case atStart =>
    exact ⟨0, [], Nat.zero_le _, by rw [Nat.add_zero, Nat.mod_eq_of_lt HSPP.out.2.2], by rw [Nat.zero_mul]; rfl, LLv.nil _ _, World.grownBy.refl _ _⟩
  case round =>
    obtain ⟨i, vs, hi1, rfl, rfl, LV, K⟩ := hrel
    obtain ⟨k, hk⟩ : ∃ k, i * most = k := ⟨_, rfl⟩
    rw [hk]
    by_cases hlt : i < cntV b.length most
    · have hkb : k ≤ b.length := by rw [← hk]; exact at_le h1 hlt
      obtain ⟨c, hc⟩ : ∃ c, (chunkV b most i).length = c := ⟨_, rfl⟩
      have hcs := chunk_size b most i h1 hlt
      rw [hc, hk] at hcs
      have hlast := last_iff h1 hlt (at_le h1 hlt)
      rw [hk] at hlast
      obtain ⟨fin, hfin⟩ : ∃ fin, decide (i + 1 = cntV b.length most) = fin := ⟨_, rfl⟩
      obtain ⟨beg, hbeg⟩ : ∃ beg, decide (i = 0) = beg := ⟨_, rfl⟩
      have hbk : ((k : Int) == 0) = beg := by
        rw [← hbeg]
        by_cases h0 : i = 0
        · subst h0
          rw [Nat.zero_mul] at hk
          rw [← hk]
          rfl
        · have : 0 < k := by rw [← hk]; exact Nat.mul_pos (by omega) (by omega)
          rw [decide_eq_false h0, beq_eq_false_iff_ne]
          omega
      have hbt : beg = false → (k : Int) < (b.length : Int) := fun e => by
        rw [← hbeg] at e
        have h0 : i ≠ 0 := of_decide_eq_false e
        have := (cnt_iff (n := b.length) (i := i) h1 (by omega)).1 hlt
        omega
      have hckb : k + c ≤ b.length := by
        by_cases he : i + 1 = cntV b.length most
        · rw [if_pos he] at hcs; omega
        · rw [if_neg he] at hcs
          have := cnt_lt (n := b.length) (i := i) h1 (by omega)
          rw [Nat.succ_mul, hk] at this
          omega
      have HCH : Hid ((chunkV b most i).length = c) := hc
      obtain ⟨kc, hkcc⟩ : ∃ kc, k + c = kc := ⟨_, rfl⟩
      have HKCC : Hid (k + c = kc) := hkcc
      have HK : Hid (i * most = k) := hk
      have HLT : Hid (i < cntV b.length most) := hlt
      have HFN : Hid (decide (i + 1 = cntV b.length most) = fin ∧ decide (i = 0) = beg) := ⟨hfin, hbeg⟩
      -- the loop's test
      go_upto_region 12 with fail
      go_cut [51] from 44 to 51 (fun t wx => t = .bool true ∧ wx = wr)
      case first =>
        cases hb0 : beg with
        | true =>
          rw [hb0] at hbk
          go_wp2
          go_meet
          exact ⟨rfl, rfl⟩
        | false =>
          rw [hb0] at hbk
          have hkl := hbt hb0
          go_wp2
          go_meet
          exact ⟨rfl, rfl⟩
      case rest =>
        obtain ⟨rfl, rfl⟩ := hcut
        have hsub : IntKind.i64.wrap ((b.length : Int) - (k : Int)) = (b.length : Int) - (k : Int) := by rw [IntKind.wrap_i64]; omega
        have hdec : decide ((b.length : Int) - (k : Int) ≤ (most : Int)) = fin := by
          rw [← hfin, decide_eq_decide, hlast]
          omega
        have hadd : IntKind.i64.wrap ((k : Int) + (most : Int)) = ((k + most : Nat) : Int) := by rw [IntKind.wrap_i64]; omega
        go_upto_if 64 with fail
        go_cut [13, 14] from 55 to 67 (fun e t wx => e = .bool fin ∧ t = .int .i64 (kc : Int) ∧ wx = wc)
        case first =>
          by_cases he : i + 1 = cntV b.length most
          · have hf1 : fin = true := by rw [← hfin]; exact decide_eq_true he
            rw [if_pos he] at hcs
            have hkc : kc = b.length := by omega
            have HKC : Hid (kc = b.length) := hkc
            have HF1 : Hid (fin = true) := hf1
            rw [hf1]
            clear hdec hkc hf1
            go_wp2
            go_meet
            exact ⟨by rw [HF1.out], by rw [HKC.out], rfl⟩
          · have hf1 : fin = false := by rw [← hfin]; exact decide_eq_false he
            rw [if_neg he] at hcs
            have hkc : kc = k + most := by omega
            have HKC : Hid (kc = k + most) := hkc
            have HF1 : Hid (fin = false) := hf1
            rw [hf1]
            clear hdec hkc hf1
            go_wp2
            go_meet
            exact ⟨by rw [HF1.out], by rw [HKC.out]; rfl, rfl⟩
        case rest =>
          obtain ⟨rfl, rfl, rfl⟩ := hcut
          have HX : Hid (pcV l b most first i = [255, 3, 0, 61] ++ (hdB l beg fin ((first + i) % spV l) ++ chunkV b most i)) := by
            show pcV l b most first i = _
            rw [pcV, hfin, hbeg]
          have hsq : (first + i) % spV l < spV l := Nat.mod_lt _ HSPP.out.1
          have HSQ : Hid (((first + i) % spV l + 1) % spV l = (first + (i + 1)) % spV l) := mod_next _ _ _
          generalize hsqq : (first + i) % spV l = sq at *
          generalize hwr : wc = wr at *
          clear hwr hbt hcs hlast hfin hbeg hdec hsub hlt hc hk hsqq hfs
          -- the piece's front
          have FA : Owns (wr.alloc (.cells #[.int .u8 255, .int .u8 3, .int .u8 0, .int .u8 61] 5)) wr.heap.size (.slice (some ⟨wr.heap.size, 0, none⟩) 4 4) [255, 3, 0, 61] := owns_lit wr _ (Nat.le_refl _) [255, 3, 0, 61] (by unfold maxLen; simp)
          have KA := World.grownBy_alloc wr (.cells #[.int .u8 255, .int .u8 3, .int .u8 0, .int .u8 61] 5) none
          have L3 := (L2.kept K).kept KA
          have x0 : (wr.alloc (.cells #[.int .u8 255, .int .u8 3, .int .u8 0, .int .u8 61] 5)).cell? ⟨L, 0, none⟩ = some (.bool l.acfc) := L3.cell 0
          have x1 : (wr.alloc (.cells #[.int .u8 255, .int .u8 3, .int .u8 0, .int .u8 61] 5)).cell? ⟨L, 1, none⟩ = some (.bool l.pfc) := L3.cell 1
          have x2 : (wr.alloc (.cells #[.int .u8 255, .int .u8 3, .int .u8 0, .int .u8 61] 5)).cell? ⟨L, 2, none⟩ = some (.int .i64 l.mp) := L3.cell 2
          have LVA := LV.keptNone KA
          have CH := fun W => head_any l beg fin sq W hsq
          have HCHD : Hid (∀ W, Calls Try.prog 27 #[.agg (lkA l), .bool beg, .bool fin, .int .u32 (sq : Int)] W fun e w' => ∃ v, e = .returned v ∧ Owns w' W.heap.size v (hdB l beg fin sq) ∧ W.grownBy w' none) := CH
          clear CH L3
          go_upto_region 19 with fail
          generalize hA : wr.alloc (.cells #[.int .u8 255, .int .u8 3, .int .u8 0, .int .u8 61] 5) = wA at *
          obtain ⟨P, hP⟩ : ∃ P, wr.heap.size = P := ⟨_, rfl⟩
          have HPP : Hid (wr.heap.size = P) := hP
          rw [hP] at FA ⊢
          clear hP hA
          go_wp2_with fail
          refine (HCHD.out _).mono ?_
          rintro e w3 ⟨hv, rfl, O3, K3⟩
          have FA3 := owns_keptNone FA K3
          have LV3 := LVA.keptNone K3
          have K23 := grown_trans (grown_trans K KA) K3
          obtain ⟨hao, hcap, rfl, HC3, -⟩ := O3.shape
          have hh0 : hao = none → hcap = 0 := by
            obtain ⟨ao', cap', e', -, -, -, h0, -⟩ := cv_of_row O3
            simp only [Value.slice.injEq] at e'
            obtain ⟨rfl, -, rfl⟩ := e'
            exact h0
          have HHL : Hid ((hdB l beg fin sq).length ≤ 4) := by show (hdB l beg fin sq).length ≤ 4; rw [hd_len]; unfold szV; split <;> omega
          clear x0 x1 x2 O3 LVA FA HCHD KA
          have HFA3 : Hid (Owns w3 P (.slice (some ⟨P, 0, none⟩) 4 4) [255, 3, 0, 61]) := FA3
          have HP3 : Hid (P ≤ w3.heap.size) := by
            show P ≤ w3.heap.size
            have := (FA3.lt P rfl).2
            omega
          have HHC : Hid (Cells w3 hao (hdB l beg fin sq)) := HC3
          clear HC3 FA3
          go_wp2_with (at_builtin; refine wpList_append_rd rfl (.tmp 69) (.tmp 75) 24 rfl i0 Try.underlying24 hi hz0 hz1 hz2 P _ [255, 3, 0, 61] rfl ?q1 hao hcap (hdB l beg fin sq) rfl hh0 ?q2 ?q3 ?q4 ?q5)
          case q1 => exact HFA3.out
          case q2 => exact HHC.out
          case q3 => have := HHL.out; simp; omega
          case q4 => exact HP3.out
          case q5 =>
            intro f4 w4 O4 K4
            have LV4 := LLv.keptUp LV LV3 (by rw [HPP.out]; exact Nat.le_refl _) HFA3.out K4
            have K24 : w2.grownBy w4 none := grown_trans_new K23 K4 (fun x hx => by
              have := (World.ownsRow.lt HFA3.out x hx).1
              have := K.size
              have := HPP.out
              omega)
            have HP4 : Hid (P ≤ w4.heap.size) := Nat.le_trans HP3.out K4.size
            clear HFA3 HHC LV3 K23 K4 hh0 K3
            have z1 : (0 : Int) ≤ (k : Int) := by omega
            have z2 : (k : Int) ≤ (kc : Int) := by omega
            have z3 : (kc : Int) ≤ (ca : Int) := by omega
            have HCC : Hid (Cells w4 (if ca = k then a else Option.map (fun x => x.add k) a) (chunkV b most i)) := chunk_any (H2.out.keptNone K24) HK.out hkb hca
            have l1 : kc - k = (chunkV b most i).length := by have := HCH.out; have := HKCC.out; omega
            have HCL : Hid ((chunkV b most i).length ≤ 65535) := by show (chunkV b most i).length ≤ 65535; have := HCH.out; omega
            have HO4 : Hid (Owns w4 P f4 ([255, 3, 0, 61] ++ hdB l beg fin sq)) := O4
            clear O4 z1
            generalize hch : chunkV b most i = ch at *
            obtain ⟨zz, hzz⟩ : ∃ zz, (if ca = k then a else Option.map (fun x => x.add k) a) = zz := ⟨_, rfl⟩
            have HZZ : Hid ((if ca = k then a else Option.map (fun x => x.add k) a) = zz) := hzz
            rw [hzz] at HCC
            have HZN : Hid (zz = none → ca - k = 0) := by
              show zz = none → ca - k = 0
              rw [← hzz]
              intro e
              split at e
              · omega
              · have := hc0 (by simpa using e)
                omega
            clear hzz
            have hzz := HZZ.out
            go_wp2_with (at_builtin; refine wpList_append_rd rfl (.tmp 78) (.tmp 82) 24 rfl i0 Try.underlying24 hi hz0 hz1 hz2 P f4 ([255, 3, 0, 61] ++ hdB l beg fin sq) rfl ?q6 zz (ca - k) ch ?q7 ?q8 ?q9 ?q10 ?q11 ?q12)
            case q6 => exact HO4.out
            case q7 => rfl
            case q8 => exact HZN.out
            case q9 => exact HCC.out
            case q10 => have := HCL.out; have := HHL.out; simp; omega
            case q11 => exact HP4.out
            case q12 =>
              intro p5 w5 O5 K5
              have LV5 := LLv.keptUp LV LV4 (by rw [HPP.out]; exact Nat.le_refl _) HO4.out K5
              have K25 : w2.grownBy w5 none := grown_trans_new K24 K5 (fun x hx => by
                have := (World.ownsRow.lt HO4.out x hx).1
                have := K.size
                have := HPP.out
                omega)
              have HO5 : Hid (Owns w5 P p5 (pcV l b most first i)) := by
                show Owns w5 P p5 (pcV l b most first i)
                rw [HX.out, ← List.append_assoc]
                exact O5
              have hAP : ∀ j, j < ((List.range i).map (pcV l b most first)).length → ∀ y, (vs.getD j undef).ownBlock = some y → p5.ownBlock ≠ some y := fun j hj y hy hp => by
                have h1 := (below_all LV).2 j hj y hy
                have h2 := (World.ownsRow.lt O5 y hp).1
                have := HPP.out
                omega
              have HAP : Hid (∀ j, j < ((List.range i).map (pcV l b most first)).length → ∀ y, (vs.getD j undef).ownBlock = some y → p5.ownBlock ≠ some y) := hAP
              obtain ⟨ao5, cap5, rfl, -, -⟩ := HO5.out.shape
              clear HO4 K24 LV4 K5 O5 hAP HCC hzz HZZ HZN
              have KB := World.grownBy_alloc w5 (.cells #[.slice ao5 (pcV l b most first i).length cap5] 24) none
              have CB := cv_lit w5 24 [.slice ao5 (pcV l b most first i).length cap5]
              have HCB : Hid (CV (w5.alloc (.cells #[.slice ao5 (pcV l b most first i).length cap5] 24)) (some ⟨w5.heap.size, 0, none⟩) [.slice ao5 (pcV l b most first i).length cap5]) := CB
              have LVB : Hid (LLv (w5.alloc (.cells #[.slice ao5 (pcV l b most first i).length cap5] 24)) w2.heap.size u10 vs ((List.range i).map (pcV l b most first))) := LV5.keptNone KB
              have HOB : Hid (Owns (w5.alloc (.cells #[.slice ao5 (pcV l b most first i).length cap5] 24)) P (.slice ao5 (pcV l b most first i).length cap5) (pcV l b most first i)) := owns_keptNone HO5.out KB
              have K2B := grown_trans K25 KB
              obtain ⟨i1, ji, jz0, jz1, jz2⟩ := info_parts infoS24
              have hvl : vs.length = i := by have := LV.2.1; simpa using this
              have HVL : Hid (vs.length = i) := hvl
              clear CB KB K25 HO5 LV5 hvl
              go_wp2_with (at_builtin; refine wpList_append_cv rfl (.tmp 77) (.tmp 84) 26 rfl 24 i1 (.slice none 0 0) 1 24 Try.underlying26 ji jz0 jz1 jz2 rfl (by decide) w2.heap.size u10 vs.length vs rfl ?r1 (some ⟨w5.heap.size, 0, none⟩) 1 1 [.slice ao5 (pcV l b most first i).length cap5] rfl rfl (by simp) ?r2 (by simp [Value.oneCell']) ?r3 ?r4 ?r5 ?r6)
              case r1 => exact LVB.out.1
              case r2 => exact HCB.out
              case r3 => have := HVL.out; have := HWN.out; unfold maxLen; omega
              case r4 => have := HVL.out; have := HWN.out; omega
              case r5 => exact K2B.size
              case r6 =>
                intro v6 w6 O6 K6
                have LV6 := LVB.out.push (owns_mono HOB.out (by have := K.size; have := HPP.out; omega)) HAP.out O6 K6 (by decide)
                rw [show (List.range i).map (pcV l b most first) ++ [pcV l b most first i] = (List.range (i + 1)).map (pcV l b most first) by rw [List.range_succ, List.map_append]; rfl] at LV6
                have K26 : w2.grownBy w6 none := grown_trans_new K2B K6 (fun x hx => (LVB.out.1.lt x hx).1)
                have L6 := L2.kept K26
                have x0 : w6.cell? ⟨L, 0, none⟩ = some (.bool l.acfc) := L6.cell 0
                have x1 : w6.cell? ⟨L, 1, none⟩ = some (.bool l.pfc) := L6.cell 1
                have x2 : w6.cell? ⟨L, 2, none⟩ = some (.int .i64 l.mp) := L6.cell 2
                clear LVB HOB HCB HAP O6 K6 K2B L6 HX
                have hsp := HSPP.out.2.1
                have hw3 : IntKind.u32.wrap ((sq : Int) + 1) = ((sq + 1 : Nat) : Int) := by rw [IntKind.wrap_u32]; omega
                go_wp2_with fail
                refine (HSP.out _).mono ?_
                rintro e w7 ⟨rfl, K7⟩
                have LV7 := LV6.keptNone K7
                have K27 := grown_trans K26 K7
                clear x0 x1 x2 LV6 K7 K26
                have hne : ¬ (spV l : Int) = 0 := by have := HSPP.out.1; omega
                have hkm : IntKind.i64.wrap ((k : Int) + (most : Int)) = ((k + most : Nat) : Int) := by rw [IntKind.wrap_i64]; omega
                go_wp2
                go_roundw
                case rel =>
                  refine ⟨i + 1, _, HLT.out, ?_, ?_, LV7, K27⟩
                  · rw [← HSQ.out]
                    simp
                  · rw [Nat.succ_mul, HK.out]
                    simp
                case measure => simp [intOf]; omega
    · obtain rfl : i = cntV b.length most := by omega
      have hi0 := cnt_pos b.length most h1
      have hge := cnt_ge (n := b.length) h1
      rw [hk] at hge
      have hk0 : ((k : Int) == 0) = false := by
        have : 0 < k := by rw [← hk]; exact Nat.mul_pos (by omega) (by omega)
        rw [beq_eq_false_iff_ne]
        omega
      have hkb : ¬ (k : Int) < (b.length : Int) := by omega
      have HF : Hid (LL wr w.heap.size u10 (splitL l b most first) ∧ w.grownBy wr none) := ⟨⟨vs, LV.mono G2.size⟩, grown_trans G2 K⟩
      clear hge hk
      go_wp2
      go_ret2
      exact ⟨_, rfl, HF.out.1, HF.out.2⟩

set_option maxHeartbeats 2000000 in
theorem refsplit_any (l : Lk) (a : Option Addr) (ca : Nat) (b : List UInt8) (most : Int) (first : Nat) (w : World) (ha : Cells w a b) (hc0 : a = none → ca = 0) (hca : b.length ≤ ca) (hn : b.length ≤ 140737488355328) :
    Calls Try.prog 9 #[.agg (lkA l), .slice a b.length ca, .int .i64 most, .int .u32 (first : Int)] w fun e w' => ∃ v, e = .returned (.tuple #[v, .int .i64 (exE (splitX l b most first))]) ∧ LL w' w.heap.size v (exV [] (splitX l b most first)) ∧ w.grownBy w' none := by
  have L0 := VAt.alloc w 23 (lkA l)
  have G0 : w.grownBy (w.alloc (.cells (lkA l) 23)) none := World.grownBy_alloc _ _ _
  have HL : Hid ((Try.prog.info? 23).map (·.size) = some (lkA l).size) := size23
  have CM := may_any l (w.alloc (.cells (lkA l) 23))
  have HSP : Hid (∀ W, Calls Try.prog 26 #[.agg (lkA l)] W fun e w' => e = .returned (.int .u32 (spV l : Int)) ∧ W.grownBy w' none) := fun W => space_any l W
  cases hmay : mayB l with
  | false =>
    have e : splitX l b most first = .error 90 := by rw [splitX, if_pos hmay]
    rw [e]
    rw [hmay] at CM
    clear ha e hmay
    go_enter Try.func9, Try.ntmps9
    go_wp2_with (refine wpList_load_row rfl 23 (.tmp 4) rfl w.heap.size rfl 23 (lkA l) (0, 0) _ L0 Try.underlying23 rfl HL.out ?_)
    refine CM.mono ?_
    rintro e w1 ⟨rfl, K1⟩
    have G1 := grown_trans G0 K1
    clear CM
    clear L0 G0 K1
    go_wp2
    go_ret2
    exact ⟨_, rfl, ⟨[], LLv.nil _ _⟩, G1⟩
  | true =>
    have e0 : splitX l b most first = if most < 1 ∨ 65527 < most ∨ spV l ≤ first then .error 91 else if 65535 < b.length then .error 92 else if 4096 * most < (b.length : Int) then .error 93 else .ok (splitL l b most.toNat first) := by rw [splitX, if_neg (by rw [hmay]; simp)]
    by_cases h1 : most < 1
    · rw [e0, if_pos (.inl h1)]
      rw [hmay] at CM
      clear ha e0 hmay
      go_enter Try.func9, Try.ntmps9
      go_wp2_with (refine wpList_load_row rfl 23 (.tmp 4) rfl w.heap.size rfl 23 (lkA l) (0, 0) _ L0 Try.underlying23 rfl HL.out ?_)
      refine CM.mono ?_
      rintro e w1 ⟨rfl, K1⟩
      have G1 := grown_trans G0 K1
      clear CM
      clear L0 G0 K1
      go_wp2
      go_ret2
      exact ⟨_, rfl, ⟨[], LLv.nil _ _⟩, G1⟩
    · by_cases h2 : 65527 < most
      · rw [e0, if_pos (.inr (.inl h2))]
        rw [hmay] at CM
        clear ha e0 hmay
        go_enter Try.func9, Try.ntmps9
        go_wp2_with (refine wpList_load_row rfl 23 (.tmp 4) rfl w.heap.size rfl 23 (lkA l) (0, 0) _ L0 Try.underlying23 rfl HL.out ?_)
        refine CM.mono ?_
        rintro e w1 ⟨rfl, K1⟩
        have G1 := grown_trans G0 K1
        clear CM
        clear L0 G0 K1
        go_wp2
        go_ret2
        exact ⟨_, rfl, ⟨[], LLv.nil _ _⟩, G1⟩
      · by_cases h3 : spV l ≤ first
        · rw [e0, if_pos (.inr (.inr h3))]
          rw [hmay] at CM
          have h3' : (spV l : Int) ≤ (first : Int) := by omega
          clear ha e0 hmay
          go_enter Try.func9, Try.ntmps9
          go_wp2_with (refine wpList_load_row rfl 23 (.tmp 4) rfl w.heap.size rfl 23 (lkA l) (0, 0) _ L0 Try.underlying23 rfl HL.out ?_)
          refine CM.mono ?_
          rintro e w1 ⟨rfl, K1⟩
          have G1 := grown_trans G0 K1
          clear CM
          have x0 : w1.cell? ⟨w.heap.size, 0, none⟩ = some (.bool l.acfc) := (L0.kept K1).cell 0
          have x1 : w1.cell? ⟨w.heap.size, 1, none⟩ = some (.bool l.pfc) := (L0.kept K1).cell 1
          have x2 : w1.cell? ⟨w.heap.size, 2, none⟩ = some (.int .i64 l.mp) := (L0.kept K1).cell 2
          clear L0 G0 K1
          go_wp2_with fail
          refine (HSP.out _).mono ?_
          rintro e w2 ⟨rfl, K2⟩
          have G2 := grown_trans G1 K2
          clear G1 K2 x0 x1 x2
          go_wp2
          go_ret2
          exact ⟨_, rfl, ⟨[], LLv.nil _ _⟩, G2⟩
        · have hne : ¬ (most < 1 ∨ 65527 < most ∨ spV l ≤ first) := fun e => e.elim h1 fun e => e.elim h2 h3
          have h3' : ¬ (spV l : Int) ≤ (first : Int) := by omega
          by_cases h4 : 65535 < b.length
          · rw [e0, if_neg hne, if_pos h4]
            rw [hmay] at CM
            have h4' : (65535 : Int) < (b.length : Int) := by omega
            clear ha e0 hmay hne
            go_enter Try.func9, Try.ntmps9
            go_wp2_with (refine wpList_load_row rfl 23 (.tmp 4) rfl w.heap.size rfl 23 (lkA l) (0, 0) _ L0 Try.underlying23 rfl HL.out ?_)
            refine CM.mono ?_
            rintro e w1 ⟨rfl, K1⟩
            have G1 := grown_trans G0 K1
            clear CM
            have x0 : w1.cell? ⟨w.heap.size, 0, none⟩ = some (.bool l.acfc) := (L0.kept K1).cell 0
            have x1 : w1.cell? ⟨w.heap.size, 1, none⟩ = some (.bool l.pfc) := (L0.kept K1).cell 1
            have x2 : w1.cell? ⟨w.heap.size, 2, none⟩ = some (.int .i64 l.mp) := (L0.kept K1).cell 2
            clear L0 G0 K1
            go_wp2_with fail
            refine (HSP.out _).mono ?_
            rintro e w2 ⟨rfl, K2⟩
            have G2 := grown_trans G1 K2
            clear G1 K2 x0 x1 x2
            go_wp2
            go_ret2
            exact ⟨_, rfl, ⟨[], LLv.nil _ _⟩, G2⟩
          · have h4' : ¬ (65535 : Int) < (b.length : Int) := by omega
            by_cases h5 : 4096 * most < (b.length : Int)
            · rw [e0, if_neg hne, if_neg h4, if_pos h5]
              rw [hmay] at CM
              have hw : IntKind.i64.wrap (4096 * most) = 4096 * most := by rw [IntKind.wrap_i64]; omega
              clear ha e0 hmay hne
              go_enter Try.func9, Try.ntmps9
              go_wp2_with (refine wpList_load_row rfl 23 (.tmp 4) rfl w.heap.size rfl 23 (lkA l) (0, 0) _ L0 Try.underlying23 rfl HL.out ?_)
              refine CM.mono ?_
              rintro e w1 ⟨rfl, K1⟩
              have G1 := grown_trans G0 K1
              clear CM
              have x0 : w1.cell? ⟨w.heap.size, 0, none⟩ = some (.bool l.acfc) := (L0.kept K1).cell 0
              have x1 : w1.cell? ⟨w.heap.size, 1, none⟩ = some (.bool l.pfc) := (L0.kept K1).cell 1
              have x2 : w1.cell? ⟨w.heap.size, 2, none⟩ = some (.int .i64 l.mp) := (L0.kept K1).cell 2
              clear L0 G0 K1
              go_wp2_with fail
              refine (HSP.out _).mono ?_
              rintro e w2 ⟨rfl, K2⟩
              have G2 := grown_trans G1 K2
              clear G1 K2 x0 x1 x2
              go_wp2
              go_ret2
              exact ⟨_, rfl, ⟨[], LLv.nil _ _⟩, G2⟩
            · rw [e0, if_neg hne, if_neg h4, if_neg h5]
              obtain ⟨m, rfl⟩ : ∃ m : Nat, most = (m : Int) := ⟨most.toNat, by omega⟩
              exact refsplit_ok l a ca b m first w ha hc0 hca hn (by omega) (by omega) (by omega) (by omega) (by omega) hmay

end Go.Proofs.Ytgfiadljjlajaaa
