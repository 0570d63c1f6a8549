/-
  Package graph as landed: straight.
-/
import Derived.Test.YtencoknpocipbaaGreatLotP9
import Derived.Test.YtencoknpocipbaaGreatLotP10
namespace Go.Proofs.YtencoknpocipbaaGreat
open Go.RowKit Go.Shelf
set_option maxRecDepth 100000

attribute [local go_sem] Oper.semAt_some

set_option maxRecDepth 100000 in
set_option maxHeartbeats 2000000 in
/-- The iterator over nothing. -/
theorem chunk0_stops (n : Nat) (Bs Bm n₀ m ca : Nat) (a : Option Addr) (S : Nat → Prop) (hm : 1 ≤ m) (w : World)
    (hBs : w.cell? ⟨Bs, 0, none⟩ = some (.slice a 0 ca)) :
    SeqStopsK Fence.wide n Tryz.prog 127 #[.pointer (some ⟨Bs, 0, none⟩), .pointer (some ⟨Bm, 0, none⟩)] (encC 0 0 : Ck m 0 → Array Value) (Kp n₀ S) (fun ys => ys = chunkL m 0 hm 0 0) (fun pre => pre <+: chunkL m 0 hm 0 0) 0 w := fun l J Jx W hW hJ _ hY h0 => by
  have lt : (⟨Bs, 0, none⟩ : Addr).block < w.heap.size := by
    by_cases hb : (⟨Bs, 0, none⟩ : Addr).block < w.heap.size
    · exact hb
    · unfold World.cell? at hBs
      rw [Array.getElem?_eq_none (by omega)] at hBs
      simp at hBs
  have hBs' := (hW.cell (p := ⟨Bs, 0, none⟩) lt).trans hBs
  clear hY lt hBs
  refine callsIn_of_wp Tryz.func127 rfl trivial ?_ rfl
  simp only [Tryz.ntmps127, List.size_toArray, List.length_cons, List.length_nil, Nat.reduceAdd, Nat.reduceSub, Array.replicate_succ, Array.replicate_zero, List.push_toArray, List.append_toArray, List.nil_append, List.cons_append]
  gi_wp2
  gi_loopw [4] (fun i wr => i = .int .i64 0 ∧ J [] wr ∧ wr.cell? ⟨Bs, 0, none⟩ = some (.slice a 0 ca)) (fun _ _ => 0)
  case atStart => exact ⟨rfl, h0, hBs'⟩
  case round =>
    obtain ⟨rfl, hJs, hcs⟩ := hrel
    gi_wp2
    go_end0
    exact ⟨⟨_, rfl⟩, .inl ⟨[], rfl, hJs⟩⟩

theorem chunk_cover (m n : Nat) (hm : 1 ≤ m) : ∀ f i, n ≤ f + i → ∀ j, i ≤ j → j < n → ∃ p ∈ chunkL m n hm f i, p.i ≤ j ∧ j < p.i + p.l
  | 0, i, h, j, h1, h2 => by omega
  | f + 1, i, h, j, h1, h2 => by
    rw [chunkL, dif_pos (show i < n by omega)]
    by_cases hj : j < i + m
    · refine ⟨⟨i, min m (n - i), by omega⟩, List.mem_cons_self .., h1, ?_⟩
      simp only
      omega
    · obtain ⟨p, hp, hq⟩ := chunk_cover m n hm f (i + m) (by omega) j (by omega) h2
      exact ⟨p, List.mem_cons_of_mem _ hp, hq⟩

/-- A part of a Code. -/
def partC (xs : List In) {m N : Nat} (p : Ck m N) : List In := (xs.drop p.i).take p.l
def goodC (xs : List In) {m N : Nat} (pre : List (Ck m N)) : Prop := ∀ p ∈ pre, (checkV (partC xs p ++ [ret0])).2 = 0
theorem goodC_snoc (xs : List In) {m N : Nat} (pre : List (Ck m N)) (p : Ck m N) : goodC xs (pre ++ [p]) ↔ goodC xs pre ∧ (checkV (partC xs p ++ [ret0])).2 = 0 := by
  unfold goodC
  constructor
  · intro h
    exact ⟨fun q hq => h q (by simp [hq]), h p (by simp)⟩
  · rintro ⟨h1, h2⟩ q hq
    rcases List.mem_append.1 hq with hq | hq
    · exact h1 q hq
    · simp only [List.mem_singleton] at hq
      subst hq
      exact h2
theorem part_mem {xs : List In} {m N : Nat} {p : Ck m N} {x : In} (h : x ∈ partC xs p) : x ∈ xs := List.mem_of_mem_drop (List.mem_of_mem_take h)
theorem part_len {xs : List In} {m : Nat} (p : Ck m xs.length) : (partC xs p).length = p.l := by
  have := p.ok
  simp only [partC, List.length_take, List.length_drop]
  omega
theorem good_all15 {xs : List In} (hm : 1 ≤ 4095) (hl : xs.any leavesB = false) (h : goodC xs (chunkL 4095 xs.length hm xs.length 0)) : straightB xs = true := by
  have hl' : ∀ x ∈ xs, leavesB x = false := fun x hx => by
    have := List.any_eq_false.1 hl x hx
    simpa using this
  refine (straight_iff xs).2 ⟨hl', fun x hx => ?_⟩
  obtain ⟨j, hj, rfl⟩ := List.getElem_of_mem hx
  obtain ⟨p, hp, h1, h2⟩ := chunk_cover 4095 xs.length hm xs.length 0 (by omega) j (by omega) hj
  have hc := h p hp
  have hk := p.ok
  rw [chunk_check (by rw [part_len]; omega) (fun y hy => hl' y (part_mem hy))] at hc
  refine hc _ ?_
  rw [partC, List.mem_iff_getElem?]
  refine ⟨j - p.i, ?_⟩
  rw [List.getElem?_take, if_pos (by omega), List.getElem?_drop, show p.i + (j - p.i) = j by omega, List.getElem?_eq_getElem hj]
theorem not_good15 {xs : List In} (hl : xs.any leavesB = false) {pre : List (Ck 4095 xs.length)} (h : ¬ goodC xs pre) : straightB xs = false := by
  have hl' : ∀ x ∈ xs, leavesB x = false := fun x hx => by
    have := List.any_eq_false.1 hl x hx
    simpa using this
  cases hs : straightB xs with
  | false => rfl
  | true =>
    exfalso
    refine h fun p hp => ?_
    have hk := p.ok
    rw [chunk_check (by rw [part_len]; omega) (fun y hy => hl' y (part_mem hy))]
    exact fun y hy => ((straight_iff xs).1 hs).2 y (part_mem hy)

theorem cv_part {w : World} {b o : Nat} {xs : List In} (h : CV w (some ⟨b, o, none⟩) (flat xs)) (i l : Nat) (hl : i + l ≤ xs.length) : CV w (some ⟨b, o + i * 4, none⟩) (flat ((xs.drop i).take l)) := by
  refine ⟨fun e => (by cases e), fun ad had j hj => ?_⟩
  cases had
  have h1 : (flat (xs.take i)).length = i * 4 := by rw [flat_len, List.length_take, Nat.min_eq_left (by omega)]
  have e : flat xs = flat (xs.take i) ++ (flat ((xs.drop i).take l) ++ flat ((xs.drop i).drop l)) := by rw [← flat_append, ← flat_append, List.take_append_drop, List.take_append_drop]
  have := h.2 _ rfl (i * 4 + j) (by rw [e, List.length_append, List.length_append]; omega)
  rw [Addr.add_lit] at this
  rw [Addr.add_lit, Nat.add_assoc, this]
  congr 1
  simp only [e]
  rw [List.getElem_append_right (by omega)]
  simp only [h1, Nat.add_sub_cancel_left]
  rw [List.getElem_append_left hj]

theorem lit_ret (w : World) : ∀ j u, (flat [ret0])[j]? = some u → (w.alloc (.cells #[.int .u16 6, .int .u8 0, .int .u8 0, .int .u32 0] 54)).cell? ((⟨w.heap.size, 0, none⟩ : Addr).add j) = some u := fun j u h => by
  obtain ⟨hj, e⟩ := List.getElem?_eq_some_iff.1 h
  rw [← e]
  exact (cv_lit w 54 (flat [ret0])).2 _ rfl j hj
theorem check_part {w : World} {ao : Option Addr} {ys : List In} (cap n : Nat) (hn : ys.length = n) (h : CV w ao (flat ys ++ flat [ret0])) : Calls Tryz.prog 17 #[.slice ao (n + 1) cap] w fun e w' => e = .returned (.tuple #[.int .i64 ((checkV (ys ++ [ret0])).1 : Int), .int .i64 (checkV (ys ++ [ret0])).2]) ∧ w.grownBy w' none := by
  rw [← flat_append] at h
  have := check_any ao cap (ys ++ [ret0]) w h
  rw [List.length_append, hn] at this
  exact this

/-- Between two rounds. -/
def IS (w : World) (xs : List In) (R : Nat) (pre : List (Ck 4095 xs.length)) (W : World) : Prop := (goodC xs pre ∧ Boxed W R 4 (.bool false)) ∧ Below w.heap.size w W
/-- A round has left. -/
def XS (w : World) (xs : List In) (R : Nat) (c : Code) (pre : List (Ck 4095 xs.length)) (W : World) : Prop := (c = .ret ∧ ¬ goodC xs pre ∧ Boxed W R 4 (.bool false)) ∧ Below w.heap.size w W
theorem IS_own (w : World) (xs : List In) (R B : Nat) (hB : w.heap.size ≤ B) : OwnFrom B (IS w xs R) :=
  OwnFrom.and (Own.from (fun _ _ _ _ hs hg hr => ⟨hs.1, box_keep hs.2 hg hr⟩) _) (ownFrom_below (Nat.le_refl _) hB)
theorem XS_own (w : World) (xs : List In) (R B : Nat) (hB : w.heap.size ≤ B) (c : Code) : OwnFrom B (XS w xs R c) :=
  OwnFrom.and (Own.from (fun _ _ _ _ hs hg hr => ⟨hs.1, hs.2.1, box_keep hs.2.2 hg hr⟩) _) (ownFrom_below (Nat.le_refl _) hB)

theorem ret_bool_cell {P : Program} {fn : Func} {p : Tmp} {ty : TypeId} (h : fn.results = #[.cell p ty]) (tmps : Array Value) (w : World) (g : Nat) (v : Bool) (hp : tmps.getD p undef = .pointer (some ⟨g, 0, none⟩)) (A : Boxed w g ty (.bool v))
    (hu : P.underlying ty = some .bool) : (results fn tmps).run P w = .ok (.bool v) w := by
  have hp' : tmps[p]?.getD undef = .pointer (some ⟨g, 0, none⟩) := by simpa using hp
  have h2 : (loadVar ty ⟨g, 0, none⟩).run P w = .ok (.bool v) w := by
    have hc := A.cell
    have hag : (isAgg ty).run P w = .ok false w := run_isAgg_plain hu rfl w
    simp [loadVar, Sem.run_bind, hag, go_sem, hc]
  simp [results, h, hp', asAddr, h2]

set_option maxRecDepth 100000 in
set_option maxHeartbeats 4000000 in
theorem straight_any (a : Option Addr) (ca : Nat) (xs : List In) (w : World) (ha : CV w a (flat xs)) (hN : xs.length ≤ 4096) (hca : xs.length ≤ ca) :
    Calls Tryz.prog 111 #[.slice a xs.length ca] w fun e w' => e = .returned (.bool (straightB xs)) ∧ w.grownBy w' none := by
  have CC := fun W (G : w.grownBy W none) => contains_any a ca xs W (ha.keptNone G) (by omega)
  cases hl : xs.any leavesB with
  | true =>
    rw [hl] at CC
    have HN : Hid (straightB xs = false) := by
      show _ = _
      cases hs : straightB xs with
      | false => rfl
      | true =>
        obtain ⟨x, hx, hb⟩ := List.any_eq_true.1 hl
        rw [((straight_iff xs).1 hs).1 x hx] at hb
        cases hb
    have HR0 : Boxed (w.alloc (.cells #[.bool false] 4)) w.heap.size 4 (.bool false) := hnew _ _ _ rfl
    have HG1 := World.grownBy_alloc w (.cells #[.bool false] 4) none
    clear ha
    go_enter Tryz.func111, Tryz.ntmps111
    go_wp2_with fail
    refine (CC _ HG1).mono ?_
    rintro e w1 ⟨rfl, K1⟩
    have bR := box_keep HR0 K1 (fun r e => by cases e)
    have cR := bR.cell
    have zR := bR.frozen
    go_wp2
    refine bodyPost_ret (ret_bool_cell rfl _ _ w.heap.size false rfl (bR.set _) Tryz.underlying4) rfl ⟨by rw [HN.out], ?_⟩
    exact grown_setCell (grown_trans HG1 K1) _ _ (.inr (Nat.le_refl _))
  | false =>
    rw [hl] at CC
    refine (callsIn_wide (n := 3)).1 ?_
    refine callsIn_of_wp_marks Tryz.func111 rfl trivial ?_ rfl
    simp only [Tryz.ntmps111, List.size_toArray, List.length_cons, List.length_nil, Nat.reduceAdd, Nat.reduceSub, Array.replicate_succ, Array.replicate_zero, List.push_toArray, List.append_toArray, List.nil_append, List.cons_append]
    have HG1 := World.grownBy_alloc w (.cells #[.bool false] 4) none
    gi_wp2_with (first | (refine ⟨trivial, ?_⟩; gi_at_call 120; refine (callsIn_wide.2 (CC _ HG1)).mono ?_; rintro e w1 ⟨rfl, K1⟩) | (refine ⟨trivial, ?_⟩; gi_at_call 121; refine (callsIn_wide.2 (chunk_any _ 4095 (by omega) _ rfl)).mono ?_; rintro e w2 ⟨rfl, rfl⟩))
    have HR0 : Boxed (w.alloc (.cells #[.bool false] 4)) w.heap.size 4 (.bool false) := hnew _ _ _ rfl
    have HR1 : Boxed w1 w.heap.size 4 (.bool false) := box_keep HR0 K1 (fun r e => by cases e)
    obtain ⟨W0, hW0⟩ : ∃ W0, (w1.alloc (.cells #[.slice a xs.length ca] 24)).alloc (.cells #[.int .i64 4095] 3) = W0 := ⟨_, rfl⟩
    have fR : Boxed W0 w.heap.size 4 (.bool false) := by rw [← hW0]; exact hkeep (hkeep HR1 _) _
    have fS : Boxed W0 w1.heap.size 24 (.slice a xs.length ca) := by rw [← hW0]; exact hkeep (hnew _ _ _ rfl) _
    have fM : Boxed W0 (w1.heap.size + 1) 3 (.int .i64 4095) := by rw [← hW0]; exact hnew _ _ _ (by simp only [World.size_alloc])
    have G0 : w.grownBy W0 none := by rw [← hW0]; exact grown_trans (grown_trans (grown_trans HG1 K1) (World.grownBy_alloc _ _ _)) (World.grownBy_alloc _ _ _)
    have hs1 : w.heap.size < w1.heap.size := by have := K1.size; simp only [World.size_alloc] at this; omega
    rw [hW0]
    clear hW0
    obtain ⟨M, hM⟩ : ∃ k, w1.heap.size + 1 = k := ⟨_, rfl⟩
    rw [hM] at fM ⊢
    obtain ⟨Bs, hBs⟩ : ∃ k, w1.heap.size = k := ⟨_, rfl⟩
    rw [hBs] at fS hs1 ⊢
    obtain ⟨R, hR⟩ : ∃ k, w.heap.size = k := ⟨_, rfl⟩
    rw [show (Value.pointer (some ⟨w.heap.size, 0, none⟩)) = .pointer (some ⟨R, 0, none⟩) by rw [hR]]
    rw [hR] at fR
    have l1 : w.heap.size ≤ R := by omega
    clear hM hBs hR HR0 HR1 K1 HG1
    have hle : w.heap.size ≤ W0.heap.size := G0.size
    have hm : 1 ≤ 4095 := by omega
    have HL : Hid (xs.any leavesB = false) := hl
    have Hst : ∃ b o, (∀ (i l : Nat), i + l ≤ xs.length → 1 ≤ l → CV w (some ⟨b, o + i * 4, none⟩) (flat ((xs.drop i).take l))) ∧ SeqStopsK Fence.wide (3 - 1) Tryz.prog 127 #[.pointer (some ⟨Bs, 0, none⟩), .pointer (some ⟨M, 0, none⟩)] (encC b o : Ck 4095 xs.length → Array Value) (Kp w.heap.size (fun k => k = Bs ∨ k = M)) (fun ys => ys = chunkL 4095 xs.length hm xs.length 0) (fun pre => pre <+: chunkL 4095 xs.length hm xs.length 0) xs.length W0 := by
      by_cases h0 : 0 < xs.length
      · obtain ⟨b, o, rfl, -⟩ := ha.insns h0
        exact ⟨b, o, fun i l h1 _ => cv_part ha i l h1, chunk_stops (3 - 1) (by omega) Bs M w.heap.size b o xs.length ca 4095 _ hm (by omega) (by omega) hca (.inl (.inr rfl)) (.inl (.inl rfl)) W0 fS.cell fM.cell⟩
      · have hx : xs = [] := List.eq_nil_of_length_eq_zero (by omega)
        subst hx
        exact ⟨0, 0, fun i l h1 h2 => (by simp at h1; omega), chunk0_stops (3 - 1) Bs M w.heap.size 4095 ca a _ hm W0 fS.cell⟩
    obtain ⟨b, o, hcv, hst⟩ := Hst
    have HCV : Hid (∀ (i l : Nat), i + l ≤ xs.length → 1 ≤ l → CV w (some ⟨b, o + i * 4, none⟩) (flat ((xs.drop i).take l))) := hcv
    clear hcv ha hl CC
    refine wpIn_rangeFunc_ownF rfl (by omega) (gf := 127) (lb := #[.pointer (some ⟨Bs, 0, none⟩), .pointer (some ⟨M, 0, none⟩)]) rfl trivial (enters_of Tryz.func127 (by kernel_rfl) rfl)
      hst (fun h k => h.trans k) (Kp.book hle) (Below.refl _ _) (fun _ => rfl)
      (IS w xs R) (XS w xs R) (IS_own w xs R _ hle) (fun c => XS_own w xs R _ hle c)
      ⟨⟨(fun p hp => absurd hp (by simp)), fR⟩, below_of G0⟩
      (fun x => { tmps := #[.slice a xs.length ca, undef, .pointer (some ⟨R, 0, none⟩), .slice (some ⟨b, o + x.i * 4, none⟩) x.l x.l, undef, undef, .slice a xs.length ca, .bool false, .slice a xs.length ca, .func (.func 127) #[] #[.pointer (some ⟨Bs, 0, none⟩), .pointer (some ⟨M, 0, none⟩)], .slice (some ⟨b, o + x.i * 4, none⟩) x.l x.l, undef, undef, undef, undef, undef, undef, undef, undef, undef, undef, undef], defers := [] }) ?assign ?body ?done ?stop
    case assign =>
      intro l x W K hK
      gi_wp2
      exact hK
    case body =>
      rintro l pre x W ⟨⟨hg, hRr⟩, hB⟩ hlen
      have hx := x.ok
      have hpl := part_len x
      have hW := hB.size
      have CL := iclone_any ⟨b, o + x.i * 4, none⟩ x.l (partC xs x) W ((HCV.out x.i x.l (by omega) (by omega)).below hB) (by omega)
      rw [hpl] at CL
      have HG : Hid ((checkV (partC xs x ++ [ret0])).2 = 0 → goodC xs (pre ++ [x])) := fun h => (goodC_snoc _ _ _).2 ⟨hg, h⟩
      have HB : Hid ((checkV (partC xs x ++ [ret0])).2 ≠ 0 → ¬ goodC xs (pre ++ [x])) := fun h h2 => h ((goodC_snoc _ _ _).1 h2).2
      have HLn : Hid ((partC xs x).length = x.l ∧ x.l ≤ 4095) := ⟨hpl, hx.2.1⟩
      obtain ⟨i0, hi, hz0, hz1, hz2⟩ := info_parts info54
      clear hg hpl hx
      generalize partC xs x = ys at *
      generalize x.i = xi at *
      generalize x.l = xl at *
      have CKK := fun cap n hn {W : World} {ao : Option Addr} (h : CV W ao (flat ys ++ flat [ret0])) => check_part (w := W) (ao := ao) (ys := ys) cap n hn h
      generalize checkV (ys ++ [ret0]) = ck at *
      obtain ⟨ck1, ck2⟩ := ck
      simp only at HG HB CKK
      by_cases hz : ck2 = 0
      · subst hz
        gi_wp2_with (first
          | (refine ⟨trivial, ?_⟩; gi_at_call 122; refine (CallsIn.inRound l (callsIn_wide.2 CL)).mono ?_; rintro e w3 ⟨v, rfl, O3, K3⟩; have hs3 := K3.size)
          | (gi_at_builtin; refine wpListIn_append_own _ rfl _ _ 24 rfl W.heap.size 54 i0 (.agg #[.int .u16 0, .int .u8 0, .int .u8 0, .int .u32 0]) 4 8 Tryz.underlying24 hi hz0 hz1 hz2 rfl (by decide) _ _ _ rfl (owns_keptNone O3 (World.grownBy_alloc _ _ _)) ⟨w3.heap.size, 0, none⟩ 1 1 (flat [ret0]) rfl rfl (lit_ret w3) (flat_one _) (by unfold maxLen; have := HLn.out; omega) (by have := HLn.out; omega) (by simp; omega) ?_; intro v' w4 hown' hgrow _; obtain ⟨ao, cap, rfl, C4, -⟩ := cv_of_row hown'; have CK := CKK cap ys.length rfl C4; have K4 : W.grownBy w4 none := grown_trans_new (grown_trans K3 (World.grownBy_alloc _ _ _)) hgrow (fun z hz => (O3.lt z hz).1); clear hgrow)
          | (refine ⟨trivial, ?_⟩; gi_at_call 17; refine (CallsIn.inRound l (callsIn_wide.2 CK)).mono ?_; rintro e w5 ⟨rfl, K5⟩; have K6 := grown_trans K4 K5; have bR := box_keep hRr K6 (fun r e => by cases e); have cR := bR.cell; have zR := bR.frozen))
        have s6 := K6.size
        exact ⟨KeepsOthers.of_grownBy K6 (fun _ _ e => by cases e), Kp.none K6 (by omega), ⟨HG.out (by simp), bR⟩, hB.trans ((Below.refl _ _).grown K6 (by omega) (by simp))⟩
      · have hz' : (ck2 != 0) = true := by rw [bne_iff_ne]; exact hz
        gi_wp2_with (first
          | (refine ⟨trivial, ?_⟩; gi_at_call 122; refine (CallsIn.inRound l (callsIn_wide.2 CL)).mono ?_; rintro e w3 ⟨v, rfl, O3, K3⟩; have hs3 := K3.size)
          | (gi_at_builtin; refine wpListIn_append_own _ rfl _ _ 24 rfl W.heap.size 54 i0 (.agg #[.int .u16 0, .int .u8 0, .int .u8 0, .int .u32 0]) 4 8 Tryz.underlying24 hi hz0 hz1 hz2 rfl (by decide) _ _ _ rfl (owns_keptNone O3 (World.grownBy_alloc _ _ _)) ⟨w3.heap.size, 0, none⟩ 1 1 (flat [ret0]) rfl rfl (lit_ret w3) (flat_one _) (by unfold maxLen; have := HLn.out; omega) (by have := HLn.out; omega) (by simp; omega) ?_; intro v' w4 hown' hgrow _; obtain ⟨ao, cap, rfl, C4, -⟩ := cv_of_row hown'; have CK := CKK cap ys.length rfl C4; have K4 : W.grownBy w4 none := grown_trans_new (grown_trans K3 (World.grownBy_alloc _ _ _)) hgrow (fun z hz => (O3.lt z hz).1); clear hgrow)
          | (refine ⟨trivial, ?_⟩; gi_at_call 17; refine (CallsIn.inRound l (callsIn_wide.2 CK)).mono ?_; rintro e w5 ⟨rfl, K5⟩; have K6 := grown_trans K4 K5; have bR := box_keep hRr K6 (fun r e => by cases e); have cR := bR.cell; have zR := bR.frozen))
        exact ⟨(KeepsOthers.of_grownBy K6 (fun _ _ e => by cases e)).trans (KeepsOthers.setCell _ _ _), ⟨rfl, HB.out hz, bR.set _⟩, (hB.trans ((Below.refl _ _).grown K6 (by omega) (by simp))).setCell (p := ⟨R, 0, none⟩) l1 _⟩
    case done =>
      rintro D ys W hD rfl ⟨⟨hg, hRr⟩, hB⟩ hK
      have HN : Hid (straightB xs = true) := good_all15 hm HL.out hg
      have hcR := hRr.cell
      have hfR := hRr.frozen
      gi_wp2
      obtain ⟨X, hX⟩ : ∃ X, W.setCell ⟨R, 0, none⟩ (.bool true) = X := ⟨_, rfl⟩
      rw [hX]
      have k1 : KeepsOthers W X := by rw [← hX]; exact KeepsOthers.setCell _ _ _
      have k2 : Boxed X R 4 (.bool true) := by rw [← hX]; exact hRr.set _
      have k4 : Below w.heap.size w X := by rw [← hX]; exact hB.setCell (p := ⟨R, 0, none⟩) l1 _
      clear hX
      have hK' := k1.same D _ hK rfl
      refine ⟨by simp, .inl ⟨_, _, rfl, run_takeDeferred hK', ?_⟩⟩
      have hr : ∀ r, some D = some r → ∃ o : Obj, X.heap[r]? = some o ∧ o.isCells = false := fun r e => by cases e; exact ⟨_, hK', rfl⟩
      refine ⟨_, ret_bool_cell rfl _ _ R true rfl (box_keep k2 (grownBy_putObj' _ D (.deferred none)) hr) Tryz.underlying4, ?_, ?_⟩
      · rw [HN.out]
      · exact grown_of (k4.trans (belowK_b (w := w) (Nat.le_refl _) _ D _ _ (by omega) hK' rfl rfl))
    case stop =>
      rintro D c pre W hD hpre ⟨⟨rfl, hbad, hRr⟩, hB⟩ hK
      have HN : Hid (straightB xs = false) := not_good15 HL.out hbad
      gi_wp2
      refine ⟨by simp, .inl ⟨_, _, rfl, run_takeDeferred hK, ?_⟩⟩
      have hr : ∀ r, some D = some r → ∃ o : Obj, W.heap[r]? = some o ∧ o.isCells = false := fun r e => by cases e; exact ⟨_, hK, rfl⟩
      refine ⟨_, ret_bool_cell rfl _ _ R false rfl (box_keep hRr (grownBy_putObj' _ D (.deferred none)) hr) Tryz.underlying4, ?_, ?_⟩
      · rw [HN.out]
      · exact grown_of (hB.trans (belowK_b (w := w) (Nat.le_refl _) W D _ _ (by omega) hK rfl rfl))

end Go.Proofs.YtencoknpocipbaaGreat
