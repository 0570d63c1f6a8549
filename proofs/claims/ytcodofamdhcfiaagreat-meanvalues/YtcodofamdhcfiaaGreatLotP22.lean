import Derived.Test.YtcodofamdhcfiaaGreatLotP7
import Derived.Test.YtcodofamdhcfiaaGreatLotP16
import Derived.Deep.MidRow
import Derived.Test.YtcodofamdhcfiaaGreatLotP21
import Derived.Test.YtcodofamdhcfiaaGreatLotP20
namespace Go.Proofs.YtcodofamdhcfiaaGreat
open Go.RowKit
set_option maxRecDepth 100000
def mkN : Ng := ⟨77, 0, 7, 0, 0, 0, 0, zeros 16, 0⟩
def mkA : Array Value := #[.int .i64 77, .int .i64 0, .int .u32 7, .int .u32 0, .int .i64 0, .int .i64 0, .int .i64 0, .int .u8 0, .int .u8 0, .int .u8 0, .int .u8 0, .int .u8 0, .int .u8 0, .int .u8 0, .int .u8 0, .int .u8 0, .int .u8 0, .int .u8 0, .int .u8 0, .int .u8 0, .int .u8 0, .int .u8 0, .int .u8 0, .int .i64 0]
theorem mkA_size : (Tryz.prog.info? 52).map (·.size) = some mkA.size := size52
theorem mkA_all : mkA.all (·.oneCell') = true := by simp [mkA, Value.oneCell']
theorem lit_mark1 (W : World) : (Instr.buildSlice 22 1 #[(0, .agg mkA)]).run Tryz.prog W = .ok (.slice (some ⟨W.heap.size, 0, none⟩) 1 1) (W.alloc (.cells (flatG [mkN]).toArray 52)) := by kernel_rfl
theorem lit_mark3 (W : World) : (Instr.buildSlice 22 3 #[(0, .agg mkA), (1, .agg mkA), (2, .agg mkA)]).run Tryz.prog W = .ok (.slice (some ⟨W.heap.size, 0, none⟩) 3 3) (W.alloc (.cells (flatG [mkN, mkN, mkN]).toArray 52)) := by kernel_rfl
theorem setCells_blk {w : World} {e : TypeId} {g n : Nat} (b : Nat) : ∀ (vs : List Value) (o : Nat) (w : World), BlkN w e g n → BlkN (w.setCells b o vs) e g n
 | [], _, _, h => h
 | v :: r, o, _, h => setCells_blk (w := w) b r (o + 1) _ (h.setCell _ v)
theorem setCells_grown {w : World} {row : Option Nat} (b : Nat) (hp : row = some b ∨ w.heap.size ≤ b) : ∀ (vs : List Value) (o : Nat) (W : World), w.grownBy W row → w.grownBy (W.setCells b o vs) row
 | [], _, _, h => h
 | v :: r, o, _, h => setCells_grown b hp r (o + 1) _ (grown_setCell h ⟨b, o, none⟩ v hp)
theorem BlkN.thereN {w : World} {e : TypeId} {g n : Nat} (h : BlkN w e g n) {o m : Nat} (hm : o + m ≤ n) : w.there g o m := fun j hj => by
 obtain ⟨u, hu⟩ := h.cell (i := o + j) (by omega)
 exact ⟨by rw [hu]; rfl, h.free _⟩
def GSpoilRel (w : World) (row : Option Nat) (g g' n n' : Nat) (wr : World) : Prop := BlkN wr 52 g n ∧ BlkN wr 52 g' n' ∧ w.grownBy wr row
theorem GSpoilRel.set {w wr : World} {row : Option Nat} {g g' n n' : Nat} (h : GSpoilRel w row g g' n n' wr) {b : Nat} (o : Nat) (vs : List Value) (hp : row = some b ∨ w.heap.size ≤ b) : GSpoilRel w row g g' n n' (wr.setCells b o vs) :=
 ⟨setCells_blk (w := w) b vs o wr h.1, setCells_blk (w := w) b vs o wr h.2.1, setCells_grown b hp vs o wr h.2.2⟩
set_option maxRecDepth 100000 in
set_option maxHeartbeats 2000000 in
theorem gspoil_any (g n cap : Nat) (w : World) (hb : BlkN w 52 g (cap * 24)) (hn : n ≤ cap) (hcm : cap ≤ maxLen) (hm : (n + 1) * 72 ≤ 140737488355328) :
  Calls Tryz.prog 23 #[.slice (some ⟨g, 0, none⟩) n cap] w fun e w' => e = .returned (.tuple #[]) ∧ w.grownBy w' (some g) := by
 obtain ⟨i0, hi, hz0, hz1, hz2⟩ := info_parts info52
 have H : Hid (BlkN w 52 g (cap * 24)) := hb
 have HLM := lit_mark1
 have HMS : Hid ((Tryz.prog.info? 52).map (·.size) = some mkA.size ∧ mkA.all (·.oneCell') = true) := ⟨mkA_size, mkA_all⟩
 have HMB : Hid (∀ W : World, (Instr.build 52 #[(0, .int .i64 77), (2, .int .u32 7)]).run Tryz.prog W = .ok (.agg mkA) W) := fun W => by kernel_rfl
 have HM24 : Hid (24 = mkA.size) := rfl
 obtain ⟨M, hM⟩ : ∃ M, mkA = M := ⟨_, rfl⟩
 rw [hM] at HMS HMB HM24
 rw [hM] at HLM
 clear hb hM
 go_enter Tryz.func23, Tryz.ntmps23
 go_wp2_with (first | refine wpList_bld rfl 52 _ rfl _ (by kernel_rfl) (.agg M) HMB.out ?_ | (refine wpList_lit (by rfl) 22 1 _ rfl _ (by kernel_rfl) (flatG [mkN]) 52 HLM ?_; intro V wl CL KL) | (at_builtin; refine wpList_append_blkN rfl (.tmp 5) (.tmp 7) 22 rfl 52 i0 _ 24 72 Tryz.underlying22 hi hz0 hz1 hz2 rfl (by decide) g n cap rfl (H.out.kept KL (by simp)) hn hcm ⟨V, 0, none⟩ 1 1 (flatG [mkN]) rfl rfl CL (flatG_one _) ?q3 ?q4 ?q5))
 case q3 => unfold maxLen; omega
 case q4 => omega
 case q5 =>
  intro g' cap' w1 hg' hb1 hb2 hc' hcm' hgr
  have R : GSpoilRel w (some g) g g' (cap * 24) (cap' * 24) w1 := ⟨hb1, hb2, grown_trans (grown_mono KL) hgr⟩
  have hp : some g = some g' ∨ w.heap.size ≤ g' := by
   rcases hg' with e | e
   ·exact .inl (by rw [e])
   ·right; have := KL.size; omega
  clear hg' hb1 hb2 hgr CL KL HLM
  unfold maxLen at hcm hcm'
  go_wp2
  go_loopw [3] (fun i wr => ∃ k : Nat, k ≤ n + 1 ∧ i = .int .i64 k ∧ GSpoilRel w (some g) g g' (cap * 24) (cap' * 24) wr) (fun i _ => n + 1 - (intOf i).toNat)
  case atStart => exact ⟨0, Nat.zero_le _, rfl, R⟩
  case round =>
   clear R
   obtain ⟨k, hk, rfl, R⟩ := hrel
   by_cases hlt : k < n + 1
   ·have HTH : Hid (wr.there g' (k * 24) M.size) := R.2.1.thereN (by rw [← HM24.out]; omega)
    have R' := R.set (k * 24) M.toList hp
    have hl : (k : Int) < (n : Int) + 1 := by omega
    have z0 : (0 : Int) ≤ (k : Int) := by omega
    clear R
    go_wp2_with (first | refine wpList_bld rfl 52 _ rfl _ (by kernel_rfl) (.agg M) HMB.out ?_ | refine wpList_store_mid rfl 52 (.tmp 18) (.tmp 17) rfl g' (k * 24) M (by simp [Act.eval]) rfl HTH.out HMS.out.1 HMS.out.2 ?_)
    go_roundw
    case rel => exact ⟨k + 1, by omega, by go_num, R'⟩
    case measure => simp [intOf]; omega
   ·go_wp2
    clear hk hlt
    go_loopw [4] (fun i wr => ∃ k : Nat, k ≤ n ∧ i = .int .i64 k ∧ GSpoilRel w (some g) g g' (cap * 24) (cap' * 24) wr) (fun i _ => n - (intOf i).toNat)
    case atStart => exact ⟨0, Nat.zero_le _, rfl, R⟩
    case round =>
     clear R
     obtain ⟨k, hk, rfl, R⟩ := hrel
     by_cases hlt : k < n
     ·have HTH : Hid (wr.there g (k * 24) M.size) := R.1.thereN (by rw [← HM24.out]; omega)
      have R' := R.set (b := g) (k * 24) M.toList (.inl rfl)
      have hl : (k : Int) < (n : Int) := by omega
      have z0 : (0 : Int) ≤ (k : Int) := by omega
      clear R
      go_wp2_with (first | refine wpList_bld rfl 52 _ rfl _ (by kernel_rfl) (.agg M) HMB.out ?_ | refine wpList_store_mid rfl 52 (.tmp 28) (.tmp 27) rfl g (k * 24) M (by simp [Act.eval]) rfl HTH.out HMS.out.1 HMS.out.2 ?_)
      go_roundw
      case rel => exact ⟨k + 1, by omega, by go_num, R'⟩
      case measure => simp [intOf]; omega
     ·go_wp2
      go_end0
      exact ⟨rfl, R.2.2⟩
def GLent (w : World) (base : Nat) (v : Value) (xs : List Ng) : Prop :=
 ∃ g cap, v = .slice (some ⟨g, 0, none⟩) xs.length cap ∧ xs.length + 3 ≤ cap ∧ cap ≤ maxLen ∧ base ≤ g ∧ g < w.heap.size ∧ w.ownsRow base 52 24 (.slice (some ⟨g, 0, none⟩) (xs.length + 3) cap) (xs.length + 3) (flatG (xs ++ [mkN, mkN, mkN]))
set_option maxRecDepth 100000 in
set_option maxHeartbeats 2000000 in
theorem glend_any (a : Option Addr) (ca : Nat) (xs : List Ng) (w : World) (ha : CV w a (flatG xs)) (hc0 : a = none → ca = 0) (hm : xs.length * 72 ≤ 140737488351232) :
  Calls Tryz.prog 6 #[.slice a xs.length ca] w fun e w' => ∃ v, e = .returned v ∧ GLent w' w.heap.size v xs ∧ w.grownBy w' none := by
 obtain ⟨i0, hi, hz0, hz1, hz2⟩ := info_parts info52
 have HLM := lit_mark3
 go_enter Tryz.func6, Tryz.ntmps6
 go_wp2_with fail
 refine (gcopy_any a ca xs _ ha hc0 (by omega)).mono ?_
 rintro e w1 ⟨v, rfl, h1, h2⟩
 clear ha
 go_wp2_with (first | (refine wpList_lit (by rfl) 22 3 _ rfl _ (by kernel_rfl) (flatG [mkN, mkN, mkN]) 52 HLM ?_; intro V wl CL KL) | (at_builtin; refine wpList_append_cv rfl (.tmp 5) (.tmp 9) 22 rfl 52 i0 _ 24 72 Tryz.underlying22 hi hz0 hz1 hz2 rfl (by decide) w.heap.size _ xs.length (flatG xs) rfl (owns_keptNone h1 KL) (some ⟨V, 0, none⟩) 3 3 (flatG [mkN, mkN, mkN]) rfl rfl (by simp) CL (flatG_one _) ?q3 ?q4 ?q5 ?q6))
 case q3 => unfold maxLen; omega
 case q4 => omega
 case q5 => have := h2.size; have := KL.size; omega
 case q6 =>
  intro v' w' h3 h4
  have G : w.grownBy w' none := grown_trans_new h2 (grown_trans (grown_mono KL) h4) (fun x hx => (h1.lt x hx).1)
  rw [← flatG_append] at h3
  obtain ⟨g, cap, hv, hc, hcm, hg1, hg2⟩ := owns_head h3 (by omega)
  subst hv
  have R : GLent w' w.heap.size (.slice (some ⟨g, 0, none⟩) xs.length cap) xs := ⟨g, cap, rfl, hc, hcm, hg1, hg2, h3⟩
  clear h4 h3 h2 h1 CL KL HLM
  unfold maxLen at hcm
  have hx : (xs.length : Int) ≤ (cap : Int) := by omega
  go_wp2
  go_ret
  exact ⟨_, rfl, R, G⟩
theorem gcv_front {w : World} {base g cap n : Nat} {xs ys : List Ng} (h : w.ownsRow base 52 24 (.slice (some ⟨g, 0, none⟩) n cap) n (flatG (xs ++ ys))) : CV w (some ⟨g, 0, none⟩) (flatG xs) ∧ CV w (some ⟨g, xs.length * 24, none⟩) (flatG ys) := by
 have hl := flatG_len xs
 refine ⟨⟨fun h => (by cases h), fun ad had i hi => ?_⟩, ⟨fun h => (by cases h), fun ad had i hi => ?_⟩⟩
 ·obtain rfl := Option.some.inj had
  refine h.cells (g := g) rfl i _ ?_
  rw [flatG_append, List.getElem?_append_left hi]
  simp [hi]
 ·obtain rfl := Option.some.inj had
  have := h.cells (g := g) rfl ((flatG xs).length + i) ((flatG ys)[i]) (by rw [flatG_append, List.getElem?_append_right (by omega)]; simp [hi])
  rw [Addr.add_lit, Nat.zero_add, hl] at this
  rw [Addr.add_lit]
  exact this
set_option maxRecDepth 100000 in
set_option maxHeartbeats 2000000 in
theorem gkept_any (g cap : Nat) (ao : Option Addr) (ca : Nat) (xs : List Ng) (w : World) (hL : w.ownsRow 0 52 24 (.slice (some ⟨g, 0, none⟩) (xs.length + 3) cap) (xs.length + 3) (flatG (xs ++ [mkN, mkN, mkN])))
  (ha : CV w ao (flatG xs)) (hm : xs.length * 72 ≤ 140737488351232) :
  Calls Tryz.prog 9 #[.slice (some ⟨g, 0, none⟩) xs.length cap, .slice ao xs.length ca] w fun e w' => e = .returned (.bool true) ∧ w.grownBy w' (some g) := by
 obtain ⟨hB, hc, hcm⟩ := BlkN.ofRow hL
 obtain ⟨c1, c2⟩ := gcv_front hL
 clear hL
 have HB : Hid (BlkN w 52 g (cap * 24)) := hB
 have HC : Hid (CV w (some ⟨g, xs.length * 24, none⟩) (flatG [mkN, mkN, mkN])) := c2
 have HLM := lit_mark3
 clear hB c2
 have hcm0 := hcm
 unfold maxLen at hcm
 have hx : (xs.length : Int) + 3 ≤ (cap : Int) := by omega
 go_enter Tryz.func9, Tryz.ntmps9
 go_wp2_with fail
 refine (gsame_any _ ao _ ca xs _ c1 ha (by omega)).mono ?_
 rintro e w1 ⟨rfl, n1, rfl⟩
 clear c1 ha
 have G0 := grown_drewN w n1 none
 have HC0 : Hid (CV (w.drewN n1) (some ⟨g, xs.length * 24, none⟩) (flatG [mkN, mkN, mkN])) := HC.out.keptNone G0
 have HB0 : Hid (BlkN (w.drewN n1) 52 g (cap * 24)) := HB.out.kept G0 (by simp)
 generalize w.drewN n1 = w1 at *
 clear HC HB
 have hn3 : ¬ cap = xs.length := by omega
 have hn4 : ¬ (xs.length : Int) + 3 < (xs.length : Int) := by omega
 go_wp2_with (refine wpList_lit (by rfl) 22 3 _ rfl _ (by kernel_rfl) (flatG [mkN, mkN, mkN]) 52 HLM ?_; intro V wl CL KL)
 have G1 := grown_trans G0 KL
 have C1 := HC0.out.keptNone KL
 have B1 := HB0.out.kept KL (by simp)
 refine (gsame_any _ _ _ _ [mkN, mkN, mkN] _ C1 CL (by simp)).mono ?_
 rintro e w3 ⟨rfl, n2, rfl⟩
 have G2 : w.grownBy (wl.drewN n2) none := grown_trans G1 (grown_drewN _ _ _)
 have B2 : BlkN (wl.drewN n2) 52 g (cap * 24) := B1.kept (grown_drewN _ _ none) (by simp)
 clear G1 B1 C1 CL KL HLM
 generalize wl.drewN n2 = w3 at *
 go_wp2_with fail
 refine (gspoil_any g (xs.length + 3) cap _ B2 hc hcm0 (by omega)).mono ?_
 rintro e w4 ⟨rfl, G3⟩
 have G4 : w.grownBy w4 (some g) := grown_trans (grown_mono G2) G3
 clear G3 G2 B2
 go_wp2
 go_ret
 exact ⟨rfl, G4⟩
theorem joinG_truth (x : Ng) (ps : List Pt) : (joinG x ps).truth = truthG x.kind := by
 unfold joinG
 split
 ·split <;> rfl
 ·rfl
theorem checkG_er {t : List Ng} {x : Nat × Int} (h : walkG [] 0 t = .error x) : checkG t = x := by rw [checkG, h]
theorem stepG_frame {x : Ng} {st s : List Pt} (st0 : List Pt) (h : stepG x st = .ok s) : stepG x (st0 ++ st) = .ok (st0 ++ s) := by
 unfold stepG at h ⊢
 split at h
 ·cases h
 ·rename_i a ha
  split at h
  ·cases h
  ·rename_i hl
   have hd : (st0 ++ st).drop ((st0 ++ st).length - a) = st.drop (st.length - a) := by
    rw [List.length_append, show st0.length + st.length - a = st0.length + (st.length - a) by omega, List.drop_append, List.drop_eq_nil_of_le (by omega), List.nil_append, Nat.add_sub_cancel_left]
   have ht : (st0 ++ st).take ((st0 ++ st).length - a) = st0 ++ st.take (st.length - a) := by
    rw [List.length_append, show st0.length + st.length - a = st0.length + (st.length - a) by omega, List.take_append, List.take_of_length_le (by omega), Nat.add_sub_cancel_left]
   split at h
   ·cases h
   ·rename_i hf
    cases h
    rw [if_neg (by rw [List.length_append]; omega), hd, if_neg hf, ht, List.append_assoc]
theorem heavy_none : ∀ (l : List Ng) (w k : Nat), heavyG w k l = none ↔ (l = [] ∨ w + weightG l ≤ 3000)
 | [], w, k => by simp [heavyG]
 | x :: l, w, k => by
  have e : weightG (x :: l) = weighG x + weightG l := by simp [weightG]
  simp only [heavyG]
  by_cases h : 3000 < w + weighG x
  ·rw [if_pos h]
   constructor
   ·intro h2; cases h2
   ·intro h2; rcases h2 with h2 | h2
    ·cases h2
    ·omega
  ·rw [if_neg h, heavy_none l (w + weighG x) (k + 1)]
   constructor
   ·rintro (rfl | h2)
    ·right; rw [e]; simp [weightG]; omega
    ·right; omega
   ·rintro (h2 | h2)
    ·cases h2
    ·right; omega
theorem filt_iff {t : List Ng} : (checkG t).2 = 0 ↔ ∃ p, walkG [] 0 t = .ok [p] ∧ p.truth = true ∧ weightG t ≤ 3000 := by
 constructor
 ·intro h
  cases hw : walkG [] 0 t with
  | error x =>
   obtain ⟨k, e⟩ := x
   rw [checkG_er hw] at h
   have := walkG_er t [] 0 hw
   simp only at h
   omega
  | ok st =>
   rw [checkG, hw] at h
   simp only at h
   split at h
   ·cases h
   ·rename_i hl
    split at h
    ·cases h
    ·rename_i ht
     match st, hl with
     | [p], _ =>
      refine ⟨p, rfl, by simpa using ht, ?_⟩
      cases hh : heavyG 0 0 t with
      | some q => rw [hh] at h; cases h
      | none =>
       rcases (heavy_none t 0 0).1 hh with rfl | h2
       ·simp [weightG]
       ·omega
     | [], hl => exact absurd (by simp) hl
     | _ :: _ :: _, hl => exact absurd (by simp) hl
 ·rintro ⟨p, hw, hp, hwt⟩
  rw [checkG, hw]
  simp only [List.length_singleton, ne_eq, not_true_eq_false, if_false, List.getD_cons_zero, hp]
  rw [(heavy_none t 0 0).2 (.inr (by omega))]
  rfl
theorem weighG_pos {x : Ng} (h : 1 ≤ x.kind ∧ x.kind ≤ 16) : 1 ≤ weighG x := by
 obtain ⟨k, hk⟩ : ∃ k : Nat, x.kind = k := Int.eq_ofNat_of_zero_le (by omega)
 unfold weighG
 rw [hk]
 rcases sixteen (k := k) (by omega) (by omega) with rfl | rfl | rfl | rfl | rfl | rfl | rfl | rfl | rfl | rfl | rfl | rfl | rfl | rfl | rfl | rfl
 all_goals first
  | exact Nat.le_refl 1
  | (show 1 ≤ (_ : Nat); simp; done)
  | (simp; split <;> omega)
theorem walkG_weighs : ∀ (l : List Ng) (st s : List Pt) (k : Nat), walkG st k l = .ok s → l.length ≤ weightG l
 | [], _, _, _, _ => Nat.le_refl _
 | x :: l, st, s, k, h => by
  simp only [walkG] at h
  cases hs : stepG x st with
  | error e => rw [hs] at h; cases h
  | ok s1 =>
   rw [hs] at h
   have := walkG_weighs l s1 s (k + 1) h
   have hx : 1 ≤ weighG x := by
    unfold stepG at hs
    split at hs
    ·cases hs
    ·rename_i a ha
     exact weighG_pos (arG_in ha)
   have e : weightG (x :: l) = weighG x + weightG l := by simp [weightG]
   rw [List.length_cons]
   omega
theorem filt_len {t : List Ng} (h : (checkG t).2 = 0) : t.length ≤ 3000 := by
 obtain ⟨p, hw, -, hwt⟩ := filt_iff.1 h
 have := walkG_weighs t [] _ 0 hw
 omega
theorem walkG_snoc {t : List Ng} {st : List Pt} (x : Ng) (h : walkG [] 0 t = .ok st) : walkG [] 0 (t ++ [x]) = match stepG x st with | .error e => .error (t.length, e) | .ok s => .ok s := by
 rw [walkG_app, h]
 simp only [walkG, Nat.zero_add]
 cases stepG x st <;> rfl
theorem mjoin_fixed {x : Ng} {ps : List Pt} (h : (joinG x ps).fixed = true) : (∀ p ∈ ps, p.fixed = true) ∧ valG x ps = some (joinG x ps).val := by
 unfold joinG at h ⊢
 split
 ·rename_i ha
  rw [if_pos ha] at h
  refine ⟨fun p hp => by simpa using List.all_eq_true.1 ha p hp, ?_⟩
  cases e : valG x ps with
  | none => rw [e] at h; cases h
  | some v => rfl
 ·rename_i ha
  rw [if_neg ha] at h
  cases h
theorem mfault_zero {x : Ng} {ps : List Pt} (h : faultG x ps = 0) : formG x = true ∧ kindE x.kind ps = 0 ∧ zeroE x ps = false ∧ rangeE x = 0 := by
 unfold faultG at h
 split at h
 ·exact absurd h (by decide)
 ·rename_i h1
  split at h
  ·rename_i h2; exact absurd h h2
  ·rename_i h2
   split at h
   ·exact absurd h (by decide)
   ·rename_i h3
    exact ⟨by simpa using h1, by simpa using h2, by simpa using h3, h⟩
theorem over_ok {s : Sg} {x : Ng} {ps : List Pt} {qs : List Pm} (hb : s.b.length ≤ 65535) (hn : x.n ≤ 4294967295) (h : StM ps qs) (ha : arG x.kind = some ps.length) (hf : faultG x ps = 0) : PmOk (joinG x ps) (overM s x qs) := by
 have hl := h.len
 have hz := (mfault_zero hf).2.2.1
 have hfx : (joinG x ps).fixed = true → (∀ p ∈ ps, p.fixed = true) ∧ valG x ps = some (joinG x ps).val := mjoin_fixed
 have htr := joinG_truth x ps
 generalize joinG x ps = J at *
 have hno : (x.kind ≠ 1 ∧ x.kind ≠ 4 ∧ x.kind ≠ 5) → J.fixed = true → False := fun hk e => by
  have := (hfx e).2
  unfold valG at this
  rw [if_neg hk.1, if_neg hk.2.1, if_neg hk.2.2] at this
  cases this
 have htl : x.kind < 6 → J.truth = true → False := fun hk e => by
  rw [htr, truthG] at e
  have := of_decide_eq_true e
  omega
 rcases arG_cases ha with ⟨h1, hk⟩ | ⟨h1, hk⟩ | ⟨h1, hk⟩
 ·match ps, qs, h, h1, hl with
  | [p], [q], .cons h0 _, _, _ =>
   rcases hk with hk | hk | hk
   ·have e : overM s x [q] = loadM s x q := by simp [overM, hk]
    rw [e]
    have hL : Hw (loadM s x q).how ∧ (loadM s x q).val ≤ 4294967295 ∧ ((loadM s x q).how ≠ 1 → (loadM s x q).val = 0) := by
     unfold loadM
     split
     ·exact ⟨.inl rfl, by simp, fun _ => rfl⟩
     ·split
      ·exact ⟨h0.how, h0.val, h0.none⟩
      ·cases en : numM s.b ((baseM s.v x.of).1 + q.val) x.size with
       | none => exact ⟨.inr (.inr rfl), by simp, fun _ => rfl⟩
       | some k => exact ⟨.inr (.inl rfl), num_lt en, fun hh => absurd rfl hh⟩
    exact ⟨hL.1, hL.2.1, hL.2.2, fun ht => (htl (by omega) ht).elim, fun hh => (hno (by omega) hh).elim⟩
   ·have e : overM s x [q] = minusM q := by simp [overM, hk]
    rw [e]
    unfold minusM
    split
    ·rename_i hq
     refine ⟨h0.how, h0.val, h0.none, fun ht => (htl (by omega) ht).elim, fun hh => ?_⟩
     exact absurd (h0.fixed ((hfx hh).1 p (by simp))).1 hq
    ·rename_i hq
     refine ⟨.inr (.inl rfl), minusG_le _, fun hh => absurd rfl hh, fun ht => (htl (by omega) ht).elim, fun hh => ⟨rfl, ?_⟩⟩
     have h2 := (hfx hh).2
     have h3 := h0.fixed ((hfx hh).1 p (by simp))
     simp [valG, hk] at h2
     rw [← h2, h3.2]
   ·have e : overM s x [q] = ⟨notM q.how, 0⟩ := by simp [overM, hk]
    rw [e]
    exact ⟨hw_not h0.how, Nat.zero_le _, fun _ => rfl, fun _ => rfl, fun hh => (hno (by omega) hh).elim⟩
 ·match ps, qs, h, h1, hl with
  | [p, p'], [q, q'], .cons h0 (.cons h2 _), _, _ =>
   rcases hk with hk | hk | hk | hk
   ·have e : overM s x [q, q'] = arithM x.op q q' := by simp [overM, hk]
    rw [e]
    unfold arithM
    split
    ·rename_i hj
     refine ⟨hw_joint h2.how, Nat.zero_le _, fun _ => rfl, fun _ => rfl, fun hh => ?_⟩
     have a1 := h0.fixed ((hfx hh).1 p (by simp))
     have a2 := h2.fixed ((hfx hh).1 p' (by simp))
     exfalso
     apply hj
     simp [jointM, a1.1, a2.1]
    ·split
     ·rename_i hd
      refine ⟨.inr (.inr rfl), Nat.zero_le _, fun _ => rfl, fun _ => rfl, fun hh => ?_⟩
      have a2 := h2.fixed ((hfx hh).1 p' (by simp))
      exfalso
      have : zeroE x [p, p'] = true := by
       simp [zeroE, hk, hd.1, (hfx hh).1 p' (by simp)]
       rw [← a2.2]; exact hd.2
      rw [this] at hz
      cases hz
     ·refine ⟨.inr (.inl rfl), arithG_le h0.val h2.val, fun hh => absurd rfl hh, fun ht => (htl (by omega) ht).elim, fun hh => ⟨rfl, ?_⟩⟩
      have b2 := (hfx hh).2
      have a1 := h0.fixed ((hfx hh).1 p (by simp))
      have a2 := h2.fixed ((hfx hh).1 p' (by simp))
      simp [valG, hk] at b2
      rw [← b2, a1.2, a2.2]
   ·have e : overM s x [q, q'] = ⟨relM x.op q q', 0⟩ := by simp [overM, hk]
    rw [e]
    refine ⟨?_, Nat.zero_le _, fun _ => rfl, fun _ => rfl, fun hh => (hno (by omega) hh).elim⟩
    show Hw (relM x.op q q')
    unfold relM
    split
    ·exact hw_joint h2.how
    ·exact jdg_how _
   ·have e : overM s x [q, q'] = ⟨andM q.how q'.how, 0⟩ := by simp [overM, hk]
    rw [e]
    exact ⟨hw_and h0.how h2.how, Nat.zero_le _, fun _ => rfl, fun _ => rfl, fun hh => (hno (by omega) hh).elim⟩
   ·have e : overM s x [q, q'] = ⟨orM q.how q'.how, 0⟩ := by simp [overM, hk]
    rw [e]
    exact ⟨hw_or h0.how h2.how, Nat.zero_le _, fun _ => rfl, fun _ => rfl, fun hh => (hno (by omega) hh).elim⟩
 ·by_cases k1 : x.kind = 1
  ·have e : overM s x qs = ⟨1, x.n⟩ := by simp [overM, k1]
   rw [e]
   refine ⟨.inr (.inl rfl), hn, fun hh => absurd rfl hh, fun ht => (htl (by omega) ht).elim, fun hh => ⟨rfl, ?_⟩⟩
   have b2 := (hfx hh).2
   simp [valG, k1] at b2
   exact b2
  ·by_cases k2 : x.kind = 2
   ·have e : overM s x qs = ⟨1, s.b.length⟩ := by simp [overM, k2]
    rw [e]
    exact ⟨.inr (.inl rfl), Nat.le_trans hb (by omega), fun hh => absurd rfl hh, fun ht => (htl (by omega) ht).elim, fun hh => (hno (by omega) hh).elim⟩
   ·have hk' : 10 ≤ x.kind := by omega
    have e : overM s x qs = ⟨truthM s x, 0⟩ := by
     unfold overM
     rw [if_neg k1, if_neg k2, if_neg (by omega), if_neg (by omega), if_neg (by omega), if_neg (by omega), if_neg (by omega), if_neg (by omega), if_neg (by omega)]
    rw [e]
    exact ⟨hw_truth s x, Nat.zero_le _, fun _ => rfl, fun _ => rfl, fun hh => (hno (by omega) hh).elim⟩
theorem mstep_inv {x : Ng} {st st' : List Pt} (h : stepG x st = .ok st') : ∃ a, arG x.kind = some a ∧ a ≤ st.length ∧ faultG x (st.drop (st.length - a)) = 0 ∧ st' = st.take (st.length - a) ++ [joinG x (st.drop (st.length - a))] := by
 unfold stepG at h
 cases ha : arG x.kind with
 | none => rw [ha] at h; cases h
 | some a =>
  rw [ha] at h
  simp only at h
  split at h
  ·cases h
  ·split at h
   ·cases h
   ·cases h
    exact ⟨a, rfl, by omega, by omega, rfl⟩
theorem step_st {s : Sg} {x : Ng} {st st' : List Pt} {qs : List Pm} (hb : s.b.length ≤ 65535) (hn : x.n ≤ 4294967295) (h : stepG x st = .ok st') (hs : StM st qs) : StM st' (stpM s qs x) := by
 obtain ⟨a, ha, hl, hf, rfl⟩ := mstep_inv h
 have e := hs.len
 unfold stpM
 rw [ha, Option.getD_some, ← e]
 refine (hs.take _).append (.one (over_ok hb hn (hs.drop _) ?_ hf))
 rw [ha, List.length_drop]
 congr 1
 omega
theorem eval_st {s : Sg} (hb : s.b.length ≤ 65535) : ∀ (t : List Ng) (st st' : List Pt) (qs : List Pm) (k : Nat), (∀ x ∈ t, x.n ≤ 4294967295) → walkG st k t = .ok st' → StM st qs → StM st' (evalM s qs t)
 | [], st, st', qs, k, _, h, hs => by cases h; exact hs
 | x :: t, st, st', qs, k, hn, h, hs => by
  simp only [walkG] at h
  cases e : stepG x st with
  | error e' => rw [e] at h; cases h
  | ok s1 =>
   rw [e] at h
   exact eval_st hb t s1 st' _ (k + 1) (fun y hy => hn y (.tail _ hy)) h (step_st hb (hn x (.head _)) e hs)
theorem eval_app (s : Sg) (qs : List Pm) (t u : List Ng) : evalM s qs (t ++ u) = evalM s (evalM s qs t) u := by unfold evalM; rw [List.foldl_append]
theorem step_zero (st : List Pt) : stepG zeroN st = .ok (st ++ [⟨false, true, 0⟩]) := by
 have e : stepG zeroN [] = .ok [⟨false, true, 0⟩] := by rfl
 have := stepG_frame st e
 simpa using this
theorem step_eq (p : Pt) (st : List Pt) (h : p.truth = false) : stepG eqN (st ++ [p, ⟨false, true, 0⟩]) = .ok (st ++ [⟨true, false, 0⟩]) := by
 obtain ⟨pt, pf, pv⟩ := p
 cases h
 have e : stepG eqN [⟨false, pf, pv⟩, ⟨false, true, 0⟩] = .ok [⟨true, false, 0⟩] := by
  cases pf <;> rfl
 exact stepG_frame st e
theorem cmpd_iff {t : List Ng} : (checkG (cmpdM t)).2 = 0 ↔ ∃ p, walkG [] 0 t = .ok [p] ∧ p.truth = false ∧ weightG t ≤ 2991 := by
 have hw : weightG (cmpdM t) = weightG t + 9 := by simp [cmpdM, weightG, zeroN, eqN, weighG]
 rw [filt_iff, hw]
 have e : cmpdM t = (t ++ [zeroN]) ++ [eqN] := by simp [cmpdM]
 constructor
 ·rintro ⟨p, h1, -, h3⟩
  cases hq : walkG [] 0 t with
  | error x =>
   rw [cmpdM, walkG_app, hq] at h1
   cases h1
  | ok st =>
   have h4 := walkG_snoc zeroN hq
   rw [step_zero] at h4
   have h5 := walkG_snoc eqN h4
   rw [← e, h1] at h5
   cases hs : stepG eqN (st ++ [⟨false, true, 0⟩]) with
   | error er => rw [hs] at h5; cases h5
   | ok s1 =>
    rw [hs] at h5
    obtain ⟨a, ha, hl, hf, hq2⟩ := mstep_inv hs
    have : a = 2 := by simpa [arG, eqN] using ha.symm
    subst this
    have h6 : s1.length = 1 := by cases h5; rfl
    rw [hq2] at h6
    simp at h6 hl
    match st, hl, h6 with
    | [q], _, _ =>
     refine ⟨q, rfl, ?_, by omega⟩
     have hk := (mfault_zero hf).2.1
     simp [kindE, eqN, wantsG] at hk
     exact hk
 ·rintro ⟨p, h1, h2, h3⟩
  refine ⟨⟨true, false, 0⟩, ?_, rfl, by omega⟩
  have h4 := walkG_snoc zeroN h1
  rw [step_zero] at h4
  have h5 := walkG_snoc eqN h4
  have h6 := step_eq p [] h2
  simp only [List.nil_append] at h6
  rw [← e, show [p] ++ [(⟨false, true, 0⟩ : Pt)] = [p, ⟨false, true, 0⟩] from rfl, h6] at h5
  exact h5
theorem eval_one {s : Sg} (hb : s.b.length ≤ 65535) {t : List Ng} {p : Pt} (hn : ∀ x ∈ t, x.n ≤ 4294967295) (h : walkG [] 0 t = .ok [p]) : ∃ q, evalM s [] t = [q] ∧ PmOk p q := by
 have := eval_st hb t [] [p] [] 0 hn h .nil
 match hq : evalM s [] t, this with
 | [q], .cons h _ => exact ⟨q, rfl, h⟩
end Go.Proofs.YtcodofamdhcfiaaGreat
