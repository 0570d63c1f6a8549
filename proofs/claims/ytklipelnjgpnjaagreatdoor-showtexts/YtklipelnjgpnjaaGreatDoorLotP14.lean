import Derived.Test.YtklipelnjgpnjaaGreatDoorLotP13
import Derived.Deep.QuietTactic
import Derived.Test.YtklipelnjgpnjaaGreatDoorLotP2
import Derived.Test.YtklipelnjgpnjaaGreatDoorLotP8
import Derived.Test.YtklipelnjgpnjaaGreatDoorLotP5
import Derived.Deep.MidRow
namespace Go.Proofs.YtklipelnjgpnjaaGreatDoor
open Go.RowKit
set_option maxRecDepth 100000
def Pt.ok (p : Pt) : Prop := (p.fixed = false → p.val = 0) ∧ (p.truth = true → p.fixed = false)
def checkR (t : List Ng) : Value := .tuple #[.int .i64 ((checkG t).1 : Int), .int .i64 (checkG t).2]
set_option maxHeartbeats 2000000 in
theorem check12_any (ao : Option Addr) (cap : Nat) (t : List Ng) (w : World) (C : CV w ao (flatG t)) (hm : t.length * 72 ≤ 140737488355328) (hn : ∀ x ∈ t, x.n ≤ 4294967295) :
  Calls Tryz.prog 16 #[.slice ao t.length cap] w fun e w' => e = .returned (checkR t) ∧ w.grownBy w' none := by
 have HC : Hid (CV w ao (flatG t)) := C
 obtain ⟨E, hE⟩ : ∃ E, checkR t = E := ⟨_, rfl⟩
 rw [hE]
 have HE : Hid (checkR t = E) := hE
 have HNN : Hid (∀ x ∈ t, x.n ≤ 4294967295) := hn
 clear C hE hn
 go_enter Tryz.func16, Tryz.ntmps16
 go_wp2_with fail
 refine (rules_any _).mono ?_
 rintro e w1 ⟨R, rfl, T, K1⟩
 have CW := walk_any ao cap t R w1 T (HC.out.keptNone K1) hm HNN.out
 have HT : Hid (TabT R w1) := T
 have HK1 : Hid (w.grownBy w1 none) := K1
 clear T K1
 go_wp2_with fail
 refine CW.mono ?_
 rintro e w2 ⟨v, hR, O, K2⟩
 clear CW
 cases hwk : walkG [] 0 t with
 | error er =>
  obtain ⟨k, er⟩ := er
  rw [hwk] at hR
  simp only [walkR] at hR
  subst hR
  have h3 := walkG_er t [] 0 hwk
  have e1 : (er != 0) = true := by rw [bne_iff_ne]; omega
  have HF : Hid (E = .tuple #[.int .i64 (k : Int), .int .i64 er]) := by
   show E = _
   rw [← HE.out, checkR, checkG, hwk]
  have G := grown_trans HK1.out K2
  clear O hwk h3
  go_wp2
  go_ret2
  exact ⟨by rw [HF.out]; rfl, G⟩
 | ok st =>
  rw [hwk] at hR O
  simp only [walkR] at hR
  subst hR
  have HO : Hid (POwns w2 w1.heap.size v st) := O
  obtain ⟨aL, cL, rfl, CL, -⟩ := cv_of_row O
  have HG : Hid (w.grownBy w2 none) := grown_trans HK1.out K2
  have HCK : Hid (checkG t = if st.length ≠ 1 then (t.length, (120 : Int)) else if (st.getD 0 pt0).truth = false then (t.length - 1, 121) else match heavyG 0 0 t with | some k => (k, (126 : Int)) | none => (0, 0)) := by
   show _ = _
   rw [checkG, hwk]
   rfl
  have hlen := walkG_len t [] st 0 hwk
  simp only [walkL, List.length_nil, Nat.zero_add] at hlen CL ⊢
  by_cases h1 : st.length = 1
  ·match st, h1 with
   | [p], _ =>
    obtain ⟨b, o, rfl, hc⟩ := CL.pts ptC_len (k := 0) (by simp)
    have c0 := hc 0 (by simp) 0 (.int .i64 (if p.truth = true then 0 else 1)) rfl
    simp only [Nat.zero_mul, Nat.add_zero] at c0
    have hl1 : 1 ≤ t.length := by simpa using hlen
    rw [show [p].length = 1 from rfl]
    clear CL hc O hlen hwk HO
    cases hp : p.truth with
    | false =>
     rw [hp] at c0
     have HF : Hid (E = .tuple #[.int .i64 ((t.length - 1 : Nat) : Int), .int .i64 121]) := by
      show E = _
      rw [← HE.out, checkR, HCK.out]
      simp [hp]
     have q : ((t.length - 1 : Nat) : Int) = (t.length : Int) - 1 := by omega
     have w3 : IntKind.i64.wrap ((t.length : Int) - 1) = (t.length : Int) - 1 := by rw [IntKind.wrap_i64]; omega
     rw [q] at HF
     clear q HCK hp
     go_wp2
     go_ret2
     exact ⟨by rw [HF.out]; rfl, HG.out⟩
    | true =>
     rw [hp] at c0
     have HF : Hid (checkG t = match heavyG 0 0 t with | some k => (k, (126 : Int)) | none => (0, 0)) := by
      show _ = _
      rw [HCK.out]
      simp [hp]
     have CH := heavy_any ao cap t R w2 (HT.out.kept K2) (HC.out.keptNone HG.out) hm
     clear HCK hp
     go_wp2_with fail
     refine CH.mono ?_
     rintro e w3 ⟨rfl, K3⟩
     have G3 := grown_trans HG.out K3
     clear CH K3
     cases hh : heavyG 0 0 t with
     | none =>
      have HF2 : Hid (E = .tuple #[.int .i64 0, .int .i64 0]) := by
       show E = _
       rw [← HE.out, checkR, HF.out, hh]
       rfl
      simp only [heavyR]
      clear hh HF
      go_wp2
      go_ret2
      exact ⟨by rw [HF2.out]; rfl, G3⟩
     | some q =>
      have HF2 : Hid (E = .tuple #[.int .i64 (q : Int), .int .i64 126]) := by
       show E = _
       rw [← HE.out, checkR, HF.out, hh]
      simp only [heavyR]
      clear hh HF
      go_wp2
      go_ret2
      exact ⟨by rw [HF2.out]; rfl, G3⟩
  ·have e1 : ((st.length : Int) != 1) = true := by rw [bne_iff_ne]; omega
   have HF : Hid (E = .tuple #[.int .i64 (t.length : Int), .int .i64 120]) := by
    show E = _
    rw [← HE.out, checkR, HCK.out, if_pos h1]
   clear h1 CL O hwk HO HCK hlen
   go_wp2
   go_ret2
   exact ⟨by rw [HF.out]; rfl, HG.out⟩
def ZSpoilRel (w : World) (row : Option Nat) (g g' n n' : Nat) (wr : World) : Prop := BlkN wr 3 g n ∧ BlkN wr 3 g' n' ∧ w.grownBy wr row
theorem ZSpoilRel.set {w wr : World} {row : Option Nat} {g g' n n' : Nat} (h : ZSpoilRel w row g g' n n' wr) {p : Addr} (hp : row = some p.block ∨ w.heap.size ≤ p.block) (u : Value) : ZSpoilRel w row g g' n n' (wr.setCell p u) :=
 ⟨h.1.setCell _ _, h.2.1.setCell _ _, grown_setCell h.2.2 _ _ hp⟩
def sv (n : Nat) : Value := .int .i64 (n : Int)
abbrev TsOwns (w : World) (base : Nat) (v : Value) (ss : List Nat) : Prop := w.ownsRow base 3 1 v ss.length (ss.map sv)
def mkN : Ng := ⟨77, 0, 7, 0, 0, 0, 0, zeros 16, 0⟩
def mkA : Array Value := #[.int .i64 77, .int .i64 0, .int .u32 7, .int .u32 0, .int .i64 0, .int .i64 0, .int .i64 0, .int .u8 0, .int .u8 0, .int .u8 0, .int .u8 0, .int .u8 0, .int .u8 0, .int .u8 0, .int .u8 0, .int .u8 0, .int .u8 0, .int .u8 0, .int .u8 0, .int .u8 0, .int .u8 0, .int .u8 0, .int .u8 0, .int .i64 0]
theorem mkA_size : (Tryz.prog.info? 43).map (·.size) = some mkA.size := size43
theorem mkA_all : mkA.all (·.oneCell') = true := by simp [mkA, Value.oneCell']
theorem lit_mark1 (W : World) : (Instr.buildSlice 22 1 #[(0, .agg mkA)]).run Tryz.prog W = .ok (.slice (some ⟨W.heap.size, 0, none⟩) 1 1) (W.alloc (.cells (flatG [mkN]).toArray 43)) := by kernel_rfl
theorem lit_mark3 (W : World) : (Instr.buildSlice 22 3 #[(0, .agg mkA), (1, .agg mkA), (2, .agg mkA)]).run Tryz.prog W = .ok (.slice (some ⟨W.heap.size, 0, none⟩) 3 3) (W.alloc (.cells (flatG [mkN, mkN, mkN]).toArray 43)) := by kernel_rfl
theorem setCells_blk {w : World} {e : TypeId} {g n : Nat} (b : Nat) : ∀ (vs : List Value) (o : Nat) (w : World), BlkN w e g n → BlkN (w.setCells b o vs) e g n
 | [], _, _, h => h
 | v :: r, o, _, h => setCells_blk (w := w) b r (o + 1) _ (h.setCell _ v)
theorem setCells_grown {w : World} {row : Option Nat} (b : Nat) (hp : row = some b ∨ w.heap.size ≤ b) : ∀ (vs : List Value) (o : Nat) (W : World), w.grownBy W row → w.grownBy (W.setCells b o vs) row
 | [], _, _, h => h
 | v :: r, o, _, h => setCells_grown b hp r (o + 1) _ (grown_setCell h ⟨b, o, none⟩ v hp)
theorem BlkN.thereN {w : World} {e : TypeId} {g n : Nat} (h : BlkN w e g n) {o m : Nat} (hm : o + m ≤ n) : w.there g o m := fun j hj => by
 obtain ⟨u, hu⟩ := h.cell (i := o + j) (by omega)
 exact ⟨by rw [hu]; rfl, h.free _⟩
def GSpoilRel (w : World) (row : Option Nat) (g g' n n' : Nat) (wr : World) : Prop := BlkN wr 43 g n ∧ BlkN wr 43 g' n' ∧ w.grownBy wr row
theorem GSpoilRel.set {w wr : World} {row : Option Nat} {g g' n n' : Nat} (h : GSpoilRel w row g g' n n' wr) {b : Nat} (o : Nat) (vs : List Value) (hp : row = some b ∨ w.heap.size ≤ b) : GSpoilRel w row g g' n n' (wr.setCells b o vs) :=
 ⟨setCells_blk (w := w) b vs o wr h.1, setCells_blk (w := w) b vs o wr h.2.1, setCells_grown b hp vs o wr h.2.2⟩
set_option maxRecDepth 100000 in
set_option maxHeartbeats 2000000 in
theorem gspoil_any (g n cap : Nat) (w : World) (hb : BlkN w 43 g (cap * 24)) (hn : n ≤ cap) (hcm : cap ≤ maxLen) (hm : (n + 1) * 72 ≤ 140737488355328) :
  Calls Tryz.prog 26 #[.slice (some ⟨g, 0, none⟩) n cap] w fun e w' => e = .returned (.tuple #[]) ∧ w.grownBy w' (some g) := by
 obtain ⟨i0, hi, hz0, hz1, hz2⟩ := info_parts info43
 have H : Hid (BlkN w 43 g (cap * 24)) := hb
 have HLM := lit_mark1
 have HMS : Hid ((Tryz.prog.info? 43).map (·.size) = some mkA.size ∧ mkA.all (·.oneCell') = true) := ⟨mkA_size, mkA_all⟩
 have HMB : Hid (∀ W : World, (Instr.build 43 #[(0, .int .i64 77), (2, .int .u32 7)]).run Tryz.prog W = .ok (.agg mkA) W) := fun W => by kernel_rfl
 have HM24 : Hid (24 = mkA.size) := rfl
 obtain ⟨M, hM⟩ : ∃ M, mkA = M := ⟨_, rfl⟩
 rw [hM] at HMS HMB HM24
 rw [hM] at HLM
 clear hb hM
 go_enter Tryz.func26, Tryz.ntmps26
 go_wp2_with (first | refine wpList_bld rfl 43 _ rfl _ (by kernel_rfl) (.agg M) HMB.out ?_ | (refine wpList_lit (by rfl) 22 1 _ rfl _ (by kernel_rfl) (flatG [mkN]) 43 HLM ?_; intro V wl CL KL) | (at_builtin; refine wpList_append_blkN rfl (.tmp 5) (.tmp 7) 22 rfl 43 i0 _ 24 72 Tryz.underlying22 hi hz0 hz1 hz2 rfl (by decide) g n cap rfl (H.out.kept KL (by simp)) hn hcm ⟨V, 0, none⟩ 1 1 (flatG [mkN]) rfl rfl CL (flatG_one _) ?q3 ?q4 ?q5))
 case q3 => unfold maxLen; omega
 case q4 => omega
 case q5 =>
  intro g' cap' w1 hg' hb1 hb2 hc' hcm' hgr
  have R : GSpoilRel w (some g) g g' (cap * 24) (cap' * 24) w1 := ⟨hb1, hb2, grown_trans (grown_mono KL) hgr⟩
  have hp : some g = some g' ∨ w.heap.size ≤ g' := by
   rcases hg' with e | e
   ·exact .inl (by rw [e])
   ·right; have := KL.size; omega
  clear hg' hb1 hb2 hgr CL KL HLM
  unfold maxLen at hcm hcm'
  go_wp2
  go_loopw [3] (fun i wr => ∃ k : Nat, k ≤ n + 1 ∧ i = .int .i64 k ∧ GSpoilRel w (some g) g g' (cap * 24) (cap' * 24) wr) (fun i _ => n + 1 - (intOf i).toNat)
  case atStart => exact ⟨0, Nat.zero_le _, rfl, R⟩
  case round =>
   clear R
   obtain ⟨k, hk, rfl, R⟩ := hrel
   by_cases hlt : k < n + 1
   ·have HTH : Hid (wr.there g' (k * 24) M.size) := R.2.1.thereN (by rw [← HM24.out]; omega)
    have R' := R.set (k * 24) M.toList hp
    have hl : (k : Int) < (n : Int) + 1 := by omega
    have z0 : (0 : Int) ≤ (k : Int) := by omega
    clear R
    go_wp2_with (first | refine wpList_bld rfl 43 _ rfl _ (by kernel_rfl) (.agg M) HMB.out ?_ | refine wpList_store_mid rfl 43 (.tmp 18) (.tmp 17) rfl g' (k * 24) M (by simp [Act.eval]) rfl HTH.out HMS.out.1 HMS.out.2 ?_)
    go_roundw
    case rel => exact ⟨k + 1, by omega, by go_num, R'⟩
    case measure => simp [intOf]; omega
   ·go_wp2
    clear hk hlt
    go_loopw [4] (fun i wr => ∃ k : Nat, k ≤ n ∧ i = .int .i64 k ∧ GSpoilRel w (some g) g g' (cap * 24) (cap' * 24) wr) (fun i _ => n - (intOf i).toNat)
    case atStart => exact ⟨0, Nat.zero_le _, rfl, R⟩
    case round =>
     clear R
     obtain ⟨k, hk, rfl, R⟩ := hrel
     by_cases hlt : k < n
     ·have HTH : Hid (wr.there g (k * 24) M.size) := R.1.thereN (by rw [← HM24.out]; omega)
      have R' := R.set (b := g) (k * 24) M.toList (.inl rfl)
      have hl : (k : Int) < (n : Int) := by omega
      have z0 : (0 : Int) ≤ (k : Int) := by omega
      clear R
      go_wp2_with (first | refine wpList_bld rfl 43 _ rfl _ (by kernel_rfl) (.agg M) HMB.out ?_ | refine wpList_store_mid rfl 43 (.tmp 28) (.tmp 27) rfl g (k * 24) M (by simp [Act.eval]) rfl HTH.out HMS.out.1 HMS.out.2 ?_)
      go_roundw
      case rel => exact ⟨k + 1, by omega, by go_num, R'⟩
      case measure => simp [intOf]; omega
     ·go_wp2
      go_end0
      exact ⟨rfl, R.2.2⟩
def GLent (w : World) (base : Nat) (v : Value) (xs : List Ng) : Prop :=
 ∃ g cap, v = .slice (some ⟨g, 0, none⟩) xs.length cap ∧ xs.length + 3 ≤ cap ∧ cap ≤ maxLen ∧ base ≤ g ∧ g < w.heap.size ∧ w.ownsRow base 43 24 (.slice (some ⟨g, 0, none⟩) (xs.length + 3) cap) (xs.length + 3) (flatG (xs ++ [mkN, mkN, mkN]))
set_option maxRecDepth 100000 in
set_option maxHeartbeats 2000000 in
theorem glend_any (a : Option Addr) (ca : Nat) (xs : List Ng) (w : World) (ha : CV w a (flatG xs)) (hc0 : a = none → ca = 0) (hm : xs.length * 72 ≤ 140737488351232) :
  Calls Tryz.prog 10 #[.slice a xs.length ca] w fun e w' => ∃ v, e = .returned v ∧ GLent w' w.heap.size v xs ∧ w.grownBy w' none := by
 obtain ⟨i0, hi, hz0, hz1, hz2⟩ := info_parts info43
 have HLM := lit_mark3
 go_enter Tryz.func10, Tryz.ntmps10
 go_wp2_with fail
 refine (gcopy_any a ca xs _ ha hc0 (by omega)).mono ?_
 rintro e w1 ⟨v, rfl, h1, h2⟩
 clear ha
 go_wp2_with (first | (refine wpList_lit (by rfl) 22 3 _ rfl _ (by kernel_rfl) (flatG [mkN, mkN, mkN]) 43 HLM ?_; intro V wl CL KL) | (at_builtin; refine wpList_append_cv rfl (.tmp 5) (.tmp 9) 22 rfl 43 i0 _ 24 72 Tryz.underlying22 hi hz0 hz1 hz2 rfl (by decide) w.heap.size _ xs.length (flatG xs) rfl (owns_keptNone h1 KL) (some ⟨V, 0, none⟩) 3 3 (flatG [mkN, mkN, mkN]) rfl rfl (by simp) CL (flatG_one _) ?q3 ?q4 ?q5 ?q6))
 case q3 => unfold maxLen; omega
 case q4 => omega
 case q5 => have := h2.size; have := KL.size; omega
 case q6 =>
  intro v' w' h3 h4
  have G : w.grownBy w' none := grown_trans_new h2 (grown_trans (grown_mono KL) h4) (fun x hx => (h1.lt x hx).1)
  rw [← flatG_append] at h3
  obtain ⟨g, cap, hv, hc, hcm, hg1, hg2⟩ := owns_head h3 (by omega)
  subst hv
  have R : GLent w' w.heap.size (.slice (some ⟨g, 0, none⟩) xs.length cap) xs := ⟨g, cap, rfl, hc, hcm, hg1, hg2, h3⟩
  clear h4 h3 h2 h1 CL KL HLM
  unfold maxLen at hcm
  have hx : (xs.length : Int) ≤ (cap : Int) := by omega
  go_wp2
  go_ret
  exact ⟨_, rfl, R, G⟩
theorem gcv_front {w : World} {base g cap n : Nat} {xs ys : List Ng} (h : w.ownsRow base 43 24 (.slice (some ⟨g, 0, none⟩) n cap) n (flatG (xs ++ ys))) : CV w (some ⟨g, 0, none⟩) (flatG xs) ∧ CV w (some ⟨g, xs.length * 24, none⟩) (flatG ys) := by
 have hl := flatG_len xs
 refine ⟨⟨fun h => (by cases h), fun ad had i hi => ?_⟩, ⟨fun h => (by cases h), fun ad had i hi => ?_⟩⟩
 ·obtain rfl := Option.some.inj had
  refine h.cells (g := g) rfl i _ ?_
  rw [flatG_append, List.getElem?_append_left hi]
  simp [hi]
 ·obtain rfl := Option.some.inj had
  have := h.cells (g := g) rfl ((flatG xs).length + i) ((flatG ys)[i]) (by rw [flatG_append, List.getElem?_append_right (by omega)]; simp [hi])
  rw [Addr.add_lit, Nat.zero_add, hl] at this
  rw [Addr.add_lit]
  exact this
set_option maxRecDepth 100000 in
set_option maxHeartbeats 2000000 in
theorem gkept_any (g cap : Nat) (ao : Option Addr) (ca : Nat) (xs : List Ng) (w : World) (hL : w.ownsRow 0 43 24 (.slice (some ⟨g, 0, none⟩) (xs.length + 3) cap) (xs.length + 3) (flatG (xs ++ [mkN, mkN, mkN])))
  (ha : CV w ao (flatG xs)) (hm : xs.length * 72 ≤ 140737488351232) :
  Calls Tryz.prog 12 #[.slice (some ⟨g, 0, none⟩) xs.length cap, .slice ao xs.length ca] w fun e w' => e = .returned (.bool true) ∧ w.grownBy w' (some g) := by
 obtain ⟨hB, hc, hcm⟩ := BlkN.ofRow hL
 obtain ⟨c1, c2⟩ := gcv_front hL
 clear hL
 have HB : Hid (BlkN w 43 g (cap * 24)) := hB
 have HC : Hid (CV w (some ⟨g, xs.length * 24, none⟩) (flatG [mkN, mkN, mkN])) := c2
 have HLM := lit_mark3
 clear hB c2
 have hcm0 := hcm
 unfold maxLen at hcm
 have hx : (xs.length : Int) + 3 ≤ (cap : Int) := by omega
 go_enter Tryz.func12, Tryz.ntmps12
 go_wp2_with fail
 refine (gsame_any _ ao _ ca xs _ c1 ha (by omega)).mono ?_
 rintro e w1 ⟨rfl, n1, rfl⟩
 clear c1 ha
 have G0 := grown_drewN w n1 none
 have HC0 : Hid (CV (w.drewN n1) (some ⟨g, xs.length * 24, none⟩) (flatG [mkN, mkN, mkN])) := HC.out.keptNone G0
 have HB0 : Hid (BlkN (w.drewN n1) 43 g (cap * 24)) := HB.out.kept G0 (by simp)
 generalize w.drewN n1 = w1 at *
 clear HC HB
 have hn3 : ¬ cap = xs.length := by omega
 have hn4 : ¬ (xs.length : Int) + 3 < (xs.length : Int) := by omega
 go_wp2_with (refine wpList_lit (by rfl) 22 3 _ rfl _ (by kernel_rfl) (flatG [mkN, mkN, mkN]) 43 HLM ?_; intro V wl CL KL)
 have G1 := grown_trans G0 KL
 have C1 := HC0.out.keptNone KL
 have B1 := HB0.out.kept KL (by simp)
 refine (gsame_any _ _ _ _ [mkN, mkN, mkN] _ C1 CL (by simp)).mono ?_
 rintro e w3 ⟨rfl, n2, rfl⟩
 have G2 : w.grownBy (wl.drewN n2) none := grown_trans G1 (grown_drewN _ _ _)
 have B2 : BlkN (wl.drewN n2) 43 g (cap * 24) := B1.kept (grown_drewN _ _ none) (by simp)
 clear G1 B1 C1 CL KL HLM
 generalize wl.drewN n2 = w3 at *
 go_wp2_with fail
 refine (gspoil_any g (xs.length + 3) cap _ B2 hc hcm0 (by omega)).mono ?_
 rintro e w4 ⟨rfl, G3⟩
 have G4 : w.grownBy w4 (some g) := grown_trans (grown_mono G2) G3
 clear G3 G2 B2
 go_wp2
 go_ret
 exact ⟨rfl, G4⟩
def piecesG (t : List Ng) (ss : List Nat) (last : Nat) : List (List Ng) := List.zipWith (fun a b => (t.take b).drop a) ss (ss.tail ++ [last])
def partsG (t : List Ng) : Option (List (List Ng)) :=
 match t.getLast? with
 | none => none
 | some x => match arG x.kind with
  | none => none
  | some a => match startsG [] 0 (t.take (t.length - 1)) with
   | none => none
   | some ss => if ss.length = a then some (piecesG t ss (t.length - 1)) else none
def tynilV : Value := .slice none 0 0
theorem checkG_er {t : List Ng} {x : Nat × Int} (h : walkG [] 0 t = .error x) : checkG t = x := by rw [checkG, h]
theorem stepG_frame {x : Ng} {st s : List Pt} (st0 : List Pt) (h : stepG x st = .ok s) : stepG x (st0 ++ st) = .ok (st0 ++ s) := by
 unfold stepG at h ⊢
 split at h
 ·cases h
 ·rename_i a ha
  split at h
  ·cases h
  ·rename_i hl
   have hd : (st0 ++ st).drop ((st0 ++ st).length - a) = st.drop (st.length - a) := by
    rw [List.length_append, show st0.length + st.length - a = st0.length + (st.length - a) by omega, List.drop_append, List.drop_eq_nil_of_le (by omega), List.nil_append, Nat.add_sub_cancel_left]
   have ht : (st0 ++ st).take ((st0 ++ st).length - a) = st0 ++ st.take (st.length - a) := by
    rw [List.length_append, show st0.length + st.length - a = st0.length + (st.length - a) by omega, List.take_append, List.take_of_length_le (by omega), Nat.add_sub_cancel_left]
   split at h
   ·cases h
   ·rename_i hf
    cases h
    rw [if_neg (by rw [List.length_append]; omega), hd, if_neg hf, ht, List.append_assoc]
theorem walkG_frame : ∀ (l : List Ng) (st s st0 : List Pt) (k k' : Nat), walkG st k l = .ok s → walkG (st0 ++ st) k' l = .ok (st0 ++ s)
 | [], st, s, st0, k, k', h => by cases h; rfl
 | x :: l, st, s, st0, k, k', h => by
  simp only [walkG] at h ⊢
  cases hs : stepG x st with
  | error e => rw [hs] at h; cases h
  | ok s1 =>
   rw [hs] at h
   rw [stepG_frame st0 hs]
   exact walkG_frame l s1 s st0 (k + 1) (k' + 1) h
theorem heavy_none : ∀ (l : List Ng) (w k : Nat), heavyG w k l = none ↔ (l = [] ∨ w + weightG l ≤ 3000)
 | [], w, k => by simp [heavyG]
 | x :: l, w, k => by
  have e : weightG (x :: l) = weighG x + weightG l := by simp [weightG]
  simp only [heavyG]
  by_cases h : 3000 < w + weighG x
  ·rw [if_pos h]
   constructor
   ·intro h2; cases h2
   ·intro h2; rcases h2 with h2 | h2
    ·cases h2
    ·omega
  ·rw [if_neg h, heavy_none l (w + weighG x) (k + 1)]
   constructor
   ·rintro (rfl | h2)
    ·right; rw [e]; simp [weightG]; omega
    ·right; omega
   ·rintro (h2 | h2)
    ·cases h2
    ·right; omega
theorem filt_iff {t : List Ng} : (checkG t).2 = 0 ↔ ∃ p, walkG [] 0 t = .ok [p] ∧ p.truth = true ∧ weightG t ≤ 3000 := by
 constructor
 ·intro h
  cases hw : walkG [] 0 t with
  | error x =>
   obtain ⟨k, e⟩ := x
   rw [checkG_er hw] at h
   have := walkG_er t [] 0 hw
   simp only at h
   omega
  | ok st =>
   rw [checkG, hw] at h
   simp only at h
   split at h
   ·cases h
   ·rename_i hl
    split at h
    ·cases h
    ·rename_i ht
     match st, hl with
     | [p], _ =>
      refine ⟨p, rfl, by simpa using ht, ?_⟩
      cases hh : heavyG 0 0 t with
      | some q => rw [hh] at h; cases h
      | none =>
       rcases (heavy_none t 0 0).1 hh with rfl | h2
       ·simp [weightG]
       ·omega
     | [], hl => exact absurd (by simp) hl
     | _ :: _ :: _, hl => exact absurd (by simp) hl
 ·rintro ⟨p, hw, hp, hwt⟩
  rw [checkG, hw]
  simp only [List.length_singleton, ne_eq, not_true_eq_false, if_false, List.getD_cons_zero, hp]
  rw [(heavy_none t 0 0).2 (.inr (by omega))]
  rfl
theorem weighG_pos {x : Ng} (h : 1 ≤ x.kind ∧ x.kind ≤ 16) : 1 ≤ weighG x := by
 obtain ⟨k, hk⟩ : ∃ k : Nat, x.kind = k := Int.eq_ofNat_of_zero_le (by omega)
 unfold weighG
 rw [hk]
 rcases sixteen (k := k) (by omega) (by omega) with rfl | rfl | rfl | rfl | rfl | rfl | rfl | rfl | rfl | rfl | rfl | rfl | rfl | rfl | rfl | rfl
 all_goals first
  | exact Nat.le_refl 1
  | (show 1 ≤ (_ : Nat); simp; done)
  | (simp; split <;> omega)
theorem walkG_weighs : ∀ (l : List Ng) (st s : List Pt) (k : Nat), walkG st k l = .ok s → l.length ≤ weightG l
 | [], _, _, _, _ => Nat.le_refl _
 | x :: l, st, s, k, h => by
  simp only [walkG] at h
  cases hs : stepG x st with
  | error e => rw [hs] at h; cases h
  | ok s1 =>
   rw [hs] at h
   have := walkG_weighs l s1 s (k + 1) h
   have hx : 1 ≤ weighG x := by
    unfold stepG at hs
    split at hs
    ·cases hs
    ·rename_i a ha
     exact weighG_pos (arG_in ha)
   have e : weightG (x :: l) = weighG x + weightG l := by simp [weightG]
   rw [List.length_cons]
   omega
theorem filt_len {t : List Ng} (h : (checkG t).2 = 0) : t.length ≤ 3000 := by
 obtain ⟨p, hw, -, hwt⟩ := filt_iff.1 h
 have := walkG_weighs t [] _ 0 hw
 omega
theorem walkG_snoc {t : List Ng} {st : List Pt} (x : Ng) (h : walkG [] 0 t = .ok st) : walkG [] 0 (t ++ [x]) = match stepG x st with | .error e => .error (t.length, e) | .ok s => .ok s := by
 rw [walkG_app, h]
 simp only [walkG, Nat.zero_add]
 cases stepG x st <;> rfl

end Go.Proofs.YtklipelnjgpnjaaGreatDoor
