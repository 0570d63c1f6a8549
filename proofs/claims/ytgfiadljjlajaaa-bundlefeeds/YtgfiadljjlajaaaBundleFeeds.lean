/-
  For every link, every uint32 and every list of lists of bytes (of such room as the form itself says of each argument) riddlelaw9.BundleFeeds returns true and leaves what was there as it was: no condition of ours.
-/
import Derived.Test.YtgfiadljjlajaaaBundleY
import Derived.Test.YtgfiadljjlajaaaAwake9
import Derived.Test.YtgfiadljjlajaaaSpoil
import Derived.Test.YtgfiadljjlajaaaOpen
import Derived.Test.YtgfiadljjlajaaaOpenL
import Derived.Test.YtgfiadljjlajaaaOpenLL
import Derived.BigQuiet
namespace Go.Proofs.Ytgfiadljjlajaaa
open Go.ChangeShapes Go.WideShapes Go.ChangeAt Go.RowKit
open Go.ChangeMaps (open_string shut_string)
set_option maxRecDepth 100000
namespace bundleFeeds

theorem fed_out (sp : Nat) (u : Bs) (sq : Nat) (be fi : Bool) (c : List UInt8) : (fedV sp u sq be fi c).2.1.length ≤ 65535 := by
  have h : (be = true ∨ (sq = u.nxt ∧ u.opn = true)) → (if be = true then c else u.has ++ c) = (if be = true then c else if (sq = u.nxt ∧ u.opn = true) then u.has ++ c else if sq = u.nxt then u.has else []) := fun q => by
    by_cases hb : be = true
    · rw [if_pos hb, if_pos hb]
    · rw [if_neg hb, if_neg hb, if_pos (q.resolve_left hb)]
  unfold fedV
  generalize (if be = true then c else if (sq = u.nxt ∧ u.opn = true) then u.has ++ c else if sq = u.nxt then u.has else []) = h2 at *
  by_cases h1 : 65535 < h2.length
  · rw [if_pos h1]; simp
  · rw [if_neg h1]
    by_cases h3 : (be = true ∨ (sq = u.nxt ∧ u.opn = true)) ∧ fi = true
    · rw [if_pos h3, h h3.1]
      show h2.length ≤ 65535
      omega
    · rw [if_neg h3]; simp
theorem feed_out (l : Lk) (u : Bs) (b : List UInt8) : (exV (u, [], false) (feedX l u b)).2.1.length ≤ 65535 := by
  unfold feedX
  rcases except_cases (pieceV l b) with ⟨er, he⟩ | ⟨pv, he⟩
  · rw [bind_err he]; simp [exV]
  · rw [bind_of he]
    split
    · exact fed_out ..
    · simp [exV]

theorem same_own {W : World} {b1 b2 c1 c2 : Nat} {a1 a2 : Option Addr} {xs : List UInt8} (h1 : Owns W b1 (.slice a1 xs.length c1) xs) (h2 : Owns W b2 (.slice a2 xs.length c2) xs) (hm : xs.length ≤ 9223372036854775807) :
    Calls Try.prog 16 #[.slice a1 xs.length c1, .slice a2 xs.length c2] W fun e w' => e = .returned (.bool true) ∧ ∃ n, w' = W.drewN n := by
  obtain ⟨x1, y1, e1, C1, -⟩ := h1.rd
  obtain ⟨x2, y2, e2, C2, -⟩ := h2.rd
  simp only [Value.slice.injEq, true_and] at e1 e2
  obtain ⟨rfl, rfl⟩ := e1
  obtain ⟨rfl, rfl⟩ := e2
  exact same_any a1 a2 c1 c2 xs W C1 C2 hm
theorem CV.parts9 {w : World} {a : Option Addr} {qs : List Part} (h : CV w a (qs.map Part.v)) {i : Nat} (hi : i < qs.length) : ∃ bb o, a = some ⟨bb, o, none⟩ ∧ w.cell? ⟨bb, o + i, none⟩ = some (.slice qs[i].ao qs[i].bs.length qs[i].cap) := by
  obtain ⟨bb, o, e, hc⟩ := CV.parts h hi
  exact ⟨bb, o, e, hc i hi⟩

set_option maxRecDepth 100000 in
set_option maxHeartbeats 8000000 in
theorem walk (l : Lk) (f : Nat) (a : Option Addr) (ca : Nat) (qs : List Part) (w : World) (_hf : f ≤ 4294967295) (ha : CV w a (qs.map Part.v)) (_hc0 : a = none → ca = 0) (hq : ∀ p ∈ qs, p.ok w ∧ p.bs.length ≤ p.cap) (hn : qs.length * 24 ≤ 140737488351232) (hp : ∀ p ∈ qs, p.bs.length ≤ 140737488351232) :
    Calls Try.prog 4 #[.agg (lkA l), .int .u32 (f : Int), .slice a qs.length ca] w fun e w' => e = .returned (.bool true) ∧ w.grownBy w' none := by
  have H : Hid (CV w a (qs.map Part.v)) := ha
  have HQ : Hid (∀ p ∈ qs, p.ok w ∧ p.bs.length ≤ p.cap) := hq
  have HP : Hid (∀ p ∈ qs, p.bs.length ≤ 140737488351232) := hp
  have HLS : Hid ((Try.prog.info? 23).map (·.size) = some (lkA l).size) := size23
  have LK := VAt.alloc w 23 (lkA l)
  have GL := World.grownBy_alloc w (.cells (lkA l) 23) none
  have RN := refnew_any l f (w.alloc (.cells (lkA l) 23))
  unfold newA at RN
  clear ha hq hp
  rcases except_cases (newX l f) with ⟨er, he⟩ | ⟨u0, he⟩
  · have hz := (new_er he).1
    have HNE : Hid (∀ W : World, Calls Try.prog 19 #[.agg (lkA l), .int .u32 (f : Int)] W fun e w' => e = .returned (.tuple #[.pointer none, .int .i64 er]) ∧ W.grownBy w' none) := fun W => new_err l f er W he
    rw [he] at RN
    simp only [exE, rbA] at RN
    have hee : (er != er) = false := by simp
    clear he
    go_enter Try.func4, Try.ntmps4
    go_upto_region 1 with fail
    generalize w.alloc (.cells (lkA l) 23) = w1 at *
    obtain ⟨L, hL⟩ : ∃ L, w.heap.size = L := ⟨_, rfl⟩
    rw [hL] at LK ⊢
    clear hL
    go_wp2_with (refine wpList_load_row rfl 23 (.tmp 3) rfl L rfl 23 (lkA l) (0, 0) _ LK Try.underlying23 rfl HLS.out ?_)
    refine RN.mono ?_
    rintro e w2 ⟨rfl, K2⟩
    clear RN
    go_upto_region 2 with fail
    have K3 := grown_trans K2 (World.grownBy_alloc w2 (.cells #[.bool false, .bool false, .int .i64 0, .int .u32 0, .bool false, .slice none 0 0] 37) none)
    have LK3 := LK.kept K3
    have G3 := grown_trans GL K3
    generalize w2.alloc (.cells #[.bool false, .bool false, .int .i64 0, .int .u32 0, .bool false, .slice none 0 0] 37) = w3 at *
    clear LK GL K2 K3
    go_wp2_with (refine wpList_load_row rfl 23 (.tmp 3) rfl L rfl 23 (lkA l) (0, 0) _ LK3 Try.underlying23 rfl HLS.out ?_)
    refine (HNE.out _).mono ?_
    rintro e w4 ⟨rfl, K4⟩
    have LK4 := LK3.kept K4
    have G4 := grown_trans G3 K4
    clear LK3 G3 K4
    go_wp2_with (refine wpList_load_row rfl 23 (.tmp 3) rfl L rfl 23 (lkA l) (0, 0) _ LK4 Try.underlying23 rfl HLS.out ?_)
    refine (HNE.out _).mono ?_
    rintro e w5 ⟨rfl, K5⟩
    have G5 := grown_trans G4 K5
    clear LK4 G4 K5 HNE
    go_wp2_with fail
    refine (awake9_any _).mono ?_
    rintro e w6 ⟨rfl, K6⟩
    go_wp2
    go_ret
    exact ⟨rfl, grown_trans G5 K6⟩
  · obtain ⟨hu0, -, -, -⟩ := new_is he
    have HNE : Hid (∀ W : World, Calls Try.prog 19 #[.agg (lkA l), .int .u32 (f : Int)] W fun e w' => ∃ p S, e = .returned (.tuple #[p, .int .i64 0]) ∧ BAt w' W.heap.size p l u0 S ∧ W.grownBy w' none) := fun W => new_ok l f u0 W he
    rw [he] at RN
    simp only [exE, rbA] at RN
    rw [hu0] at RN
    simp only at RN
    clear he
    go_enter Try.func4, Try.ntmps4
    go_upto_region 1 with fail
    generalize w.alloc (.cells (lkA l) 23) = w1 at *
    obtain ⟨L, hL⟩ : ∃ L, w.heap.size = L := ⟨_, rfl⟩
    have HLw : Hid (w.heap.size = L) := hL
    rw [hL] at LK ⊢
    clear hL
    go_wp2_with (refine wpList_load_row rfl 23 (.tmp 3) rfl L rfl 23 (lkA l) (0, 0) _ LK Try.underlying23 rfl HLS.out ?_)
    refine RN.mono ?_
    rintro e w2 ⟨rfl, K2⟩
    clear RN
    go_upto_region 2 with fail
    have AW := VAt.alloc w2 37 #[.bool l.acfc, .bool l.pfc, .int .i64 l.mp, .int .u32 (f : Int), .bool false, .slice none 0 0]
    have K3 := grown_trans K2 (World.grownBy_alloc w2 (.cells #[.bool l.acfc, .bool l.pfc, .int .i64 l.mp, .int .u32 (f : Int), .bool false, .slice none 0 0] 37) none)
    have LK3 := LK.kept K3
    have G3 := grown_trans GL K3
    have HGW : Hid (w.heap.size ≤ w2.heap.size) := (grown_trans GL K2).size
    generalize w2.alloc (.cells #[.bool l.acfc, .bool l.pfc, .int .i64 l.mp, .int .u32 (f : Int), .bool false, .slice none 0 0] 37) = w3 at *
    generalize w2.heap.size = gw at *
    clear LK GL K2 K3
    go_wp2_with (refine wpList_load_row rfl 23 (.tmp 3) rfl L rfl 23 (lkA l) (0, 0) _ LK3 Try.underlying23 rfl HLS.out ?_)
    refine (HNE.out _).mono ?_
    rintro e w4 ⟨pu, C, rfl, BU, K4⟩
    have LK4 := LK3.kept K4
    have G4 := grown_trans G3 K4
    have AW4 := AW.kept K4
    have HS3 : Hid (gw < w3.heap.size ∧ w.heap.size ≤ w3.heap.size) := ⟨AW.lt, G3.size⟩
    obtain ⟨adu, rfl⟩ := BU.lt.2
    clear LK3 G3 K4 AW
    go_wp2_with (refine wpList_load_row rfl 23 (.tmp 3) rfl L rfl 23 (lkA l) (0, 0) _ LK4 Try.underlying23 rfl HLS.out ?_)
    refine (HNE.out _).mono ?_
    rintro e w5 ⟨po, D, rfl, BO, K5⟩
    have G5 := grown_trans G4 K5
    have AW5 := AW4.kept K5
    have BU5 := BU.kept (S' := fun _ => False) (GB.non K5) (fun _ _ h => h)
    have HS4 : Hid (∀ x, C x → x < w4.heap.size) := fun x hx => (BU.lt.1 x hx).2
    have HS34 : Hid (gw < w4.heap.size ∧ w.heap.size ≤ w4.heap.size) := ⟨AW4.lt, G4.size⟩
    obtain ⟨ado, rfl⟩ := BO.lt.2
    clear LK4 G4 K5 HNE BU AW4
    have HB6 : Hid ((Try.prog.info? 37).map (·.size) = some (#[.bool l.acfc, .bool l.pfc, .int .i64 l.mp, .int .u32 (f : Int), .bool false, .slice none 0 0] : Array Value).size) := sizeB
    go_upto_region 8 with fail
    go_upto_region 9 with (refine wpList_load_row rfl 37 (.tmp 7) rfl gw rfl 37 _ (0, 0) _ AW5 Try.underlying37 rfl HB6.out ?_)
    have AO := VAt.alloc w5 37 #[.bool l.acfc, .bool l.pfc, .int .i64 l.mp, .int .u32 (f : Int), .bool false, .slice none 0 0]
    have K6 := World.grownBy_alloc w5 (.cells #[.bool l.acfc, .bool l.pfc, .int .i64 l.mp, .int .u32 (f : Int), .bool false, .slice none 0 0] 37) none
    have Q0 : Q4 w gw w5.heap.size (.pointer (some adu)) (.pointer (some ado)) l u0 u0 u0 u0 (fun x => x = gw ∨ (Value.slice none 0 0).ownBlock = some x) (fun x => x = w5.heap.size ∨ (Value.slice none 0 0).ownBlock = some x) C D (w5.alloc (.cells #[.bool l.acfc, .bool l.pfc, .int .i64 l.mp, .int .u32 (f : Int), .bool false, .slice none 0 0] 37)) := by
      subst hu0
      have nil : ∀ {P : Prop} {x : Nat}, (Value.slice none 0 0).ownBlock = some x → P := fun e => by cases e
      have BO6 := BO.kept (S' := fun _ => False) (GB.non K6) (fun _ _ h => h)
      refine ⟨⟨.slice none 0 0, HGW.out, ⟨AW5.kept K6, World.ownsRow_nil _ _ _ _⟩, Nat.zero_le _, fun _ => Iff.rfl⟩, ⟨.slice none 0 0, G5.size, ⟨AO, World.ownsRow_nil _ _ _ _⟩, Nat.zero_le _, fun _ => Iff.rfl⟩, ?_, ?_, ?_, ?_, ?_, ?_, ?_, ?_, grown_trans G5 K6⟩
      · obtain ⟨g, v, h1, h2, ⟨h3, h4⟩, h5⟩ := BU5.kept (S' := fun _ => False) (GB.non K6) (fun _ _ h => h)
        exact ⟨g, v, h1, Nat.le_trans HS3.out.2 h2, ⟨h3, owns_mono h4 HS3.out.2⟩, h5⟩
      · obtain ⟨g, v, h1, h2, ⟨h3, h4⟩, h5⟩ := BO6
        exact ⟨g, v, h1, Nat.le_trans HS34.out.2 h2, ⟨h3, owns_mono h4 HS34.out.2⟩, h5⟩
      · rintro x (rfl | e) h
        · rcases h with h | e
          · have := AW5.lt; omega
          · exact nil e
        · exact nil e
      · rintro x (rfl | e) h
        · have := (BU5.lt.1 _ h).1; have := HS3.out.1; omega
        · exact nil e
      · rintro x (rfl | e) h
        · have := (BO.lt.1 _ h).1; have := HS34.out.1; omega
        · exact nil e
      · rintro x (rfl | e) h
        · have := (BU5.lt.1 _ h).2; omega
        · exact nil e
      · rintro x (rfl | e) h
        · have := (BO.lt.1 _ h).2; omega
        · exact nil e
      · intro x h1 h2
        have := HS4.out x h1
        have := (BO.lt.1 x h2).1
        omega
    generalize w5.alloc (.cells #[.bool l.acfc, .bool l.pfc, .int .i64 l.mp, .int .u32 (f : Int), .bool false, .slice none 0 0] 37) = w6 at *
    generalize w5.heap.size = go at *
    clear AW5 AO K6 BU5 BO G5 HS3 HS34 HS4 HGW HB6
    go_upto_region 10 with fail
    go_loopw [14] (fun x wr => ∃ (i : Nat) (u uo : Bs) (A B C D : Nat → Prop), i ≤ qs.length ∧ x = .int .i64 i ∧ Hid (Q4 w gw go (.pointer (some adu)) (.pointer (some ado)) l u uo u uo A B C D wr)) (fun x _ => qs.length - (intOf x).toNat)
    case atStart => exact ⟨0, u0, u0, _, _, _, _, Nat.zero_le _, rfl, Q0⟩
    case round =>
      clear Q0
      obtain ⟨i, u, uo, A, B, C, D, hi', rfl, HI⟩ := hrel
      by_cases hlt : i < qs.length
      · obtain ⟨bb, o, rfl, ci0⟩ := CV.parts9 H.out hlt
        obtain ⟨pp, hpp⟩ : ∃ pp, qs[i] = pp := ⟨_, rfl⟩
        have hmem : pp ∈ qs := by rw [← hpp]; exact List.getElem_mem hlt
        obtain ⟨hok, hcap⟩ := HQ.out pp hmem
        have hbl := HP.out pp hmem
        rw [hpp] at ci0
        have HCI : Hid (w.cell? ⟨bb, o + i, none⟩ = some (.slice pp.ao pp.bs.length pp.cap)) := ci0
        have HOK0 : Hid (pp.ok w) := hok
        have HUN : Hid (∀ ad, pp.ao = some ad → pp.bs ≠ [] → ad.block < w.heap.size) := hok.1.under
        obtain ⟨pa, pc, bs⟩ := pp
        simp only at *
        have hli : (i : Int) < (qs.length : Int) := by omega
        have hi0 : (0 : Int) ≤ (i : Int) := by omega
        have ci : wr.cell? ⟨bb, o + i, none⟩ = some (.slice pa bs.length pc) := HI.out.up.cell HCI.out (by simp)
        have FA := HI.out.feedA pa pc bs (HOK0.out.1.keptNone HI.out.up) HOK0.out.2 hcap (by omega) HUN.out
        have hro := feed_out l u bs
        have HWW : Hid (w.heap.size ≤ wr.heap.size) := HI.out.up.size
        clear ci0 hpp hok hmem
        go_wp2_with fail
        refine FA.mono ?_
        rintro e w7 ⟨x1, A1, rfl, O1, Q1, D1⟩
        clear FA HI ci
        obtain ⟨ab, cb, rfl, -, -⟩ := O1.shape
        clear HWW
        have HWW : Hid (w.heap.size ≤ w7.heap.size) := Q1.up.size
        have ci : w7.cell? ⟨bb, o + i, none⟩ = some (.slice pa bs.length pc) := Q1.up.cell HCI.out (by simp)
        have CLN := lend_any pa pc bs w7 (HOK0.out.1.keptNone Q1.up) HOK0.out.2 hbl
        have HO1 : Hid (Owns w7 w.heap.size (.slice ab (exV (u, [], false) (feedX l u bs)).2.1.length cb) (exV (u, [], false) (feedX l u bs)).2.1) := O1
        have HQ1 : Hid (Q4 w gw go (.pointer (some adu)) (.pointer (some ado)) l (exV (u, [], false) (feedX l u bs)).1 uo u uo A1 B C D w7) := Q1
        have HD1 : Hid (∀ y, (Value.slice ab (exV (u, [], false) (feedX l u bs)).2.1.length cb).ownBlock = some y → ¬ A1 y ∧ ¬ B y ∧ ¬ C y ∧ ¬ D y) := D1
        clear O1 Q1 D1
        generalize hr : exV (u, [], false) (feedX l u bs) = r at *
        generalize hE : exE (feedX l u bs) = E at *
        have HRE : Hid (exV (u, [], false) (feedX l u bs) = r ∧ exE (feedX l u bs) = E) := ⟨hr, hE⟩
        clear hr hE
        obtain ⟨u', out, d⟩ := r
        simp only at *
        go_wp2_with fail
        refine CLN.mono ?_
        rintro e w8 ⟨v3, rfl, ⟨g, cap, rfl, hgc, hcm, hg1, hg2, hown⟩, K8⟩
        have Q2 := HQ1.out.non K8
        have C8 := (cells_front hown).1
        have hgf := HQ1.out.far hg1
        have FC := Q2.feedC (some ⟨g, 0, none⟩) cap bs C8 (by simp) (by omega) (by omega) (fun ad e _ => by
          obtain rfl := Option.some.inj e
          exact hgf.2.2.1)
        rw [HRE.out.1, HRE.out.2] at FC
        simp only at FC
        have HO2 : Hid (Owns w8 w.heap.size (.slice ab out.length cb) out) := owns_keptNone HO1.out K8
        have HOW : Hid _ := hown
        have HGG : Hid (w7.heap.size ≤ g ∧ g < w8.heap.size ∧ (¬ A1 g ∧ ¬ B g ∧ ¬ C g ∧ ¬ D g) ∧ ∀ y, (Value.slice ab out.length cb).ownBlock = some y → y < w7.heap.size) := ⟨hg1, hg2, hgf, fun y hy => (World.ownsRow.lt HO1.out y hy).2⟩
        clear CLN K8 Q2 C8 hgf HQ1 HO1 ci
        go_wp2_with fail
        refine FC.mono ?_
        rintro e w9 ⟨x3, C3, rfl, O3, Q3, D3, L3, G3⟩
        obtain ⟨ax, cx, rfl, -, -⟩ := O3.shape
        have CW := Q3.waits
        have HQ3 : Hid (Q4 w gw go (.pointer (some adu)) (.pointer (some ado)) l u' uo u' uo A1 B C3 D w9) := Q3
        have HD3 : Hid (∀ y, (Value.slice ax out.length cx).ownBlock = some y → ¬ A1 y ∧ ¬ B y ∧ ¬ C3 y ∧ ¬ D y) := D3
        have HO3 : Hid (Owns w9 w8.heap.size (.slice ax out.length cx) out) := O3
        have HO4 : Hid (Owns w9 w.heap.size (.slice ab out.length cb) out) := G3.owns HO2.out (fun x hx => (HD1.out x hx).2.2.1)
        have HOW9 : Hid (w9.ownsRow w7.heap.size 5 1 (.slice (some ⟨g, 0, none⟩) (bs.length + 3) cap) (bs.length + 3) ((bs ++ [201, 201, 201]).map bv)) := G3.owns HOW.out (fun x hx => by
          simp only [Value.ownBlock, Option.some.injEq] at hx
          subst hx
          exact HGG.out.2.2.1.2.2.1)
        have HG3 : Hid (¬ C3 g) := fun q => by
          rcases L3 g q with q | q
          · exact HGG.out.2.2.1.2.2.1 q
          · have := HGG.out.2.1
            omega
        clear FC HO2 HOW Q3 D3 O3 L3 G3
        go_wp2_with fail
        refine CW.mono ?_
        rintro e w10 ⟨rfl, n10, rfl⟩
        have K10 := grown_drewN w9 n10 none
        have Q5 := HQ3.out.non K10
        have HOWx := owns_keptNone HOW9.out K10
        have O5 := owns_keptNone HO3.out K10
        have O6 := owns_keptNone HO4.out K10
        clear CW HOW9 HO3 HO4 HQ3 K10
        generalize w9.drewN n10 = w10 at *
        have ci : w10.cell? ⟨bb, o + i, none⟩ = some (.slice pa bs.length pc) := Q5.up.cell HCI.out (by simp)
        have CK := kept_any g cap pa pc bs w10 (owns_mono HOWx (Nat.zero_le _)) (HOK0.out.1.keptNone Q5.up) hbl
        have HQ5 : Hid (Q4 w gw go (.pointer (some adu)) (.pointer (some ado)) l u' uo u' uo A1 B C3 D w10) := Q5
        have HO5 : Hid (Owns w10 w8.heap.size (.slice ax out.length cx) out ∧ Owns w10 w.heap.size (.slice ab out.length cb) out) := ⟨O5, O6⟩
        clear Q5 O5 O6 HOWx
        go_wp2_with fail
        refine CK.mono ?_
        rintro e w11 ⟨rfl, K11⟩
        have Q6 := HQ5.out.row K11 (fun x hx => by
          obtain rfl := Option.some.inj hx
          exact ⟨HGG.out.2.2.1.1, HGG.out.2.2.1.2.1, HG3.out, HGG.out.2.2.1.2.2.2⟩) (fun x hx => by
          obtain rfl := Option.some.inj hx
          have := HGG.out.1
          have := HWW.out
          omega)
        have O7 : Owns w11 w8.heap.size (.slice ax out.length cx) out := World.ownsRow.kept HO5.out.1 K11 (.inr fun e => by
          have := (World.ownsRow.lt HO5.out.1 g e).1
          have := HGG.out.2.1
          omega)
        have O8 : Owns w11 w.heap.size (.slice ab out.length cb) out := World.ownsRow.kept HO5.out.2 K11 (.inr fun e => by
          have := HGG.out.2.2.2 g e
          have := HGG.out.1
          omega)
        have CS := same_own O7 O8 (by omega)
        have HQ6 : Hid (Q4 w gw go (.pointer (some adu)) (.pointer (some ado)) l u' uo u' uo A1 B C3 D w11) := Q6
        have HO7 : Hid (Owns w11 w8.heap.size (.slice ax out.length cx) out) := O7
        clear CK K11 Q6 O7 O8 HQ5 HO5 ci
        have hdd : (d != d) = false := by simp
        have hEE : (E != E) = false := by simp
        go_wp2_with fail
        refine CS.mono ?_
        rintro e w12 ⟨rfl, n12, rfl⟩
        have K12 := grown_drewN w11 n12 none
        have Q7 := HQ6.out.non K12
        have O9 := owns_keptNone HO7.out K12
        clear CS HQ6 HO7 K12
        generalize w11.drewN n12 = w12 at *
        obtain ⟨r1, ah, ch, r2⟩ := Q7.ra.cells
        have hnn : ((u'.nxt : Int) != (u'.nxt : Int)) = false := by simp
        have hhh : ((u'.has.length : Int) != (u'.has.length : Int)) = false := by simp
        have CSP := spoil_own w12 O9 (by omega)
        have HQ7 : Hid (Q4 w gw go (.pointer (some adu)) (.pointer (some ado)) l u' uo u' uo A1 B C3 D w12) := Q7
        have HS8 : Hid (∀ y, (Value.slice ax out.length cx).ownBlock = some y → w.heap.size ≤ y) := fun y hy => by
          have := (World.ownsRow.lt O9 y hy).1
          have := HGG.out.1
          have := HGG.out.2.1
          have := HWW.out
          omega
        clear Q7 O9
        go_wp2_with fail
        refine CSP.mono ?_
        rintro e w13 ⟨rfl, K13⟩
        have Q8 := HQ7.out.row K13 HD3.out HS8.out
        have HQ8 : Hid (Q4 w gw go (.pointer (some adu)) (.pointer (some ado)) l u' uo u' uo A1 B C3 D w13) := Q8
        clear CSP K13 Q8 r1 r2 HQ7 hnn hhh
        by_cases hpar : i % 2 = 1
        · have hp1 : (i : Int).tmod 2 = 1 := by rw [Int.tmod_eq_emod_of_nonneg (by omega)]; omega
          have hp2 : (i : Int) % 2 = 1 := by omega
          have ci : w13.cell? ⟨bb, o + i, none⟩ = some (.slice pa bs.length pc) := HQ8.out.up.cell HCI.out (by simp)
          have FB := HQ8.out.feedB pa pc bs (HOK0.out.1.keptNone HQ8.out.up) HOK0.out.2 hcap (by omega) HUN.out
          have hro2 := feed_out l uo bs
          clear HRE hdd hEE HD1 HD3 HGG HG3 HS8 hown hg1 hg2 hgc hcm hpar HWW
          have HWW : Hid (w.heap.size ≤ w13.heap.size) := HQ8.out.up.size
          clear HQ8
          go_wp2_with fail
          refine FB.mono ?_
          rintro e w14 ⟨x5, B5, rfl, O5, Q5, D5⟩
          clear FB ci
          obtain ⟨a5, c5, rfl, -, -⟩ := O5.shape
          have ci : w14.cell? ⟨bb, o + i, none⟩ = some (.slice pa bs.length pc) := Q5.up.cell HCI.out (by simp)
          have CCP := copy_any pa pc bs w14 (HOK0.out.1.keptNone Q5.up) HOK0.out.2 (by omega)
          have HO5 : Hid (Owns w14 w.heap.size (.slice a5 (exV (uo, [], false) (feedX l uo bs)).2.1.length c5) (exV (uo, [], false) (feedX l uo bs)).2.1) := O5
          have HQ5 : Hid (Q4 w gw go (.pointer (some adu)) (.pointer (some ado)) l u' (exV (uo, [], false) (feedX l uo bs)).1 u' uo A1 B5 C3 D w14) := Q5
          have HD5 : Hid (∀ y, (Value.slice a5 (exV (uo, [], false) (feedX l uo bs)).2.1.length c5).ownBlock = some y → ¬ A1 y ∧ ¬ B5 y ∧ ¬ C3 y ∧ ¬ D y) := D5
          clear O5 Q5 D5
          generalize hr : exV (uo, [], false) (feedX l uo bs) = r at *
          generalize hE : exE (feedX l uo bs) = E2 at *
          have HRE : Hid (exV (uo, [], false) (feedX l uo bs) = r ∧ exE (feedX l uo bs) = E2) := ⟨hr, hE⟩
          clear hr hE
          obtain ⟨uo', out2, d2⟩ := r
          simp only at *
          go_wp2_with fail
          refine CCP.mono ?_
          rintro e w15 ⟨v6, rfl, O6, K6⟩
          obtain ⟨a6, c6, rfl, C6, z6, h6, -⟩ := O6.rd
          have hc6 : bs.length ≤ c6 := by
            obtain ⟨x, y, e, -, h, -⟩ := O6.shape
            simp only [Value.slice.injEq, true_and] at e
            obtain ⟨rfl, rfl⟩ := e
            exact h
          have Q6 := HQ5.out.non K6
          have FD := Q6.feedD a6 c6 bs C6 z6 hc6 (by omega) (fun ad e _ => (HQ5.out.far (h6 ad e).1).2.2.2)
          rw [HRE.out.1, HRE.out.2] at FD
          simp only at FD
          have HO6 : Hid (Owns w15 w.heap.size (.slice a5 out2.length c5) out2) := owns_keptNone HO5.out K6
          clear CCP O6 K6 C6 Q6 HQ5 HO5 ci z6 h6
          go_wp2_with fail
          refine FD.mono ?_
          rintro e w16 ⟨x7, D7, rfl, O7, Q7, G7⟩
          obtain ⟨a7, c7, rfl, -, -⟩ := O7.shape
          have O8 : Owns w16 w.heap.size (.slice a5 out2.length c5) out2 := G7.owns HO6.out (fun x hx => (HD5.out x hx).2.2.2)
          have CS := same_own O7 O8 (by omega)
          have HQ7 : Hid (Q4 w gw go (.pointer (some adu)) (.pointer (some ado)) l u' uo' u' uo' A1 B5 C3 D7 w16) := Q7
          clear FD HO6 O7 Q7 G7 O8 HRE
          have hdd : (d2 != d2) = false := by simp
          have hEE : (E2 != E2) = false := by simp
          go_wp2_with fail
          refine CS.mono ?_
          rintro e w17 ⟨rfl, n17, rfl⟩
          have HQ8 : Hid (Q4 w gw go (.pointer (some adu)) (.pointer (some ado)) l u' uo' u' uo' A1 B5 C3 D7 (w16.drewN n17)) := HQ7.out.non (grown_drewN w16 n17 none)
          clear CS HQ7
          generalize w16.drewN n17 = w17 at *
          go_wp2
          go_roundw
          case rel => exact ⟨i + 1, u', uo', A1, B5, C3, D7, by omega, by go_num, HQ8⟩
          case measure => simp [intOf]; omega
        · have hp1 : (i : Int).tmod 2 = 0 := by rw [Int.tmod_eq_emod_of_nonneg (by omega)]; omega
          have hp2 : (i : Int) % 2 = 0 := by omega
          go_wp2
          go_roundw
          case rel => exact ⟨i + 1, u', uo, A1, B, C3, D, by omega, by go_num, HQ8⟩
          case measure => simp [intOf]; omega
      · obtain rfl : i = qs.length := by omega
        have G := HI.out.up
        clear HI
        go_wp2_with fail
        refine (awake9_any _).mono ?_
        rintro e w7 ⟨rfl, K7⟩
        go_wp2
        go_ret
        exact ⟨rfl, grown_trans G K7⟩

set_option maxRecDepth 100000 in
theorem lifted (os : Os) (started : os.Started) (H : Type) (enc : TypeId × Value → H) :
    ReturnsInHanded {} Try.checked os 4 .any (Rows.bundleFeedsSpec.pre6 enc Try.prog Try.f4 Rows.bundleFeedsRow.domain false) (Rows.bundleFeedsSpec.post enc Try.prog Try.f4 false true false false) := by
  refine returnsInHanded_of_change_sized (C := Try.checked) own started (by kernel_rfl) Try.func4
    (ChangeSpec.witness6 (enc := enc) (C := Try.checked) false ⟨#[], #[.agg #[.bool false, .bool false, .int .i64 0], .int .u32 0, .slice none 0 0], []⟩ 8 (by kernel_rfl) (by kernel_rfl) (by kernel_rfl) (by kernel_rfl)) ?_
  intro W base args ds gs before hval0 hW hcnd hsz0 _
  have hsz : (DataW.weightsEach Try.prog (Try.f4.params.toList ++ Rows.bundleFeedsSpec.plain.varTypes Try.prog) (ds ++ gs)).all (· ≤ reachBytes) = true := hsz0
  have hval : ∀ (j : Nat) t v, Try.f4.params[j]? = some t → args[j]? = some v → Value.okWide Try.prog W .any base t v := hval0
  have hW' := hW
  obtain ⟨p, q, hA0, hV, rfl, hfz, hnd⟩ := hW
  have hA : DataW.TrodAll enc Try.prog W 0 (fun _ => true) true Try.f4.params.toList args.toList ds p := hA0
  rw [Try.params4] at hA hval hsz
  obtain ⟨v0, vs0, d0, ds0, p0, q0, hargs, rfl, rfl, h0, r0⟩ := trodAll_cons hA
  obtain ⟨v1, vs1, d1, ds1, p1, q1, rfl, rfl, rfl, h1, r1⟩ := trodAll_cons r0
  obtain ⟨v2, vs2, d2, ds2, p2, q2, rfl, rfl, rfl, h2, r2⟩ := trodAll_cons r1
  obtain ⟨rfl, rfl, rfl⟩ := trodAll_nil r2
  obtain rfl : args = #[v0, v1, v2] := by cases args; simp_all
  obtain ⟨rfl, rfl⟩ := trodVars_none hV
  have k0 := h0
  have lt0 : ∀ x ∈ p0, x.block < W.heap.size := by obtain ⟨m, hm⟩ := k0; exact DataW.trod_lt m _ _ _ hm
  obtain ⟨x0, rfl⟩ := open_link h0
  obtain ⟨y1, rfl, rfl, rfl, w1⟩ := open_int Try.underlying25 (hval 1 25 v1 rfl rfl) h1
  have bd1 := bounds_u32 w1
  obtain ⟨x1, rfl⟩ := Int.eq_ofNat_of_zero_le bd1.1
  have hv1 : x1 ≤ 4294967295 := by omega
  obtain ⟨a2, len2, cap2, rfl⟩ := okWide_slice Try.underlying26 (hval 2 26 v2 rfl rfl)
  have k2 := h2
  have lt2 : ∀ x ∈ p2, x.block < W.heap.size := by obtain ⟨m, hm⟩ := k2; exact DataW.trod_lt m _ _ _ hm
  obtain ⟨qs2, rfl, hcv2, hnil2, hqs2, hdat2⟩ := open_lists h2
  have hlen2 := sized_lists hsz (j := 2) rfl rfl hdat2
  clear hA0 hval0
  refine (walk x0 x1 a2 cap2 qs2 W hv1 hcv2 hnil2 hqs2 hlen2.1 hlen2.2).mono fun e W' ⟨he, hg⟩ => ?_
  subst he
  have bel : Below W.heap.size W W' := (Below.refl _ _).grown hg (Nat.le_refl _) (by simp)
  exact ⟨_, rfl, _, _, _, [], _, [], hW', trodAll_mk1 (shut_bool Try.underlying4 _), (trodAll_cons_mk (Below.trod laidOut (by kernel_rfl) (of_decide_eq_true (by kernel_rfl)) k0 bel lt0) (trodAll_cons_mk (shut_int Try.underlying25 w1) (trodAll_cons_mk (Below.trod laidOut (by kernel_rfl) (of_decide_eq_true (by kernel_rfl)) k2 bel lt2) trodAll_mk0))), rfl, bel.frame _, fun h => by cases h⟩

theorem over : Rows.BundleFeedsSaid :=
  OpenClaim.holds_of_wide 4 Try.f4 rfl rfl rfl rfl rfl rfl rfl ⟨rfl, rfl, rfl, rfl, rfl⟩ rfl rfl rfl rfl rfl (by kernel_rfl) Try.func4 (by kernel_rfl)
    (of_decide_eq_true (by kernel_rfl)) (by unfold Func.isWrapper; first | (rw [if_pos (by decide +kernel)]; kernel_rfl) | (rw [if_neg (by decide +kernel)]; exact ⟨rfl, rfl⟩))
    (fun os started H enc _ => lifted os started H enc)

end bundleFeeds

theorem bundleFeeds_holds : Rows.BundleFeedsSaid := bundleFeeds.over
#print axioms bundleFeeds_holds

end Go.Proofs.Ytgfiadljjlajaaa
