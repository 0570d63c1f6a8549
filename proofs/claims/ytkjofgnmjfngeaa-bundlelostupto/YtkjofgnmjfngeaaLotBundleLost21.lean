/-
  Package bundle: its contracts. What every program answers that is one: awake of stage 9.
-/
import Derived.Test.YtkjofgnmjfngeaaBundleS
import Derived.Test.YtkjofgnmjfngeaaBundleJ
import Derived.Test.YtkjofgnmjfngeaaLotBundleLost1
import Derived.Deep.DeepCutAuto
namespace Go.Proofs.Ytkjofgnmjfngeaa
open Go.RowKit
set_option maxRecDepth 100000

/-- A bundle in memory: its pointer, what it has, the blocks that it lives in. -/
def BAt (w : World) (base : Nat) (p : Value) (l : Lk) (u : Bs) (S : Nat → Prop) : Prop :=
  ∃ g v, p = .pointer (some ⟨g, 0, none⟩) ∧ base ≤ g ∧ BNv w base g l u v ∧ (l.mp = 1 ∨ l.mp = 2) ∧ u.has.length ≤ 65535 ∧ ∀ x, S x ↔ (x = g ∨ v.ownBlock = some x)
theorem BAt.kept {w w' : World} {base : Nat} {p : Value} {l : Lk} {u : Bs} {S S' : Nat → Prop} (h : BAt w base p l u S) (G : GB w w' S') (hs : ∀ x, S x → ¬ S' x) : BAt w' base p l u S := by
  obtain ⟨g, v, hp, hg, ⟨hb, ho⟩, hm, hh, hS⟩ := h
  exact ⟨g, v, hp, hg, ⟨G.vat hb (hs g ((hS g).2 (.inl rfl))), G.owns ho (fun x hx => hs x ((hS x).2 (.inr hx)))⟩, hm, hh, hS⟩
theorem BAt.lt {w : World} {base : Nat} {p : Value} {l : Lk} {u : Bs} {S : Nat → Prop} (h : BAt w base p l u S) : (∀ x, S x → base ≤ x ∧ x < w.heap.size) ∧ ∃ ad, p = .pointer (some ad) := by
  obtain ⟨g, v, hp, hg, ⟨hb, ho⟩, hm, hh, hS⟩ := h
  refine ⟨fun x hx => ?_, ⟨_, hp⟩⟩
  rcases (hS x).1 hx with rfl | e
  · exact ⟨hg, hb.lt⟩
  · exact World.ownsRow.lt ho x e

theorem size56 : (Try.prog.info? 56).map (·.size) = some 7 := by kernel_rfl

set_option maxHeartbeats 2000000 in
theorem new_ok (l : Lk) (next : Nat) (u : Bs) (w : World) (h : newX l next = .ok u) :
    Calls Try.prog 8 #[.agg (lkA l), .int .u32 (next : Int)] w fun e w' => ∃ p S, e = .returned (.tuple #[p, .int .i64 0]) ∧ BAt w' w.heap.size p l u S ∧ w.grownBy w' none := by
  have L0 := VAt.alloc w 26 (lkA l)
  have G0 : w.grownBy (w.alloc (.cells (lkA l) 26)) none := World.grownBy_alloc _ _ _
  have HL : Hid ((Try.prog.info? 26).map (·.size) = some (lkA l).size) := size26
  have CM := order_any l next (w.alloc (.cells (lkA l) 26))
  obtain ⟨hu, hmay, hf, ho⟩ := new_is h
  rw [h, ho] at CM
  simp only [exE] at CM
  subst hu
  have HMP : Hid (l.mp = 1 ∨ l.mp = 2) := (may_mp hmay).1
  clear h hmay hf ho
  go_enter Try.func8, Try.ntmps8
  go_wp2_with (refine wpList_load_row rfl 26 (.tmp 2) rfl w.heap.size rfl 26 (lkA l) (0, 0) _ L0 Try.underlying26 rfl HL.out ?_)
  refine CM.mono ?_
  rintro e w1 ⟨rfl, K1⟩
  have L1 := L0.kept K1
  have G1 := grown_trans G0 K1
  clear CM L0 G0 K1
  go_upto_region 4 with fail
  have O2 := VAt.alloc w1 44 #[.int .u32 (next : Int), .int .u32 ((spV l - 1 : Nat) : Int)]
  have KO := World.grownBy_alloc w1 (.cells #[.int .u32 (next : Int), .int .u32 ((spV l - 1 : Nat) : Int)] 44) none
  have L2 := L1.kept KO
  have G2 := grown_trans G1 KO
  generalize w1.alloc (.cells #[.int .u32 (next : Int), .int .u32 ((spV l - 1 : Nat) : Int)] 44) = w2 at *
  generalize w1.heap.size = O at *
  clear L1 G1 KO
  have HOS : Hid ((Try.prog.info? 44).map (·.size) = some (#[.int .u32 (next : Int), .int .u32 ((spV l - 1 : Nat) : Int)] : Array Value).size) := size44
  have hlk : lkA l = #[.bool l.acfc, .bool l.pfc, .int .i64 l.mp] := rfl
  have HB : Hid (∃ S, BAt (w2.alloc (.cells #[.int .u32 (next : Int), .int .u32 ((spV l - 1 : Nat) : Int), .bool l.acfc, .bool l.pfc, .int .i64 l.mp, .bool false, .slice none 0 0] 56)) w.heap.size (.pointer (some ⟨w2.heap.size, 0, none⟩)) l ⟨next, false, []⟩ S) :=
    ⟨fun x => x = w2.heap.size ∨ (Value.slice none 0 0).ownBlock = some x, w2.heap.size, .slice none 0 0, rfl, G2.size, ⟨VAt.alloc w2 _ _, World.ownsRow_nil _ _ _ _⟩, HMP.out, Nat.zero_le _, fun _ => Iff.rfl⟩
  have HG : Hid (w.grownBy (w2.alloc (.cells #[.int .u32 (next : Int), .int .u32 ((spV l - 1 : Nat) : Int), .bool l.acfc, .bool l.pfc, .int .i64 l.mp, .bool false, .slice none 0 0] 56)) none) := grown_trans G2 (World.grownBy_alloc _ _ _)
  clear G2 HMP
  rw [hlk] at L2 HL
  go_wp2_with (first
    | refine wpList_load_row rfl 44 (.tmp 6) rfl O rfl 44 _ (0, 0) _ O2 Try.underlying44 rfl HOS.out ?_
    | refine wpList_load_row rfl 26 (.tmp 2) rfl w.heap.size rfl 26 _ (0, 0) _ L2 Try.underlying26 rfl HL.out ?_)
  go_ret2
  obtain ⟨S, hB⟩ := HB.out
  exact ⟨_, S, rfl, hB, HG.out⟩

theorem new_err (l : Lk) (next : Nat) (er : Int) (w : World) (h : newX l next = .error er) :
    Calls Try.prog 8 #[.agg (lkA l), .int .u32 (next : Int)] w fun e w' => e = .returned (.tuple #[.pointer none, .int .i64 er]) ∧ w.grownBy w' none := by
  have L0 := VAt.alloc w 26 (lkA l)
  have G0 : w.grownBy (w.alloc (.cells (lkA l) 26)) none := World.grownBy_alloc _ _ _
  have HL : Hid ((Try.prog.info? 26).map (·.size) = some (lkA l).size) := size26
  have CM := order_any l next (w.alloc (.cells (lkA l) 26))
  obtain ⟨hz, ho, -⟩ := new_er h
  rw [h, ho] at CM
  simp only [exE] at CM
  clear h ho
  go_enter Try.func8, Try.ntmps8
  go_wp2_with (refine wpList_load_row rfl 26 (.tmp 2) rfl w.heap.size rfl 26 (lkA l) (0, 0) _ L0 Try.underlying26 rfl HL.out ?_)
  refine CM.mono ?_
  rintro e w1 ⟨rfl, K1⟩
  have G1 := grown_trans G0 K1
  clear CM L0 G0 K1
  go_wp2
  go_ret2
  exact ⟨rfl, grown_trans G1 (World.grownBy_alloc _ _ _)⟩

theorem fed_has (sp : Nat) (u : Bs) (sq : Nat) (be fi : Bool) (c : List UInt8) : (fedV sp u sq be fi c).1.has.length ≤ 65535 := by
  unfold fedV
  generalize (if be = true then c else if (sq = u.nxt ∧ u.opn = true) then u.has ++ c else if sq = u.nxt then u.has else []) = h2
  by_cases h : 65535 < h2.length
  · rw [if_pos h]
    simp
  · rw [if_neg h]
    by_cases h3 : (be = true ∨ (sq = u.nxt ∧ u.opn = true)) ∧ fi = true
    · rw [if_pos h3]
      simp
    · rw [if_neg h3]
      show h2.length ≤ 65535
      omega

theorem feed_any (base : Nat) (p : Value) (l : Lk) (u : Bs) (S : Nat → Prop) (a : Option Addr) (ca : Nat) (b : List UInt8) (w : World) (hb : BAt w base p l u S) (ha : Cells w a b) (hc0 : a = none → ca = 0) (hca : b.length ≤ ca) (hn : b.length ≤ 140737488355328) (hap : ∀ ad, a = some ad → b ≠ [] → ¬ S ad.block) :
    Calls Try.prog 9 #[p, .slice a b.length ca] w fun e w' => ∃ x S', e = .returned (.tuple #[x, .bool (exV (u, [], false) (feedX l u b)).2.2, .int .i64 (exE (feedX l u b))]) ∧ Owns w' w.heap.size x (exV (u, [], false) (feedX l u b)).2.1 ∧ BAt w' base p l (exV (u, [], false) (feedX l u b)).1 S' ∧ (∀ y, S' y → S y ∨ w.heap.size ≤ y) ∧ (∀ y, x.ownBlock = some y → ¬ S' y) ∧ GB w w' S := by
  obtain ⟨g, v, rfl, hg, hbn, hm, hh, hS⟩ := hb
  have fin : ∀ (r : Bs × List UInt8 × Bool) (er : Int), r.1.has.length ≤ 65535 → ∀ e w', FeedB w base g l v r er e w' → ∃ x S', e = .returned (.tuple #[x, .bool r.2.2, .int .i64 er]) ∧ Owns w' w.heap.size x r.2.1 ∧ BAt w' base (.pointer (some ⟨g, 0, none⟩)) l r.1 S' ∧ (∀ y, S' y → S y ∨ w.heap.size ≤ y) ∧ (∀ y, x.ownBlock = some y → ¬ S' y) ∧ GB w w' S := by
    rintro r er hr e w' ⟨x, v', rfl, h1, h2, h3, h4, h5⟩
    refine ⟨x, fun i => i = g ∨ v'.ownBlock = some i, rfl, h1, ⟨g, v', rfl, hg, h2, hm, hr, fun _ => Iff.rfl⟩, fun y hy => ?_, fun y hy => ?_, h5.mono (fun x hx => (hS x).2 hx)⟩
    · rcases hy with rfl | hy
      · exact .inl ((hS _).2 (.inl rfl))
      · rcases h3 y hy with q | q
        · exact .inr q
        · exact .inl ((hS _).2 (.inr q))
    · obtain ⟨q1, q2⟩ := h4 y hy
      exact fun e => e.elim q1 q2
  have hap' : ∀ ad, a = some ad → b ≠ [] → ad.block ≠ g ∧ v.ownBlock ≠ some ad.block := fun ad e hb => ⟨fun q => hap ad e hb ((hS _).2 (.inl q)), fun q => hap ad e hb ((hS _).2 (.inr q))⟩
  have hbase : base ≤ w.heap.size := Nat.le_of_lt (Nat.lt_of_le_of_lt hg hbn.1.lt)
  have hfx : feedX l u b = (pieceV l b).bind fun v => if v.multi = true then .ok (fedV (spV l) u v.seq v.beg v.fin (b.drop v.pos)) else .error 94 := rfl
  rcases except_cases (pieceV l b) with ⟨er, he⟩ | ⟨pv, he⟩
  · have hlk : lookP l b = .error er := by unfold lookP; rw [bind_err he]
    rw [hfx, bind_err he]
    exact (bfeed_err base g l u v a ca b er w hm hbn ha hn hlk).mono (fun e w' h => fin _ _ hh e w' h)
  · by_cases hmu : pv.multi = true
    · rw [hfx, bind_of he, if_pos hmu]
      obtain ⟨pr, mu, be, fi, sq, po, ne, nx, lo⟩ := pv
      simp only at hmu
      subst hmu
      exact (bfeed_ok base g l u v a ca b pr be fi sq po ne nx lo w hm hbn ha hc0 hca hn hap' he hh hbase).mono (fun e w' h => fin _ _ (fed_has ..) e w' h)
    · have hlk : lookP l b = .error 94 := by unfold lookP; rw [bind_of he, if_neg hmu]
      rw [hfx, bind_of he, if_neg hmu]
      exact (bfeed_err base g l u v a ca b _ w hm hbn ha hn hlk).mono (fun e w' h => fin _ _ hh e w' h)

set_option maxHeartbeats 1000000 in
theorem waits_any (base : Nat) (p : Value) (l : Lk) (u : Bs) (S : Nat → Prop) (w : World) (hb : BAt w base p l u S) :
    Calls Try.prog 11 #[p] w fun e w' => e = .returned (.tuple #[.int .u32 (u.nxt : Int), .int .i64 (u.has.length : Int)]) ∧ ∃ n, w' = w.drewN n := by
  obtain ⟨g, v, rfl, -, ⟨hb, ho⟩, -, -, -⟩ := hb
  obtain ⟨ao, cap, rfl, -, -⟩ := ho.shape
  have m0 : w.cell? ⟨g, 0, none⟩ = some (.int .u32 (u.nxt : Int)) := hb.cell 0
  have m6 : w.cell? ⟨g, 6, none⟩ = some (.slice ao u.has.length cap) := hb.cell 6
  clear hb ho
  go_enter Try.func11, Try.ntmps11
  go_wp2
  go_quiet (fail)
  go_wp2
  go_ret2
  exact ⟨rfl, _, rfl⟩

end Go.Proofs.Ytkjofgnmjfngeaa

namespace Go.Proofs.Ytkjofgnmjfngeaa
open Go.RowKit
set_option maxRecDepth 100000

theorem LLv.gb {w w' : World} {base : Nat} {v : Value} {vs : List Value} {xss : List (List UInt8)} {S : Nat → Prop} (h : LLv w base v vs xss) (G : GB w w' S) (hS : ∀ x, x < w.heap.size → S x → False) : LLv w' base v vs xss :=
  h.keptNone (G.grown hS)

def k9 : Lk := ⟨false, false, 1⟩
theorem split9 : splitX k9 [1, 2, 3] 2 4095 = .ok [[255, 3, 0, 61, 143, 255, 1, 2], [255, 3, 0, 61, 64, 0, 3]] := by kernel_rfl
theorem new9 : newX k9 4095 = .ok ⟨4095, false, []⟩ := by kernel_rfl
theorem feed9a : feedX k9 ⟨4095, false, []⟩ [255, 3, 0, 61, 143, 255, 1, 2] = .ok (⟨0, true, [1, 2]⟩, [], false) := by kernel_rfl
theorem feed9b : feedX k9 ⟨0, true, [1, 2]⟩ [255, 3, 0, 61, 64, 0, 3] = .ok (⟨1, false, []⟩, [1, 2, 3], true) := by kernel_rfl

set_option maxHeartbeats 2000000 in
theorem awake9_any (w : World) : Calls Try.prog 5 #[] w fun e w' => e = .returned (.bool true) ∧ w.grownBy w' none := by
  have GA := World.grownBy_alloc w (.cells #[.bool false, .bool false, .int .i64 1] 26) none
  go_enter Try.func5, Try.ntmps5
  go_wp2_with fail
  have CL : Cells ((w.alloc (.cells #[.bool false, .bool false, .int .i64 1] 26)).alloc (.cells #[.int .u8 1, .int .u8 2, .int .u8 3] 5)) (some ⟨w.heap.size + 1, 0, none⟩) [1, 2, 3] := by
    have := cells_lit (w.alloc (.cells #[.bool false, .bool false, .int .i64 1] 26)) [1, 2, 3]
    rw [show (w.alloc (.cells #[.bool false, .bool false, .int .i64 1] 26)).heap.size = w.heap.size + 1 by simp] at this
    exact this
  have GB1 := grown_trans GA (World.grownBy_alloc (w.alloc (.cells #[.bool false, .bool false, .int .i64 1] 26)) (.cells #[.int .u8 1, .int .u8 2, .int .u8 3] 5) none)
  have LK : VAt ((w.alloc (.cells #[.bool false, .bool false, .int .i64 1] 26)).alloc (.cells #[.int .u8 1, .int .u8 2, .int .u8 3] 5)) w.heap.size 26 #[.bool false, .bool false, .int .i64 1] := (VAt.alloc w _ _).kept (World.grownBy_alloc _ _ _)
  have CS := split_any k9 (some ⟨w.heap.size + 1, 0, none⟩) 3 [1, 2, 3] 2 4095 _ CL (by simp) (by simp) (by simp)
  rw [split9] at CS
  simp only [exV, exE] at CS
  refine CS.mono ?_
  rintro e w1 ⟨v, rfl, ⟨vs, LV⟩, K1⟩
  have G1 := grown_trans GB1 K1
  have LK1 := LK.kept K1
  clear CS CL GA GB1 LK K1
  generalize w.heap.size = L at *
  obtain ⟨g, cap, ao0, ca0, rfl, i0, -, C0, O0⟩ := LV.item (i := 0) (by simp)
  obtain ⟨g', cap', ao1, ca1, hv, i1, -, C1, O1⟩ := LV.item (i := 1) (by simp)
  simp only [List.length_cons, List.length_nil, Value.slice.injEq, Option.some.injEq, Addr.mk.injEq] at hv
  obtain ⟨⟨rfl, -⟩, -, rfl⟩ := hv
  simp only [List.getD_cons_zero, List.getD_cons_succ, List.length_cons, List.length_nil] at i0 i1 C0 C1 O0 O1
  have i0' : w1.cell? ⟨g, 0, none⟩ = some (.slice ao0 8 ca0) := i0
  have i1' : w1.cell? ⟨g, 1, none⟩ = some (.slice ao1 7 ca1) := i1
  have HC : Hid (Cells w1 ao0 [255, 3, 0, 61, 143, 255, 1, 2] ∧ Cells w1 ao1 [255, 3, 0, 61, 64, 0, 3]) := ⟨C0, C1⟩
  have H0 : Hid ((ao0 = none → ca0 = 0) ∧ (ao1 = none → ca1 = 0) ∧ 8 ≤ ca0 ∧ 7 ≤ ca1 ) := by
    obtain ⟨p1, q1, r1, -, s1, -, u1, -⟩ := cv_of_row O0
    obtain ⟨p2, q2, r2, -, s2, -, u2, -⟩ := cv_of_row O1
    simp only [Value.slice.injEq] at r1 r2
    obtain ⟨rfl, -, rfl⟩ := r1
    obtain ⟨rfl, -, rfl⟩ := r2
    simp only [List.length_cons, List.length_nil] at s1 s2
    exact ⟨u1, u2, by omega, by omega⟩
  clear i0 i1 C0 C1
  have HI1 : Hid (w1.cell? ⟨g, 1, none⟩ = some (.slice ao1 7 ca1)) := i1'
  have HW1 : Hid (w.heap.size ≤ w1.heap.size) := G1.size
  have HLV : Hid (LLv w1 _ _ vs [[255, 3, 0, 61, 143, 255, 1, 2], [255, 3, 0, 61, 64, 0, 3]]) := LV
  clear LV
  have y0 : w1.cell? ⟨L, 0, none⟩ = some (.bool false) := LK1.cell 0
  have y1 : w1.cell? ⟨L, 1, none⟩ = some (.bool false) := LK1.cell 1
  have y2 : w1.cell? ⟨L, 2, none⟩ = some (.int .i64 1) := LK1.cell 2
  have CN := new_ok k9 4095 _ w1 new9
  go_wp2_with fail
  refine CN.mono ?_
  rintro e w2 ⟨p, S, rfl, B2, K2⟩
  obtain ⟨hS, ad, rfl⟩ := B2.lt
  have j1 := K2.cell i1' (by simp)
  have j0 := K2.cell i0' (by simp)
  have G2 := grown_trans G1 K2
  have HK2 : Hid (w1.grownBy w2 none) := K2
  clear CN y0 y1 y2 i0' i1' LK1 O0 O1 G1 K2
  go_wp2_with fail
  have KL := World.grownBy_alloc w2 (.cells #[.int .u8 255, .int .u8 3, .int .u8 0, .int .u8 61, .int .u8 64, .int .u8 0, .int .u8 3] 5) none
  refine (same_any ao1 (some ⟨w2.heap.size, 0, none⟩) ca1 7 [255, 3, 0, 61, 64, 0, 3] _ ((HC.out.2.keptNone HK2.out).keptNone KL) (cells_lit w2 [255, 3, 0, 61, 64, 0, 3]) (by simp)).mono ?_
  rintro e w3 ⟨rfl, n3, rfl⟩
  have K3 := grown_trans KL (grown_drewN (w2.alloc (.cells #[.int .u8 255, .int .u8 3, .int .u8 0, .int .u8 61, .int .u8 64, .int .u8 0, .int .u8 3] 5)) n3 none)
  generalize (w2.alloc (.cells #[.int .u8 255, .int .u8 3, .int .u8 0, .int .u8 61, .int .u8 64, .int .u8 0, .int .u8 3] 5)).drewN n3 = w3 at *
  have G3 := grown_trans G2 K3
  have B3 : BAt w3 w1.heap.size (.pointer (some ad)) k9 ⟨4095, false, []⟩ S := B2.kept (S' := fun _ => False) (GB.non K3) (fun _ _ h => h)
  have HK3 : Hid (w1.grownBy w3 none) := grown_trans HK2.out K3
  have k0 := K3.cell j0 (by simp)
  have k1 := K3.cell j1 (by simp)
  have HLT : Hid (g < w1.heap.size) := by
    show g < w1.heap.size
    have := (HLV.out.1.lt g rfl).2
    exact this
  clear KL K3 B2 j0 j1 G2 HK2
  go_wp2_with fail
  refine (copy_any ao0 ca0 [255, 3, 0, 61, 143, 255, 1, 2] _ (HC.out.1.keptNone HK3.out) H0.out.1 (by simp)).mono ?_
  rintro e w4 ⟨y4, rfl, O4, K4⟩
  have G4 := grown_trans G3 K4
  have B4 : BAt w4 w1.heap.size (.pointer (some ad)) k9 ⟨4095, false, []⟩ S := B3.kept (S' := fun _ => False) (GB.non K4) (fun _ _ h => h)
  have l1 := K4.cell k1 (by simp)
  have HK4 : Hid (w1.grownBy w4 none) := grown_trans HK3.out K4
  obtain ⟨ao4, ca4, rfl, C4, h4a, -, h4b, -⟩ := O4.shape
  have h40 : ao4 = none → ca4 = 0 := by
    obtain ⟨ao', cap', e', -, -, -, h0, -⟩ := cv_of_row O4
    simp only [Value.slice.injEq] at e'
    obtain ⟨rfl, -, rfl⟩ := e'
    exact h0
  have CF := feed_any w1.heap.size (.pointer (some ad)) k9 ⟨4095, false, []⟩ S ao4 ca4 [255, 3, 0, 61, 143, 255, 1, 2] w4 B4 C4 h40 h4a (by simp) (fun x hx _ hs => by have := (h4b x hx).1; have := (B3.lt.1 _ hs).2; omega)
  rw [feed9a] at CF
  simp only [exV, exE] at CF
  clear k0 k1 B3 B4 K4 O4 C4
  go_wp2_with fail
  refine CF.mono ?_
  rintro e w5 ⟨x5, S5, rfl, O5, B5, hS5, -, F5⟩
  have HK5 : Hid (w1.grownBy w5 none) := ((GB.non (S := S) HK4.out).trans F5 (fun _ _ h => h)).grown (fun x hx h => by have := (hS x h).1; omega)
  have G5 : w.grownBy w5 none := ((GB.non (S := S) G4).trans F5 (fun _ _ h => h)).grown (fun x hx h => by have := (hS x h).1; have := HW1.out; omega)
  have m1 := HK5.out.cell (HI1.out) (by simp)
  have hS5' : ∀ x, S5 x → w1.heap.size ≤ x := fun x h => by
    rcases hS5 x h with q | q
    · exact (hS x q).1
    · have := HK4.out.size
      omega
  clear CF O5 F5 l1 hS5
  go_wp2_with fail
  refine (copy_any ao1 ca1 [255, 3, 0, 61, 64, 0, 3] _ (HC.out.2.keptNone HK5.out) H0.out.2.1 (by simp)).mono ?_
  rintro e w6 ⟨y6, rfl, O6, K6⟩
  have G6 := grown_trans G5 K6
  have B6 : BAt w6 w1.heap.size (.pointer (some ad)) k9 ⟨0, true, [1, 2]⟩ S5 := B5.kept (S' := fun _ => False) (GB.non K6) (fun _ _ h => h)
  obtain ⟨ao6, ca6, rfl, C6, h6a, -, h6b, -⟩ := O6.shape
  have h60 : ao6 = none → ca6 = 0 := by
    obtain ⟨ao', cap', e', -, -, -, h0, -⟩ := cv_of_row O6
    simp only [Value.slice.injEq] at e'
    obtain ⟨rfl, -, rfl⟩ := e'
    exact h0
  have CF := feed_any w1.heap.size (.pointer (some ad)) k9 ⟨0, true, [1, 2]⟩ S5 ao6 ca6 [255, 3, 0, 61, 64, 0, 3] w6 B6 C6 h60 h6a (by simp) (fun x hx _ hs => by have := (h6b x hx).1; have := (B5.lt.1 _ hs).2; omega)
  rw [feed9b] at CF
  simp only [exV, exE] at CF
  clear m1 B5 B6 K6 O6 C6
  go_wp2_with fail
  refine CF.mono ?_
  rintro e w7 ⟨x7, S7, rfl, O7, B7, -, -, F7⟩
  have G7 : w.grownBy w7 none := ((GB.non (S := S5) G6).trans F7 (fun _ _ h => h)).grown (fun x hx h => by have := hS5' x h; have := HW1.out; omega)
  have CW := waits_any w1.heap.size (.pointer (some ad)) k9 ⟨1, false, []⟩ S7 w7 B7
  simp only [List.length_nil] at CW
  obtain ⟨ao7, ca7, rfl, C7, -, -, -, -⟩ := O7.shape
  have HC7 : Hid (Cells w7 ao7 [1, 2, 3]) := C7
  clear CF O7 F7 C7 B7
  go_wp2_with fail
  refine CW.mono ?_
  rintro e w8 ⟨rfl, n8, rfl⟩
  clear CW
  go_wp2_with fail
  have KL := World.grownBy_alloc (w7.drewN n8) (.cells #[.int .u8 1, .int .u8 2, .int .u8 3] 5) none
  have K78 := grown_trans (grown_drewN w7 n8 none) KL
  refine (same_any ao7 (some ⟨w7.heap.size, 0, none⟩) ca7 3 [1, 2, 3] _ (HC7.out.keptNone K78) (cells_lit (w7.drewN n8) [1, 2, 3]) (by simp)).mono ?_
  rintro e w9 ⟨rfl, n9, rfl⟩
  have G9 := grown_trans G7 (grown_trans K78 (grown_drewN _ n9 none))
  clear KL K78
  go_wp2
  go_ret
  exact ⟨rfl, G9⟩

end Go.Proofs.Ytkjofgnmjfngeaa
