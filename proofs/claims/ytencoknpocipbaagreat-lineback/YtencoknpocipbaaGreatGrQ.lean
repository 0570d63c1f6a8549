/-
  Package graph as landed: one block of a program.
-/
import Derived.Test.YtencoknpocipbaaGreatLotP21
import Derived.Test.YtencoknpocipbaaGreatLotP7
import Derived.Test.YtencoknpocipbaaGreatGrF
namespace Go.Proofs.YtencoknpocipbaaGreat
open Go.RowKit
set_option maxRecDepth 100000

theorem step_store_rowG {P : Program} {ops : Array Oper} {o : Oper} {a : Act} {w : World} {K : Act → World → Prop} {Q : Exit → Act → World → Prop} {E : Prop}
    (hgd : o.guard = none) (ty : TypeId) (x y : Operand) (ho : o.op = .store ty x y) (g : Nat) (cells : Array Value) (hx : a.eval x = .pointer (some ⟨g, 0, none⟩)) (hy : a.eval y = .agg cells) (t : TypeId) (old : Array Value) (A : GVt w g t old)
    (hi : (P.info? ty).map (·.size) = some cells.size) (hold : old.size = cells.size) (h1 : cells.all (·.oneCell') = true) (hK : K (a.put o.dst undef) (w.setRow g cells)) :
    if Region.wanted o (yielded ops a.tmps) = true then Oper.wp P o a w K Q else E := by
  have hw : Region.wanted o (yielded ops a.tmps) = true := by simp [Region.wanted, hgd]
  rw [if_pos hw]
  exact wp_store_row ty x y ho g cells hx hy t old A hi hold h1 hK
theorem sizeBk : (Tryz.prog.info? 56).map (·.size) = some 8 := by kernel_rfl
theorem bk_all (a : Option Addr) (l k : Nat) (e y n c1 c2 c3 c4 : Int) : (#[.slice a l k, .int .i64 e, .int .u16 c1, .int .u8 c2, .int .u8 c3, .int .u32 c4, .int .i64 y, .int .i64 n] : Array Value).all (·.oneCell') = true := by simp [Value.oneCell']
theorem bld_go (c : Value) (hc : ∃ a n k, c = .slice a n k) (y : Int) (W : World) : (Instr.build 56 #[(0, c), (1, .int .i64 2), (3, .int .i64 y)]).run Tryz.prog W = .ok (.agg #[c, .int .i64 2, .int .u16 0, .int .u8 0, .int .u8 0, .int .u32 0, .int .i64 y, .int .i64 0]) W := by
  obtain ⟨a, n, k, rfl⟩ := hc
  kernel_rfl

/-- The block of the instructions from one place to another, both with it. -/
def blkV (xs : List In) (nm : Nat → Nat) (fr i : Nat) (x : In) : Bk :=
  if leavesB x = false then ⟨(xs.drop fr).take (i + 1 - fr), 2, in0, (nm (i + 1) : Int), 0⟩
  else if (classV x.code.toNat == 6) = true then ⟨(xs.drop fr).take (i - fr), 1, bareV x, 0, 0⟩
  else if ((x.code.toNat : Int) == 5) = true then ⟨(xs.drop fr).take (i - fr), 2, in0, (nm (yesG i x) : Int), 0⟩
  else ⟨(xs.drop fr).take (i - fr), 3, bareV x, (nm (yesG i x) : Int), (nm (noG i x) : Int)⟩
/-- What is handed out: a block, its Code in memory of its own. -/
def BlkP (w : World) (b : Bk) (e : Ending) (w' : World) : Prop := ∃ a' ca', e = .returned (bkV b a' ca') ∧ IOwns w' w.heap.size (.slice a' b.code.length ca') b.code ∧ w.grownBy w' none

theorem part15_len {xs : List In} {i l : Nat} (h : i + l ≤ xs.length) : ((xs.drop i).take l).length = l := by
  simp only [List.length_take, List.length_drop]
  omega

set_option maxHeartbeats 4000000 in
theorem block_go (b o ca fr i g cap : Nat) (xs : List In) (nm : Nat → Nat) (w : World) (ha : CV w (some ⟨b, o, none⟩) (flat xs)) (hca : xs.length ≤ ca) (hn : xs.length ≤ 4096) (hi : i < xs.length) (hfr : fr ≤ i)
    (hg : ∀ j, j ≤ xs.length → w.cell? ⟨g, j, none⟩ = some (.int .i64 (nm j : Int))) (x : In) (hx : xs[i] = x) (hlv : leavesB x = false) :
    Calls Tryz.prog 38 #[.slice (some ⟨b, o, none⟩) xs.length ca, .int .i64 (fr : Int), .int .i64 (i : Int), .slice (some ⟨g, 0, none⟩) (xs.length + 1) cap] w (BlkP w ⟨(xs.drop fr).take (i + 1 - fr), 2, in0, (nm (i + 1) : Int), 0⟩) := by
  obtain ⟨b1, o1, hbo, hc⟩ := ha.insns hi
  simp only [Option.some.injEq, Addr.mk.injEq, and_true] at hbo
  obtain ⟨rfl, rfl⟩ := hbo
  obtain ⟨c0, c1, c2, c3⟩ := hc i hi
  rw [hx] at c0 c1 c2 c3
  clear hc hx
  have HA : Hid (CV w (some ⟨b, o, none⟩) (flat xs)) := ha
  have HG : Hid (∀ j, j ≤ xs.length → w.cell? ⟨g, j, none⟩ = some (.int .i64 (nm j : Int))) := hg
  obtain ⟨W, hW⟩ : ∃ W, (w.alloc (.cells #[.slice none 0 0, .int .i64 0, .int .u16 0, .int .u8 0, .int .u8 0, .int .u32 0, .int .i64 0, .int .i64 0] 56)).alloc (.cells #[.int .u16 (x.code.toNat : Int), .int .u8 (x.jt.toNat : Int), .int .u8 (x.jf.toNat : Int), .int .u32 (x.k.toNat : Int)] 54) = W := ⟨_, rfl⟩
  have AR : GVt W w.heap.size 56 #[.slice none 0 0, .int .i64 0, .int .u16 0, .int .u8 0, .int .u8 0, .int .u32 0, .int .i64 0, .int .i64 0] := by rw [← hW]; exact vkeep (vnew _ _ _ _ rfl) _
  have AX : GVt W (w.heap.size + 1) 54 #[.int .u16 (x.code.toNat : Int), .int .u8 (x.jt.toNat : Int), .int .u8 (x.jf.toNat : Int), .int .u32 (x.k.toNat : Int)] := by rw [← hW]; exact vnew _ _ _ _ (by simp only [World.size_alloc])
  have G0 : w.grownBy W none := by rw [← hW]; exact grown_trans (World.grownBy_alloc _ _ _) (World.grownBy_alloc _ _ _)
  have HW : Hid ((w.alloc (.cells #[.slice none 0 0, .int .i64 0, .int .u16 0, .int .u8 0, .int .u8 0, .int .u32 0, .int .i64 0, .int .i64 0] 56)).alloc (.cells #[.int .u16 (x.code.toNat : Int), .int .u8 (x.jt.toNat : Int), .int .u8 (x.jf.toNat : Int), .int .u32 (x.k.toNat : Int)] 54) = W) := hW
  have Z0 : w.grownBy (w.alloc (.cells #[.slice none 0 0, .int .i64 0, .int .u16 0, .int .u8 0, .int .u8 0, .int .u32 0, .int .i64 0, .int .i64 0] 56)) none := World.grownBy_alloc _ _ _
  have d0 := Z0.cell c0 (by simp)
  have d1 := Z0.cell c1 (by simp)
  have d2 := Z0.cell c2 (by simp)
  have d3 := Z0.cell c3 (by simp)
  clear hW ha hg Z0
  have hl : (i : Int) < (xs.length : Int) := by omega
  go_enter Tryz.func38, Tryz.ntmps38
  go_upto_region 2 with fail
  rw [HW.out]
  clear HW c0 c1 c2 c3 d0 d1 d2 d3
  obtain ⟨XB, hXB⟩ : ∃ k, w.heap.size + 1 = k := ⟨_, rfl⟩
  rw [hXB] at AX ⊢
  obtain ⟨R, hR⟩ : ∃ k, w.heap.size = k := ⟨_, rfl⟩
  have HR : Hid (w.heap.size ≤ R ∧ R ≠ XB) := ⟨by omega, by omega⟩
  rw [hR] at AR ⊢
  clear hXB hR
  have y0 : W.cell? ⟨XB, 0, none⟩ = some (.int .u16 (x.code.toNat : Int)) := AX.cell 0
  have y1 : W.cell? ⟨XB, 1, none⟩ = some (.int .u8 (x.jt.toNat : Int)) := AX.cell 1
  have y2 : W.cell? ⟨XB, 2, none⟩ = some (.int .u8 (x.jf.toNat : Int)) := AX.cell 2
  have y3 : W.cell? ⟨XB, 3, none⟩ = some (.int .u32 (x.k.toNat : Int)) := AX.cell 3
  go_wp2_with fail
  refine (leaves_any x _).mono ?_
  rintro e w1 ⟨rfl, K1⟩
  rw [hlv]
  have AR1 := AR.kept K1
  have AX1 := AX.kept K1
  have G1 := grown_trans G0 K1
  clear AR AX G0 K1 y0 y1 y2 y3

  have HC : Hid (∀ W : World, w.grownBy W none → Calls Tryz.prog 57 #[.slice (some ⟨b, o + fr * 4, none⟩) (i + 1 - fr) (ca - fr)] W fun e w' => ∃ v, e = .returned v ∧ IOwns w' W.heap.size v ((xs.drop fr).take (i + 1 - fr)) ∧ W.grownBy w' none) := fun W hW => by
    have := copied_any (some ⟨b, o + fr * 4, none⟩) (ca - fr) ((xs.drop fr).take (i + 1 - fr)) W (cv_part (HA.out.keptNone hW) fr (i + 1 - fr) (by omega)) (fun e => by cases e) (by rw [part15_len (by omega)]; omega)
    rwa [part15_len (by omega)] at this
  have hgn : w1.cell? ⟨g, i + 1, none⟩ = some (.int .i64 (nm (i + 1) : Int)) := G1.cell (HG.out (i + 1) (by omega)) (by simp)
  have h1 : (fr : Int) ≤ (i : Int) + 1 := by omega
  have h2 : (i : Int) + 1 ≤ (ca : Int) := by omega
  have h3 : (i : Int) + 1 < (xs.length : Int) + 1 := by omega
  have h4 : ((i : Int) + 1).toNat - fr = i + 1 - fr := by omega
  have h5 : IntKind.i64.wrap ((i : Int) + 1) = (i : Int) + 1 := by rw [IntKind.wrap_i64]; omega
  have h6 : ¬ ca = fr := by omega
  have h8 : ¬ (i : Int) + 1 < 0 := by omega
  have hgR : g ≠ R := by
    have h0 := HG.out 0 (by omega)
    have := HR.out.1
    have hlt : g < w.heap.size := by
      by_cases hb : g < w.heap.size
      · exact hb
      · unfold World.cell? at h0
        rw [Array.getElem?_eq_none (by simpa using hb)] at h0
        simp at h0
    omega
  have h7 : ((i : Int) + 1).toNat = i + 1 := by omega
  have hpl : ((xs.drop fr).take (i + 1 - fr)).length = i + 1 - fr := part15_len (by omega)
  have HPL : Hid (((xs.drop fr).take (i + 1 - fr)).length = i + 1 - fr) := hpl
  clear hpl
  generalize (xs.drop fr).take (i + 1 - fr) = ys at *
  generalize nm (i + 1) = nn at *
  go_upto_region 3 with fail
  refine wp_region_held_drew (S := fun V => V.cell? ⟨g, i + 1, none⟩ = some (.int .i64 (nn : Int)) ∧ w.grownBy V none) (by kernel_rfl) (⟨(grown_drewN w1 1 none).cell hgn (by simp), grown_trans G1 (grown_drewN w1 1 none)⟩) (fun hHeld => ?_)
  refine wpAnyH_take (i := 0) (v := .slice (some ⟨b, o, none⟩) xs.length ca) rfl (by kernel_rfl) (by kernel_rfl) (by kernel_rfl) (fun _ _ _ h => h) (Or.inl ⟨by rfl, fun W hW => ?_⟩) hHeld ?_
  · clear hW
    go_simp
  try simp only [Act.put, List.getElem_toArray, List.getElem_cons_zero, List.setIfInBounds_toArray, List.set_cons_zero, List.set_cons_succ]
  refine wpAnyH_take (i := 1) (v := .int .i64 (fr : Int)) rfl (by kernel_rfl) (by kernel_rfl) (by kernel_rfl) (fun _ _ _ h => h) (Or.inl ⟨by rfl, fun W hW => ?_⟩) hHeld ?_
  · clear hW
    go_simp
  try simp only [Act.put, List.getElem_toArray, List.getElem_cons_zero, List.getElem_cons_succ, List.setIfInBounds_toArray, List.set_cons_zero, List.set_cons_succ]
  refine wpAnyH_take (i := 2) (v := .int .i64 (i : Int)) rfl (by kernel_rfl) (by kernel_rfl) (by kernel_rfl) (fun _ _ _ h => h) (Or.inl ⟨by rfl, fun W hW => ?_⟩) hHeld ?_
  · clear hW
    go_simp
  try simp only [Act.put, List.getElem_toArray, List.getElem_cons_zero, List.getElem_cons_succ, List.setIfInBounds_toArray, List.set_cons_zero, List.set_cons_succ]
  refine wpAnyH_take (i := 3) (v := .int .i64 ((i : Int) + 1)) rfl (by kernel_rfl) (by kernel_rfl) (by kernel_rfl) (fun _ _ _ h => h) (Or.inl ⟨by rfl, fun W hW => ?_⟩) hHeld ?_
  · clear hW
    go_simp
  try simp only [Act.put, List.getElem_toArray, List.getElem_cons_zero, List.getElem_cons_succ, List.setIfInBounds_toArray, List.set_cons_zero, List.set_cons_succ]
  refine wpAnyH_take (i := 4) (v := .slice (some ⟨b, o + fr * 4, none⟩) (i + 1 - fr) (ca - fr)) rfl (by kernel_rfl) (by kernel_rfl) (by kernel_rfl) (fun _ _ _ h => h) (Or.inl ⟨by rfl, fun W hW => ?_⟩) hHeld ?_
  · clear hW
    go_simp
  try simp only [Act.put, List.getElem_toArray, List.getElem_cons_zero, List.getElem_cons_succ, List.setIfInBounds_toArray, List.set_cons_zero, List.set_cons_succ]
  refine wpAnyH_take (i := 6) (v := .slice (some ⟨g, 0, none⟩) (xs.length + 1) cap) rfl (by kernel_rfl) (by kernel_rfl) (by kernel_rfl) (fun _ _ _ h => h) (Or.inl ⟨by rfl, fun W hW => ?_⟩) hHeld ?_
  · clear hW
    go_simp
  try simp only [Act.put, List.getElem_toArray, List.getElem_cons_zero, List.getElem_cons_succ, List.setIfInBounds_toArray, List.set_cons_zero, List.set_cons_succ]
  refine wpAnyH_take (i := 7) (v := .int .i64 (i : Int)) rfl (by kernel_rfl) (by kernel_rfl) (by kernel_rfl) (fun _ _ _ h => h) (Or.inl ⟨by rfl, fun W hW => ?_⟩) hHeld ?_
  · clear hW
    go_simp
  try simp only [Act.put, List.getElem_toArray, List.getElem_cons_zero, List.getElem_cons_succ, List.setIfInBounds_toArray, List.set_cons_zero, List.set_cons_succ]
  refine wpAnyH_take (i := 8) (v := .int .i64 ((i : Int) + 1)) rfl (by kernel_rfl) (by kernel_rfl) (by kernel_rfl) (fun _ _ _ h => h) (Or.inl ⟨by rfl, fun W hW => ?_⟩) hHeld ?_
  · clear hW
    go_simp
  try simp only [Act.put, List.getElem_toArray, List.getElem_cons_zero, List.getElem_cons_succ, List.setIfInBounds_toArray, List.set_cons_zero, List.set_cons_succ]
  refine wpAnyH_take (i := 9) (v := .pointer (some ⟨g, i + 1, none⟩)) rfl (by kernel_rfl) (by kernel_rfl) (by kernel_rfl) (fun _ _ _ h => h) (Or.inl ⟨by rfl, fun W hW => ?_⟩) hHeld ?_
  · clear hW
    go_simp
  try simp only [Act.put, List.getElem_toArray, List.getElem_cons_zero, List.getElem_cons_succ, List.setIfInBounds_toArray, List.set_cons_zero, List.set_cons_succ]
  refine wpAnyH_take (i := 10) (v := .int .i64 (nn : Int)) rfl (by kernel_rfl) (by kernel_rfl) (by kernel_rfl) (fun _ _ _ h => h) (Or.inl ⟨by rfl, fun W hW => ?_⟩) hHeld ?_
  · have c8 := hW.1
    clear hW
    go_simp
  try simp only [Act.put, List.getElem_toArray, List.getElem_cons_zero, List.getElem_cons_succ, List.setIfInBounds_toArray, List.set_cons_zero, List.set_cons_succ]
  refine wpAnyH_ready (rs := [5]) (by kernel_rfl) (by simp) (AllReadyH.cons rfl (fun K hK => ?_) AllReadyH.nil)
  go_simp
  refine (HC.out _ hHeld.2).mono ?_
  rintro e w2 ⟨v, rfl, O2, K2⟩
  have O2 := owns_mono O2 hHeld.2.size
  have AR2 := (AR1.kept (grown_drewN w1 1 none)).kept K2
  obtain ⟨a2, ca2, rfl, -, -⟩ := cv_of_row O2
  go_wp2_with fail
  refine hK.out _ _ (⟨K2.cell hHeld.1 (by simp), grown_trans hHeld.2 K2⟩) (fun hHeld => ?_)
  clear hK K
  try simp only [Act.put, List.getElem_toArray, List.getElem_cons_zero, List.getElem_cons_succ, List.setIfInBounds_toArray, List.set_cons_zero, List.set_cons_succ]
  refine wpAnyH_take (i := 11) (v := .agg #[.slice a2 ys.length ca2, .int .i64 2, .int .u16 0, .int .u8 0, .int .u8 0, .int .u32 0, .int .i64 (nn : Int), .int .i64 0]) rfl (by kernel_rfl) (by kernel_rfl) (by kernel_rfl) (fun _ _ _ h => h) (yieldsIf_bld (by rfl) 56 _ (by rfl) _ (by kernel_rfl) (.agg #[.slice a2 ys.length ca2, .int .i64 2, .int .u16 0, .int .u8 0, .int .u8 0, .int .u32 0, .int .i64 (nn : Int), .int .i64 0]) (fun W => bld_go _ ⟨_, _, _, rfl⟩ _ W)) hHeld ?_
  try simp only [Act.put, List.getElem_toArray, List.getElem_cons_zero, List.getElem_cons_succ, List.setIfInBounds_toArray, List.set_cons_zero, List.set_cons_succ]
  refine wpAnyH_ready (rs := [12]) (by kernel_rfl) (by simp) (AllReadyH.cons rfl (fun K hK => ?_) AllReadyH.nil)
  refine step_store_rowG (by rfl) 56 (.tmp 8) (.tmp 31) (by rfl) R #[.slice a2 ys.length ca2, .int .i64 2, .int .u16 0, .int .u8 0, .int .u8 0, .int .u32 0, .int .i64 (nn : Int), .int .i64 0] (by rfl) (by rfl) 56 _ AR2 sizeBk rfl (bk_all _ _ _ _ _ _ _ _ _ _) ?_
  have KR : w2.grownBy (w2.setRow R #[.slice a2 ys.length ca2, .int .i64 2, .int .u16 0, .int .u8 0, .int .u8 0, .int .u32 0, .int .i64 (nn : Int), .int .i64 0]) (some R) := gvgrown_setRow (World.grownBy.refl _ _) _ _ (.inl rfl)
  refine hK.out _ _ ⟨KR.cell hHeld.1 (by simpa using hgR), gvgrown_setRow hHeld.2 _ _ (.inr HR.out.1)⟩ (fun hHeld => ?_)
  clear hK K
  try simp only [Act.put]
  refine wpAnyH_done (by kernel_rfl) ?_ _

  have GF := hHeld.2
  clear hHeld
  have OF : IOwns (w2.setRow R #[.slice a2 ys.length ca2, .int .i64 2, .int .u16 0, .int .u8 0, .int .u8 0, .int .u32 0, .int .i64 (nn : Int), .int .i64 0]) w.heap.size (.slice a2 ys.length ca2) ys := World.ownsRow.kept O2 KR (.inr (fun e => by
    have h1 := AR2
    obtain ⟨g2, c2, cur, hv, -, hg2, -⟩ : ∃ g2 c2 cur, (Value.slice a2 ys.length ca2) = .slice (some ⟨g2, 0, none⟩) ys.length c2 ∧ True ∧ w2.heap[g2]? = some (.cells cur 54 (0, 0)) ∧ True := by
      rcases O2.2 with ⟨hv, -⟩ | ⟨g2, cap2, cur, hv, -, hg, -⟩
      · rw [hv] at e; cases e
      · exact ⟨g2, cap2, cur, hv, trivial, hg, trivial⟩
    rw [hv] at e
    simp only [Value.ownBlock, Option.some.injEq] at e
    subst e
    unfold GVt at h1
    rw [hg2] at h1
    simp only [Option.some.injEq, Obj.cells.injEq] at h1
    exact absurd h1.2.1 (by decide)))
  go_wp2
  refine bodyPost_ret (results_cell_row rfl _ _ R _ #[.slice a2 ys.length ca2, .int .i64 2, .int .u16 0, .int .u8 0, .int .u8 0, .int .u32 0, .int .i64 (nn : Int), .int .i64 0] (0, 0) _ rfl (AR2.setRow _) Tryz.underlying56 rfl sizeBk) rfl ?_
  exact ⟨a2, ca2, rfl, OF, GF⟩

/-- Instructions stay where a block is written. -/
theorem own_insn {w w' : World} {base g : Nat} {v : Value} {ys : List In} {cs : Array Value} (h : IOwns w base v ys) (K : w.grownBy w' (some g)) (A : GVt w g 56 cs) : IOwns w' base v ys := World.ownsRow.kept h K (.inr (fun e => by
  rcases h.2 with ⟨hv, -⟩ | ⟨g2, cap2, cur, hv, -, hg, -⟩
  · rw [hv] at e; cases e
  · rw [hv] at e
    simp only [Value.ownBlock, Option.some.injEq] at e
    subst e
    unfold GVt at A
    rw [hg] at A
    simp only [Option.some.injEq, Obj.cells.injEq] at A
    exact absurd A.2.1 (by decide)))

set_option maxHeartbeats 4000000 in
theorem block_ret (b o ca fr i g cap : Nat) (xs : List In) (nm : Nat → Nat) (w : World) (ha : CV w (some ⟨b, o, none⟩) (flat xs)) (hca : xs.length ≤ ca) (hn : xs.length ≤ 4096) (hi : i < xs.length) (hfr : fr ≤ i)
    (hg : ∀ j, j ≤ xs.length → w.cell? ⟨g, j, none⟩ = some (.int .i64 (nm j : Int))) (x : In) (hx : xs[i] = x) (hlv : leavesB x = true) (h6 : classV x.code.toNat = 6) :
    Calls Tryz.prog 38 #[.slice (some ⟨b, o, none⟩) xs.length ca, .int .i64 (fr : Int), .int .i64 (i : Int), .slice (some ⟨g, 0, none⟩) (xs.length + 1) cap] w (BlkP w ⟨(xs.drop fr).take (i - fr), 1, bareV x, 0, 0⟩) := by
  obtain ⟨b1, o1, hbo, hc⟩ := ha.insns hi
  simp only [Option.some.injEq, Addr.mk.injEq, and_true] at hbo
  obtain ⟨rfl, rfl⟩ := hbo
  obtain ⟨c0, c1, c2, c3⟩ := hc i hi
  rw [hx] at c0 c1 c2 c3
  clear hc hx
  have HA : Hid (CV w (some ⟨b, o, none⟩) (flat xs)) := ha
  have HG : Hid (∀ j, j ≤ xs.length → w.cell? ⟨g, j, none⟩ = some (.int .i64 (nm j : Int))) := hg
  obtain ⟨W, hW⟩ : ∃ W, (w.alloc (.cells #[.slice none 0 0, .int .i64 0, .int .u16 0, .int .u8 0, .int .u8 0, .int .u32 0, .int .i64 0, .int .i64 0] 56)).alloc (.cells #[.int .u16 (x.code.toNat : Int), .int .u8 (x.jt.toNat : Int), .int .u8 (x.jf.toNat : Int), .int .u32 (x.k.toNat : Int)] 54) = W := ⟨_, rfl⟩
  have AR : GVt W w.heap.size 56 #[.slice none 0 0, .int .i64 0, .int .u16 0, .int .u8 0, .int .u8 0, .int .u32 0, .int .i64 0, .int .i64 0] := by rw [← hW]; exact vkeep (vnew _ _ _ _ rfl) _
  have AX : GVt W (w.heap.size + 1) 54 #[.int .u16 (x.code.toNat : Int), .int .u8 (x.jt.toNat : Int), .int .u8 (x.jf.toNat : Int), .int .u32 (x.k.toNat : Int)] := by rw [← hW]; exact vnew _ _ _ _ (by simp only [World.size_alloc])
  have G0 : w.grownBy W none := by rw [← hW]; exact grown_trans (World.grownBy_alloc _ _ _) (World.grownBy_alloc _ _ _)
  have HW : Hid ((w.alloc (.cells #[.slice none 0 0, .int .i64 0, .int .u16 0, .int .u8 0, .int .u8 0, .int .u32 0, .int .i64 0, .int .i64 0] 56)).alloc (.cells #[.int .u16 (x.code.toNat : Int), .int .u8 (x.jt.toNat : Int), .int .u8 (x.jf.toNat : Int), .int .u32 (x.k.toNat : Int)] 54) = W) := hW
  have Z0 : w.grownBy (w.alloc (.cells #[.slice none 0 0, .int .i64 0, .int .u16 0, .int .u8 0, .int .u8 0, .int .u32 0, .int .i64 0, .int .i64 0] 56)) none := World.grownBy_alloc _ _ _
  have d0 := Z0.cell c0 (by simp)
  have d1 := Z0.cell c1 (by simp)
  have d2 := Z0.cell c2 (by simp)
  have d3 := Z0.cell c3 (by simp)
  clear hW ha hg Z0
  have hl : (i : Int) < (xs.length : Int) := by omega
  go_enter Tryz.func38, Tryz.ntmps38
  go_upto_region 2 with fail
  rw [HW.out]
  clear HW c0 c1 c2 c3 d0 d1 d2 d3
  obtain ⟨XB, hXB⟩ : ∃ k, w.heap.size + 1 = k := ⟨_, rfl⟩
  rw [hXB] at AX ⊢
  obtain ⟨R, hR⟩ : ∃ k, w.heap.size = k := ⟨_, rfl⟩
  have HR : Hid (w.heap.size ≤ R ∧ R ≠ XB) := ⟨by omega, by omega⟩
  rw [hR] at AR ⊢
  clear hXB hR
  have y0 : W.cell? ⟨XB, 0, none⟩ = some (.int .u16 (x.code.toNat : Int)) := AX.cell 0
  have y1 : W.cell? ⟨XB, 1, none⟩ = some (.int .u8 (x.jt.toNat : Int)) := AX.cell 1
  have y2 : W.cell? ⟨XB, 2, none⟩ = some (.int .u8 (x.jf.toNat : Int)) := AX.cell 2
  have y3 : W.cell? ⟨XB, 3, none⟩ = some (.int .u32 (x.k.toNat : Int)) := AX.cell 3
  go_wp2_with fail
  refine (leaves_any x _).mono ?_
  rintro e w1 ⟨rfl, K1⟩
  rw [hlv]
  have AR1 := AR.kept K1
  have AX1 := AX.kept K1
  have G1 := grown_trans G0 K1
  clear AR AX G0 K1 y0 y1 y2 y3

  have HC : Hid (∀ W : World, w.grownBy W none → Calls Tryz.prog 57 #[.slice (some ⟨b, o + fr * 4, none⟩) (i - fr) (ca - fr)] W fun e w' => ∃ v, e = .returned v ∧ IOwns w' W.heap.size v ((xs.drop fr).take (i - fr)) ∧ W.grownBy w' none) := fun W hW => by
    have := copied_any (some ⟨b, o + fr * 4, none⟩) (ca - fr) ((xs.drop fr).take (i - fr)) W (cv_part (HA.out.keptNone hW) fr (i - fr) (by omega)) (fun e => by cases e) (by rw [part15_len (by omega)]; omega)
    rwa [part15_len (by omega)] at this
  have h1 : (fr : Int) ≤ (i : Int) := by omega
  have h2 : (i : Int) ≤ (ca : Int) := by omega
  have h6 : ¬ ca = fr := by omega
  generalize (xs.drop fr).take (i - fr) = ys at *
  go_wp2_with fail
  refine (HC.out _ G1).mono ?_
  rintro e w2 ⟨v, rfl, O2, K2⟩
  have O2 := owns_mono O2 G1.size
  obtain ⟨a2, ca2, rfl, -, -⟩ := cv_of_row O2
  have AR2 := AR1.kept K2
  have AX2 := AX1.kept K2
  have G2 := grown_trans G1 K2
  have hRw : R < w2.heap.size := AR2.lt
  have hXw : XB < w2.heap.size := AX2.lt
  have AD3 := GVt.alloc w2 56 #[.slice a2 ys.length ca2, .int .i64 0, .int .u16 0, .int .u8 0, .int .u8 0, .int .u32 0, .int .i64 0, .int .i64 0]
  have KD : w2.grownBy (w2.alloc (.cells #[.slice a2 ys.length ca2, .int .i64 0, .int .u16 0, .int .u8 0, .int .u8 0, .int .u32 0, .int .i64 0, .int .i64 0] 56)) none := World.grownBy_alloc _ _ _
  clear AR1 AX1 G1 K2 HC h1 h2 h6
  go_upto_region 5 with fail
  have AR3 := AR2.kept KD
  have AX3 := AX2.kept KD
  have O3 := owns_keptNone O2 KD
  have G3 := grown_trans G2 KD
  have hDw : w.heap.size ≤ w2.heap.size := G2.size
  clear AR2 AX2 O2 G2 KD
  generalize w2.alloc (.cells #[.slice a2 ys.length ca2, .int .i64 0, .int .u16 0, .int .u8 0, .int .u8 0, .int .u32 0, .int .i64 0, .int .i64 0] 56) = w3 at *
  generalize w2.heap.size = D at *
  have hDR : D ≠ R := by omega
  have hDX : D ≠ XB := by omega
  have z0 : w3.cell? ⟨XB, 0, none⟩ = some (.int .u16 (x.code.toNat : Int)) := AX3.cell 0
  go_wp2_with fail
  refine (class_any _ _ (code_lt x).1 (code_lt x).2).mono ?_
  rintro e w4 ⟨rfl, K4⟩
  have AR4 := AR3.kept K4
  have AX4 := AX3.kept K4
  have AD4 := AD3.kept K4
  have O4 := owns_keptNone O3 K4
  have G4 := grown_trans G3 K4
  clear AR3 AX3 AD3 O3 G3 K4 z0

  rw [h6]
  have y0 : w4.cell? ⟨XB, 0, none⟩ = some (.int .u16 (x.code.toNat : Int)) := AX4.cell 0
  have y1 : w4.cell? ⟨XB, 1, none⟩ = some (.int .u8 (x.jt.toNat : Int)) := AX4.cell 1
  have y2 : w4.cell? ⟨XB, 2, none⟩ = some (.int .u8 (x.jf.toNat : Int)) := AX4.cell 2
  have y3 : w4.cell? ⟨XB, 3, none⟩ = some (.int .u32 (x.k.toNat : Int)) := AX4.cell 3
  go_wp2_with fail
  refine (gbare_any x _).mono ?_
  rintro e w5 ⟨rfl, K5⟩
  have AR5 := AR4.kept K5
  have AD5 := AD4.kept K5
  have O5 := owns_keptNone O4 K5
  have G5 := grown_trans G4 K5
  clear AR4 AX4 AD4 O4 G4 K5 y0 y1 y2 y3
  generalize bareV x = bx at *
  have e1 : w5.cell? ⟨D, 1, none⟩ = some (.int .i64 0) := AD5.cell 1
  have e2 : w5.cell? ⟨D, 2, none⟩ = some (.int .u16 0) := AD5.cell 2
  have e3 : w5.cell? ⟨D, 3, none⟩ = some (.int .u8 0) := AD5.cell 3
  have e4 : w5.cell? ⟨D, 4, none⟩ = some (.int .u8 0) := AD5.cell 4
  have e5 : w5.cell? ⟨D, 5, none⟩ = some (.int .u32 0) := AD5.cell 5
  have f1 := AD5.free 1
  have f2 := AD5.free 2
  have f3 := AD5.free 3
  have f4 := AD5.free 4
  have f5 := AD5.free 5
  go_upto_region 7 with fail
  clear e1 e2 e3 e4 e5 f1 f2 f3 f4 f5
  have AD6 : GVt (((((w5.setCell ⟨D, 1, none⟩ (.int .i64 1)).setCell ⟨D, 2, none⟩ (.int .u16 (bx.code.toNat : Int))).setCell ⟨D, 3, none⟩ (.int .u8 (bx.jt.toNat : Int))).setCell ⟨D, 4, none⟩ (.int .u8 (bx.jf.toNat : Int))).setCell ⟨D, 5, none⟩ (.int .u32 (bx.k.toNat : Int))) D 56 #[.slice a2 ys.length ca2, .int .i64 1, .int .u16 (bx.code.toNat : Int), .int .u8 (bx.jt.toNat : Int), .int .u8 (bx.jf.toNat : Int), .int .u32 (bx.k.toNat : Int), .int .i64 0, .int .i64 0] := (((((AD5.set 1 (.int .i64 1)).set 2 (.int .u16 (bx.code.toNat : Int))).set 3 (.int .u8 (bx.jt.toNat : Int))).set 4 (.int .u8 (bx.jf.toNat : Int))).set 5 (.int .u32 (bx.k.toNat : Int)))
  have K6 : w5.grownBy (((((w5.setCell ⟨D, 1, none⟩ (.int .i64 1)).setCell ⟨D, 2, none⟩ (.int .u16 (bx.code.toNat : Int))).setCell ⟨D, 3, none⟩ (.int .u8 (bx.jt.toNat : Int))).setCell ⟨D, 4, none⟩ (.int .u8 (bx.jf.toNat : Int))).setCell ⟨D, 5, none⟩ (.int .u32 (bx.k.toNat : Int))) (some D) := grown_trans (grown_trans (grown_trans (grown_trans (grown_trans (World.grownBy.refl w5 (some D)) (grown_set1 w5 ⟨D, 1, none⟩ (.int .i64 1))) (grown_set1 (w5.setCell ⟨D, 1, none⟩ (.int .i64 1)) ⟨D, 2, none⟩ (.int .u16 (bx.code.toNat : Int)))) (grown_set1 ((w5.setCell ⟨D, 1, none⟩ (.int .i64 1)).setCell ⟨D, 2, none⟩ (.int .u16 (bx.code.toNat : Int))) ⟨D, 3, none⟩ (.int .u8 (bx.jt.toNat : Int)))) (grown_set1 (((w5.setCell ⟨D, 1, none⟩ (.int .i64 1)).setCell ⟨D, 2, none⟩ (.int .u16 (bx.code.toNat : Int))).setCell ⟨D, 3, none⟩ (.int .u8 (bx.jt.toNat : Int))) ⟨D, 4, none⟩ (.int .u8 (bx.jf.toNat : Int)))) (grown_set1 ((((w5.setCell ⟨D, 1, none⟩ (.int .i64 1)).setCell ⟨D, 2, none⟩ (.int .u16 (bx.code.toNat : Int))).setCell ⟨D, 3, none⟩ (.int .u8 (bx.jt.toNat : Int))).setCell ⟨D, 4, none⟩ (.int .u8 (bx.jf.toNat : Int))) ⟨D, 5, none⟩ (.int .u32 (bx.k.toNat : Int)))
  have G6 : w.grownBy (((((w5.setCell ⟨D, 1, none⟩ (.int .i64 1)).setCell ⟨D, 2, none⟩ (.int .u16 (bx.code.toNat : Int))).setCell ⟨D, 3, none⟩ (.int .u8 (bx.jt.toNat : Int))).setCell ⟨D, 4, none⟩ (.int .u8 (bx.jf.toNat : Int))).setCell ⟨D, 5, none⟩ (.int .u32 (bx.k.toNat : Int))) none := grown_trans_new G5 K6 (fun z e => by cases e; exact hDw)
  have AR6 := AR5.grown K6 (by simpa using Ne.symm (Ne.symm hDR))
  have O6 := own_insn O5 K6 AD5
  clear AD5 AR5 O5 G5 K6
  generalize (((((w5.setCell ⟨D, 1, none⟩ (.int .i64 1)).setCell ⟨D, 2, none⟩ (.int .u16 (bx.code.toNat : Int))).setCell ⟨D, 3, none⟩ (.int .u8 (bx.jt.toNat : Int))).setCell ⟨D, 4, none⟩ (.int .u8 (bx.jf.toNat : Int))).setCell ⟨D, 5, none⟩ (.int .u32 (bx.k.toNat : Int))) = w6 at *
  have KR : w6.grownBy (w6.setRow R #[.slice a2 ys.length ca2, .int .i64 1, .int .u16 (bx.code.toNat : Int), .int .u8 (bx.jt.toNat : Int), .int .u8 (bx.jf.toNat : Int), .int .u32 (bx.k.toNat : Int), .int .i64 0, .int .i64 0]) (some R) := gvgrown_setRow (World.grownBy.refl _ _) _ _ (.inl rfl)
  have OF := own_insn O6 KR AR6
  have GF : w.grownBy (w6.setRow R #[.slice a2 ys.length ca2, .int .i64 1, .int .u16 (bx.code.toNat : Int), .int .u8 (bx.jt.toNat : Int), .int .u8 (bx.jf.toNat : Int), .int .u32 (bx.k.toNat : Int), .int .i64 0, .int .i64 0]) none := gvgrown_setRow G6 _ _ (.inr HR.out.1)
  go_wp2_with (first | refine wpList_load_row rfl 56 (.tmp 10) rfl D rfl 56 #[.slice a2 ys.length ca2, .int .i64 1, .int .u16 (bx.code.toNat : Int), .int .u8 (bx.jt.toNat : Int), .int .u8 (bx.jf.toNat : Int), .int .u32 (bx.k.toNat : Int), .int .i64 0, .int .i64 0] (0, 0) _ AD6 Tryz.underlying56 rfl sizeBk ?_ | refine wpList_store_row rfl 56 (.tmp 8) (.tmp 46) rfl R #[.slice a2 ys.length ca2, .int .i64 1, .int .u16 (bx.code.toNat : Int), .int .u8 (bx.jt.toNat : Int), .int .u8 (bx.jf.toNat : Int), .int .u32 (bx.k.toNat : Int), .int .i64 0, .int .i64 0] rfl rfl 56 _ AR6 sizeBk rfl (bk_all _ _ _ _ _ _ _ _ _ _) ?_)
  refine bodyPost_ret (results_cell_row rfl _ _ R _ #[.slice a2 ys.length ca2, .int .i64 1, .int .u16 (bx.code.toNat : Int), .int .u8 (bx.jt.toNat : Int), .int .u8 (bx.jf.toNat : Int), .int .u32 (bx.k.toNat : Int), .int .i64 0, .int .i64 0] (0, 0) _ rfl (AR6.setRow _) Tryz.underlying56 rfl sizeBk) rfl ?_
  exact ⟨a2, ca2, rfl, OF, GF⟩

set_option maxHeartbeats 4000000 in
theorem block_ja (b o ca fr i g cap : Nat) (xs : List In) (nm : Nat → Nat) (w : World) (ha : CV w (some ⟨b, o, none⟩) (flat xs)) (hca : xs.length ≤ ca) (hn : xs.length ≤ 4096) (hi : i < xs.length) (hfr : fr ≤ i)
    (hg : ∀ j, j ≤ xs.length → w.cell? ⟨g, j, none⟩ = some (.int .i64 (nm j : Int))) (x : In) (hx : xs[i] = x) (hlv : leavesB x = true) (h5 : classV x.code.toNat = 5) (hy : yesG i x < xs.length) (hno : noG i x < xs.length) (hja : ((x.code.toNat : Int) == 5) = true) :
    Calls Tryz.prog 38 #[.slice (some ⟨b, o, none⟩) xs.length ca, .int .i64 (fr : Int), .int .i64 (i : Int), .slice (some ⟨g, 0, none⟩) (xs.length + 1) cap] w (BlkP w ⟨(xs.drop fr).take (i - fr), 2, in0, (nm (yesG i x) : Int), 0⟩) := by
  obtain ⟨b1, o1, hbo, hc⟩ := ha.insns hi
  simp only [Option.some.injEq, Addr.mk.injEq, and_true] at hbo
  obtain ⟨rfl, rfl⟩ := hbo
  obtain ⟨c0, c1, c2, c3⟩ := hc i hi
  rw [hx] at c0 c1 c2 c3
  clear hc hx
  have HA : Hid (CV w (some ⟨b, o, none⟩) (flat xs)) := ha
  have HG : Hid (∀ j, j ≤ xs.length → w.cell? ⟨g, j, none⟩ = some (.int .i64 (nm j : Int))) := hg
  obtain ⟨W, hW⟩ : ∃ W, (w.alloc (.cells #[.slice none 0 0, .int .i64 0, .int .u16 0, .int .u8 0, .int .u8 0, .int .u32 0, .int .i64 0, .int .i64 0] 56)).alloc (.cells #[.int .u16 (x.code.toNat : Int), .int .u8 (x.jt.toNat : Int), .int .u8 (x.jf.toNat : Int), .int .u32 (x.k.toNat : Int)] 54) = W := ⟨_, rfl⟩
  have AR : GVt W w.heap.size 56 #[.slice none 0 0, .int .i64 0, .int .u16 0, .int .u8 0, .int .u8 0, .int .u32 0, .int .i64 0, .int .i64 0] := by rw [← hW]; exact vkeep (vnew _ _ _ _ rfl) _
  have AX : GVt W (w.heap.size + 1) 54 #[.int .u16 (x.code.toNat : Int), .int .u8 (x.jt.toNat : Int), .int .u8 (x.jf.toNat : Int), .int .u32 (x.k.toNat : Int)] := by rw [← hW]; exact vnew _ _ _ _ (by simp only [World.size_alloc])
  have G0 : w.grownBy W none := by rw [← hW]; exact grown_trans (World.grownBy_alloc _ _ _) (World.grownBy_alloc _ _ _)
  have HW : Hid ((w.alloc (.cells #[.slice none 0 0, .int .i64 0, .int .u16 0, .int .u8 0, .int .u8 0, .int .u32 0, .int .i64 0, .int .i64 0] 56)).alloc (.cells #[.int .u16 (x.code.toNat : Int), .int .u8 (x.jt.toNat : Int), .int .u8 (x.jf.toNat : Int), .int .u32 (x.k.toNat : Int)] 54) = W) := hW
  have Z0 : w.grownBy (w.alloc (.cells #[.slice none 0 0, .int .i64 0, .int .u16 0, .int .u8 0, .int .u8 0, .int .u32 0, .int .i64 0, .int .i64 0] 56)) none := World.grownBy_alloc _ _ _
  have d0 := Z0.cell c0 (by simp)
  have d1 := Z0.cell c1 (by simp)
  have d2 := Z0.cell c2 (by simp)
  have d3 := Z0.cell c3 (by simp)
  clear hW ha hg Z0
  have hl : (i : Int) < (xs.length : Int) := by omega
  go_enter Tryz.func38, Tryz.ntmps38
  go_upto_region 2 with fail
  rw [HW.out]
  clear HW c0 c1 c2 c3 d0 d1 d2 d3
  obtain ⟨XB, hXB⟩ : ∃ k, w.heap.size + 1 = k := ⟨_, rfl⟩
  rw [hXB] at AX ⊢
  obtain ⟨R, hR⟩ : ∃ k, w.heap.size = k := ⟨_, rfl⟩
  have HR : Hid (w.heap.size ≤ R ∧ R ≠ XB) := ⟨by omega, by omega⟩
  rw [hR] at AR ⊢
  clear hXB hR
  have y0 : W.cell? ⟨XB, 0, none⟩ = some (.int .u16 (x.code.toNat : Int)) := AX.cell 0
  have y1 : W.cell? ⟨XB, 1, none⟩ = some (.int .u8 (x.jt.toNat : Int)) := AX.cell 1
  have y2 : W.cell? ⟨XB, 2, none⟩ = some (.int .u8 (x.jf.toNat : Int)) := AX.cell 2
  have y3 : W.cell? ⟨XB, 3, none⟩ = some (.int .u32 (x.k.toNat : Int)) := AX.cell 3
  go_wp2_with fail
  refine (leaves_any x _).mono ?_
  rintro e w1 ⟨rfl, K1⟩
  rw [hlv]
  have AR1 := AR.kept K1
  have AX1 := AX.kept K1
  have G1 := grown_trans G0 K1
  clear AR AX G0 K1 y0 y1 y2 y3

  have HC : Hid (∀ W : World, w.grownBy W none → Calls Tryz.prog 57 #[.slice (some ⟨b, o + fr * 4, none⟩) (i - fr) (ca - fr)] W fun e w' => ∃ v, e = .returned v ∧ IOwns w' W.heap.size v ((xs.drop fr).take (i - fr)) ∧ W.grownBy w' none) := fun W hW => by
    have := copied_any (some ⟨b, o + fr * 4, none⟩) (ca - fr) ((xs.drop fr).take (i - fr)) W (cv_part (HA.out.keptNone hW) fr (i - fr) (by omega)) (fun e => by cases e) (by rw [part15_len (by omega)]; omega)
    rwa [part15_len (by omega)] at this
  have h1 : (fr : Int) ≤ (i : Int) := by omega
  have h2 : (i : Int) ≤ (ca : Int) := by omega
  have h6 : ¬ ca = fr := by omega
  generalize (xs.drop fr).take (i - fr) = ys at *
  go_wp2_with fail
  refine (HC.out _ G1).mono ?_
  rintro e w2 ⟨v, rfl, O2, K2⟩
  have O2 := owns_mono O2 G1.size
  obtain ⟨a2, ca2, rfl, -, -⟩ := cv_of_row O2
  have AR2 := AR1.kept K2
  have AX2 := AX1.kept K2
  have G2 := grown_trans G1 K2
  have hRw : R < w2.heap.size := AR2.lt
  have hXw : XB < w2.heap.size := AX2.lt
  have AD3 := GVt.alloc w2 56 #[.slice a2 ys.length ca2, .int .i64 0, .int .u16 0, .int .u8 0, .int .u8 0, .int .u32 0, .int .i64 0, .int .i64 0]
  have KD : w2.grownBy (w2.alloc (.cells #[.slice a2 ys.length ca2, .int .i64 0, .int .u16 0, .int .u8 0, .int .u8 0, .int .u32 0, .int .i64 0, .int .i64 0] 56)) none := World.grownBy_alloc _ _ _
  clear AR1 AX1 G1 K2 HC h1 h2 h6
  go_upto_region 5 with fail
  have AR3 := AR2.kept KD
  have AX3 := AX2.kept KD
  have O3 := owns_keptNone O2 KD
  have G3 := grown_trans G2 KD
  have hDw : w.heap.size ≤ w2.heap.size := G2.size
  clear AR2 AX2 O2 G2 KD
  generalize w2.alloc (.cells #[.slice a2 ys.length ca2, .int .i64 0, .int .u16 0, .int .u8 0, .int .u8 0, .int .u32 0, .int .i64 0, .int .i64 0] 56) = w3 at *
  generalize w2.heap.size = D at *
  have hDR : D ≠ R := by omega
  have hDX : D ≠ XB := by omega
  have z0 : w3.cell? ⟨XB, 0, none⟩ = some (.int .u16 (x.code.toNat : Int)) := AX3.cell 0
  go_wp2_with fail
  refine (class_any _ _ (code_lt x).1 (code_lt x).2).mono ?_
  rintro e w4 ⟨rfl, K4⟩
  have AR4 := AR3.kept K4
  have AX4 := AX3.kept K4
  have AD4 := AD3.kept K4
  have O4 := owns_keptNone O3 K4
  have G4 := grown_trans G3 K4
  clear AR3 AX3 AD3 O3 G3 K4 z0

  rw [h5]
  have y0 : w4.cell? ⟨XB, 0, none⟩ = some (.int .u16 (x.code.toNat : Int)) := AX4.cell 0
  have y1 : w4.cell? ⟨XB, 1, none⟩ = some (.int .u8 (x.jt.toNat : Int)) := AX4.cell 1
  have y2 : w4.cell? ⟨XB, 2, none⟩ = some (.int .u8 (x.jf.toNat : Int)) := AX4.cell 2
  have y3 : w4.cell? ⟨XB, 3, none⟩ = some (.int .u32 (x.k.toNat : Int)) := AX4.cell 3
  have CG := goals_any i (by omega) x w4
  have HGY := HG.out (yesG i x) (by omega)
  have HGN := HG.out (noG i x) (by omega)
  have hgw : g < w.heap.size := by
    by_cases hb : g < w.heap.size
    · exact hb
    · unfold World.cell? at HGY
      rw [Array.getElem?_eq_none (by simpa using hb)] at HGY
      simp at HGY
  generalize nm (yesG i x) = ny at *
  generalize nm (noG i x) = nn at *
  generalize yesG i x = ye at *
  generalize noG i x = ne at *
  go_wp2_with fail
  refine CG.mono ?_
  rintro e w5 ⟨rfl, K5⟩
  have AR5 := AR4.kept K5
  have AD5 := AD4.kept K5
  have AX5 := AX4.kept K5
  have O5 := owns_keptNone O4 K5
  have G5 := grown_trans G4 K5
  clear AR4 AX4 AD4 O4 G4 K5 y0 y1 y2 y3 CG
  have y0 : w5.cell? ⟨XB, 0, none⟩ = some (.int .u16 (x.code.toNat : Int)) := AX5.cell 0
  have gy := G5.cell HGY (by simp)
  have i1 : (ye : Int) < (xs.length : Int) + 1 := by omega
  have i2 : (ne : Int) < (xs.length : Int) + 1 := by omega
  have e6 : w5.cell? ⟨D, 6, none⟩ = some (.int .i64 0) := AD5.cell 6
  have f6 := AD5.free 6

  have K6' := grown_set1 w5 ⟨D, 6, none⟩ (.int .i64 (ny : Int))
  have AD6' := AD5.set 6 (.int .i64 (ny : Int))
  have AX6' := AX5.grown K6' (by simpa using hDX)
  have z0 : (w5.setCell ⟨D, 6, none⟩ (.int .i64 (ny : Int))).cell? ⟨XB, 0, none⟩ = some (.int .u16 (x.code.toNat : Int)) := AX6'.cell 0
  have z1 : (w5.setCell ⟨D, 6, none⟩ (.int .i64 (ny : Int))).cell? ⟨D, 1, none⟩ = some (.int .i64 0) := AD6'.cell 1
  have f1 := AD6'.free 1
  clear K6' AD6' AX6' AX5
  go_upto_region 12 with fail
  clear y0 gy e6 f6 z0 z1 f1
  have AD6 : GVt ((w5.setCell ⟨D, 6, none⟩ (.int .i64 (ny : Int))).setCell ⟨D, 1, none⟩ (.int .i64 2)) D 56 #[.slice a2 ys.length ca2, .int .i64 2, .int .u16 0, .int .u8 0, .int .u8 0, .int .u32 0, .int .i64 (ny : Int), .int .i64 0] := ((AD5.set 6 (.int .i64 (ny : Int))).set 1 (.int .i64 2))
  have K6 : w5.grownBy ((w5.setCell ⟨D, 6, none⟩ (.int .i64 (ny : Int))).setCell ⟨D, 1, none⟩ (.int .i64 2)) (some D) := grown_trans (grown_trans (World.grownBy.refl w5 (some D)) (grown_set1 w5 ⟨D, 6, none⟩ (.int .i64 (ny : Int)))) (grown_set1 (w5.setCell ⟨D, 6, none⟩ (.int .i64 (ny : Int))) ⟨D, 1, none⟩ (.int .i64 2))
  have G6 : w.grownBy ((w5.setCell ⟨D, 6, none⟩ (.int .i64 (ny : Int))).setCell ⟨D, 1, none⟩ (.int .i64 2)) none := grown_trans_new G5 K6 (fun z e => by cases e; exact hDw)
  have AR6 := AR5.grown K6 (by simpa using Ne.symm (Ne.symm hDR))
  have O6 := own_insn O5 K6 AD5
  clear AD5 AR5 O5 G5 K6
  generalize ((w5.setCell ⟨D, 6, none⟩ (.int .i64 (ny : Int))).setCell ⟨D, 1, none⟩ (.int .i64 2)) = w6 at *
  have KR : w6.grownBy (w6.setRow R #[.slice a2 ys.length ca2, .int .i64 2, .int .u16 0, .int .u8 0, .int .u8 0, .int .u32 0, .int .i64 (ny : Int), .int .i64 0]) (some R) := gvgrown_setRow (World.grownBy.refl _ _) _ _ (.inl rfl)
  have OF := own_insn O6 KR AR6
  have GF : w.grownBy (w6.setRow R #[.slice a2 ys.length ca2, .int .i64 2, .int .u16 0, .int .u8 0, .int .u8 0, .int .u32 0, .int .i64 (ny : Int), .int .i64 0]) none := gvgrown_setRow G6 _ _ (.inr HR.out.1)
  go_wp2_with (first | refine wpList_load_row rfl 56 (.tmp 10) rfl D rfl 56 #[.slice a2 ys.length ca2, .int .i64 2, .int .u16 0, .int .u8 0, .int .u8 0, .int .u32 0, .int .i64 (ny : Int), .int .i64 0] (0, 0) _ AD6 Tryz.underlying56 rfl sizeBk ?_ | refine wpList_store_row rfl 56 (.tmp 8) (.tmp 62) rfl R #[.slice a2 ys.length ca2, .int .i64 2, .int .u16 0, .int .u8 0, .int .u8 0, .int .u32 0, .int .i64 (ny : Int), .int .i64 0] rfl rfl 56 _ AR6 sizeBk rfl (bk_all _ _ _ _ _ _ _ _ _ _) ?_)
  refine bodyPost_ret (results_cell_row rfl _ _ R _ #[.slice a2 ys.length ca2, .int .i64 2, .int .u16 0, .int .u8 0, .int .u8 0, .int .u32 0, .int .i64 (ny : Int), .int .i64 0] (0, 0) _ rfl (AR6.setRow _) Tryz.underlying56 rfl sizeBk) rfl ?_
  exact ⟨a2, ca2, rfl, OF, GF⟩

set_option maxHeartbeats 4000000 in
theorem block_test (b o ca fr i g cap : Nat) (xs : List In) (nm : Nat → Nat) (w : World) (ha : CV w (some ⟨b, o, none⟩) (flat xs)) (hca : xs.length ≤ ca) (hn : xs.length ≤ 4096) (hi : i < xs.length) (hfr : fr ≤ i)
    (hg : ∀ j, j ≤ xs.length → w.cell? ⟨g, j, none⟩ = some (.int .i64 (nm j : Int))) (x : In) (hx : xs[i] = x) (hlv : leavesB x = true) (h5 : classV x.code.toNat = 5) (hy : yesG i x < xs.length) (hno : noG i x < xs.length) (hja : ((x.code.toNat : Int) == 5) = false) :
    Calls Tryz.prog 38 #[.slice (some ⟨b, o, none⟩) xs.length ca, .int .i64 (fr : Int), .int .i64 (i : Int), .slice (some ⟨g, 0, none⟩) (xs.length + 1) cap] w (BlkP w ⟨(xs.drop fr).take (i - fr), 3, bareV x, (nm (yesG i x) : Int), (nm (noG i x) : Int)⟩) := by
  obtain ⟨b1, o1, hbo, hc⟩ := ha.insns hi
  simp only [Option.some.injEq, Addr.mk.injEq, and_true] at hbo
  obtain ⟨rfl, rfl⟩ := hbo
  obtain ⟨c0, c1, c2, c3⟩ := hc i hi
  rw [hx] at c0 c1 c2 c3
  clear hc hx
  have HA : Hid (CV w (some ⟨b, o, none⟩) (flat xs)) := ha
  have HG : Hid (∀ j, j ≤ xs.length → w.cell? ⟨g, j, none⟩ = some (.int .i64 (nm j : Int))) := hg
  obtain ⟨W, hW⟩ : ∃ W, (w.alloc (.cells #[.slice none 0 0, .int .i64 0, .int .u16 0, .int .u8 0, .int .u8 0, .int .u32 0, .int .i64 0, .int .i64 0] 56)).alloc (.cells #[.int .u16 (x.code.toNat : Int), .int .u8 (x.jt.toNat : Int), .int .u8 (x.jf.toNat : Int), .int .u32 (x.k.toNat : Int)] 54) = W := ⟨_, rfl⟩
  have AR : GVt W w.heap.size 56 #[.slice none 0 0, .int .i64 0, .int .u16 0, .int .u8 0, .int .u8 0, .int .u32 0, .int .i64 0, .int .i64 0] := by rw [← hW]; exact vkeep (vnew _ _ _ _ rfl) _
  have AX : GVt W (w.heap.size + 1) 54 #[.int .u16 (x.code.toNat : Int), .int .u8 (x.jt.toNat : Int), .int .u8 (x.jf.toNat : Int), .int .u32 (x.k.toNat : Int)] := by rw [← hW]; exact vnew _ _ _ _ (by simp only [World.size_alloc])
  have G0 : w.grownBy W none := by rw [← hW]; exact grown_trans (World.grownBy_alloc _ _ _) (World.grownBy_alloc _ _ _)
  have HW : Hid ((w.alloc (.cells #[.slice none 0 0, .int .i64 0, .int .u16 0, .int .u8 0, .int .u8 0, .int .u32 0, .int .i64 0, .int .i64 0] 56)).alloc (.cells #[.int .u16 (x.code.toNat : Int), .int .u8 (x.jt.toNat : Int), .int .u8 (x.jf.toNat : Int), .int .u32 (x.k.toNat : Int)] 54) = W) := hW
  have Z0 : w.grownBy (w.alloc (.cells #[.slice none 0 0, .int .i64 0, .int .u16 0, .int .u8 0, .int .u8 0, .int .u32 0, .int .i64 0, .int .i64 0] 56)) none := World.grownBy_alloc _ _ _
  have d0 := Z0.cell c0 (by simp)
  have d1 := Z0.cell c1 (by simp)
  have d2 := Z0.cell c2 (by simp)
  have d3 := Z0.cell c3 (by simp)
  clear hW ha hg Z0
  have hl : (i : Int) < (xs.length : Int) := by omega
  go_enter Tryz.func38, Tryz.ntmps38
  go_upto_region 2 with fail
  rw [HW.out]
  clear HW c0 c1 c2 c3 d0 d1 d2 d3
  obtain ⟨XB, hXB⟩ : ∃ k, w.heap.size + 1 = k := ⟨_, rfl⟩
  rw [hXB] at AX ⊢
  obtain ⟨R, hR⟩ : ∃ k, w.heap.size = k := ⟨_, rfl⟩
  have HR : Hid (w.heap.size ≤ R ∧ R ≠ XB) := ⟨by omega, by omega⟩
  rw [hR] at AR ⊢
  clear hXB hR
  have y0 : W.cell? ⟨XB, 0, none⟩ = some (.int .u16 (x.code.toNat : Int)) := AX.cell 0
  have y1 : W.cell? ⟨XB, 1, none⟩ = some (.int .u8 (x.jt.toNat : Int)) := AX.cell 1
  have y2 : W.cell? ⟨XB, 2, none⟩ = some (.int .u8 (x.jf.toNat : Int)) := AX.cell 2
  have y3 : W.cell? ⟨XB, 3, none⟩ = some (.int .u32 (x.k.toNat : Int)) := AX.cell 3
  go_wp2_with fail
  refine (leaves_any x _).mono ?_
  rintro e w1 ⟨rfl, K1⟩
  rw [hlv]
  have AR1 := AR.kept K1
  have AX1 := AX.kept K1
  have G1 := grown_trans G0 K1
  clear AR AX G0 K1 y0 y1 y2 y3

  have HC : Hid (∀ W : World, w.grownBy W none → Calls Tryz.prog 57 #[.slice (some ⟨b, o + fr * 4, none⟩) (i - fr) (ca - fr)] W fun e w' => ∃ v, e = .returned v ∧ IOwns w' W.heap.size v ((xs.drop fr).take (i - fr)) ∧ W.grownBy w' none) := fun W hW => by
    have := copied_any (some ⟨b, o + fr * 4, none⟩) (ca - fr) ((xs.drop fr).take (i - fr)) W (cv_part (HA.out.keptNone hW) fr (i - fr) (by omega)) (fun e => by cases e) (by rw [part15_len (by omega)]; omega)
    rwa [part15_len (by omega)] at this
  have h1 : (fr : Int) ≤ (i : Int) := by omega
  have h2 : (i : Int) ≤ (ca : Int) := by omega
  have h6 : ¬ ca = fr := by omega
  generalize (xs.drop fr).take (i - fr) = ys at *
  go_wp2_with fail
  refine (HC.out _ G1).mono ?_
  rintro e w2 ⟨v, rfl, O2, K2⟩
  have O2 := owns_mono O2 G1.size
  obtain ⟨a2, ca2, rfl, -, -⟩ := cv_of_row O2
  have AR2 := AR1.kept K2
  have AX2 := AX1.kept K2
  have G2 := grown_trans G1 K2
  have hRw : R < w2.heap.size := AR2.lt
  have hXw : XB < w2.heap.size := AX2.lt
  have AD3 := GVt.alloc w2 56 #[.slice a2 ys.length ca2, .int .i64 0, .int .u16 0, .int .u8 0, .int .u8 0, .int .u32 0, .int .i64 0, .int .i64 0]
  have KD : w2.grownBy (w2.alloc (.cells #[.slice a2 ys.length ca2, .int .i64 0, .int .u16 0, .int .u8 0, .int .u8 0, .int .u32 0, .int .i64 0, .int .i64 0] 56)) none := World.grownBy_alloc _ _ _
  clear AR1 AX1 G1 K2 HC h1 h2 h6
  go_upto_region 5 with fail
  have AR3 := AR2.kept KD
  have AX3 := AX2.kept KD
  have O3 := owns_keptNone O2 KD
  have G3 := grown_trans G2 KD
  have hDw : w.heap.size ≤ w2.heap.size := G2.size
  clear AR2 AX2 O2 G2 KD
  generalize w2.alloc (.cells #[.slice a2 ys.length ca2, .int .i64 0, .int .u16 0, .int .u8 0, .int .u8 0, .int .u32 0, .int .i64 0, .int .i64 0] 56) = w3 at *
  generalize w2.heap.size = D at *
  have hDR : D ≠ R := by omega
  have hDX : D ≠ XB := by omega
  have z0 : w3.cell? ⟨XB, 0, none⟩ = some (.int .u16 (x.code.toNat : Int)) := AX3.cell 0
  go_wp2_with fail
  refine (class_any _ _ (code_lt x).1 (code_lt x).2).mono ?_
  rintro e w4 ⟨rfl, K4⟩
  have AR4 := AR3.kept K4
  have AX4 := AX3.kept K4
  have AD4 := AD3.kept K4
  have O4 := owns_keptNone O3 K4
  have G4 := grown_trans G3 K4
  clear AR3 AX3 AD3 O3 G3 K4 z0

  rw [h5]
  have y0 : w4.cell? ⟨XB, 0, none⟩ = some (.int .u16 (x.code.toNat : Int)) := AX4.cell 0
  have y1 : w4.cell? ⟨XB, 1, none⟩ = some (.int .u8 (x.jt.toNat : Int)) := AX4.cell 1
  have y2 : w4.cell? ⟨XB, 2, none⟩ = some (.int .u8 (x.jf.toNat : Int)) := AX4.cell 2
  have y3 : w4.cell? ⟨XB, 3, none⟩ = some (.int .u32 (x.k.toNat : Int)) := AX4.cell 3
  have CG := goals_any i (by omega) x w4
  have HGY := HG.out (yesG i x) (by omega)
  have HGN := HG.out (noG i x) (by omega)
  have hgw : g < w.heap.size := by
    by_cases hb : g < w.heap.size
    · exact hb
    · unfold World.cell? at HGY
      rw [Array.getElem?_eq_none (by simpa using hb)] at HGY
      simp at HGY
  generalize nm (yesG i x) = ny at *
  generalize nm (noG i x) = nn at *
  generalize yesG i x = ye at *
  generalize noG i x = ne at *
  go_wp2_with fail
  refine CG.mono ?_
  rintro e w5 ⟨rfl, K5⟩
  have AR5 := AR4.kept K5
  have AD5 := AD4.kept K5
  have AX5 := AX4.kept K5
  have O5 := owns_keptNone O4 K5
  have G5 := grown_trans G4 K5
  clear AR4 AX4 AD4 O4 G4 K5 y0 y1 y2 y3 CG
  have y0 : w5.cell? ⟨XB, 0, none⟩ = some (.int .u16 (x.code.toNat : Int)) := AX5.cell 0
  have gy := G5.cell HGY (by simp)
  have i1 : (ye : Int) < (xs.length : Int) + 1 := by omega
  have i2 : (ne : Int) < (xs.length : Int) + 1 := by omega
  have e6 : w5.cell? ⟨D, 6, none⟩ = some (.int .i64 0) := AD5.cell 6
  have f6 := AD5.free 6

  have K6 := grown_set1 w5 ⟨D, 6, none⟩ (.int .i64 (ny : Int))
  have AD6 : GVt (w5.setCell ⟨D, 6, none⟩ (.int .i64 (ny : Int))) D 56 #[.slice a2 ys.length ca2, .int .i64 0, .int .u16 0, .int .u8 0, .int .u8 0, .int .u32 0, .int .i64 (ny : Int), .int .i64 0] := AD5.set 6 (.int .i64 (ny : Int))
  have AX6 := AX5.grown K6 (by simpa using hDX)
  have AR6 := AR5.grown K6 (by simpa using hDR)
  have O6 := own_insn O5 K6 AD5
  have G6 : w.grownBy (w5.setCell ⟨D, 6, none⟩ (.int .i64 (ny : Int))) none := grown_trans_new G5 K6 (fun z e => by cases e; exact hDw)
  have z0 : (w5.setCell ⟨D, 6, none⟩ (.int .i64 (ny : Int))).cell? ⟨XB, 0, none⟩ = some (.int .u16 (x.code.toNat : Int)) := AX6.cell 0
  have gn := G6.cell HGN (by simp)
  have HB : Hid (∀ W : World, Calls Tryz.prog 58 #[.agg #[.int .u16 (x.code.toNat : Int), .int .u8 (x.jt.toNat : Int), .int .u8 (x.jf.toNat : Int), .int .u32 (x.k.toNat : Int)]] W fun e w' => e = .returned (ginV (bareV x)) ∧ W.grownBy w' none) := fun W => gbare_any x W
  generalize bareV x = bx at *
  clear AD5 AX5 AR5 O5 G5 K6
  go_upto_region 13 with fail
  clear y0 gy e6 f6 z0
  generalize w5.setCell ⟨D, 6, none⟩ (.int .i64 (ny : Int)) = w6 at *
  have hgD : g ≠ D := by omega

  refine wp_region_held_drew (S := fun V => GVt V XB 54 #[.int .u16 (x.code.toNat : Int), .int .u8 (x.jt.toNat : Int), .int .u8 (x.jf.toNat : Int), .int .u32 (x.k.toNat : Int)] ∧ V.cell? ⟨g, ne, none⟩ = some (.int .i64 (nn : Int)) ∧ w.grownBy V none) (by kernel_rfl) (⟨AX6.kept (grown_drewN w6 1 none), (grown_drewN w6 1 none).cell gn (by simp), grown_trans G6 (grown_drewN w6 1 none)⟩) (fun hHeld => ?_)
  refine wpAnyH_take (i := 0) (v := .agg #[.int .u16 (x.code.toNat : Int), .int .u8 (x.jt.toNat : Int), .int .u8 (x.jf.toNat : Int), .int .u32 (x.k.toNat : Int)]) rfl (by kernel_rfl) (by kernel_rfl) (by kernel_rfl) (fun _ _ _ h => h) (Or.inl ⟨by rfl, fun W hW => ?_⟩) hHeld ?_
  · have q0 := hW.1.cell 0; have q1 := hW.1.cell 1; have q2 := hW.1.cell 2; have q3 := hW.1.cell 3; simp only [List.getElem?_toArray, List.getElem?_cons_zero, List.getElem?_cons_succ] at q0 q1 q2 q3
    clear hW
    go_simp
  try simp only [Act.put, List.getElem_toArray, List.getElem_cons_zero, List.setIfInBounds_toArray, List.set_cons_zero, List.set_cons_succ]
  refine wpAnyH_take (i := 2) (v := .slice (some ⟨g, 0, none⟩) (xs.length + 1) cap) rfl (by kernel_rfl) (by kernel_rfl) (by kernel_rfl) (fun _ _ _ h => h) (Or.inl ⟨by rfl, fun W hW => ?_⟩) hHeld ?_
  · clear hW
    go_simp
  try simp only [Act.put, List.getElem_toArray, List.getElem_cons_zero, List.getElem_cons_succ, List.setIfInBounds_toArray, List.set_cons_zero, List.set_cons_succ]
  refine wpAnyH_take (i := 3) (v := .int .i64 (ne : Int)) rfl (by kernel_rfl) (by kernel_rfl) (by kernel_rfl) (fun _ _ _ h => h) (Or.inl ⟨by rfl, fun W hW => ?_⟩) hHeld ?_
  · clear hW
    go_simp
  try simp only [Act.put, List.getElem_toArray, List.getElem_cons_zero, List.getElem_cons_succ, List.setIfInBounds_toArray, List.set_cons_zero, List.set_cons_succ]
  refine wpAnyH_take (i := 4) (v := .pointer (some ⟨g, ne, none⟩)) rfl (by kernel_rfl) (by kernel_rfl) (by kernel_rfl) (fun _ _ _ h => h) (Or.inl ⟨by rfl, fun W hW => ?_⟩) hHeld ?_
  · clear hW
    go_simp
  try simp only [Act.put, List.getElem_toArray, List.getElem_cons_zero, List.getElem_cons_succ, List.setIfInBounds_toArray, List.set_cons_zero, List.set_cons_succ]
  refine wpAnyH_take (i := 5) (v := .int .i64 (nn : Int)) rfl (by kernel_rfl) (by kernel_rfl) (by kernel_rfl) (fun _ _ _ h => h) (Or.inl ⟨by rfl, fun W hW => ?_⟩) hHeld ?_
  · have q0 := hW.2.1
    clear hW
    go_simp
  try simp only [Act.put, List.getElem_toArray, List.getElem_cons_zero, List.getElem_cons_succ, List.setIfInBounds_toArray, List.set_cons_zero, List.set_cons_succ]
  refine wpAnyH_take (i := 6) (v := .pointer (some ⟨D, 1, none⟩)) rfl (by kernel_rfl) (by kernel_rfl) (by kernel_rfl) (fun _ _ _ h => h) (Or.inl ⟨by rfl, fun W hW => ?_⟩) hHeld ?_
  · clear hW
    go_simp
  try simp only [Act.put, List.getElem_toArray, List.getElem_cons_zero, List.getElem_cons_succ, List.setIfInBounds_toArray, List.set_cons_zero, List.set_cons_succ]
  refine wpAnyH_ready (rs := [1]) (by kernel_rfl) (by simp) (AllReadyH.cons rfl (fun K hK => ?_) AllReadyH.nil)
  go_simp
  refine (HB.out _).mono ?_
  rintro e w7 ⟨rfl, K7⟩
  have K67 := grown_trans (grown_drewN w6 1 none) K7
  have AD7 := AD6.kept K67
  have AR7 := AR6.kept K67
  have O7 := owns_keptNone O6 K67
  go_wp2_with fail
  refine hK.out _ _ (⟨hHeld.1.kept K7, K7.cell hHeld.2.1 (by simp), grown_trans hHeld.2.2 K7⟩) (fun hHeld => ?_)
  clear hK K
  try simp only [Act.put, List.getElem_toArray, List.getElem_cons_zero, List.getElem_cons_succ, List.setIfInBounds_toArray, List.set_cons_zero, List.set_cons_succ]
  clear AD6 AX6 AR6 O6 G6 gn K7
  have g1 : w7.cell? ⟨D, 1, none⟩ = some (.int .i64 0) := AD7.cell 1
  have f1 := AD7.free 1
  have K8 := grown_set1 w7 ⟨D, 1, none⟩ (.int .i64 3)
  have AD8 := AD7.set 1 (.int .i64 3)
  refine wpAnyH_ready (rs := [7]) (by kernel_rfl) (by simp) (AllReadyH.cons rfl (fun K hK => ?_) AllReadyH.nil)
  go_simp
  refine hK.out _ _ (⟨hHeld.1.grown K8 (by simpa using hDX), K8.cell hHeld.2.1 (by simpa using hgD), grown_trans_new hHeld.2.2 K8 (fun z e => by cases e; exact hDw)⟩) (fun hHeld => ?_)
  clear hK K
  try simp only [Act.put, List.getElem_toArray, List.getElem_cons_zero, List.getElem_cons_succ, List.setIfInBounds_toArray, List.set_cons_zero, List.set_cons_succ]
  have K78 : w7.grownBy (w7.setCell ⟨D, 1, none⟩ (.int .i64 3)) (some D) := K8
  have AR8 := AR7.grown K78 (by simpa using hDR)
  have O8 := own_insn O7 K78 AD7
  clear AR7 O7 AD7 K8 K78 g1 f1 K67
  generalize w7.setCell ⟨D, 1, none⟩ (.int .i64 3) = w8 at *
  refine wpAnyH_take (i := 8) (v := .pointer (some ⟨D, 2, none⟩)) rfl (by kernel_rfl) (by kernel_rfl) (by kernel_rfl) (fun _ _ _ h => h) (Or.inl ⟨by rfl, fun W hW => ?_⟩) hHeld ?_
  · clear hW
    go_simp
  try simp only [Act.put, List.getElem_toArray, List.getElem_cons_zero, List.getElem_cons_succ, List.setIfInBounds_toArray, List.set_cons_zero, List.set_cons_succ]
  have AD8 : GVt w8 D 56 #[.slice a2 ys.length ca2, .int .i64 3, .int .u16 0, .int .u8 0, .int .u8 0, .int .u32 0, .int .i64 (ny : Int), .int .i64 0] := AD8
  have g2 : w8.cell? ⟨D, 2, none⟩ = some (.int .u16 0) := AD8.cell 2
  have f2 := AD8.free 2
  have g3 : w8.cell? ⟨D, 3, none⟩ = some (.int .u8 0) := AD8.cell 3
  have f3 := AD8.free 3
  have g4 : w8.cell? ⟨D, 4, none⟩ = some (.int .u8 0) := AD8.cell 4
  have f4 := AD8.free 4
  have g5 : w8.cell? ⟨D, 5, none⟩ = some (.int .u32 0) := AD8.cell 5
  have f5 := AD8.free 5
  have K9 : w8.grownBy ((((w8.setCell ⟨D, 2, none⟩ (.int .u16 (bx.code.toNat : Int))).setCell ⟨D, 3, none⟩ (.int .u8 (bx.jt.toNat : Int))).setCell ⟨D, 4, none⟩ (.int .u8 (bx.jf.toNat : Int))).setCell ⟨D, 5, none⟩ (.int .u32 (bx.k.toNat : Int))) (some D) := grown_trans (grown_trans (grown_trans (grown_trans (World.grownBy.refl w8 (some D)) (grown_set1 w8 ⟨D, 2, none⟩ (.int .u16 (bx.code.toNat : Int)))) (grown_set1 (w8.setCell ⟨D, 2, none⟩ (.int .u16 (bx.code.toNat : Int))) ⟨D, 3, none⟩ (.int .u8 (bx.jt.toNat : Int)))) (grown_set1 ((w8.setCell ⟨D, 2, none⟩ (.int .u16 (bx.code.toNat : Int))).setCell ⟨D, 3, none⟩ (.int .u8 (bx.jt.toNat : Int))) ⟨D, 4, none⟩ (.int .u8 (bx.jf.toNat : Int)))) (grown_set1 (((w8.setCell ⟨D, 2, none⟩ (.int .u16 (bx.code.toNat : Int))).setCell ⟨D, 3, none⟩ (.int .u8 (bx.jt.toNat : Int))).setCell ⟨D, 4, none⟩ (.int .u8 (bx.jf.toNat : Int))) ⟨D, 5, none⟩ (.int .u32 (bx.k.toNat : Int)))
  have AD9 : GVt ((((w8.setCell ⟨D, 2, none⟩ (.int .u16 (bx.code.toNat : Int))).setCell ⟨D, 3, none⟩ (.int .u8 (bx.jt.toNat : Int))).setCell ⟨D, 4, none⟩ (.int .u8 (bx.jf.toNat : Int))).setCell ⟨D, 5, none⟩ (.int .u32 (bx.k.toNat : Int))) D 56 #[.slice a2 ys.length ca2, .int .i64 3, .int .u16 (bx.code.toNat : Int), .int .u8 (bx.jt.toNat : Int), .int .u8 (bx.jf.toNat : Int), .int .u32 (bx.k.toNat : Int), .int .i64 (ny : Int), .int .i64 0] := ((((AD8.set 2 (.int .u16 (bx.code.toNat : Int))).set 3 (.int .u8 (bx.jt.toNat : Int))).set 4 (.int .u8 (bx.jf.toNat : Int))).set 5 (.int .u32 (bx.k.toNat : Int)))
  refine wpAnyH_ready (rs := [9]) (by kernel_rfl) (by simp) (AllReadyH.cons rfl (fun K hK => ?_) AllReadyH.nil)
  go_simp
  refine hK.out _ _ (⟨hHeld.1.grown K9 (by simpa using hDX), K9.cell hHeld.2.1 (by simpa using hgD), grown_trans_new hHeld.2.2 K9 (fun z e => by cases e; exact hDw)⟩) (fun hHeld => ?_)
  clear hK K
  try simp only [Act.put, List.getElem_toArray, List.getElem_cons_zero, List.getElem_cons_succ, List.setIfInBounds_toArray, List.set_cons_zero, List.set_cons_succ]
  have AR9 := AR8.grown K9 (by simpa using hDR)
  have O9 := own_insn O8 K9 AD8
  clear AR8 O8 AD8 K9 g2 g3 g4 g5 f2 f3 f4 f5
  generalize ((((w8.setCell ⟨D, 2, none⟩ (.int .u16 (bx.code.toNat : Int))).setCell ⟨D, 3, none⟩ (.int .u8 (bx.jt.toNat : Int))).setCell ⟨D, 4, none⟩ (.int .u8 (bx.jf.toNat : Int))).setCell ⟨D, 5, none⟩ (.int .u32 (bx.k.toNat : Int))) = w9 at *
  refine wpAnyH_take (i := 10) (v := .pointer (some ⟨D, 7, none⟩)) rfl (by kernel_rfl) (by kernel_rfl) (by kernel_rfl) (fun _ _ _ h => h) (Or.inl ⟨by rfl, fun W hW => ?_⟩) hHeld ?_
  · clear hW
    go_simp
  try simp only [Act.put, List.getElem_toArray, List.getElem_cons_zero, List.getElem_cons_succ, List.setIfInBounds_toArray, List.set_cons_zero, List.set_cons_succ]
  have g7 : w9.cell? ⟨D, 7, none⟩ = some (.int .i64 0) := AD9.cell 7
  have f7 := AD9.free 7
  have K10 : w9.grownBy (w9.setCell ⟨D, 7, none⟩ (.int .i64 (nn : Int))) (some D) := grown_set1 w9 ⟨D, 7, none⟩ _
  have AD10 : GVt (w9.setCell ⟨D, 7, none⟩ (.int .i64 (nn : Int))) D 56 #[.slice a2 ys.length ca2, .int .i64 3, .int .u16 (bx.code.toNat : Int), .int .u8 (bx.jt.toNat : Int), .int .u8 (bx.jf.toNat : Int), .int .u32 (bx.k.toNat : Int), .int .i64 (ny : Int), .int .i64 (nn : Int)] := AD9.set 7 (.int .i64 (nn : Int))
  refine wpAnyH_ready (rs := [11]) (by kernel_rfl) (by simp) (AllReadyH.cons rfl (fun K hK => ?_) AllReadyH.nil)
  go_simp
  refine hK.out _ _ (⟨hHeld.1.grown K10 (by simpa using hDX), K10.cell hHeld.2.1 (by simpa using hgD), grown_trans_new hHeld.2.2 K10 (fun z e => by cases e; exact hDw)⟩) (fun hHeld => ?_)
  clear hK K
  try simp only [Act.put, List.getElem_toArray, List.getElem_cons_zero, List.getElem_cons_succ, List.setIfInBounds_toArray, List.set_cons_zero, List.set_cons_succ]
  have AR10 := AR9.grown K10 (by simpa using hDR)
  have O10 := own_insn O9 K10 AD9
  clear AR9 O9 AD9 K10 g7 f7
  generalize w9.setCell ⟨D, 7, none⟩ (.int .i64 (nn : Int)) = w10 at *
  refine wpAnyH_done (by kernel_rfl) ?_ _

  have G10 := hHeld.2.2
  clear hHeld
  have KR : w10.grownBy (w10.setRow R #[.slice a2 ys.length ca2, .int .i64 3, .int .u16 (bx.code.toNat : Int), .int .u8 (bx.jt.toNat : Int), .int .u8 (bx.jf.toNat : Int), .int .u32 (bx.k.toNat : Int), .int .i64 (ny : Int), .int .i64 (nn : Int)]) (some R) := gvgrown_setRow (World.grownBy.refl _ _) _ _ (.inl rfl)
  have OF := own_insn O10 KR AR10
  have GF : w.grownBy (w10.setRow R #[.slice a2 ys.length ca2, .int .i64 3, .int .u16 (bx.code.toNat : Int), .int .u8 (bx.jt.toNat : Int), .int .u8 (bx.jf.toNat : Int), .int .u32 (bx.k.toNat : Int), .int .i64 (ny : Int), .int .i64 (nn : Int)]) none := gvgrown_setRow G10 _ _ (.inr HR.out.1)
  go_wp2_with (first | refine wpList_load_row rfl 56 (.tmp 10) rfl D rfl 56 #[.slice a2 ys.length ca2, .int .i64 3, .int .u16 (bx.code.toNat : Int), .int .u8 (bx.jt.toNat : Int), .int .u8 (bx.jf.toNat : Int), .int .u32 (bx.k.toNat : Int), .int .i64 (ny : Int), .int .i64 (nn : Int)] (0, 0) _ AD10 Tryz.underlying56 rfl sizeBk ?_ | refine wpList_store_row rfl 56 (.tmp 8) (.tmp 72) rfl R #[.slice a2 ys.length ca2, .int .i64 3, .int .u16 (bx.code.toNat : Int), .int .u8 (bx.jt.toNat : Int), .int .u8 (bx.jf.toNat : Int), .int .u32 (bx.k.toNat : Int), .int .i64 (ny : Int), .int .i64 (nn : Int)] rfl rfl 56 _ AR10 sizeBk rfl (bk_all _ _ _ _ _ _ _ _ _ _) ?_)
  refine bodyPost_ret (results_cell_row rfl _ _ R _ #[.slice a2 ys.length ca2, .int .i64 3, .int .u16 (bx.code.toNat : Int), .int .u8 (bx.jt.toNat : Int), .int .u8 (bx.jf.toNat : Int), .int .u32 (bx.k.toNat : Int), .int .i64 (ny : Int), .int .i64 (nn : Int)] (0, 0) _ rfl (AR10.setRow _) Tryz.underlying56 rfl sizeBk) rfl ?_
  exact ⟨a2, ca2, rfl, OF, GF⟩

end Go.Proofs.YtencoknpocipbaaGreat
