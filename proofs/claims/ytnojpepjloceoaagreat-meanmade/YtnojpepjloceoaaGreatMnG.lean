/-
  Package mean as landed: hosts and nets, whole.
-/
import Derived.Test.YtnojpepjloceoaaGreatMnF
import Derived.Great.BuildSlice
namespace Go.Proofs.YtnojpepjloceoaaGreat
open Go.RowKit
set_option maxRecDepth 100000

/-- One cell written in a statement whose order is open. -/
theorem step_store_one {P : Program} {ops : Array Oper} {o : Oper} {a : Act} {w : World} {K : Act → World → Prop} {Q : Exit → Act → World → Prop} {E : Prop}
    (hgd : o.guard = none) (ty : TypeId) (x y : Operand) (ho : o.op = .store ty x y) (g : Nat) (hx : a.eval x = .pointer (some ⟨g, 0, none⟩)) (v : Value) (hy : a.eval y = v) (h1 : v.oneCell' = true) (t : TypeId) (old : Value) (A : VAt w g t #[old])
    (hi : (P.info? ty).map (·.size) = some 1) (hK : K (a.put o.dst undef) (w.setRow g #[v])) :
    if Region.wanted o (yielded ops a.tmps) = true then Oper.wp P o a w K Q else E := by
  have hw : Region.wanted o (yielded ops a.tmps) = true := by simp [Region.wanted, hgd]
  rw [if_pos hw]
  unfold Oper.wp execOp
  simp only [ho, hx, hy, Instr.storeAt, Instr.sureAddr, Sem.run_bind, Sem.run_pure, Result.andThen_ok, run_storeVar_one w g t ty old _ A hi h1]
  exact hK

theorem alloc_int (W : World) : (Instr.alloc 3 true (.tuple #[])).run Tryz.prog W = .ok (.pointer (some ⟨W.heap.size, 0, none⟩)) (W.alloc (.cells #[.int .i64 0] 3)) := by kernel_rfl
theorem box_int (n : Int) (W : World) : (Instr.box 3 (.int .i64 n)).run Tryz.prog W = .ok (.pointer (some ⟨W.heap.size, 0, none⟩)) (W.alloc (.cells #[.int .i64 n] 3)) := by kernel_rfl

structure WR (w : World) (P N M g : Nat) (s : Sg) (a : Option Addr) (ca : Nat) (v : Value) (x : Ng) (n : Nat) : Prop where
  rd : RD w g s a ca v
  ptr : PB w P g
  node : NB w N x
  bits : IB w M (n : Int)
  fr : Cells w a s.b
theorem WR.kept {w w' : World} {P N M g : Nat} {s : Sg} {a : Option Addr} {ca : Nat} {v : Value} {x : Ng} {n : Nat} (h : WR w P N M g s a ca v x n) (K : w.grownBy w' none) : WR w' P N M g s a ca v x n :=
  ⟨h.rd.kept K, h.ptr.kept K, h.node.kept K, h.bits.kept K, h.fr.keptNone K⟩
theorem WR.all {w : World} {P N I D M g : Nat} {s : Sg} {a : Option Addr} {ca : Nat} {v : Value} {x : Ng} {n : Nat} (h : WR w P N M g s a ca v x n) (hi : IB w I ((baseM s.v x.of).1 : Int)) (hd : EB w D x.of) : WQ w P N I D M g s a ca v x n := ⟨h.rd, h.ptr, h.node, hi, hd, h.bits, h.fr⟩
/-- A pointer, a node, a number: boxed. -/
theorem mthree_boxes (w : World) (g : Nat) (s : Sg) (a : Option Addr) (ca : Nat) (v : Value) (x : Ng) (n : Nat) (R : RD w g s a ca v) (hc : Cells w a s.b) :
    WR (((w.alloc (.cells #[.pointer (some ⟨g, 0, none⟩)] 130)).alloc (.cells x.cells.toArray 37)).alloc (.cells #[.int .i64 (n : Int)] 3)) w.heap.size (w.heap.size + 1) (w.heap.size + 2) g s a ca v x n ∧ w.grownBy (((w.alloc (.cells #[.pointer (some ⟨g, 0, none⟩)] 130)).alloc (.cells x.cells.toArray 37)).alloc (.cells #[.int .i64 (n : Int)] 3)) none := by
  have K0 := World.grownBy_alloc w (.cells #[.pointer (some ⟨g, 0, none⟩)] 130) none
  have A0 : PB (w.alloc (.cells #[.pointer (some ⟨g, 0, none⟩)] 130)) w.heap.size g := VAt.alloc _ _ _
  have e0 : (w.alloc (.cells #[.pointer (some ⟨g, 0, none⟩)] 130)).heap.size = w.heap.size + 1 := by simp
  generalize w.alloc (.cells #[.pointer (some ⟨g, 0, none⟩)] 130) = w0 at *
  have K1 := World.grownBy_alloc w0 (.cells x.cells.toArray 37) none
  have B1 := NB.alloc w0 x
  have e1 : (w0.alloc (.cells x.cells.toArray 37)).heap.size = w0.heap.size + 1 := by simp
  generalize w0.alloc (.cells x.cells.toArray 37) = w1 at *
  have K2 := World.grownBy_alloc w1 (.cells #[.int .i64 (n : Int)] 3) none
  have C2 : IB (w1.alloc (.cells #[.int .i64 (n : Int)] 3)) w1.heap.size n := VAt.alloc _ _ _
  rw [e1, e0] at C2
  rw [e0] at B1
  exact ⟨⟨((R.kept K0).kept K1).kept K2, (A0.kept K1).kept K2, B1.kept K2, C2, ((hc.keptNone K0).keptNone K1).keptNone K2⟩, grown_trans (grown_trans K0 K1) K2⟩

set_option maxHeartbeats 4000000 in
theorem mwithin_any (s : Sg) (a : Option Addr) (ca : Nat) (g : Nat) (v : Value) (x : Ng) (n : Nat) (w : World) (R : RD w g s a ca v) (hc : Cells w a s.b) (hk : MSgOk s) (hcap : s.b.length ≤ ca) (ho : x.of = 2 ∨ x.of = 3) (hn : n ≤ 8 * longM x.of) :
    Calls Tryz.prog 137 #[.pointer (some ⟨g, 0, none⟩), .agg x.cells.toArray, .int .i64 (n : Int)] w fun e w' => e = .returned (.int .i64 (withinM s x (n : Int))) ∧ w.grownBy w' none := by
  have HBX := box_ng x
  have HBP := box_ptr g
  have HBI := box_int (n : Int)
  obtain ⟨Q0, G0⟩ := mthree_boxes w g s a ca v x n R hc
  have CB : ∀ W, Calls Tryz.prog 162 #[.agg (viewC s a ca), .int .i64 x.of] W fun e w' => e = .returned (.tuple #[.int .i64 ((baseM s.v x.of).1 : Int), .bool (baseM s.v x.of).2]) ∧ W.grownBy w' none := fun W => vbase_any s a ca x.of W
  have CW : Hid (∀ (P N I D M p : Nat) (W : World) (Q : WQ W P N I D M g s a ca v x n) (hp : (baseM s.v x.of).1 + p + longM x.of ≤ s.b.length), Calls Tryz.prog 142 #[.int .i64 (p : Int), .pointer (some ⟨P, 0, none⟩), .pointer (some ⟨I, 0, none⟩), .pointer (some ⟨N, 0, none⟩), .pointer (some ⟨D, 0, none⟩), .pointer (some ⟨M, 0, none⟩)] W fun e w' => e = .returned (.int .i64 (jdg (alikeM s.b ((baseM s.v x.of).1 + p) (addrG x) (n : Int)))) ∧ W.grownBy w' none) := fun P N I D M p W Q hp => within1_any s a ca g P N I D M v x n p W Q hk hcap hp hn
  have HFT : Hid ((baseM s.v x.of).2 = true → (baseM s.v x.of).1 + srcM x.of + longM x.of ≤ s.b.length ∧ (baseM s.v x.of).1 + dstM x.of + longM x.of ≤ s.b.length) := fun hb => ends_fit hk ho hb
  have HE : Hid (withinM s x (n : Int) = if (baseM s.v x.of).2 = false then 0 else sidedM x.side (jdg (alikeM s.b ((baseM s.v x.of).1 + srcM x.of) (addrG x) (n : Int))) (jdg (alikeM s.b ((baseM s.v x.of).1 + dstM x.of) (addrG x) (n : Int)))) := rfl
  obtain ⟨E, hE⟩ : ∃ E, withinM s x (n : Int) = E := ⟨_, rfl⟩
  rw [hE] at HE ⊢
  clear hE hn ho hcap hk hc R
  obtain ⟨X, hX⟩ : ∃ X, x.cells.toArray = X := ⟨_, rfl⟩
  rw [hX] at HBX G0 Q0 ⊢
  clear hX
  go_enter Tryz.func137, Tryz.ntmps137
  go_upto_region 1 with fail
  generalize ((w.alloc (.cells #[.pointer (some ⟨g, 0, none⟩)] 130)).alloc (.cells X 37)).alloc (.cells #[.int .i64 (n : Int)] 3) = w1 at *
  have e2 : w.heap.size + 1 + 1 = w.heap.size + 2 := rfl
  try rw [e2]
  generalize w.heap.size + 2 = M at *
  generalize w.heap.size + 1 = N at *
  generalize w.heap.size = P at *
  clear HBX HBP HBI e2
  obtain ⟨bs, hbs⟩ : ∃ bs, (baseM s.v x.of).1 = bs := ⟨_, rfl⟩
  obtain ⟨cb, hcb⟩ : ∃ cb, (baseM s.v x.of).2 = cb := ⟨_, rfl⟩
  have HBS : Hid ((baseM s.v x.of).1 = bs) := hbs
  rw [hbs, hcb] at HE HFT CB
  rw [hbs] at CW
  clear hbs hcb
  have HQ0 : Hid (∀ W, w1.grownBy W none → WR W P N M g s a ca v x n) := fun W K => Q0.kept K
  have HG0 : Hid (w.grownBy w1 none) := G0
  clear Q0 G0
  refine wp_region_held_drew (S := fun W => w1.grownBy W none) (by kernel_rfl) (grown_drewN w1 1 none) (fun hHeld => ?_)
  refine wpAnyH_take (i := 0) (v := .pointer (some ⟨g, 0, none⟩)) rfl (by kernel_rfl) (by kernel_rfl) (by kernel_rfl) (fun _ _ _ h => h) (Or.inl ⟨by rfl, fun W hW => ?_⟩) hHeld ?_
  · have c := (HQ0.out W hW).ptr.ptr
    clear hW
    go_simp
  try simp only [Act.put, List.getElem_toArray, List.getElem_cons_zero, List.setIfInBounds_toArray, List.set_cons_zero, List.set_cons_succ]
  refine wpAnyH_take (i := 1) (v := .pointer (some ⟨g, 0, none⟩)) rfl (by kernel_rfl) (by kernel_rfl) (by kernel_rfl) (fun _ _ _ h => h) (Or.inl ⟨by rfl, fun W hW => ?_⟩) hHeld ?_
  · clear hW
    go_simp
  try simp only [Act.put, List.getElem_toArray, List.getElem_cons_zero, List.getElem_cons_succ, List.setIfInBounds_toArray, List.set_cons_zero, List.set_cons_succ]
  refine wpAnyH_take (i := 2) (v := .pointer (some ⟨g, 0, none⟩)) rfl (by kernel_rfl) (by kernel_rfl) (by kernel_rfl) (fun _ _ _ h => h) (Or.inl ⟨by rfl, fun W hW => ?_⟩) hHeld ?_
  · clear hW
    go_simp
  try simp only [Act.put, List.getElem_toArray, List.getElem_cons_zero, List.getElem_cons_succ, List.setIfInBounds_toArray, List.set_cons_zero, List.set_cons_succ]
  refine wpAnyH_take (i := 3) (v := tellA s a ca) rfl (by kernel_rfl) (by kernel_rfl) (by kernel_rfl) (fun _ _ _ h => h) (Or.inl ⟨by rfl, fun W hW => ?_⟩) hHeld ?_
  · have c := (HQ0.out W hW).rd.tell
    clear hW
    go_simp
  try simp only [Act.put, List.getElem_toArray, List.getElem_cons_zero, List.getElem_cons_succ, List.setIfInBounds_toArray, List.set_cons_zero, List.set_cons_succ]
  refine wpAnyH_take (i := 4) (v := .pointer (some ⟨N, 5, none⟩)) rfl (by kernel_rfl) (by kernel_rfl) (by kernel_rfl) (fun _ _ _ h => h) (Or.inl ⟨by rfl, fun W hW => ?_⟩) hHeld ?_
  · clear hW
    go_simp
  try simp only [Act.put, List.getElem_toArray, List.getElem_cons_zero, List.getElem_cons_succ, List.setIfInBounds_toArray, List.set_cons_zero, List.set_cons_succ]
  refine wpAnyH_take (i := 5) (v := .int .i64 x.of) rfl (by kernel_rfl) (by kernel_rfl) (by kernel_rfl) (fun _ _ _ h => h) (Or.inl ⟨by rfl, fun W hW => ?_⟩) hHeld ?_
  · have c := (HQ0.out W hW).node.of
    clear hW
    go_simp
  try simp only [Act.put, List.getElem_toArray, List.getElem_cons_zero, List.getElem_cons_succ, List.setIfInBounds_toArray, List.set_cons_zero, List.set_cons_succ]
  refine wpAnyH_ready (rs := [6, 10]) (by kernel_rfl) (by simp) (AllReadyH.cons rfl (fun K hK => ?_) (AllReadyH.cons rfl (fun K hK => ?_) AllReadyH.nil))
  · skip
    go_simp
    refine (CB _).mono ?_
    rintro e w2 ⟨rfl, K2⟩
    go_wp2_with fail
    refine hK.out _ _ (grown_trans hHeld K2) (fun hHeld => ?_)
    clear hK K
    try simp only [Act.put, List.getElem_toArray, List.getElem_cons_zero, List.getElem_cons_succ, List.setIfInBounds_toArray, List.set_cons_zero, List.set_cons_succ]
    refine wpAnyH_take (i := 7) (v := .tuple #[.int .i64 (bs : Int), .bool cb]) rfl (by kernel_rfl) (by kernel_rfl) (by kernel_rfl) (fun _ _ _ h => h) (Or.inl ⟨by rfl, fun W hW => ?_⟩) hHeld ?_
    · clear hW
      go_simp
    try simp only [Act.put, List.getElem_toArray, List.getElem_cons_zero, List.getElem_cons_succ, List.setIfInBounds_toArray, List.set_cons_zero, List.set_cons_succ]
    refine wpAnyH_take (i := 8) (v := .int .i64 (bs : Int)) rfl (by kernel_rfl) (by kernel_rfl) (by kernel_rfl) (fun _ _ _ h => h) (Or.inl ⟨by rfl, fun W hW => ?_⟩) hHeld ?_
    · clear hW
      go_simp
    try simp only [Act.put, List.getElem_toArray, List.getElem_cons_zero, List.getElem_cons_succ, List.setIfInBounds_toArray, List.set_cons_zero, List.set_cons_succ]
    refine wpAnyH_take (i := 9) (v := .bool cb) rfl (by kernel_rfl) (by kernel_rfl) (by kernel_rfl) (fun _ _ _ h => h) (Or.inl ⟨by rfl, fun W hW => ?_⟩) hHeld ?_
    · clear hW
      go_simp
    try simp only [Act.put, List.getElem_toArray, List.getElem_cons_zero, List.getElem_cons_succ, List.setIfInBounds_toArray, List.set_cons_zero, List.set_cons_succ]
    refine wpAnyH_ready (rs := [10]) (by kernel_rfl) (by simp) (AllReadyH.cons rfl (fun K hK => ?_) AllReadyH.nil)
    have HL2 : Hid (w1.heap.size ≤ w2.heap.size) := hHeld.size
    refine step_alloc (by rfl) 3 (by rfl) (#[.int .i64 0]) alloc_int ?_
    intro I w3 AI K3 hbI
    refine hK.out _ _ (grown_trans hHeld K3) (fun hHeld => ?_)
    clear hK K
    try simp only [Act.put, List.getElem_toArray, List.getElem_cons_zero, List.getElem_cons_succ, List.setIfInBounds_toArray, List.set_cons_zero, List.set_cons_succ]
    refine wpAnyH_ready (rs := [11]) (by kernel_rfl) (by simp) (AllReadyH.cons rfl (fun K hK => ?_) AllReadyH.nil)
    refine step_store_one (by rfl) 3 (.tmp 7) (.tmp 19) (by rfl) I (by rfl) (.int .i64 (bs : Int)) (by rfl) rfl 3 _ AI (by kernel_rfl) ?_
    have VS := (AI).setRow #[.int .i64 (bs : Int)]
    refine hK.out _ _ (vgrown_setRow hHeld I _ (.inr (by have := HL2.out; omega))) (fun hHeld => ?_)
    clear hK K
    try simp only [Act.put]
    refine wpAnyH_take (i := 12) (v := .bool cb) rfl (by kernel_rfl) (by kernel_rfl) (by kernel_rfl) (fun _ _ _ h => h) (Or.inl ⟨by rfl, fun W hW => ?_⟩) hHeld ?_
    · clear hW
      go_simp
    try simp only [Act.put, List.getElem_toArray, List.getElem_cons_zero, List.getElem_cons_succ, List.setIfInBounds_toArray, List.set_cons_zero, List.set_cons_succ]
    refine wpAnyH_done (by kernel_rfl) ?_ _

    have BI : Hid (IB (w3.setRow I #[.int .i64 (bs : Int)]) I (bs : Int)) := VS
    have KW : Hid (w1.grownBy (w3.setRow I #[.int .i64 (bs : Int)]) none) := hHeld
    generalize (w3.setRow I #[.int .i64 (bs : Int)]) = wd at *
    cases cb with
    | false =>
      have HF : Hid (E = 0) := HE.out
      have HG : Hid (w.grownBy wd none) := grown_trans HG0.out KW.out
      clear HE HFT
      go_wp2
      go_ret
      exact ⟨ret_int HF.out.symm, HG.out⟩
    | true =>
      have HF : Hid (E = sidedM x.side (jdg (alikeM s.b (bs + srcM x.of) (addrG x) (n : Int))) (jdg (alikeM s.b (bs + dstM x.of) (addrG x) (n : Int)))) := HE.out
      have HFI := HFT.out rfl
      have c5 := (HQ0.out wd KW.out).node.of
      clear HE HFT
      go_upto_region 4 with fail
      go_wp2_with fail
      refine (endsOf_any _ _).mono ?_
      rintro e w5 ⟨rfl, K5⟩
      clear c5
      go_upto_region 6 with (refine wpList_store_row rfl 164 (.tmp 9) (.tmp 25) rfl w5.heap.size (endsA x.of) rfl rfl 164 _ (VAt.alloc w5 _ _) (by kernel_rfl) rfl (by simp [endsA, Value.oneCell']) ?_)
      rw [World.setRow_alloc_new]
      have K6 := World.grownBy_alloc w5 (.cells (endsA x.of) 164) none
      have E6 : EB (w5.alloc (.cells (endsA x.of) 164)) w5.heap.size x.of := VAt.alloc _ _ _
      have HQ6 : Hid (WQ (w5.alloc (.cells (endsA x.of) 164)) P N I w5.heap.size M g s a ca v x n) := WR.all (HQ0.out _ (grown_trans (grown_trans KW.out K5) K6)) (by rw [HBS.out]; exact (BI.out.kept K5).kept K6) E6
      have HG6 : Hid (w.grownBy (w5.alloc (.cells (endsA x.of) 164)) none) := grown_trans (grown_trans (grown_trans HG0.out KW.out) K5) K6
      clear K5 K6 E6 BI KW HG0 HQ0 CB hHeld VS
      generalize w5.alloc (.cells (endsA x.of) 164) = w6 at *
      generalize w5.heap.size = D at *
      refine wp_region_held_drew (S := fun W => WQ W P N I D M g s a ca v x n ∧ w6.grownBy W none) (by kernel_rfl) (⟨HQ6.out.kept (grown_drewN w6 1 none), grown_drewN w6 1 none⟩) (fun hHeld => ?_)
      refine wpAnyH_take (i := 0) (v := .pointer (some ⟨N, 6, none⟩)) rfl (by kernel_rfl) (by kernel_rfl) (by kernel_rfl) (fun _ _ _ h => h) (Or.inl ⟨by rfl, fun W hW => ?_⟩) hHeld ?_
      · clear hW
        go_simp
      try simp only [Act.put, List.getElem_toArray, List.getElem_cons_zero, List.setIfInBounds_toArray, List.set_cons_zero, List.set_cons_succ]
      refine wpAnyH_take (i := 1) (v := .int .i64 x.side) rfl (by kernel_rfl) (by kernel_rfl) (by kernel_rfl) (fun _ _ _ h => h) (Or.inl ⟨by rfl, fun W hW => ?_⟩) hHeld ?_
      · have c := hW.1.node.side
        clear hW
        go_simp
      try simp only [Act.put, List.getElem_toArray, List.getElem_cons_zero, List.getElem_cons_succ, List.setIfInBounds_toArray, List.set_cons_zero, List.set_cons_succ]
      refine wpAnyH_take (i := 2) (v := .func (.func 142) #[] #[.pointer (some ⟨P, 0, none⟩), .pointer (some ⟨I, 0, none⟩), .pointer (some ⟨N, 0, none⟩), .pointer (some ⟨D, 0, none⟩), .pointer (some ⟨M, 0, none⟩)]) rfl (by kernel_rfl) (by kernel_rfl) (by kernel_rfl) (fun _ _ _ h => h) (Or.inl ⟨by rfl, fun W hW => ?_⟩) hHeld ?_
      · clear hW
        go_simp
      try simp only [Act.put, List.getElem_toArray, List.getElem_cons_zero, List.getElem_cons_succ, List.setIfInBounds_toArray, List.set_cons_zero, List.set_cons_succ]
      refine wpAnyH_take (i := 3) (v := .pointer (some ⟨D, 0, none⟩)) rfl (by kernel_rfl) (by kernel_rfl) (by kernel_rfl) (fun _ _ _ h => h) (Or.inl ⟨by rfl, fun W hW => ?_⟩) hHeld ?_
      · clear hW
        go_simp
      try simp only [Act.put, List.getElem_toArray, List.getElem_cons_zero, List.getElem_cons_succ, List.setIfInBounds_toArray, List.set_cons_zero, List.set_cons_succ]
      refine wpAnyH_take (i := 4) (v := .int .i64 (srcM x.of : Int)) rfl (by kernel_rfl) (by kernel_rfl) (by kernel_rfl) (fun _ _ _ h => h) (Or.inl ⟨by rfl, fun W hW => ?_⟩) hHeld ?_
      · have c : W.cell? ⟨D, 0, none⟩ = some (.int .i64 (srcM x.of : Int)) := VAt.cell hW.1.ends 0
        clear hW
        go_simp
      try simp only [Act.put, List.getElem_toArray, List.getElem_cons_zero, List.getElem_cons_succ, List.setIfInBounds_toArray, List.set_cons_zero, List.set_cons_succ]
      refine wpAnyH_take (i := 6) (v := .func (.func 142) #[] #[.pointer (some ⟨P, 0, none⟩), .pointer (some ⟨I, 0, none⟩), .pointer (some ⟨N, 0, none⟩), .pointer (some ⟨D, 0, none⟩), .pointer (some ⟨M, 0, none⟩)]) rfl (by kernel_rfl) (by kernel_rfl) (by kernel_rfl) (fun _ _ _ h => h) (Or.inl ⟨by rfl, fun W hW => ?_⟩) hHeld ?_
      · clear hW
        go_simp
      try simp only [Act.put, List.getElem_toArray, List.getElem_cons_zero, List.getElem_cons_succ, List.setIfInBounds_toArray, List.set_cons_zero, List.set_cons_succ]
      refine wpAnyH_take (i := 7) (v := .pointer (some ⟨D, 1, none⟩)) rfl (by kernel_rfl) (by kernel_rfl) (by kernel_rfl) (fun _ _ _ h => h) (Or.inl ⟨by rfl, fun W hW => ?_⟩) hHeld ?_
      · clear hW
        go_simp
      try simp only [Act.put, List.getElem_toArray, List.getElem_cons_zero, List.getElem_cons_succ, List.setIfInBounds_toArray, List.set_cons_zero, List.set_cons_succ]
      refine wpAnyH_take (i := 8) (v := .int .i64 (dstM x.of : Int)) rfl (by kernel_rfl) (by kernel_rfl) (by kernel_rfl) (fun _ _ _ h => h) (Or.inl ⟨by rfl, fun W hW => ?_⟩) hHeld ?_
      · have c : W.cell? ⟨D, 1, none⟩ = some (.int .i64 (dstM x.of : Int)) := VAt.cell hW.1.ends 1
        clear hW
        go_simp
      try simp only [Act.put, List.getElem_toArray, List.getElem_cons_zero, List.getElem_cons_succ, List.setIfInBounds_toArray, List.set_cons_zero, List.set_cons_succ]
      refine wpAnyH_ready (rs := [5]) (by kernel_rfl) (by simp) (AllReadyH.cons rfl (fun K hK => ?_) AllReadyH.nil)
      go_simp
      refine (CW.out P N I D M (srcM x.of) _ hHeld.1 HFI.1).mono ?_
      rintro e w7 ⟨rfl, K7⟩
      go_wp2_with fail
      refine hK.out _ _ (⟨hHeld.1.kept K7, grown_trans hHeld.2 K7⟩) (fun hHeld => ?_)
      clear hK K
      try simp only [Act.put, List.getElem_toArray, List.getElem_cons_zero, List.getElem_cons_succ, List.setIfInBounds_toArray, List.set_cons_zero, List.set_cons_succ]
      refine wpAnyH_ready (rs := [9]) (by kernel_rfl) (by simp) (AllReadyH.cons rfl (fun K hK => ?_) AllReadyH.nil)
      go_simp
      refine (CW.out P N I D M (dstM x.of) _ hHeld.1 HFI.2).mono ?_
      rintro e w8 ⟨rfl, K8⟩
      go_wp2_with fail
      refine hK.out _ _ (⟨hHeld.1.kept K8, grown_trans hHeld.2 K8⟩) (fun hHeld => ?_)
      clear hK K
      try simp only [Act.put, List.getElem_toArray, List.getElem_cons_zero, List.getElem_cons_succ, List.setIfInBounds_toArray, List.set_cons_zero, List.set_cons_succ]
      refine wpAnyH_ready (rs := [10]) (by kernel_rfl) (by simp) (AllReadyH.cons rfl (fun K hK => ?_) AllReadyH.nil)
      go_simp
      refine (sided_any _ _ _ _).mono ?_
      rintro e w9 ⟨rfl, K9⟩
      go_wp2_with fail
      refine hK.out _ _ (K9 ▸ hHeld) (fun hHeld => ?_)
      clear hK K
      try simp only [Act.put, List.getElem_toArray, List.getElem_cons_zero, List.getElem_cons_succ, List.setIfInBounds_toArray, List.set_cons_zero, List.set_cons_succ]
      refine wpAnyH_take (i := 11) (v := .int .i64 (sidedM x.side (jdg (alikeM s.b (bs + srcM x.of) (addrG x) (n : Int))) (jdg (alikeM s.b (bs + dstM x.of) (addrG x) (n : Int))))) rfl (by kernel_rfl) (by kernel_rfl) (by kernel_rfl) (fun _ _ _ h => h) (Or.inl ⟨by rfl, fun W hW => ?_⟩) hHeld ?_
      · clear hW
        go_simp
      try simp only [Act.put, List.getElem_toArray, List.getElem_cons_zero, List.getElem_cons_succ, List.setIfInBounds_toArray, List.set_cons_zero, List.set_cons_succ]
      refine wpAnyH_done (by kernel_rfl) ?_ _
      have G := grown_trans HG6.out hHeld.2
      clear hHeld
      go_wp2
      go_ret
      exact ⟨ret_int HF.out.symm, G⟩
  · skip
    refine step_alloc (by rfl) 3 (by rfl) (#[.int .i64 0]) alloc_int ?_
    intro I w3 AI K3 hbI
    refine hK.out _ _ (grown_trans hHeld K3) (fun hHeld => ?_)
    clear hK K
    try simp only [Act.put, List.getElem_toArray, List.getElem_cons_zero, List.getElem_cons_succ, List.setIfInBounds_toArray, List.set_cons_zero, List.set_cons_succ]
    have HL2 : Hid (w1.heap.size ≤ I) := by show w1.heap.size ≤ I; have h : w1.heap.size ≤ w1.drew.heap.size := (grown_drewN w1 1 none).size; omega
    refine wpAnyH_ready (rs := [6]) (by kernel_rfl) (by simp) (AllReadyH.cons rfl (fun K hK => ?_) AllReadyH.nil)
    go_simp
    refine (CB _).mono ?_
    rintro e w2 ⟨rfl, K2⟩
    go_wp2_with fail
    refine hK.out _ _ (grown_trans hHeld K2) (fun hHeld => ?_)
    clear hK K
    try simp only [Act.put, List.getElem_toArray, List.getElem_cons_zero, List.getElem_cons_succ, List.setIfInBounds_toArray, List.set_cons_zero, List.set_cons_succ]
    have AI2 := AI.kept K2
    refine wpAnyH_take (i := 7) (v := .tuple #[.int .i64 (bs : Int), .bool cb]) rfl (by kernel_rfl) (by kernel_rfl) (by kernel_rfl) (fun _ _ _ h => h) (Or.inl ⟨by rfl, fun W hW => ?_⟩) hHeld ?_
    · clear hW
      go_simp
    try simp only [Act.put, List.getElem_toArray, List.getElem_cons_zero, List.getElem_cons_succ, List.setIfInBounds_toArray, List.set_cons_zero, List.set_cons_succ]
    refine wpAnyH_take (i := 8) (v := .int .i64 (bs : Int)) rfl (by kernel_rfl) (by kernel_rfl) (by kernel_rfl) (fun _ _ _ h => h) (Or.inl ⟨by rfl, fun W hW => ?_⟩) hHeld ?_
    · clear hW
      go_simp
    try simp only [Act.put, List.getElem_toArray, List.getElem_cons_zero, List.getElem_cons_succ, List.setIfInBounds_toArray, List.set_cons_zero, List.set_cons_succ]
    refine wpAnyH_take (i := 9) (v := .bool cb) rfl (by kernel_rfl) (by kernel_rfl) (by kernel_rfl) (fun _ _ _ h => h) (Or.inl ⟨by rfl, fun W hW => ?_⟩) hHeld ?_
    · clear hW
      go_simp
    try simp only [Act.put, List.getElem_toArray, List.getElem_cons_zero, List.getElem_cons_succ, List.setIfInBounds_toArray, List.set_cons_zero, List.set_cons_succ]
    refine wpAnyH_ready (rs := [11]) (by kernel_rfl) (by simp) (AllReadyH.cons rfl (fun K hK => ?_) AllReadyH.nil)
    refine step_store_one (by rfl) 3 (.tmp 7) (.tmp 19) (by rfl) I (by rfl) (.int .i64 (bs : Int)) (by rfl) rfl 3 _ AI2 (by kernel_rfl) ?_
    have VS := (AI2).setRow #[.int .i64 (bs : Int)]
    refine hK.out _ _ (vgrown_setRow hHeld I _ (.inr (HL2.out))) (fun hHeld => ?_)
    clear hK K
    try simp only [Act.put]
    refine wpAnyH_take (i := 12) (v := .bool cb) rfl (by kernel_rfl) (by kernel_rfl) (by kernel_rfl) (fun _ _ _ h => h) (Or.inl ⟨by rfl, fun W hW => ?_⟩) hHeld ?_
    · clear hW
      go_simp
    try simp only [Act.put, List.getElem_toArray, List.getElem_cons_zero, List.getElem_cons_succ, List.setIfInBounds_toArray, List.set_cons_zero, List.set_cons_succ]
    refine wpAnyH_done (by kernel_rfl) ?_ _

    have BI : Hid (IB (w2.setRow I #[.int .i64 (bs : Int)]) I (bs : Int)) := VS
    have KW : Hid (w1.grownBy (w2.setRow I #[.int .i64 (bs : Int)]) none) := hHeld
    generalize (w2.setRow I #[.int .i64 (bs : Int)]) = wd at *
    cases cb with
    | false =>
      have HF : Hid (E = 0) := HE.out
      have HG : Hid (w.grownBy wd none) := grown_trans HG0.out KW.out
      clear HE HFT
      go_wp2
      go_ret
      exact ⟨ret_int HF.out.symm, HG.out⟩
    | true =>
      have HF : Hid (E = sidedM x.side (jdg (alikeM s.b (bs + srcM x.of) (addrG x) (n : Int))) (jdg (alikeM s.b (bs + dstM x.of) (addrG x) (n : Int)))) := HE.out
      have HFI := HFT.out rfl
      have c5 := (HQ0.out wd KW.out).node.of
      clear HE HFT
      go_upto_region 4 with fail
      go_wp2_with fail
      refine (endsOf_any _ _).mono ?_
      rintro e w5 ⟨rfl, K5⟩
      clear c5
      go_upto_region 6 with (refine wpList_store_row rfl 164 (.tmp 9) (.tmp 25) rfl w5.heap.size (endsA x.of) rfl rfl 164 _ (VAt.alloc w5 _ _) (by kernel_rfl) rfl (by simp [endsA, Value.oneCell']) ?_)
      rw [World.setRow_alloc_new]
      have K6 := World.grownBy_alloc w5 (.cells (endsA x.of) 164) none
      have E6 : EB (w5.alloc (.cells (endsA x.of) 164)) w5.heap.size x.of := VAt.alloc _ _ _
      have HQ6 : Hid (WQ (w5.alloc (.cells (endsA x.of) 164)) P N I w5.heap.size M g s a ca v x n) := WR.all (HQ0.out _ (grown_trans (grown_trans KW.out K5) K6)) (by rw [HBS.out]; exact (BI.out.kept K5).kept K6) E6
      have HG6 : Hid (w.grownBy (w5.alloc (.cells (endsA x.of) 164)) none) := grown_trans (grown_trans (grown_trans HG0.out KW.out) K5) K6
      clear K5 K6 E6 BI KW HG0 HQ0 CB hHeld VS
      generalize w5.alloc (.cells (endsA x.of) 164) = w6 at *
      generalize w5.heap.size = D at *
      refine wp_region_held_drew (S := fun W => WQ W P N I D M g s a ca v x n ∧ w6.grownBy W none) (by kernel_rfl) (⟨HQ6.out.kept (grown_drewN w6 1 none), grown_drewN w6 1 none⟩) (fun hHeld => ?_)
      refine wpAnyH_take (i := 0) (v := .pointer (some ⟨N, 6, none⟩)) rfl (by kernel_rfl) (by kernel_rfl) (by kernel_rfl) (fun _ _ _ h => h) (Or.inl ⟨by rfl, fun W hW => ?_⟩) hHeld ?_
      · clear hW
        go_simp
      try simp only [Act.put, List.getElem_toArray, List.getElem_cons_zero, List.setIfInBounds_toArray, List.set_cons_zero, List.set_cons_succ]
      refine wpAnyH_take (i := 1) (v := .int .i64 x.side) rfl (by kernel_rfl) (by kernel_rfl) (by kernel_rfl) (fun _ _ _ h => h) (Or.inl ⟨by rfl, fun W hW => ?_⟩) hHeld ?_
      · have c := hW.1.node.side
        clear hW
        go_simp
      try simp only [Act.put, List.getElem_toArray, List.getElem_cons_zero, List.getElem_cons_succ, List.setIfInBounds_toArray, List.set_cons_zero, List.set_cons_succ]
      refine wpAnyH_take (i := 2) (v := .func (.func 142) #[] #[.pointer (some ⟨P, 0, none⟩), .pointer (some ⟨I, 0, none⟩), .pointer (some ⟨N, 0, none⟩), .pointer (some ⟨D, 0, none⟩), .pointer (some ⟨M, 0, none⟩)]) rfl (by kernel_rfl) (by kernel_rfl) (by kernel_rfl) (fun _ _ _ h => h) (Or.inl ⟨by rfl, fun W hW => ?_⟩) hHeld ?_
      · clear hW
        go_simp
      try simp only [Act.put, List.getElem_toArray, List.getElem_cons_zero, List.getElem_cons_succ, List.setIfInBounds_toArray, List.set_cons_zero, List.set_cons_succ]
      refine wpAnyH_take (i := 3) (v := .pointer (some ⟨D, 0, none⟩)) rfl (by kernel_rfl) (by kernel_rfl) (by kernel_rfl) (fun _ _ _ h => h) (Or.inl ⟨by rfl, fun W hW => ?_⟩) hHeld ?_
      · clear hW
        go_simp
      try simp only [Act.put, List.getElem_toArray, List.getElem_cons_zero, List.getElem_cons_succ, List.setIfInBounds_toArray, List.set_cons_zero, List.set_cons_succ]
      refine wpAnyH_take (i := 4) (v := .int .i64 (srcM x.of : Int)) rfl (by kernel_rfl) (by kernel_rfl) (by kernel_rfl) (fun _ _ _ h => h) (Or.inl ⟨by rfl, fun W hW => ?_⟩) hHeld ?_
      · have c : W.cell? ⟨D, 0, none⟩ = some (.int .i64 (srcM x.of : Int)) := VAt.cell hW.1.ends 0
        clear hW
        go_simp
      try simp only [Act.put, List.getElem_toArray, List.getElem_cons_zero, List.getElem_cons_succ, List.setIfInBounds_toArray, List.set_cons_zero, List.set_cons_succ]
      refine wpAnyH_take (i := 6) (v := .func (.func 142) #[] #[.pointer (some ⟨P, 0, none⟩), .pointer (some ⟨I, 0, none⟩), .pointer (some ⟨N, 0, none⟩), .pointer (some ⟨D, 0, none⟩), .pointer (some ⟨M, 0, none⟩)]) rfl (by kernel_rfl) (by kernel_rfl) (by kernel_rfl) (fun _ _ _ h => h) (Or.inl ⟨by rfl, fun W hW => ?_⟩) hHeld ?_
      · clear hW
        go_simp
      try simp only [Act.put, List.getElem_toArray, List.getElem_cons_zero, List.getElem_cons_succ, List.setIfInBounds_toArray, List.set_cons_zero, List.set_cons_succ]
      refine wpAnyH_take (i := 7) (v := .pointer (some ⟨D, 1, none⟩)) rfl (by kernel_rfl) (by kernel_rfl) (by kernel_rfl) (fun _ _ _ h => h) (Or.inl ⟨by rfl, fun W hW => ?_⟩) hHeld ?_
      · clear hW
        go_simp
      try simp only [Act.put, List.getElem_toArray, List.getElem_cons_zero, List.getElem_cons_succ, List.setIfInBounds_toArray, List.set_cons_zero, List.set_cons_succ]
      refine wpAnyH_take (i := 8) (v := .int .i64 (dstM x.of : Int)) rfl (by kernel_rfl) (by kernel_rfl) (by kernel_rfl) (fun _ _ _ h => h) (Or.inl ⟨by rfl, fun W hW => ?_⟩) hHeld ?_
      · have c : W.cell? ⟨D, 1, none⟩ = some (.int .i64 (dstM x.of : Int)) := VAt.cell hW.1.ends 1
        clear hW
        go_simp
      try simp only [Act.put, List.getElem_toArray, List.getElem_cons_zero, List.getElem_cons_succ, List.setIfInBounds_toArray, List.set_cons_zero, List.set_cons_succ]
      refine wpAnyH_ready (rs := [5]) (by kernel_rfl) (by simp) (AllReadyH.cons rfl (fun K hK => ?_) AllReadyH.nil)
      go_simp
      refine (CW.out P N I D M (srcM x.of) _ hHeld.1 HFI.1).mono ?_
      rintro e w7 ⟨rfl, K7⟩
      go_wp2_with fail
      refine hK.out _ _ (⟨hHeld.1.kept K7, grown_trans hHeld.2 K7⟩) (fun hHeld => ?_)
      clear hK K
      try simp only [Act.put, List.getElem_toArray, List.getElem_cons_zero, List.getElem_cons_succ, List.setIfInBounds_toArray, List.set_cons_zero, List.set_cons_succ]
      refine wpAnyH_ready (rs := [9]) (by kernel_rfl) (by simp) (AllReadyH.cons rfl (fun K hK => ?_) AllReadyH.nil)
      go_simp
      refine (CW.out P N I D M (dstM x.of) _ hHeld.1 HFI.2).mono ?_
      rintro e w8 ⟨rfl, K8⟩
      go_wp2_with fail
      refine hK.out _ _ (⟨hHeld.1.kept K8, grown_trans hHeld.2 K8⟩) (fun hHeld => ?_)
      clear hK K
      try simp only [Act.put, List.getElem_toArray, List.getElem_cons_zero, List.getElem_cons_succ, List.setIfInBounds_toArray, List.set_cons_zero, List.set_cons_succ]
      refine wpAnyH_ready (rs := [10]) (by kernel_rfl) (by simp) (AllReadyH.cons rfl (fun K hK => ?_) AllReadyH.nil)
      go_simp
      refine (sided_any _ _ _ _).mono ?_
      rintro e w9 ⟨rfl, K9⟩
      go_wp2_with fail
      refine hK.out _ _ (K9 ▸ hHeld) (fun hHeld => ?_)
      clear hK K
      try simp only [Act.put, List.getElem_toArray, List.getElem_cons_zero, List.getElem_cons_succ, List.setIfInBounds_toArray, List.set_cons_zero, List.set_cons_succ]
      refine wpAnyH_take (i := 11) (v := .int .i64 (sidedM x.side (jdg (alikeM s.b (bs + srcM x.of) (addrG x) (n : Int))) (jdg (alikeM s.b (bs + dstM x.of) (addrG x) (n : Int))))) rfl (by kernel_rfl) (by kernel_rfl) (by kernel_rfl) (fun _ _ _ h => h) (Or.inl ⟨by rfl, fun W hW => ?_⟩) hHeld ?_
      · clear hW
        go_simp
      try simp only [Act.put, List.getElem_toArray, List.getElem_cons_zero, List.getElem_cons_succ, List.setIfInBounds_toArray, List.set_cons_zero, List.set_cons_succ]
      refine wpAnyH_done (by kernel_rfl) ?_ _
      have G := grown_trans HG6.out hHeld.2
      clear hHeld
      go_wp2
      go_ret
      exact ⟨ret_int HF.out.symm, G⟩
end Go.Proofs.YtnojpepjloceoaaGreat
