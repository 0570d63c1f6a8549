/-
  Package mean as landed: one node.
-/
import Derived.Test.YtnojpepjloceoaaGreatLotP30
namespace Go.Proofs.YtnojpepjloceoaaGreat
open Go.RowKit
set_option maxRecDepth 100000

theorem stpM_zero (s : Sg) (st : List Pm) (x : Ng) (h : arG x.kind = some 0) : stpM s st x = st ++ [overM s x []] := by
  unfold stpM
  rw [h]
  simp
theorem stpM_one (s : Sg) (st : List Pm) (q : Pm) (x : Ng) (h : arG x.kind = some 1) : stpM s (st ++ [q]) x = st ++ [overM s x [q]] := by
  unfold stpM
  rw [h]
  simp
theorem stpM_two (s : Sg) (st : List Pm) (p q : Pm) (x : Ng) (h : arG x.kind = some 2) : stpM s (st ++ [p, q]) x = st ++ [overM s x [p, q]] := by
  unfold stpM
  rw [h]
  simp
theorem field_part (q : Pm) (W : World) : (Instr.field 71 (.agg (pmC q)) 0).run Tryz.prog W = .ok (.int .i64 q.how) W := by kernel_rfl
theorem build_part (h : Int) (W : World) : (Instr.build 71 #[(0, .int .i64 h)]).run Tryz.prog W = .ok (.agg (pmC ⟨h, 0⟩)) W := by kernel_rfl

theorem two_new (w : World) (p : Pm) : VAt (((w.alloc (.cells (pmC pm0) 71)).alloc (.cells (pmC pm0) 71)).setRow w.heap.size (pmC p)) (w.heap.size + 1) 71 (pmC pm0) := by
  obtain ⟨w1, h1, A, B, G⟩ := two_parts w pm0 pm0
  rw [h1]
  exact VAt.other B.vat _ (by omega)
theorem two_set (w : World) (p q : Pm) : ∃ w3, (((w.alloc (.cells (pmC pm0) 71)).alloc (.cells (pmC pm0) 71)).setRow w.heap.size (pmC p)).setRow (w.heap.size + 1) (pmC q) = w3 ∧ QB w3 w.heap.size p ∧ QB w3 (w.heap.size + 1) q ∧ w.grownBy w3 none := by
  refine ⟨_, rfl, ?_⟩
  obtain ⟨w1, h1, A, B, G⟩ := two_parts w pm0 pm0
  rw [h1]
  have A2 := A.vat.setRow (pmC p)
  have B2 := VAt.other B.vat (pmC p) (k := w.heap.size) (by omega)
  exact ⟨VAt.other A2 _ (by omega), B2.setRow _, vgrown_setRow (vgrown_setRow G _ _ (.inr (Nat.le_refl _))) _ _ (.inr (by omega))⟩

section
variable {w0 w : World} {s : Sg} {a : Option Addr} {ca g : Nat} {v : Value} {st : List Pm} {x : Ng}

set_option maxHeartbeats 2000000 in
theorem read1 (R : RS w0 w g s a ca v st) (hc : Cells w0 a s.b) (hk : MSgOk s) (hcap : s.b.length ≤ ca) (hl : st.length ≤ 2999) (hx : x.kind = 1) :
    Calls Tryz.prog 66 #[.pointer (some ⟨g, 0, none⟩), .agg x.cells.toArray] w fun e w' => e = .returned (.tuple #[]) ∧ Lft w0 w g s a ca v (st ++ [⟨1, x.n⟩]) w' := by
  have HBX := box_ng x
  have K0 := World.grownBy_alloc w (.cells x.cells.toArray 37) none
  have N1 := NB.alloc w x
  have R1 := R.keep K0
  have HC : Hid (∀ W, w0.grownBy W none → Cells W a s.b) := fun W K => hc.keptNone K
  have HFN : Hid (∀ st' w', Lft w0 (w.alloc (.cells x.cells.toArray 37)) g s a ca v st' w' → Lft w0 w g s a ca v st' w') := fun st' w' h => Lft.of (GB.non K0) (fun _ _ h => h) h
  have HNB : Hid (¬ ft g v w.heap.size) := R.not (Nat.le_refl _)
  have HL : Hid (st.length ≤ 2999) := hl
  have HZ := ng_size x
  have HPS := mpart_size
  have HSK : Hid (MSgOk s ∧ s.b.length ≤ ca) := ⟨hk, hcap⟩
  clear R K0 hl hc hk hcap

  obtain ⟨X, hX⟩ : ∃ X, x.cells.toArray = X := ⟨_, rfl⟩
  have HX : Hid (x.cells.toArray = X) := hX
  rw [hX] at HBX HFN HZ N1 R1 ⊢
  clear hX
  go_enter Tryz.func66, Tryz.ntmps66
  go_upto_region 1 with fail
  generalize w.alloc (.cells X 37) = w1 at *
  generalize w.heap.size = B at *
  have V1 : VAt w1 B 37 X := HX.out ▸ N1.vat
  clear HBX
  have c0 := N1.kind
  rw [hx] at c0
  have c1 := N1.n
  clear hx
  go_upto_region 4 with fail
  go_wp2_with fail
  refine (mknown_any x.n _).mono ?_
  rintro e w2 ⟨rfl, K2⟩
  have R2 := R1.keep K2
  go_wp2_with fail
  refine (put_any14 w0 s a ca g v st ⟨1, x.n⟩ w2 R2 (by have := HL.out; omega)).mono ?_
  rintro e w9 ⟨rfl, L9⟩
  have HF : Hid (Lft w0 w g s a ca v (st ++ [⟨1, x.n⟩]) w9) := HFN.out _ _ (Lft.of (GB.non K2) (fun _ _ h => h) L9)
  go_wp2
  go_end0
  exact ⟨rfl, HF.out⟩

set_option maxHeartbeats 2000000 in
theorem read2 (R : RS w0 w g s a ca v st) (hc : Cells w0 a s.b) (hk : MSgOk s) (hcap : s.b.length ≤ ca) (hl : st.length ≤ 2999) (hx : x.kind = 2) :
    Calls Tryz.prog 66 #[.pointer (some ⟨g, 0, none⟩), .agg x.cells.toArray] w fun e w' => e = .returned (.tuple #[]) ∧ Lft w0 w g s a ca v (st ++ [⟨1, s.b.length⟩]) w' := by
  have HBX := box_ng x
  have K0 := World.grownBy_alloc w (.cells x.cells.toArray 37) none
  have N1 := NB.alloc w x
  have R1 := R.keep K0
  have HC : Hid (∀ W, w0.grownBy W none → Cells W a s.b) := fun W K => hc.keptNone K
  have HFN : Hid (∀ st' w', Lft w0 (w.alloc (.cells x.cells.toArray 37)) g s a ca v st' w' → Lft w0 w g s a ca v st' w') := fun st' w' h => Lft.of (GB.non K0) (fun _ _ h => h) h
  have HNB : Hid (¬ ft g v w.heap.size) := R.not (Nat.le_refl _)
  have HL : Hid (st.length ≤ 2999) := hl
  have HZ := ng_size x
  have HPS := mpart_size
  have HSK : Hid (MSgOk s ∧ s.b.length ≤ ca) := ⟨hk, hcap⟩
  clear R K0 hl hc hk hcap

  obtain ⟨X, hX⟩ : ∃ X, x.cells.toArray = X := ⟨_, rfl⟩
  have HX : Hid (x.cells.toArray = X) := hX
  rw [hX] at HBX HFN HZ N1 R1 ⊢
  clear hX
  go_enter Tryz.func66, Tryz.ntmps66
  go_upto_region 1 with fail
  generalize w.alloc (.cells X 37) = w1 at *
  generalize w.heap.size = B at *
  have V1 : VAt w1 B 37 X := HX.out ▸ N1.vat
  clear HBX
  have c0 := N1.kind
  rw [hx] at c0
  clear hx
  go_upto_region 6 with fail
  have c1 := R1.rd.tell
  go_wp2_with fail
  refine (vlength_any s a ca _ HSK.out.1.len).mono ?_
  rintro e w2 ⟨rfl, K2⟩
  clear c1
  go_wp2_with fail
  refine (mknown_any s.b.length _).mono ?_
  rintro e w3 ⟨rfl, K3⟩
  have K23 := grown_trans K2 K3
  have R2 := R1.keep K23
  go_wp2_with fail
  refine (put_any14 w0 s a ca g v st ⟨1, s.b.length⟩ w3 R2 (by have := HL.out; omega)).mono ?_
  rintro e w9 ⟨rfl, L9⟩
  have HF : Hid (Lft w0 w g s a ca v (st ++ [⟨1, s.b.length⟩]) w9) := HFN.out _ _ (Lft.of (GB.non K23) (fun _ _ h => h) L9)
  go_wp2
  go_end0
  exact ⟨rfl, HF.out⟩

set_option maxHeartbeats 2000000 in
theorem read3 (q : Pm) (R : RS w0 w g s a ca v (st ++ [q])) (hc : Cells w0 a s.b) (hk : MSgOk s) (hcap : s.b.length ≤ ca) (hl : st.length ≤ 2999) (hx : x.kind = 3 ∧ q.val ≤ 4294967295) :
    Calls Tryz.prog 66 #[.pointer (some ⟨g, 0, none⟩), .agg x.cells.toArray] w fun e w' => e = .returned (.tuple #[]) ∧ Lft w0 w g s a ca v (st ++ [loadM s x q]) w' := by
  have HBX := box_ng x
  have K0 := World.grownBy_alloc w (.cells x.cells.toArray 37) none
  have N1 := NB.alloc w x
  have R1 := R.keep K0
  have HC : Hid (∀ W, w0.grownBy W none → Cells W a s.b) := fun W K => hc.keptNone K
  have HFN : Hid (∀ st' w', Lft w0 (w.alloc (.cells x.cells.toArray 37)) g s a ca v st' w' → Lft w0 w g s a ca v st' w') := fun st' w' h => Lft.of (GB.non K0) (fun _ _ h => h) h
  have HNB : Hid (¬ ft g v w.heap.size) := R.not (Nat.le_refl _)
  have HL : Hid (st.length ≤ 2999) := hl
  have HZ := ng_size x
  have HPS := mpart_size
  have HSK : Hid (MSgOk s ∧ s.b.length ≤ ca) := ⟨hk, hcap⟩
  clear R K0 hl hc hk hcap

  obtain ⟨X, hX⟩ : ∃ X, x.cells.toArray = X := ⟨_, rfl⟩
  have HX : Hid (x.cells.toArray = X) := hX
  rw [hX] at HBX HFN HZ N1 R1 ⊢
  clear hX
  go_enter Tryz.func66, Tryz.ntmps66
  go_upto_region 1 with fail
  generalize w.alloc (.cells X 37) = w1 at *
  generalize w.heap.size = B at *
  have V1 : VAt w1 B 37 X := HX.out ▸ N1.vat
  clear HBX
  have c0 := N1.kind
  rw [hx.1] at c0
  have HQ : Hid (q.val ≤ 4294967295) := hx.2
  clear hx
  go_upto_region 8 with fail
  have HV1 : Hid (VAt w1.drew B 37 X) := V1.kept (grown_drewN w1 1 none)
  have HR1 : Hid (RS w0 w1.drew g s a ca v (st ++ [q])) := R1.keep (grown_drewN w1 1 none)
  have HGD : Hid (w1.grownBy w1.drew none) := grown_drewN w1 1 none
  have HCL : Hid (∀ (v2 : Value) (W : World), RD W g s a ca v2 → Cells W a s.b → Calls Tryz.prog 109 #[.pointer (some ⟨g, 0, none⟩), .agg X, pmA q] W fun e w' => e = .returned (pmA (loadM s x q)) ∧ W.grownBy w' none) := fun v2 W h1 h2 => by
    rw [← HX.out]
    exact mload_any s a ca g v2 x q W h1 h2 HSK.out.1 HQ.out
  clear R1 V1
  refine wp_region_held_drew (S := fun W => VAt W B 37 X) (by kernel_rfl) (HV1.out) (fun hHeld => ?_)
  refine wpAnyH_take (i := 0) (v := .pointer (some ⟨g, 0, none⟩)) rfl (by kernel_rfl) (by kernel_rfl) (by kernel_rfl) (fun _ _ _ h => h) (Or.inl ⟨by rfl, fun W hW => ?_⟩) hHeld ?_
  · clear hW
    go_simp
  try simp only [Act.put, List.getElem_toArray, List.getElem_cons_zero, List.setIfInBounds_toArray, List.set_cons_zero, List.set_cons_succ]
  refine wpAnyH_take (i := 1) (v := .pointer (some ⟨g, 0, none⟩)) rfl (by kernel_rfl) (by kernel_rfl) (by kernel_rfl) (fun _ _ _ h => h) (Or.inl ⟨by rfl, fun W hW => ?_⟩) hHeld ?_
  · clear hW
    go_simp
  try simp only [Act.put, List.getElem_toArray, List.getElem_cons_zero, List.getElem_cons_succ, List.setIfInBounds_toArray, List.set_cons_zero, List.set_cons_succ]
  refine wpAnyH_take (i := 2) (v := .agg (X)) rfl (by kernel_rfl) (by kernel_rfl) (by kernel_rfl) (fun _ _ _ h => h) (yieldsIf_load_row (by rfl) _ _ rfl B rfl 37 (X) _ (fun W hW => hW) Tryz.underlying37 rfl HZ) hHeld ?_
  try simp only [Act.put, List.getElem_toArray, List.getElem_cons_zero, List.getElem_cons_succ, List.setIfInBounds_toArray, List.set_cons_zero, List.set_cons_succ]
  refine wpAnyH_take (i := 3) (v := .pointer (some ⟨g, 0, none⟩)) rfl (by kernel_rfl) (by kernel_rfl) (by kernel_rfl) (fun _ _ _ h => h) (Or.inl ⟨by rfl, fun W hW => ?_⟩) hHeld ?_
  · clear hW
    go_simp
  try simp only [Act.put, List.getElem_toArray, List.getElem_cons_zero, List.getElem_cons_succ, List.setIfInBounds_toArray, List.set_cons_zero, List.set_cons_succ]
  refine wpAnyH_ready (rs := [4]) (by kernel_rfl) (by simp) (AllReadyH.cons rfl (fun K hK => ?_) AllReadyH.nil)
  go_simp
  refine (take_any14 w0 s a ca g v st q _ HR1.out).mono ?_
  rintro e w2 ⟨rfl, L2⟩
  go_wp2_with fail
  refine hK.out _ _ (L2.vat HV1.out HNB.out) (fun hHeld => ?_)
  clear hK K
  try simp only [Act.put, List.getElem_toArray, List.getElem_cons_zero, List.getElem_cons_succ, List.setIfInBounds_toArray, List.set_cons_zero, List.set_cons_succ]
  obtain ⟨v2, R2, G2, F2⟩ := L2
  refine wpAnyH_ready (rs := [5]) (by kernel_rfl) (by simp) (AllReadyH.cons rfl (fun K hK => ?_) AllReadyH.nil)
  go_simp
  refine (HCL.out v2 _ R2.rd (HC.out _ R2.grown)).mono ?_
  rintro e w3 ⟨rfl, K3⟩
  go_wp2_with fail
  refine hK.out _ _ (hHeld.kept K3) (fun hHeld => ?_)
  clear hK K
  try simp only [Act.put, List.getElem_toArray, List.getElem_cons_zero, List.getElem_cons_succ, List.setIfInBounds_toArray, List.set_cons_zero, List.set_cons_succ]
  have R3 := R2.keep K3
  refine wpAnyH_ready (rs := [6]) (by kernel_rfl) (by simp) (AllReadyH.cons rfl (fun K hK => ?_) AllReadyH.nil)
  go_simp
  refine (put_any14 w0 s a ca g v2 st (loadM s x q) _ R3 (by have := HL.out; omega)).mono ?_
  rintro e w4 ⟨rfl, L4⟩
  go_wp2_with fail
  refine hK.out _ _ (L4.vat hHeld (fun e => HNB.out (F2 B HV1.out.lt e))) (fun hHeld => ?_)
  clear hK K
  try simp only [Act.put, List.setIfInBounds_toArray, List.set_cons_zero, List.set_cons_succ]
  refine wpAnyH_done (by kernel_rfl) ?_ _

  have HF : Hid (Lft w0 w g s a ca v (st ++ [loadM s x q]) w4) := HFN.out _ _ (Lft.of (GB.non HGD.out) (fun _ _ h => h) (Lft.of (G2.trans (GB.non (S := ft g v) K3) (fun _ _ h => h)) F2 L4))
  clear hHeld L4
  go_wp2
  go_end0
  exact ⟨rfl, HF.out⟩

set_option maxHeartbeats 2000000 in
theorem read5 (q : Pm) (R : RS w0 w g s a ca v (st ++ [q])) (hc : Cells w0 a s.b) (hk : MSgOk s) (hcap : s.b.length ≤ ca) (hl : st.length ≤ 2999) (hx : x.kind = 5 ∧ q.val ≤ 4294967295) :
    Calls Tryz.prog 66 #[.pointer (some ⟨g, 0, none⟩), .agg x.cells.toArray] w fun e w' => e = .returned (.tuple #[]) ∧ Lft w0 w g s a ca v (st ++ [minusM q]) w' := by
  have HBX := box_ng x
  have K0 := World.grownBy_alloc w (.cells x.cells.toArray 37) none
  have N1 := NB.alloc w x
  have R1 := R.keep K0
  have HC : Hid (∀ W, w0.grownBy W none → Cells W a s.b) := fun W K => hc.keptNone K
  have HFN : Hid (∀ st' w', Lft w0 (w.alloc (.cells x.cells.toArray 37)) g s a ca v st' w' → Lft w0 w g s a ca v st' w') := fun st' w' h => Lft.of (GB.non K0) (fun _ _ h => h) h
  have HNB : Hid (¬ ft g v w.heap.size) := R.not (Nat.le_refl _)
  have HL : Hid (st.length ≤ 2999) := hl
  have HZ := ng_size x
  have HPS := mpart_size
  have HSK : Hid (MSgOk s ∧ s.b.length ≤ ca) := ⟨hk, hcap⟩
  clear R K0 hl hc hk hcap

  obtain ⟨X, hX⟩ : ∃ X, x.cells.toArray = X := ⟨_, rfl⟩
  have HX : Hid (x.cells.toArray = X) := hX
  rw [hX] at HBX HFN HZ N1 R1 ⊢
  clear hX
  go_enter Tryz.func66, Tryz.ntmps66
  go_upto_region 1 with fail
  generalize w.alloc (.cells X 37) = w1 at *
  generalize w.heap.size = B at *
  have V1 : VAt w1 B 37 X := HX.out ▸ N1.vat
  clear HBX
  have c0 := N1.kind
  rw [hx.1] at c0
  have HQ : Hid (q.val ≤ 4294967295) := hx.2
  clear hx
  go_upto_region 10 with fail
  go_wp2_with fail
  refine (take_any14 w0 s a ca g v st q w1 R1).mono ?_
  rintro e w2 ⟨rfl, v2, R2, G2, F2⟩
  go_wp2_with fail
  refine (mminus_any q HQ.out _).mono ?_
  rintro e w3 ⟨rfl, K3⟩
  have R3 := R2.keep K3
  go_wp2_with fail
  refine (put_any14 w0 s a ca g v2 st (minusM q) w3 R3 (by have := HL.out; omega)).mono ?_
  rintro e w9 ⟨rfl, L9⟩
  have HF : Hid (Lft w0 w g s a ca v (st ++ [(minusM q)]) w9) := HFN.out _ _ (Lft.of (G2.trans (GB.non (S := ft g v) K3) (fun _ _ h => h)) F2 L9)
  go_wp2
  go_end0
  exact ⟨rfl, HF.out⟩

set_option maxHeartbeats 2000000 in
theorem read9 (q : Pm) (R : RS w0 w g s a ca v (st ++ [q])) (hc : Cells w0 a s.b) (hk : MSgOk s) (hcap : s.b.length ≤ ca) (hl : st.length ≤ 2999) (hx : x.kind = 9) :
    Calls Tryz.prog 66 #[.pointer (some ⟨g, 0, none⟩), .agg x.cells.toArray] w fun e w' => e = .returned (.tuple #[]) ∧ Lft w0 w g s a ca v (st ++ [⟨notM q.how, 0⟩]) w' := by
  have HBX := box_ng x
  have K0 := World.grownBy_alloc w (.cells x.cells.toArray 37) none
  have N1 := NB.alloc w x
  have R1 := R.keep K0
  have HC : Hid (∀ W, w0.grownBy W none → Cells W a s.b) := fun W K => hc.keptNone K
  have HFN : Hid (∀ st' w', Lft w0 (w.alloc (.cells x.cells.toArray 37)) g s a ca v st' w' → Lft w0 w g s a ca v st' w') := fun st' w' h => Lft.of (GB.non K0) (fun _ _ h => h) h
  have HNB : Hid (¬ ft g v w.heap.size) := R.not (Nat.le_refl _)
  have HL : Hid (st.length ≤ 2999) := hl
  have HZ := ng_size x
  have HPS := mpart_size
  have HSK : Hid (MSgOk s ∧ s.b.length ≤ ca) := ⟨hk, hcap⟩
  clear R K0 hl hc hk hcap

  obtain ⟨X, hX⟩ : ∃ X, x.cells.toArray = X := ⟨_, rfl⟩
  have HX : Hid (x.cells.toArray = X) := hX
  rw [hX] at HBX HFN HZ N1 R1 ⊢
  clear hX
  go_enter Tryz.func66, Tryz.ntmps66
  go_upto_region 1 with fail
  generalize w.alloc (.cells X 37) = w1 at *
  generalize w.heap.size = B at *
  have V1 : VAt w1 B 37 X := HX.out ▸ N1.vat
  clear HBX
  have c0 := N1.kind
  rw [hx] at c0
  clear hx
  go_upto_region 24 with fail
  have HFP := field_part q
  have HBD := build_part (notM q.how)
  go_wp2_with fail
  refine (take_any14 w0 s a ca g v st q w1 R1).mono ?_
  rintro e w2 ⟨rfl, v2, R2, G2, F2⟩
  go_wp2_with fail
  refine (other_any q.how _).mono ?_
  rintro e w3 ⟨rfl, rfl⟩
  go_wp2_with fail
  refine (put_any14 w0 s a ca g v2 st ⟨notM q.how, 0⟩ _ R2 (by have := HL.out; omega)).mono ?_
  rintro e w9 ⟨rfl, L9⟩
  have HF : Hid (Lft w0 w g s a ca v (st ++ [⟨notM q.how, 0⟩]) w9) := HFN.out _ _ (Lft.of G2 F2 L9)
  go_wp2
  go_end0
  exact ⟨rfl, HF.out⟩

set_option maxHeartbeats 2000000 in
theorem read4 (p q : Pm) (R : RS w0 w g s a ca v (st ++ [p, q])) (hc : Cells w0 a s.b) (hk : MSgOk s) (hcap : s.b.length ≤ ca) (hl : st.length ≤ 2999) (hx : x.kind = 4 ∧ (1 ≤ x.op ∧ x.op ≤ 10 ∧ p.val ≤ 4294967295 ∧ q.val ≤ 4294967295)) :
    Calls Tryz.prog 66 #[.pointer (some ⟨g, 0, none⟩), .agg x.cells.toArray] w fun e w' => e = .returned (.tuple #[]) ∧ Lft w0 w g s a ca v (st ++ [arithM x.op p q]) w' := by
  have HBX := box_ng x
  have K0 := World.grownBy_alloc w (.cells x.cells.toArray 37) none
  have N1 := NB.alloc w x
  have R1 := R.keep K0
  have HC : Hid (∀ W, w0.grownBy W none → Cells W a s.b) := fun W K => hc.keptNone K
  have HFN : Hid (∀ st' w', Lft w0 (w.alloc (.cells x.cells.toArray 37)) g s a ca v st' w' → Lft w0 w g s a ca v st' w') := fun st' w' h => Lft.of (GB.non K0) (fun _ _ h => h) h
  have HNB : Hid (¬ ft g v w.heap.size) := R.not (Nat.le_refl _)
  have HL : Hid (st.length ≤ 2999) := hl
  have HZ := ng_size x
  have HPS := mpart_size
  have HSK : Hid (MSgOk s ∧ s.b.length ≤ ca) := ⟨hk, hcap⟩
  clear R K0 hl hc hk hcap

  obtain ⟨X, hX⟩ : ∃ X, x.cells.toArray = X := ⟨_, rfl⟩
  have HX : Hid (x.cells.toArray = X) := hX
  rw [hX] at HBX HFN HZ N1 R1 ⊢
  clear hX
  go_enter Tryz.func66, Tryz.ntmps66
  go_upto_region 1 with fail
  generalize w.alloc (.cells X 37) = w1 at *
  generalize w.heap.size = B at *
  have V1 : VAt w1 B 37 X := HX.out ▸ N1.vat
  clear HBX
  have c0 := N1.kind
  have c1 := N1.op
  rw [hx.1] at c0
  have HH : Hid ((1 ≤ x.op ∧ x.op ≤ 10 ∧ p.val ≤ 4294967295 ∧ q.val ≤ 4294967295)) := hx.2
  clear hx
  go_upto_region 12 with fail
  go_wp2_with fail
  refine (pair_any14 w0 s a ca g v st p q w1 R1).mono ?_
  rintro e w2 ⟨rfl, v2, R2, G2, F2⟩
  have V2 := G2.vat V1 HNB.out
  clear c0 c1
  obtain ⟨w3, hw3, P3, Q3, K3⟩ := two_set w2 p q
  go_upto_region 13 with (first | (refine wpList_store_row rfl 71 (.tmp 4) (.tmp 58) rfl w2.heap.size (pmC p) rfl rfl 71 _ (VAt.kept (VAt.alloc w2 _ _) (World.grownBy_alloc _ _ _)) (HPS _) rfl (part_all _) ?_) | (refine wpList_store_row rfl 71 (.tmp 5) (.tmp 59) rfl (w2.heap.size + 1) (pmC q) rfl rfl 71 _ (two_new w2 p) (HPS _) rfl (part_all _) ?_))
  have e3 : (((w2.alloc (.cells #[.int .i64 0, .int .u32 0] 71)).alloc (.cells #[.int .i64 0, .int .u32 0] 71)).setRow w2.heap.size (pmC p)).setRow (w2.heap.size + 1) (pmC q) = w3 := hw3
  try rw [e3]
  clear e3 hw3
  have R3 := R2.keep K3
  have G3 : GB w1 w3 (ft g v) := G2.trans (GB.non (S := ft g v) K3) (fun _ _ h => h)
  have N3 : NB w3 B x := by have h := V2.kept K3; rw [← HX.out] at h; exact h
  have HR3 : Hid (RS w0 w3 g s a ca v2 st) := R3
  have HG3 : Hid (GB w1 w3 (ft g v)) := G3
  have HF2 : Hid (∀ x, x < w1.heap.size → ft g v2 x → ft g v x) := F2
  clear R2 G2 V1 V2 N1 R1 K3 R3 G3 F2
  generalize w2.heap.size + 1 = B2 at *
  generalize w2.heap.size = B1 at *
  have c1 := N3.op
  have VP := P3.vat
  have VQ := Q3.vat
  have d0 := P3.how
  have d1 := Q3.how
  go_wp2_with (first | (refine wpList_load_row rfl 71 (.tmp 4) rfl B1 rfl 71 (pmC p) (0, 0) _ VP Tryz.underlying71 rfl (HPS _) ?_) | (refine wpList_load_row rfl 71 (.tmp 5) rfl B2 rfl 71 (pmC q) (0, 0) _ VQ Tryz.underlying71 rfl (HPS _) ?_))
  refine (marith_any x.op p q ⟨HH.out.1, HH.out.2.1⟩ HH.out.2.2.1 HH.out.2.2.2 _).mono ?_
  rintro e w4 ⟨rfl, K4⟩
  clear c1 d0 d1 VP VQ
  go_wp2_with fail
  refine (put_any14 w0 s a ca g v2 st (arithM x.op p q) _ (HR3.out.keep K4) (by have := HL.out; omega)).mono ?_
  rintro e w9 ⟨rfl, L9⟩
  have HF : Hid (Lft w0 w g s a ca v (st ++ [(arithM x.op p q)]) w9) := HFN.out _ _ (Lft.of (HG3.out.trans (GB.non (S := ft g v) K4) (fun _ _ h => h)) HF2.out L9)
  go_wp2
  go_end0
  exact ⟨rfl, HF.out⟩

set_option maxHeartbeats 2000000 in
theorem read6 (p q : Pm) (R : RS w0 w g s a ca v (st ++ [p, q])) (hc : Cells w0 a s.b) (hk : MSgOk s) (hcap : s.b.length ≤ ca) (hl : st.length ≤ 2999) (hx : x.kind = 6) :
    Calls Tryz.prog 66 #[.pointer (some ⟨g, 0, none⟩), .agg x.cells.toArray] w fun e w' => e = .returned (.tuple #[]) ∧ Lft w0 w g s a ca v (st ++ [⟨relM x.op p q, 0⟩]) w' := by
  have HBX := box_ng x
  have K0 := World.grownBy_alloc w (.cells x.cells.toArray 37) none
  have N1 := NB.alloc w x
  have R1 := R.keep K0
  have HC : Hid (∀ W, w0.grownBy W none → Cells W a s.b) := fun W K => hc.keptNone K
  have HFN : Hid (∀ st' w', Lft w0 (w.alloc (.cells x.cells.toArray 37)) g s a ca v st' w' → Lft w0 w g s a ca v st' w') := fun st' w' h => Lft.of (GB.non K0) (fun _ _ h => h) h
  have HNB : Hid (¬ ft g v w.heap.size) := R.not (Nat.le_refl _)
  have HL : Hid (st.length ≤ 2999) := hl
  have HZ := ng_size x
  have HPS := mpart_size
  have HSK : Hid (MSgOk s ∧ s.b.length ≤ ca) := ⟨hk, hcap⟩
  clear R K0 hl hc hk hcap

  obtain ⟨X, hX⟩ : ∃ X, x.cells.toArray = X := ⟨_, rfl⟩
  have HX : Hid (x.cells.toArray = X) := hX
  rw [hX] at HBX HFN HZ N1 R1 ⊢
  clear hX
  go_enter Tryz.func66, Tryz.ntmps66
  go_upto_region 1 with fail
  generalize w.alloc (.cells X 37) = w1 at *
  generalize w.heap.size = B at *
  have V1 : VAt w1 B 37 X := HX.out ▸ N1.vat
  clear HBX
  have c0 := N1.kind
  have c1 := N1.op
  rw [hx] at c0
  clear hx
  go_upto_region 15 with fail
  go_wp2_with fail
  refine (pair_any14 w0 s a ca g v st p q w1 R1).mono ?_
  rintro e w2 ⟨rfl, v2, R2, G2, F2⟩
  have V2 := G2.vat V1 HNB.out
  clear c0 c1
  obtain ⟨w3, hw3, P3, Q3, K3⟩ := two_set w2 p q
  go_upto_region 16 with (first | (refine wpList_store_row rfl 71 (.tmp 6) (.tmp 72) rfl w2.heap.size (pmC p) rfl rfl 71 _ (VAt.kept (VAt.alloc w2 _ _) (World.grownBy_alloc _ _ _)) (HPS _) rfl (part_all _) ?_) | (refine wpList_store_row rfl 71 (.tmp 7) (.tmp 73) rfl (w2.heap.size + 1) (pmC q) rfl rfl 71 _ (two_new w2 p) (HPS _) rfl (part_all _) ?_))
  have e3 : (((w2.alloc (.cells #[.int .i64 0, .int .u32 0] 71)).alloc (.cells #[.int .i64 0, .int .u32 0] 71)).setRow w2.heap.size (pmC p)).setRow (w2.heap.size + 1) (pmC q) = w3 := hw3
  try rw [e3]
  clear e3 hw3
  have R3 := R2.keep K3
  have G3 : GB w1 w3 (ft g v) := G2.trans (GB.non (S := ft g v) K3) (fun _ _ h => h)
  have N3 : NB w3 B x := by have h := V2.kept K3; rw [← HX.out] at h; exact h
  have HR3 : Hid (RS w0 w3 g s a ca v2 st) := R3
  have HG3 : Hid (GB w1 w3 (ft g v)) := G3
  have HF2 : Hid (∀ x, x < w1.heap.size → ft g v2 x → ft g v x) := F2
  clear R2 G2 V1 V2 N1 R1 K3 R3 G3 F2
  generalize w2.heap.size + 1 = B2 at *
  generalize w2.heap.size = B1 at *
  have c1 := N3.op
  have VP := P3.vat
  have VQ := Q3.vat
  have d0 := P3.how
  have d1 := Q3.how
  have HBD := build_part (relM x.op p q)
  go_wp2_with (first | (refine wpList_load_row rfl 71 (.tmp 6) rfl B1 rfl 71 (pmC p) (0, 0) _ VP Tryz.underlying71 rfl (HPS _) ?_) | (refine wpList_load_row rfl 71 (.tmp 7) rfl B2 rfl 71 (pmC q) (0, 0) _ VQ Tryz.underlying71 rfl (HPS _) ?_))
  refine (mrel_any x.op p q _).mono ?_
  rintro e w4 ⟨rfl, K4⟩
  clear c1 d0 d1 VP VQ
  go_wp2_with fail
  refine (put_any14 w0 s a ca g v2 st ⟨relM x.op p q, 0⟩ _ (HR3.out.keep K4) (by have := HL.out; omega)).mono ?_
  rintro e w9 ⟨rfl, L9⟩
  have HF : Hid (Lft w0 w g s a ca v (st ++ [⟨relM x.op p q, 0⟩]) w9) := HFN.out _ _ (Lft.of (HG3.out.trans (GB.non (S := ft g v) K4) (fun _ _ h => h)) HF2.out L9)
  go_wp2
  go_end0
  exact ⟨rfl, HF.out⟩

set_option maxHeartbeats 2000000 in
theorem read7 (p q : Pm) (R : RS w0 w g s a ca v (st ++ [p, q])) (hc : Cells w0 a s.b) (hk : MSgOk s) (hcap : s.b.length ≤ ca) (hl : st.length ≤ 2999) (hx : x.kind = 7) :
    Calls Tryz.prog 66 #[.pointer (some ⟨g, 0, none⟩), .agg x.cells.toArray] w fun e w' => e = .returned (.tuple #[]) ∧ Lft w0 w g s a ca v (st ++ [⟨andM p.how q.how, 0⟩]) w' := by
  have HBX := box_ng x
  have K0 := World.grownBy_alloc w (.cells x.cells.toArray 37) none
  have N1 := NB.alloc w x
  have R1 := R.keep K0
  have HC : Hid (∀ W, w0.grownBy W none → Cells W a s.b) := fun W K => hc.keptNone K
  have HFN : Hid (∀ st' w', Lft w0 (w.alloc (.cells x.cells.toArray 37)) g s a ca v st' w' → Lft w0 w g s a ca v st' w') := fun st' w' h => Lft.of (GB.non K0) (fun _ _ h => h) h
  have HNB : Hid (¬ ft g v w.heap.size) := R.not (Nat.le_refl _)
  have HL : Hid (st.length ≤ 2999) := hl
  have HZ := ng_size x
  have HPS := mpart_size
  have HSK : Hid (MSgOk s ∧ s.b.length ≤ ca) := ⟨hk, hcap⟩
  clear R K0 hl hc hk hcap

  obtain ⟨X, hX⟩ : ∃ X, x.cells.toArray = X := ⟨_, rfl⟩
  have HX : Hid (x.cells.toArray = X) := hX
  rw [hX] at HBX HFN HZ N1 R1 ⊢
  clear hX
  go_enter Tryz.func66, Tryz.ntmps66
  go_upto_region 1 with fail
  generalize w.alloc (.cells X 37) = w1 at *
  generalize w.heap.size = B at *
  have V1 : VAt w1 B 37 X := HX.out ▸ N1.vat
  clear HBX
  have c0 := N1.kind
  have c1 := N1.op
  rw [hx] at c0
  clear hx
  go_upto_region 18 with fail
  go_wp2_with fail
  refine (pair_any14 w0 s a ca g v st p q w1 R1).mono ?_
  rintro e w2 ⟨rfl, v2, R2, G2, F2⟩
  have V2 := G2.vat V1 HNB.out
  clear c0 c1
  obtain ⟨w3, hw3, P3, Q3, K3⟩ := two_set w2 p q
  go_upto_region 19 with (first | (refine wpList_store_row rfl 71 (.tmp 8) (.tmp 87) rfl w2.heap.size (pmC p) rfl rfl 71 _ (VAt.kept (VAt.alloc w2 _ _) (World.grownBy_alloc _ _ _)) (HPS _) rfl (part_all _) ?_) | (refine wpList_store_row rfl 71 (.tmp 9) (.tmp 88) rfl (w2.heap.size + 1) (pmC q) rfl rfl 71 _ (two_new w2 p) (HPS _) rfl (part_all _) ?_))
  have e3 : (((w2.alloc (.cells #[.int .i64 0, .int .u32 0] 71)).alloc (.cells #[.int .i64 0, .int .u32 0] 71)).setRow w2.heap.size (pmC p)).setRow (w2.heap.size + 1) (pmC q) = w3 := hw3
  try rw [e3]
  clear e3 hw3
  have R3 := R2.keep K3
  have G3 : GB w1 w3 (ft g v) := G2.trans (GB.non (S := ft g v) K3) (fun _ _ h => h)
  have N3 : NB w3 B x := by have h := V2.kept K3; rw [← HX.out] at h; exact h
  have HR3 : Hid (RS w0 w3 g s a ca v2 st) := R3
  have HG3 : Hid (GB w1 w3 (ft g v)) := G3
  have HF2 : Hid (∀ x, x < w1.heap.size → ft g v2 x → ft g v x) := F2
  clear R2 G2 V1 V2 N1 R1 K3 R3 G3 F2
  generalize w2.heap.size + 1 = B2 at *
  generalize w2.heap.size = B1 at *
  have c1 := N3.op
  have VP := P3.vat
  have VQ := Q3.vat
  have d0 := P3.how
  have d1 := Q3.how
  have HBD := build_part (andM p.how q.how)
  go_wp2_with fail
  refine (both_any _ _ _).mono ?_
  rintro e w4 ⟨rfl, rfl⟩
  clear c1 d0 d1 VP VQ
  go_wp2_with fail
  refine (put_any14 w0 s a ca g v2 st ⟨andM p.how q.how, 0⟩ _ HR3.out (by have := HL.out; omega)).mono ?_
  rintro e w9 ⟨rfl, L9⟩
  have HF : Hid (Lft w0 w g s a ca v (st ++ [⟨andM p.how q.how, 0⟩]) w9) := HFN.out _ _ (Lft.of HG3.out HF2.out L9)
  go_wp2
  go_end0
  exact ⟨rfl, HF.out⟩

set_option maxHeartbeats 2000000 in
theorem read8 (p q : Pm) (R : RS w0 w g s a ca v (st ++ [p, q])) (hc : Cells w0 a s.b) (hk : MSgOk s) (hcap : s.b.length ≤ ca) (hl : st.length ≤ 2999) (hx : x.kind = 8) :
    Calls Tryz.prog 66 #[.pointer (some ⟨g, 0, none⟩), .agg x.cells.toArray] w fun e w' => e = .returned (.tuple #[]) ∧ Lft w0 w g s a ca v (st ++ [⟨orM p.how q.how, 0⟩]) w' := by
  have HBX := box_ng x
  have K0 := World.grownBy_alloc w (.cells x.cells.toArray 37) none
  have N1 := NB.alloc w x
  have R1 := R.keep K0
  have HC : Hid (∀ W, w0.grownBy W none → Cells W a s.b) := fun W K => hc.keptNone K
  have HFN : Hid (∀ st' w', Lft w0 (w.alloc (.cells x.cells.toArray 37)) g s a ca v st' w' → Lft w0 w g s a ca v st' w') := fun st' w' h => Lft.of (GB.non K0) (fun _ _ h => h) h
  have HNB : Hid (¬ ft g v w.heap.size) := R.not (Nat.le_refl _)
  have HL : Hid (st.length ≤ 2999) := hl
  have HZ := ng_size x
  have HPS := mpart_size
  have HSK : Hid (MSgOk s ∧ s.b.length ≤ ca) := ⟨hk, hcap⟩
  clear R K0 hl hc hk hcap

  obtain ⟨X, hX⟩ : ∃ X, x.cells.toArray = X := ⟨_, rfl⟩
  have HX : Hid (x.cells.toArray = X) := hX
  rw [hX] at HBX HFN HZ N1 R1 ⊢
  clear hX
  go_enter Tryz.func66, Tryz.ntmps66
  go_upto_region 1 with fail
  generalize w.alloc (.cells X 37) = w1 at *
  generalize w.heap.size = B at *
  have V1 : VAt w1 B 37 X := HX.out ▸ N1.vat
  clear HBX
  have c0 := N1.kind
  have c1 := N1.op
  rw [hx] at c0
  clear hx
  go_upto_region 21 with fail
  go_wp2_with fail
  refine (pair_any14 w0 s a ca g v st p q w1 R1).mono ?_
  rintro e w2 ⟨rfl, v2, R2, G2, F2⟩
  have V2 := G2.vat V1 HNB.out
  clear c0 c1
  obtain ⟨w3, hw3, P3, Q3, K3⟩ := two_set w2 p q
  go_upto_region 22 with (first | (refine wpList_store_row rfl 71 (.tmp 10) (.tmp 102) rfl w2.heap.size (pmC p) rfl rfl 71 _ (VAt.kept (VAt.alloc w2 _ _) (World.grownBy_alloc _ _ _)) (HPS _) rfl (part_all _) ?_) | (refine wpList_store_row rfl 71 (.tmp 11) (.tmp 103) rfl (w2.heap.size + 1) (pmC q) rfl rfl 71 _ (two_new w2 p) (HPS _) rfl (part_all _) ?_))
  have e3 : (((w2.alloc (.cells #[.int .i64 0, .int .u32 0] 71)).alloc (.cells #[.int .i64 0, .int .u32 0] 71)).setRow w2.heap.size (pmC p)).setRow (w2.heap.size + 1) (pmC q) = w3 := hw3
  try rw [e3]
  clear e3 hw3
  have R3 := R2.keep K3
  have G3 : GB w1 w3 (ft g v) := G2.trans (GB.non (S := ft g v) K3) (fun _ _ h => h)
  have N3 : NB w3 B x := by have h := V2.kept K3; rw [← HX.out] at h; exact h
  have HR3 : Hid (RS w0 w3 g s a ca v2 st) := R3
  have HG3 : Hid (GB w1 w3 (ft g v)) := G3
  have HF2 : Hid (∀ x, x < w1.heap.size → ft g v2 x → ft g v x) := F2
  clear R2 G2 V1 V2 N1 R1 K3 R3 G3 F2
  generalize w2.heap.size + 1 = B2 at *
  generalize w2.heap.size = B1 at *
  have c1 := N3.op
  have VP := P3.vat
  have VQ := Q3.vat
  have d0 := P3.how
  have d1 := Q3.how
  have HBD := build_part (orM p.how q.how)
  go_wp2_with fail
  refine (either_any _ _ _).mono ?_
  rintro e w4 ⟨rfl, rfl⟩
  clear c1 d0 d1 VP VQ
  go_wp2_with fail
  refine (put_any14 w0 s a ca g v2 st ⟨orM p.how q.how, 0⟩ _ HR3.out (by have := HL.out; omega)).mono ?_
  rintro e w9 ⟨rfl, L9⟩
  have HF : Hid (Lft w0 w g s a ca v (st ++ [⟨orM p.how q.how, 0⟩]) w9) := HFN.out _ _ (Lft.of HG3.out HF2.out L9)
  go_wp2
  go_end0
  exact ⟨rfl, HF.out⟩

set_option maxHeartbeats 2000000 in
theorem read10 (R : RS w0 w g s a ca v st) (hc : Cells w0 a s.b) (hk : MSgOk s) (hcap : s.b.length ≤ ca) (hl : st.length ≤ 2999) (hx : TrOk x) :
    Calls Tryz.prog 66 #[.pointer (some ⟨g, 0, none⟩), .agg x.cells.toArray] w fun e w' => e = .returned (.tuple #[]) ∧ Lft w0 w g s a ca v (st ++ [⟨truthM s x, 0⟩]) w' := by
  have HBX := box_ng x
  have K0 := World.grownBy_alloc w (.cells x.cells.toArray 37) none
  have N1 := NB.alloc w x
  have R1 := R.keep K0
  have HC : Hid (∀ W, w0.grownBy W none → Cells W a s.b) := fun W K => hc.keptNone K
  have HFN : Hid (∀ st' w', Lft w0 (w.alloc (.cells x.cells.toArray 37)) g s a ca v st' w' → Lft w0 w g s a ca v st' w') := fun st' w' h => Lft.of (GB.non K0) (fun _ _ h => h) h
  have HNB : Hid (¬ ft g v w.heap.size) := R.not (Nat.le_refl _)
  have HL : Hid (st.length ≤ 2999) := hl
  have HZ := ng_size x
  have HPS := mpart_size
  have HSK : Hid (MSgOk s ∧ s.b.length ≤ ca) := ⟨hk, hcap⟩
  clear R K0 hl hc hk hcap

  obtain ⟨X, hX⟩ : ∃ X, x.cells.toArray = X := ⟨_, rfl⟩
  have HX : Hid (x.cells.toArray = X) := hX
  rw [hX] at HBX HFN HZ N1 R1 ⊢
  clear hX
  go_enter Tryz.func66, Tryz.ntmps66
  go_upto_region 1 with fail
  generalize w.alloc (.cells X 37) = w1 at *
  generalize w.heap.size = B at *
  have V1 : VAt w1 B 37 X := HX.out ▸ N1.vat
  clear HBX
  have c0 := N1.kind
  have hk := hx.kind
  have e1 : (x.kind == 1) = false := by rw [beq_eq_false_iff_ne]; omega
  have e2 : (x.kind == 2) = false := by rw [beq_eq_false_iff_ne]; omega
  have e3 : (x.kind == 3) = false := by rw [beq_eq_false_iff_ne]; omega
  have e4 : (x.kind == 4) = false := by rw [beq_eq_false_iff_ne]; omega
  have e5 : (x.kind == 5) = false := by rw [beq_eq_false_iff_ne]; omega
  have e6 : (x.kind == 6) = false := by rw [beq_eq_false_iff_ne]; omega
  have e7 : (x.kind == 7) = false := by rw [beq_eq_false_iff_ne]; omega
  have e8 : (x.kind == 8) = false := by rw [beq_eq_false_iff_ne]; omega
  have e9 : (x.kind == 9) = false := by rw [beq_eq_false_iff_ne]; omega
  have HTX : Hid (TrOk x) := hx
  clear hk hx
  go_upto_region 2 with fail
  have HBD := build_part (truthM s x)
  have CT := truth_any s a ca g v x w1 R1.rd (HC.out _ R1.grown) HSK.out.1 HSK.out.2 HTX.out
  rw [HX.out] at CT
  go_wp2_with (refine wpList_load_row rfl 37 (.tmp 3) rfl B rfl 37 X (0, 0) _ V1 Tryz.underlying37 rfl HZ ?_)
  refine CT.mono ?_
  rintro e w2 ⟨rfl, K2⟩
  have R2 := R1.keep K2
  go_wp2_with fail
  refine (put_any14 w0 s a ca g v st ⟨truthM s x, 0⟩ w2 R2 (by have := HL.out; omega)).mono ?_
  rintro e w9 ⟨rfl, L9⟩
  have HF : Hid (Lft w0 w g s a ca v (st ++ [⟨truthM s x, 0⟩]) w9) := HFN.out _ _ (Lft.of (GB.non K2) (fun _ _ h => h) L9)
  go_wp2
  go_end0
  exact ⟨rfl, HF.out⟩

end
end Go.Proofs.YtnojpepjloceoaaGreat
