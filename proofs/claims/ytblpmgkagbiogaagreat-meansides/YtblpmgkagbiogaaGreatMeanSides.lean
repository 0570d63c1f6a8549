/-
  For every node, link, way and bytes riddlelaw14.MeanSides returns true and leaves what was there as it was: no condition of ours.
-/
import Derived.Test.YtblpmgkagbiogaaGreatLotP43
import Derived.Test.YtblpmgkagbiogaaGreatLotP44
import Derived.Test.YtblpmgkagbiogaaGreatLotP42
import Derived.Test.YtblpmgkagbiogaaGreatLotP45
import Derived.Test.YtblpmgkagbiogaaGreatLotP9
import Derived.Deep.DeepCutAuto
namespace Go.Proofs.YtblpmgkagbiogaaGreat
open Go.ChangeShapes Go.WideShapes Go.ChangeAt Go.RowKit
set_option maxRecDepth 100000
namespace meanSides

theorem bld_8 (W : World) : (Instr.build 37 #[(0, .int .i64 8)]).run Tryz.prog W = .ok (.agg orN.cells.toArray) W := by kernel_rfl
theorem bld_none (of : Int) (W : World) : (Instr.build 37 #[(0, .int .i64 15), (5, .int .i64 of)]).run Tryz.prog W = .ok (.agg (n0N of).cells.toArray) W := by kernel_rfl
theorem bld_word (of : Int) (W : World) : (Instr.build 37 #[(0, .int .i64 11), (5, .int .i64 of)]).run Tryz.prog W = .ok (.agg (wdN of).cells.toArray) W := by kernel_rfl
theorem lit_tri (x y z : Ng) (W : World) : (Instr.buildSlice 40 3 #[(0, .agg x.cells.toArray), (1, .agg y.cells.toArray), (2, .agg z.cells.toArray)]).run Tryz.prog W = .ok (.slice (some ⟨W.heap.size, 0, none⟩) 3 3) (W.alloc (.cells (flatG [x, y, z]).toArray 37)) := by kernel_rfl
theorem alloc_nd (W : World) : (Instr.alloc 37 true (.tuple #[])).run Tryz.prog W = .ok (.pointer (some ⟨W.heap.size, 0, none⟩)) (W.alloc (.cells ngZ.cells.toArray 37)) := by kernel_rfl
theorem wpList_row {P : Program} {ops : Array Oper} {rest : List Oper} {o : Oper} {a : Act} {w : World} {Q : Exit → Act → World → Prop} (hw : Region.wanted o (yielded ops a.tmps) = true) (ty : TypeId) (x : Operand) (ho : o.op = .load ty x) (g : Nat) (hx : a.eval x = .pointer (some ⟨g, 0, none⟩)) (t : TypeId) (cs : Array Value) (d : TypeDesc) (A : VAt w g t cs)
    (hu : P.underlying ty = some d) (hd : (match d with | .struct _ | .array _ _ => true | _ => false) = true) (hi : (P.info? ty).map (·.size) = some cs.size) (h : wpList P ops Q rest (a.put o.dst (.agg cs)) w) : wpList P ops Q (o :: rest) a w :=
  BigFrame.wpList_want hw fun _ hK => wp_load_row ty x ho g hx t cs (0, 0) d A hu hd hi (hK _ _ h)
theorem step_litV {P : Program} {ops : Array Oper} {o : Oper} {a : Act} {w : World} {K : Act → World → Prop} {Q : Exit → Act → World → Prop} {E : Prop}
    (hw : Region.wanted o (yielded ops a.tmps) = true) (t : TypeId) (n : Nat) (ps : Array (Nat × Operand)) (ho : o.op = .buildSlice t n ps) (qs : Array (Nat × Value)) (hq : ps.map (fun (i, x) => (i, a.eval x)) = qs) (cs : List Value) (e : TypeId)
    (hr : ∀ W : World, (Instr.buildSlice t n qs).run P W = .ok (.slice (some ⟨W.heap.size, 0, none⟩) n n) (W.alloc (.cells cs.toArray e)))
    (hK : ∀ V w', CV w' (some ⟨V, 0, none⟩) cs → w.grownBy w' none → K (a.put o.dst (.slice (some ⟨V, 0, none⟩) n n)) w') :
    if Region.wanted o (yielded ops a.tmps) = true then Oper.wp P o a w K Q else E := by
  rw [if_pos hw]
  unfold Oper.wp execOp
  have hr' := hr w
  rw [← hq] at hr'
  simp only [ho, Sem.run_bind, Sem.run_pure, Result.andThen_ok, hr']
  exact hK _ _ (cv_lit w e cs) (World.grownBy_alloc _ _ _)

/-- What lies in memory: the node, the link, the node of no side. -/
structure S3 (w W : World) (X L F : Nat) (XA LA FA : Array Value) : Prop where
  x : VAt W X 37 XA
  l : VAt W L 23 LA
  f : VAt W F 37 FA
  up : w.grownBy W none
theorem S3.kept {w W W' : World} {X L F : Nat} {XA LA FA : Array Value} (h : S3 w W X L F XA LA FA) (K : W.grownBy W' none) : S3 w W' X L F XA LA FA := ⟨h.x.kept K, h.l.kept K, h.f.kept K, grown_trans h.up K⟩
theorem S3.row {w W W' : World} {X L F g : Nat} {XA LA FA : Array Value} (h : S3 w W X L F XA LA FA) (K : W.grownBy W' (some g)) (hg : w.heap.size ≤ g) (hx : X ≠ g) (hl : L ≠ g) (hf : F ≠ g) : S3 w W' X L F XA LA FA := by
  refine ⟨h.x.grown K ?_, h.l.grown K ?_, h.f.grown K ?_, grown_trans_new h.up K (fun z e => by cases e; exact hg)⟩
  · intro e; exact hx (Option.some.inj e).symm
  · intro e; exact hl (Option.some.inj e).symm
  · intro e; exact hf (Option.some.inj e).symm
theorem vcell {W : World} {g t i : Nat} {A : Array Value} (h : VAt W g t A) (hi : i < A.size) : (∃ v, W.cell? ⟨g, i, none⟩ = some v) ∧ W.frozen? ⟨g, i, none⟩ = false :=
  ⟨⟨A[i], by rw [h.cell i, Array.getElem?_eq_getElem hi]⟩, h.free i⟩
theorem vset {W : World} {g t : Nat} {A : Array Value} (h : VAt W g t A) (i : Nat) (v : Value) : VAt (W.setCell ⟨g, i, none⟩ v) g t (A.setIfInBounds i v) ∧ W.grownBy (W.setCell ⟨g, i, none⟩ v) (some g) := ⟨h.set i v, grown_set1 W ⟨g, i, none⟩ v⟩

set_option maxRecDepth 100000 in
set_option maxHeartbeats 16000000 in
theorem walk (x : Ng) (l : Lk) (way : Int) (a : Option Addr) (ca : Nat) (b : List UInt8) (w : World) (hok : x.ok) (hb : Cells w a b) (hb0 : a = none → ca = 0) (hbn : b.length ≤ 140737488351232) :
    Calls Tryz.prog 4 #[.agg x.cells.toArray, .agg (lkA l), .int .i64 way, .slice a b.length ca] w fun e w' => e = .returned (.bool true) ∧ w.grownBy w' none := by
  have HBX := box_ng x
  have HBL := box_lk l
  have HLS := lk_sz l
  have HAW : Hid (∀ W, w.grownBy W none → Calls Tryz.prog 6 #[] W fun e w' => e = .returned (.bool true) ∧ w.grownBy w' none) := fun W K => (awake14_any W).mono (fun e w' h => ⟨h.1, grown_trans K h.2⟩)
  have HJU : Hid (∀ (t : List Ng) (n cu : Nat) (W : World) (au : Option Addr), t.length = n → CV W au (flatG t) → (au = none → cu = 0) → n ≤ 3 → (∀ y ∈ t, y.n ≤ 4294967295) → w.grownBy W none → Calls Tryz.prog 8 #[.slice au n cu, .agg (lkA l), .int .i64 way, .slice a b.length ca] W fun e w' => e = .returned (.int .i64 (lawJ t l way b)) ∧ W.grownBy w' none) := fun t n cu W au hu h1 h2 h3 h4 K => by
    subst hu
    exact ljudge_any au cu t l way a ca b W h1 h2 (by omega) h4 (hb.keptNone K) hb0 (by omega)
  have HLN : Hid (∀ W k, Calls Tryz.prog 9 #[.int .i64 k] W fun e w' => e = .returned (.int .i64 (if k = 3 then 16 else 4)) ∧ w' = W) := fun W k => long12_any k W
  have HXN : Hid (∀ s, ∀ y ∈ [sdN s x], y.n ≤ 4294967295) := fun s y hy => by
    rw [List.mem_singleton.1 hy]
    exact hok.1
  have HX3 : Hid (∀ y ∈ [sdN 1 x, sdN 2 x, orN], y.n ≤ 4294967295) := fun y hy => by
    simp only [List.mem_cons, List.not_mem_nil, or_false] at hy
    rcases hy with rfl | rfl | rfl
    · exact hok.1
    · exact hok.1
    · exact Nat.zero_le _
  have HXT : Hid (∀ z, ∀ y ∈ [ntN x z], y.n ≤ 4294967295) := fun z y hy => by
    rw [List.mem_singleton.1 hy]
    exact hok.1
  have HX0 : Hid ((∀ z, ∀ y ∈ [n0N z], y.n ≤ 4294967295) ∧ ∀ z, ∀ y ∈ [wdN z], y.n ≤ 4294967295) := ⟨fun z y hy => by rw [List.mem_singleton.1 hy]; exact Nat.zero_le _, fun z y hy => by rw [List.mem_singleton.1 hy]; exact Nat.zero_le _⟩
  have HPU : Hid _ := fun (hk : x.kind = 14 ∨ x.kind = 15 ∨ x.kind = 16) (h : ¬ lawJ [sdN 0 x] l way b < 0) => sides_pure hk h
  -- rows of cells, as letters
  have HSN : Hid (∀ y : Ng, (Tryz.prog.info? 37).map (·.size) = some y.cells.toArray.size ∧ ngZ.cells.toArray.size = y.cells.toArray.size ∧ y.cells.toArray.all (·.oneCell') = true) := fun y => ⟨ng_size y, rfl, ng_all y⟩
  obtain ⟨XA, hXA⟩ : ∃ A, x.cells.toArray = A := ⟨_, rfl⟩
  obtain ⟨FA, hFA⟩ : ∃ A, (sdN 0 x).cells.toArray = A := ⟨_, rfl⟩
  obtain ⟨SA, hSA⟩ : ∃ A, (sdN 1 x).cells.toArray = A := ⟨_, rfl⟩
  obtain ⟨DA, hDA⟩ : ∃ A, (sdN 2 x).cells.toArray = A := ⟨_, rfl⟩
  obtain ⟨OA, hOA⟩ : ∃ A, orN.cells.toArray = A := ⟨_, rfl⟩
  obtain ⟨LA, hLA⟩ : ∃ LA, lkA l = LA := ⟨_, rfl⟩
  have hX24 : XA.size = 24 := by rw [← hXA]; rfl
  have hF24 : FA.size = 24 := by rw [← hFA]; rfl
  have eF : XA.setIfInBounds 6 (.int .i64 0) = FA := by rw [← hXA, ← hFA]; rfl
  have eS : XA.setIfInBounds 6 (.int .i64 1) = SA := by rw [← hXA, ← hSA]; rfl
  have eD : XA.setIfInBounds 6 (.int .i64 2) = DA := by rw [← hXA, ← hDA]; rfl
  have HE : Hid (XA.setIfInBounds 6 (.int .i64 0) = FA ∧ XA.setIfInBounds 6 (.int .i64 1) = SA ∧ XA.setIfInBounds 6 (.int .i64 2) = DA ∧ XA.size = 24 ∧ FA.size = 24) := ⟨eF, eS, eD, hX24, hF24⟩
  have HIX : Hid ((Tryz.prog.info? 37).map (·.size) = some XA.size ∧ ngZ.cells.toArray.size = XA.size ∧ XA.all (·.oneCell') = true) := by rw [← hXA]; exact HSN.out x
  have HIF : Hid ((Tryz.prog.info? 37).map (·.size) = some FA.size ∧ ngZ.cells.toArray.size = FA.size ∧ FA.all (·.oneCell') = true) := by rw [← hFA]; exact HSN.out _
  have HIS : Hid ((Tryz.prog.info? 37).map (·.size) = some SA.size) := by rw [← hSA]; exact (HSN.out _).1
  have HID : Hid ((Tryz.prog.info? 37).map (·.size) = some DA.size) := by rw [← hDA]; exact (HSN.out _).1
  have HLF := fun W => lit_ng1 (sdN 0 x) W
  have HL3 := fun W => lit_tri (sdN 1 x) (sdN 2 x) orN W
  have HB8 := bld_8
  rw [hFA] at HLF
  rw [hSA, hDA, hOA] at HL3
  rw [hOA] at HB8
  rw [hXA] at HBX
  rw [hLA] at HBL HLS HJU
  -- the cells that are read
  have HCX : Hid (XA[0]? = some (.int .i64 x.kind) ∧ XA[5]? = some (.int .i64 x.of)) := by rw [← hXA]; exact ⟨rfl, rfl⟩
  have HFN : Hid ((FA.setIfInBounds 0 (.int .i64 15)).setIfInBounds 23 (.int .i64 (8 * (if x.of = 3 then 16 else 4))) = (ntN x (8 * (if x.of = 3 then 16 else 4))).cells.toArray) := by
    show _ = _
    rw [← hFA]
    rfl
  have HFX : Hid ((sdN 0 x).cells.toArray = FA) := hFA
  rw [hXA, hLA]
  clear hXA hFA hSA hDA hOA hLA hX24 hF24 eF eS eD hok hb hb0 hbn
  obtain ⟨J, hJ⟩ : ∃ J, lawJ [sdN 0 x] l way b = J := ⟨_, rfl⟩
  rw [hJ] at HPU
  have HJ0 : Hid (lawJ [sdN 0 x] l way b = J) := hJ
  clear hJ
  have X1 := VAt.alloc w 37 XA
  have L1 := VAt.alloc (w.alloc (.cells XA 37)) 23 LA
  have K1 := World.grownBy_alloc w (.cells XA 37) none
  have K2 := World.grownBy_alloc (w.alloc (.cells XA 37)) (.cells LA 23) none
  have HXL : Hid (w.heap.size ≠ (w.alloc (.cells XA 37)).heap.size ∧ w.heap.size < ((w.alloc (.cells XA 37)).alloc (.cells LA 23)).heap.size ∧ (w.alloc (.cells XA 37)).heap.size < ((w.alloc (.cells XA 37)).alloc (.cells LA 23)).heap.size) := ⟨Nat.ne_of_lt X1.lt, (X1.kept K2).lt, L1.lt⟩
  have HS1 : Hid (VAt ((w.alloc (.cells XA 37)).alloc (.cells LA 23)) w.heap.size 37 XA ∧ VAt ((w.alloc (.cells XA 37)).alloc (.cells LA 23)) (w.alloc (.cells XA 37)).heap.size 23 LA ∧ w.grownBy ((w.alloc (.cells XA 37)).alloc (.cells LA 23)) none) := ⟨X1.kept K2, L1, grown_trans K1 K2⟩
  clear X1 L1 K1 K2
  have hsz1 : (w.alloc (.cells XA 37)).heap.size = w.heap.size + 1 := by simp
  rw [hsz1] at HXL HS1
  clear hsz1
  go_enter Tryz.func4, Tryz.ntmps4
  go_upto_region 1 with fail
  generalize (w.alloc (.cells XA 37)).alloc (.cells LA 23) = w1 at *
  generalize w.heap.size + 1 = BL at *
  obtain ⟨BX, hBX, HBXE⟩ : ∃ BX, w.heap.size = BX ∧ Hid (w.heap.size = BX) := ⟨_, rfl, rfl⟩
  rw [hBX] at HXL HS1 ⊢
  clear hBX HBX HBL
  -- free
  go_upto_region 2 with (first
    | (refine wpList_load_row rfl 37 (.tmp 4) rfl BX rfl 37 XA (0, 0) _ HS1.out.1 Tryz.underlying37 rfl HIX.out.1 ?_)
    | (refine wpList_store_row rfl 37 (.tmp 9) (.tmp 15) rfl w1.heap.size XA rfl rfl 37 _ (heap_alloc_new w1 _) HIX.out.1 HIX.out.2.1 HIX.out.2.2 ?_))
  rw [World.setRow_alloc_new]
  have K2 := World.grownBy_alloc w1 (.cells XA 37) none
  have F2 := VAt.alloc w1 37 XA
  have hsz := HXL.out
  have hw0 : w.heap.size ≤ w1.heap.size := HS1.out.2.2.size
  have HF0 : Hid (w.heap.size ≤ w1.heap.size ∧ BX ≠ w1.heap.size ∧ BL ≠ w1.heap.size) := ⟨hw0, by omega, by omega⟩
  have HS2 : Hid (VAt (w1.alloc (.cells XA 37)) BX 37 XA ∧ VAt (w1.alloc (.cells XA 37)) BL 23 LA ∧ VAt (w1.alloc (.cells XA 37)) w1.heap.size 37 XA ∧ w.grownBy (w1.alloc (.cells XA 37)) none) := ⟨HS1.out.1.kept K2, HS1.out.2.1.kept K2, F2, grown_trans HS1.out.2.2 K2⟩
  clear K2 F2 hsz hw0 HS1 HXL
  generalize w1.alloc (.cells XA 37) = w2 at *
  generalize w1.heap.size = BF at *
  obtain ⟨⟨u0, hu0⟩, hf0⟩ := vcell (i := 6) HS2.out.2.2.1 (by rw [HE.out.2.2.2.1]; decide)
  have V3 := (vset HS2.out.2.2.1 6 (.int .i64 0)).1
  rw [HE.out.1] at V3
  have K3 := (vset HS2.out.2.2.1 6 (.int .i64 0)).2
  have HS3 : Hid (S3 w (w2.setCell ⟨BF, 6, none⟩ (.int .i64 0)) BX BL BF XA LA FA) := by
    refine ⟨HS2.out.1.grown K3 ?_, HS2.out.2.1.grown K3 ?_, V3, grown_trans_new HS2.out.2.2.2 K3 (fun z e => by cases e; exact HF0.out.1)⟩
    · intro e; exact HF0.out.2.1 (Option.some.inj e).symm
    · intro e; exact HF0.out.2.2 (Option.some.inj e).symm
  clear V3 K3 HS2
  go_upto_region 3 with fail
  generalize w2.setCell ⟨BF, 6, none⟩ (.int .i64 0) = w3 at *
  clear u0 hu0 hf0 w2 w1
  have x0 : w3.cell? ⟨BX, 0, none⟩ = some (.int .i64 x.kind) := by rw [HS3.out.x.cell 0]; exact HCX.out.1
  by_cases hk : x.kind = 14 ∨ x.kind = 15 ∨ x.kind = 16
  case neg =>
    have n1 : (x.kind != 14) = true := by rw [bne_iff_ne]; omega
    have n2 : (x.kind != 15) = true := by rw [bne_iff_ne]; omega
    have n3 : (x.kind != 16) = true := by rw [bne_iff_ne]; omega
    clear hk
    go_wp2_with fail
    refine (HAW.out _ HS3.out.up).mono ?_
    rintro e ws ⟨rfl, Ks⟩
    go_wp2
    go_ret
    exact ⟨rfl, Ks⟩
  have HK : Hid (x.kind = 14 ∨ x.kind = 15 ∨ x.kind = 16) := hk
  go_cut [38] from 17 to 38 (fun c wx => c = .bool (decide (J < 0)) ∧ S3 w wx BX BL BF XA LA FA)
  case first =>
    rcases hk with hk | hk | hk
    · have n1 : (x.kind != 14) = false := by rw [hk]; rfl
      have n2 : (x.kind != 15) = true := by rw [hk]; rfl
      have n3 : (x.kind != 16) = true := by rw [hk]; rfl
      clear hk
      go_wp2_with (first
        | (refine wpList_row (by rfl) 37 (.tmp 9) rfl BF rfl 37 FA _ HS3.out.f Tryz.underlying37 rfl HIF.out.1 ?_)
        | (refine wpList_lit (by rfl) 40 1 _ rfl #[(0, .agg FA)] (by kernel_rfl) (flatG [sdN 0 x]) 37 HLF ?_; intro V8 w8 C8 K8)
        | (refine wpList_row (by rfl) 23 (.tmp 5) rfl BL rfl 23 LA _ (HS3.out.l.kept K8) Tryz.underlying23 rfl HLS ?_))
      refine (HJU.out [sdN 0 x] 1 1 _ _ rfl C8 (fun e => by cases e) (by decide) (HXN.out 0) (grown_trans HS3.out.up K8)).mono ?_
      rintro e w9 ⟨rfl, K9⟩
      rw [HJ0.out]
      have HS9 : Hid (S3 w w9 BX BL BF XA LA FA) := (HS3.out.kept K8).kept K9
      clear C8 K8 K9
      go_wp2
      go_meet
      exact ⟨rfl, HS9.out⟩
    · have n1 : (x.kind != 14) = true := by rw [hk]; rfl
      have n2 : (x.kind != 15) = false := by rw [hk]; rfl
      have n3 : (x.kind != 16) = true := by rw [hk]; rfl
      clear hk
      go_wp2_with (first
        | (refine wpList_row (by rfl) 37 (.tmp 9) rfl BF rfl 37 FA _ HS3.out.f Tryz.underlying37 rfl HIF.out.1 ?_)
        | (refine wpList_lit (by rfl) 40 1 _ rfl #[(0, .agg FA)] (by kernel_rfl) (flatG [sdN 0 x]) 37 HLF ?_; intro V8 w8 C8 K8)
        | (refine wpList_row (by rfl) 23 (.tmp 5) rfl BL rfl 23 LA _ (HS3.out.l.kept K8) Tryz.underlying23 rfl HLS ?_))
      refine (HJU.out [sdN 0 x] 1 1 _ _ rfl C8 (fun e => by cases e) (by decide) (HXN.out 0) (grown_trans HS3.out.up K8)).mono ?_
      rintro e w9 ⟨rfl, K9⟩
      rw [HJ0.out]
      have HS9 : Hid (S3 w w9 BX BL BF XA LA FA) := (HS3.out.kept K8).kept K9
      clear C8 K8 K9
      go_wp2
      go_meet
      exact ⟨rfl, HS9.out⟩
    · have n1 : (x.kind != 14) = true := by rw [hk]; rfl
      have n2 : (x.kind != 15) = true := by rw [hk]; rfl
      have n3 : (x.kind != 16) = false := by rw [hk]; rfl
      clear hk
      go_wp2_with (first
        | (refine wpList_row (by rfl) 37 (.tmp 9) rfl BF rfl 37 FA _ HS3.out.f Tryz.underlying37 rfl HIF.out.1 ?_)
        | (refine wpList_lit (by rfl) 40 1 _ rfl #[(0, .agg FA)] (by kernel_rfl) (flatG [sdN 0 x]) 37 HLF ?_; intro V8 w8 C8 K8)
        | (refine wpList_row (by rfl) 23 (.tmp 5) rfl BL rfl 23 LA _ (HS3.out.l.kept K8) Tryz.underlying23 rfl HLS ?_))
      refine (HJU.out [sdN 0 x] 1 1 _ _ rfl C8 (fun e => by cases e) (by decide) (HXN.out 0) (grown_trans HS3.out.up K8)).mono ?_
      rintro e w9 ⟨rfl, K9⟩
      rw [HJ0.out]
      have HS9 : Hid (S3 w w9 BX BL BF XA LA FA) := (HS3.out.kept K8).kept K9
      clear C8 K8 K9
      go_wp2
      go_meet
      exact ⟨rfl, HS9.out⟩
  case rest =>
  obtain ⟨rfl, S4⟩ := hcut
  obtain ⟨w4, hw4⟩ : ∃ w4 : World, w4 = wc := ⟨_, rfl⟩
  subst hw4
  have HS4 : Hid (S3 w w4 BX BL BF XA LA FA) := S4
  clear S4 HS3 x0 w3 hk
  by_cases hJ0 : J < 0
  · have e1 : decide (J < 0) = true := decide_eq_true hJ0
    rw [e1]
    clear hJ0 e1
    go_wp2_with fail
    refine (HAW.out _ HS4.out.up).mono ?_
    rintro e ws ⟨rfl, Ks⟩
    go_wp2
    go_ret
    exact ⟨rfl, Ks⟩
  have e1 : decide (J < 0) = false := decide_eq_false hJ0
  have HP2 : Hid _ := HPU.out HK.out hJ0
  rw [e1]
  clear hJ0 HPU e1
  go_upto_region 5 with fail
  go_cut [10, 11] from 40 to 41 (fun sp dp wx => ∃ S D, sp = .pointer (some ⟨S, 0, none⟩) ∧ dp = .pointer (some ⟨D, 0, none⟩) ∧ VAt wx S 37 XA ∧ VAt wx D 37 XA ∧ S ≠ D ∧ w4.heap.size ≤ S ∧ w4.heap.size ≤ D ∧ w4.grownBy wx none)
  case first =>
    have HB5 : Hid (VAt w4.drew BX 37 XA ∧ w4.grownBy w4.drew none) := ⟨HS4.out.x.kept (grown_drewN w4 1 none), grown_drewN w4 1 none⟩
    refine wp_region_held_drew (S := fun W => VAt W BX 37 XA ∧ w4.grownBy W none) (by kernel_rfl) (HB5.out) (fun hHeld => ?_)
    refine wpAnyH_take (i := 0) (v := .agg (XA)) rfl (by kernel_rfl) (by kernel_rfl) (by kernel_rfl) (fun _ _ _ h => h) (yieldsIf_load_row (by rfl) _ _ rfl BX rfl 37 (XA) _ (fun W hW => hW.1) Tryz.underlying37 rfl HIX.out.1) hHeld ?_
    try simp only [Act.put, List.getElem_toArray, List.getElem_cons_zero, List.setIfInBounds_toArray, List.set_cons_zero, List.set_cons_succ]
    refine wpAnyH_take (i := 1) (v := .agg (XA)) rfl (by kernel_rfl) (by kernel_rfl) (by kernel_rfl) (fun _ _ _ h => h) (yieldsIf_load_row (by rfl) _ _ rfl BX rfl 37 (XA) _ (fun W hW => hW.1) Tryz.underlying37 rfl HIX.out.1) hHeld ?_
    try simp only [Act.put, List.getElem_toArray, List.getElem_cons_zero, List.getElem_cons_succ, List.setIfInBounds_toArray, List.set_cons_zero, List.set_cons_succ]
    refine wpAnyH_ready (rs := [2, 3]) (by kernel_rfl) (by simp) (AllReadyH.cons rfl (fun K hK => ?_) (AllReadyH.cons rfl (fun K hK => ?_) AllReadyH.nil))
    · skip
      refine step_alloc rfl 37 rfl ngZ.cells.toArray alloc_nd ?_
      intro V2 wa A2 Ka2 hle2
      have hz2 := hHeld.2.size
      refine hK.out _ _ ⟨hHeld.1.kept Ka2, grown_trans hHeld.2 Ka2⟩ (fun hHeld => ?_)
      clear hK K
      try simp only [Act.put, List.getElem_toArray, List.getElem_cons_zero, List.getElem_cons_succ, List.setIfInBounds_toArray, List.set_cons_zero, List.set_cons_succ]
      refine wpAnyH_ready (rs := [3]) (by kernel_rfl) (by simp) (AllReadyH.cons rfl (fun K hK => ?_) AllReadyH.nil)
      refine step_alloc rfl 37 rfl ngZ.cells.toArray alloc_nd ?_
      intro V3 wb A3 Ka3 hle3
      have hl1 := A2.lt
      have hz3 := hHeld.2.size
      have hne : V2 ≠ V3 := by omega
      have A2 := A2.kept Ka3
      refine hK.out _ _ ⟨hHeld.1.kept Ka3, grown_trans hHeld.2 Ka3⟩ (fun hHeld => ?_)
      clear hK K
      try simp only [Act.put, List.getElem_toArray, List.getElem_cons_zero, List.getElem_cons_succ, List.setIfInBounds_toArray, List.set_cons_zero, List.set_cons_succ]
      have hxb := HS4.out.x.lt
      refine wpAnyH_ready (rs := [4]) (by kernel_rfl) (by simp) (AllReadyH.cons rfl (fun K hK => ?_) AllReadyH.nil)
      refine step_store_rowM rfl 37 (.tmp 10) (.tmp 40) rfl V2 XA rfl rfl 37 _ A2 HIX.out.1 HIX.out.2.1 HIX.out.2.2 ?_
      have hA2 := A2.setRow XA
      have hB3 := A3.grown (vgrown_setRow (World.grownBy.refl _ (some V2)) V2 XA (.inl rfl)) (fun e => by have := Option.some.inj e; omega)
      have hX := hHeld.1.grown (vgrown_setRow (World.grownBy.refl _ (some V2)) V2 XA (.inl rfl)) (fun e => by have := Option.some.inj e; omega)
      have hG := vgrown_setRow hHeld.2 V2 XA (.inr (by omega))
      clear A2 A3
      have A2 := hA2
      have A3 := hB3
      clear hA2 hB3
      refine hK.out _ _ ⟨hX, hG⟩ (fun hHeld => ?_)
      clear hK K hX hG
      try simp only [Act.put]
      refine wpAnyH_ready (rs := [5]) (by kernel_rfl) (by simp) (AllReadyH.cons rfl (fun K hK => ?_) AllReadyH.nil)
      refine step_store_rowM rfl 37 (.tmp 11) (.tmp 41) rfl V3 XA rfl rfl 37 _ A3 HIX.out.1 HIX.out.2.1 HIX.out.2.2 ?_
      have hA3 := A3.setRow XA
      have hB2 := A2.grown (vgrown_setRow (World.grownBy.refl _ (some V3)) V3 XA (.inl rfl)) (fun e => by have := Option.some.inj e; omega)
      have hX := hHeld.1.grown (vgrown_setRow (World.grownBy.refl _ (some V3)) V3 XA (.inl rfl)) (fun e => by have := Option.some.inj e; omega)
      have hG := vgrown_setRow hHeld.2 V3 XA (.inr (by omega))
      clear A3 A2
      have A3 := hA3
      have A2 := hB2
      clear hA3 hB2
      refine hK.out _ _ ⟨hX, hG⟩ (fun hHeld => ?_)
      clear hK K hX hG
      try simp only [Act.put]
      refine wpAnyH_done (by kernel_rfl) ?_ _
      have HFIN : Hid (VAt _ V2 37 XA ∧ VAt _ V3 37 XA ∧ V2 ≠ V3 ∧ w4.heap.size ≤ V2 ∧ w4.heap.size ≤ V3 ∧ w4.grownBy _ none) := ⟨A2, A3, by omega, by omega, by omega, hHeld.2⟩
      clear hHeld A2 A3
      go_wp2
      go_meet
      exact ⟨V2, V3, rfl, rfl, HFIN.out⟩
    · skip
      refine step_alloc rfl 37 rfl ngZ.cells.toArray alloc_nd ?_
      intro V3 wa A3 Ka3 hle3
      have hz3 := hHeld.2.size
      refine hK.out _ _ ⟨hHeld.1.kept Ka3, grown_trans hHeld.2 Ka3⟩ (fun hHeld => ?_)
      clear hK K
      try simp only [Act.put, List.getElem_toArray, List.getElem_cons_zero, List.getElem_cons_succ, List.setIfInBounds_toArray, List.set_cons_zero, List.set_cons_succ]
      refine wpAnyH_ready (rs := [2]) (by kernel_rfl) (by simp) (AllReadyH.cons rfl (fun K hK => ?_) AllReadyH.nil)
      refine step_alloc rfl 37 rfl ngZ.cells.toArray alloc_nd ?_
      intro V2 wb A2 Ka2 hle2
      have hl1 := A3.lt
      have hz2 := hHeld.2.size
      have hne : V3 ≠ V2 := by omega
      have A3 := A3.kept Ka2
      refine hK.out _ _ ⟨hHeld.1.kept Ka2, grown_trans hHeld.2 Ka2⟩ (fun hHeld => ?_)
      clear hK K
      try simp only [Act.put, List.getElem_toArray, List.getElem_cons_zero, List.getElem_cons_succ, List.setIfInBounds_toArray, List.set_cons_zero, List.set_cons_succ]
      have hxb := HS4.out.x.lt
      refine wpAnyH_ready (rs := [4]) (by kernel_rfl) (by simp) (AllReadyH.cons rfl (fun K hK => ?_) AllReadyH.nil)
      refine step_store_rowM rfl 37 (.tmp 10) (.tmp 40) rfl V2 XA rfl rfl 37 _ A2 HIX.out.1 HIX.out.2.1 HIX.out.2.2 ?_
      have hA2 := A2.setRow XA
      have hB3 := A3.grown (vgrown_setRow (World.grownBy.refl _ (some V2)) V2 XA (.inl rfl)) (fun e => by have := Option.some.inj e; omega)
      have hX := hHeld.1.grown (vgrown_setRow (World.grownBy.refl _ (some V2)) V2 XA (.inl rfl)) (fun e => by have := Option.some.inj e; omega)
      have hG := vgrown_setRow hHeld.2 V2 XA (.inr (by omega))
      clear A2 A3
      have A2 := hA2
      have A3 := hB3
      clear hA2 hB3
      refine hK.out _ _ ⟨hX, hG⟩ (fun hHeld => ?_)
      clear hK K hX hG
      try simp only [Act.put]
      refine wpAnyH_ready (rs := [5]) (by kernel_rfl) (by simp) (AllReadyH.cons rfl (fun K hK => ?_) AllReadyH.nil)
      refine step_store_rowM rfl 37 (.tmp 11) (.tmp 41) rfl V3 XA rfl rfl 37 _ A3 HIX.out.1 HIX.out.2.1 HIX.out.2.2 ?_
      have hA3 := A3.setRow XA
      have hB2 := A2.grown (vgrown_setRow (World.grownBy.refl _ (some V3)) V3 XA (.inl rfl)) (fun e => by have := Option.some.inj e; omega)
      have hX := hHeld.1.grown (vgrown_setRow (World.grownBy.refl _ (some V3)) V3 XA (.inl rfl)) (fun e => by have := Option.some.inj e; omega)
      have hG := vgrown_setRow hHeld.2 V3 XA (.inr (by omega))
      clear A3 A2
      have A3 := hA3
      have A2 := hB2
      clear hA3 hB2
      refine hK.out _ _ ⟨hX, hG⟩ (fun hHeld => ?_)
      clear hK K hX hG
      try simp only [Act.put]
      refine wpAnyH_done (by kernel_rfl) ?_ _
      have HFIN : Hid (VAt _ V2 37 XA ∧ VAt _ V3 37 XA ∧ V2 ≠ V3 ∧ w4.heap.size ≤ V2 ∧ w4.heap.size ≤ V3 ∧ w4.grownBy _ none) := ⟨A2, A3, by omega, by omega, by omega, hHeld.2⟩
      clear hHeld A2 A3
      go_wp2
      go_meet
      exact ⟨V2, V3, rfl, rfl, HFIN.out⟩
  case rest =>
  obtain ⟨BS, BD, rfl, rfl, S5, D5, hSD, hS4, hD4, K5⟩ := hcut
  obtain ⟨w5, hw5⟩ : ∃ w5 : World, w5 = wc := ⟨_, rfl⟩
  subst hw5
  have h3a := HS4.out.x.lt
  have h3b := HS4.out.l.lt
  have h3c := HS4.out.f.lt
  have hup := HS4.out.up.size
  have HNE : Hid (BX ≠ BS ∧ BL ≠ BS ∧ BF ≠ BS ∧ BX ≠ BD ∧ BL ≠ BD ∧ BF ≠ BD ∧ BS ≠ BD ∧ w.heap.size ≤ BS ∧ w.heap.size ≤ BD) := ⟨by omega, by omega, by omega, by omega, by omega, by omega, hSD, by omega, by omega⟩
  have HS5 : Hid (S3 w w5 BX BL BF XA LA FA ∧ VAt w5 BS 37 XA ∧ VAt w5 BD 37 XA) := ⟨HS4.out.kept K5, S5, D5⟩
  clear S5 D5 hSD hS4 hD4 K5 HS4 h3a h3b h3c hup
  go_upto_region 6 with fail
  obtain ⟨⟨u0, hu0⟩, hf0⟩ := vcell (i := 6) HS5.out.2.1 (by rw [HE.out.2.2.2.1]; decide)
  have V6 := (vset HS5.out.2.1 6 (.int .i64 1)).1
  rw [HE.out.2.1] at V6
  have K6 := (vset HS5.out.2.1 6 (.int .i64 1)).2
  have HS6 : Hid (S3 w (w5.setCell ⟨BS, 6, none⟩ (.int .i64 1)) BX BL BF XA LA FA ∧ VAt (w5.setCell ⟨BS, 6, none⟩ (.int .i64 1)) BS 37 SA ∧ VAt (w5.setCell ⟨BS, 6, none⟩ (.int .i64 1)) BD 37 XA) := by
    obtain ⟨n1, n2, n3, n4, n5, n6, n7, n8, n9⟩ := HNE.out
    exact ⟨HS5.out.1.row K6 n8 n1 n2 n3, V6, HS5.out.2.2.grown K6 (fun e => n7 (Option.some.inj e))⟩
  clear V6 K6 HS5
  go_upto_region 7 with fail
  generalize w5.setCell ⟨BS, 6, none⟩ (.int .i64 1) = w6 at *
  clear u0 hu0 hf0 w5
  obtain ⟨⟨u0, hu0⟩, hf0⟩ := vcell (i := 6) HS6.out.2.2 (by rw [HE.out.2.2.2.1]; decide)
  have V7 := (vset HS6.out.2.2 6 (.int .i64 2)).1
  rw [HE.out.2.2.1] at V7
  have K7 := (vset HS6.out.2.2 6 (.int .i64 2)).2
  have HS7 : Hid (S3 w (w6.setCell ⟨BD, 6, none⟩ (.int .i64 2)) BX BL BF XA LA FA ∧ VAt (w6.setCell ⟨BD, 6, none⟩ (.int .i64 2)) BS 37 SA ∧ VAt (w6.setCell ⟨BD, 6, none⟩ (.int .i64 2)) BD 37 DA) := by
    obtain ⟨n1, n2, n3, n4, n5, n6, n7, n8, n9⟩ := HNE.out
    exact ⟨HS6.out.1.row K7 n9 n4 n5 n6, HS6.out.2.1.grown K7 (fun e => n7 (Option.some.inj e).symm), V7⟩
  clear V7 K7 HS6
  go_upto_region 8 with fail
  generalize w6.setCell ⟨BD, 6, none⟩ (.int .i64 2) = w7 at *
  clear u0 hu0 hf0 w6 HNE
  -- j
  go_wp2_with (first
    | (refine wpList_row (by rfl) 37 (.tmp 9) rfl BF rfl 37 FA _ HS7.out.1.f Tryz.underlying37 rfl HIF.out.1 ?_)
    | (refine wpList_lit (by rfl) 40 1 _ rfl #[(0, .agg FA)] (by kernel_rfl) (flatG [sdN 0 x]) 37 HLF ?_; intro V8 w8 C8 K8)
    | (refine wpList_row (by rfl) 23 (.tmp 5) rfl BL rfl 23 LA _ (HS7.out.1.l.kept K8) Tryz.underlying23 rfl HLS ?_))
  refine (HJU.out [sdN 0 x] 1 1 _ _ rfl C8 (fun e => by cases e) (by decide) (HXN.out 0) (grown_trans HS7.out.1.up K8)).mono ?_
  rintro e w9 ⟨rfl, K9⟩
  rw [HJ0.out]
  have HS9 : Hid (S3 w w9 BX BL BF XA LA FA ∧ VAt w9 BS 37 SA ∧ VAt w9 BD 37 DA) := ⟨(HS7.out.1.kept K8).kept K9, (HS7.out.2.1.kept K8).kept K9, (HS7.out.2.2.kept K8).kept K9⟩
  clear C8 K8 K9 HS7 w7
  have HJS : Hid (∀ W au, CV W au (flatG [sdN 1 x, sdN 2 x, orN]) → au ≠ none → w.grownBy W none → Calls Tryz.prog 8 #[.slice au 3 3, .agg LA, .int .i64 way, .slice a b.length ca] W fun e w' => e = .returned (.int .i64 J) ∧ W.grownBy w' none) := fun W au h1 h2 K => by
    have := HJU.out [sdN 1 x, sdN 2 x, orN] 3 3 W au rfl h1 (fun e => absurd e h2) (by decide) HX3.out K
    rw [HP2.out.1] at this
    exact this
  go_upto_region 9 with fail
  go_wp2_with (first
    | (refine wpList_row (by rfl) 37 (.tmp 10) rfl BS rfl 37 SA _ HS9.out.2.1 Tryz.underlying37 rfl HIS.out ?_)
    | (refine wpList_row (by rfl) 37 (.tmp 11) rfl BD rfl 37 DA _ HS9.out.2.2 Tryz.underlying37 rfl HID.out ?_)
    | (refine wpList_bld rfl 37 #[(0, .const (.int .i64 8))] rfl _ (by kernel_rfl) (.agg OA) HB8 ?_)
    | (refine wpList_lit (by rfl) 40 3 _ rfl #[(0, .agg SA), (1, .agg DA), (2, .agg OA)] (by kernel_rfl) (flatG [sdN 1 x, sdN 2 x, orN]) 37 HL3 ?_; intro V10 w10 C10 K10)
    | (refine wpList_row (by rfl) 23 (.tmp 5) rfl BL rfl 23 LA _ (HS9.out.1.l.kept K10) Tryz.underlying23 rfl HLS ?_))
  refine (HJS.out _ _ C10 (by simp) (grown_trans HS9.out.1.up K10)).mono ?_
  rintro e w11 ⟨rfl, K11⟩
  have HS11 : Hid (S3 w w11 BX BL BF XA LA FA) := (HS9.out.1.kept K10).kept K11
  clear C10 K10 K11 HS9 HJS w9
  have x0 : w11.cell? ⟨BX, 0, none⟩ = some (.int .i64 x.kind) := by rw [HS11.out.x.cell 0]; exact HCX.out.1
  have eJ : (J != J) = false := by simp
  by_cases h14 : x.kind = 14
  case neg =>
    have n1 : (x.kind == 14) = false := by rw [beq_eq_false_iff_ne]; exact h14
    clear h14
    go_wp2_with fail
    refine (HAW.out _ HS11.out.up).mono ?_
    rintro e ws ⟨rfl, Ks⟩
    go_wp2
    go_ret
    exact ⟨rfl, Ks⟩
  have n1 : (x.kind == 14) = true := by rw [beq_iff_eq]; exact h14
  obtain ⟨pn, pz⟩ := HP2.out.2 h14
  have HPN : Hid (lawJ [ntN x (8 * (if x.of = 3 then 16 else 4))] l way b = J ∧ lawJ [n0N x.of] l way b = lawJ [wdN x.of] l way b) := ⟨pn, pz⟩
  clear pn pz h14 HP2 HJ0
  -- net
  go_upto_region 12 with fail
  clear x0 eJ n1
  go_upto_region 13 with (first
    | (refine wpList_load_row rfl 37 (.tmp 9) rfl BF rfl 37 FA (0, 0) _ HS11.out.f Tryz.underlying37 rfl HIF.out.1 ?_)
    | (refine wpList_store_row rfl 37 (.tmp 13) (.tmp 63) rfl w11.heap.size FA rfl rfl 37 _ (heap_alloc_new w11 _) HIF.out.1 HIF.out.2.1 HIF.out.2.2 ?_))
  rw [World.setRow_alloc_new]
  have K12 := World.grownBy_alloc w11 (.cells FA 37) none
  have N12 := VAt.alloc w11 37 FA
  have q1 := HS11.out.x.lt
  have q2 := HS11.out.l.lt
  have q3 := HS11.out.f.lt
  have q4 := HS11.out.up.size
  have HNN : Hid (BX ≠ w11.heap.size ∧ BL ≠ w11.heap.size ∧ BF ≠ w11.heap.size ∧ w.heap.size ≤ w11.heap.size) := ⟨by omega, by omega, by omega, by omega⟩
  have HS12 : Hid (S3 w (w11.alloc (.cells FA 37)) BX BL BF XA LA FA ∧ VAt (w11.alloc (.cells FA 37)) w11.heap.size 37 FA) := ⟨HS11.out.kept K12, N12⟩
  clear K12 N12 q1 q2 q3 q4 HS11
  generalize w11.alloc (.cells FA 37) = w12 at *
  generalize w11.heap.size = BN at *
  clear w11
  obtain ⟨⟨u0, hu0⟩, hf0⟩ := vcell (i := 0) HS12.out.2 (by rw [HE.out.2.2.2.2]; decide)
  have V13 := (vset HS12.out.2 0 (.int .i64 15)).1
  have K13 := (vset HS12.out.2 0 (.int .i64 15)).2
  have HS13 : Hid (S3 w (w12.setCell ⟨BN, 0, none⟩ (.int .i64 15)) BX BL BF XA LA FA ∧ VAt (w12.setCell ⟨BN, 0, none⟩ (.int .i64 15)) BN 37 (FA.setIfInBounds 0 (.int .i64 15))) := by
    obtain ⟨n1, n2, n3, n4⟩ := HNN.out
    exact ⟨HS12.out.1.row K13 n4 n1 n2 n3, V13⟩
  clear V13 K13 HS12
  go_upto_region 14 with fail
  generalize w12.setCell ⟨BN, 0, none⟩ (.int .i64 15) = w13 at *
  clear u0 hu0 hf0 w12
  have x5 : w13.cell? ⟨BX, 5, none⟩ = some (.int .i64 x.of) := by rw [HS13.out.1.x.cell 5]; exact HCX.out.2
  go_wp2_with fail
  refine (HLN.out w13 x.of).mono ?_
  rintro e w14 ⟨rfl, hw14⟩
  subst hw14
  obtain ⟨lg, hlg⟩ : ∃ z : Int, (if x.of = 3 then (16 : Int) else 4) = z := ⟨_, rfl⟩
  have hlb : 4 ≤ lg ∧ lg ≤ 16 := by rw [← hlg]; split <;> omega
  rw [hlg] at HPN HFN ⊢
  clear hlg
  obtain ⟨⟨u0, hu0⟩, hf0⟩ := vcell (i := 23) HS13.out.2 (by rw [Array.size_setIfInBounds, HE.out.2.2.2.2]; decide)
  have V15 := (vset HS13.out.2 23 (.int .i64 (8 * lg))).1
  rw [HFN.out] at V15
  have K15 := (vset HS13.out.2 23 (.int .i64 (8 * lg))).2
  have HS15 : Hid (S3 w (w14.setCell ⟨BN, 23, none⟩ (.int .i64 (8 * lg))) BX BL BF XA LA FA ∧ VAt (w14.setCell ⟨BN, 23, none⟩ (.int .i64 (8 * lg))) BN 37 (ntN x (8 * lg)).cells.toArray) := by
    obtain ⟨n1, n2, n3, n4⟩ := HNN.out
    exact ⟨HS13.out.1.row K15 n4 n1 n2 n3, V15⟩
  have hwr : IntKind.i64.wrap (8 * lg) = 8 * lg := by
    rw [IntKind.wrap_i64]
    omega
  have HL0 := fun W => lit_ng1 (n0N x.of) W
  have HLW := fun W => lit_ng1 (wdN x.of) W
  have HLT := fun W => lit_ng1 (ntN x (8 * lg)) W
  have HB0 := bld_none x.of
  have HBW := bld_word x.of
  have HIT : Hid ((Tryz.prog.info? 37).map (·.size) = some (ntN x (8 * lg)).cells.toArray.size) := (HSN.out _).1
  have HIZ : Hid ((Tryz.prog.info? 37).map (·.size) = some (n0N x.of).cells.toArray.size ∧ ngZ.cells.toArray.size = (n0N x.of).cells.toArray.size ∧ (n0N x.of).cells.toArray.all (·.oneCell') = true) := HSN.out _
  obtain ⟨TA, hTA⟩ : ∃ A, (ntN x (8 * lg)).cells.toArray = A := ⟨_, rfl⟩
  obtain ⟨ZA, hZA⟩ : ∃ A, (n0N x.of).cells.toArray = A := ⟨_, rfl⟩
  obtain ⟨WA, hWA⟩ : ∃ A, (wdN x.of).cells.toArray = A := ⟨_, rfl⟩
  rw [hTA] at HS15 HLT HIT
  rw [hZA] at HL0 HB0 HIZ
  rw [hWA] at HLW HBW
  obtain ⟨tN, htN⟩ : ∃ t, [ntN x (8 * lg)] = t := ⟨_, rfl⟩
  have HTN : Hid (lawJ tN l way b = J ∧ tN.length = 1 ∧ ∀ y ∈ tN, y.n ≤ 4294967295) := by
    show _ ∧ _ ∧ _
    rw [← htN]
    exact ⟨HPN.out.1, rfl, HXT.out _⟩
  rw [htN] at HLT
  clear hTA hZA hWA htN V15 K15 HFN
  clear HS13 HXT
  go_upto_region 15 with fail
  generalize w14.setCell ⟨BN, 23, none⟩ (.int .i64 (8 * lg)) = w15 at *
  clear u0 hu0 hf0 w14 x5 hwr
  have x5 : w15.cell? ⟨BX, 5, none⟩ = some (.int .i64 x.of) := by rw [HS15.out.1.x.cell 5]; exact HCX.out.2
  go_upto_region 16 with (first
    | (refine wpList_bld rfl 37 _ rfl #[(0, .int .i64 15), (5, .int .i64 x.of)] (by kernel_rfl) (.agg ZA) HB0 ?_)
    | (refine wpList_store_row rfl 37 (.tmp 14) (.tmp 72) rfl w15.heap.size ZA rfl rfl 37 _ (heap_alloc_new w15 _) HIZ.out.1 HIZ.out.2.1 HIZ.out.2.2 ?_))
  rw [World.setRow_alloc_new]
  have K16 := World.grownBy_alloc w15 (.cells ZA 37) none
  have Z16 := VAt.alloc w15 37 ZA
  have HS16 : Hid ((S3 w (w15.alloc (.cells ZA 37)) BX BL BF XA LA FA ∧ VAt (w15.alloc (.cells ZA 37)) BN 37 TA) ∧ VAt (w15.alloc (.cells ZA 37)) w15.heap.size 37 ZA) := ⟨⟨HS15.out.1.kept K16, HS15.out.2.kept K16⟩, Z16⟩
  clear K16 Z16 HS15 x5
  generalize w15.alloc (.cells ZA 37) = w16 at *
  generalize w15.heap.size = BZ at *
  clear w15
  have HJT : Hid (∀ W V, CV W (some ⟨V, 0, none⟩) (flatG tN) → w.grownBy W none → Calls Tryz.prog 8 #[.slice (some ⟨V, 0, none⟩) 1 1, .agg LA, .int .i64 way, .slice a b.length ca] W fun e w' => e = .returned (.int .i64 J) ∧ W.grownBy w' none) := fun W V h1 K => by
    have := HJU.out tN 1 1 W (some ⟨V, 0, none⟩) HTN.out.2.1 h1 (fun e => by cases e) (by decide) HTN.out.2.2 K
    rw [HTN.out.1] at this
    exact this
  obtain ⟨Jz, hJz⟩ : ∃ j, lawJ [wdN x.of] l way b = j := ⟨_, rfl⟩
  have HJZ : Hid (∀ W V, CV W (some ⟨V, 0, none⟩) (flatG [n0N x.of]) → w.grownBy W none → Calls Tryz.prog 8 #[.slice (some ⟨V, 0, none⟩) 1 1, .agg LA, .int .i64 way, .slice a b.length ca] W fun e w' => e = .returned (.int .i64 Jz) ∧ W.grownBy w' none) := fun W V h1 K => by
    have := HJU.out [n0N x.of] 1 1 W (some ⟨V, 0, none⟩) rfl h1 (fun e => by cases e) (by decide) (HX0.out.1 _) K
    rw [HPN.out.2, hJz] at this
    exact this
  have HJW : Hid (∀ W V, CV W (some ⟨V, 0, none⟩) (flatG [wdN x.of]) → w.grownBy W none → Calls Tryz.prog 8 #[.slice (some ⟨V, 0, none⟩) 1 1, .agg LA, .int .i64 way, .slice a b.length ca] W fun e w' => e = .returned (.int .i64 Jz) ∧ W.grownBy w' none) := fun W V h1 K => by
    have := HJU.out [wdN x.of] 1 1 W (some ⟨V, 0, none⟩) rfl h1 (fun e => by cases e) (by decide) (HX0.out.2 _) K
    rw [hJz] at this
    exact this
  clear hJz HJU HPN HTN HX0 HX3 HXN HLF HL3 HB8 HB0 HE HIX HIF HIS HID HSN HFX HK HF0
  have eJ : (J == J) = true := by simp
  have eZ : (Jz == Jz) = true := by simp
  have HGU : Hid (w.grownBy w16.drew none) := grown_trans HS16.out.1.1.up (grown_drewN w16 1 none)
  have K0 := grown_drewN w16 1 none
  have HS17 : Hid ((S3 w w16.drew BX BL BF XA LA FA ∧ VAt w16.drew BN 37 TA) ∧ VAt w16.drew BZ 37 ZA) := ⟨⟨HS16.out.1.1.kept K0, HS16.out.1.2.kept K0⟩, HS16.out.2.kept K0⟩
  clear K0
  refine wp_region_held_drew (S := fun W => (S3 w W BX BL BF XA LA FA ∧ VAt W BN 37 TA) ∧ VAt W BZ 37 ZA) (by kernel_rfl) (HS17.out) (fun hHeld => ?_)
  refine wpAnyH_take (i := 0) (v := .agg (TA)) rfl (by kernel_rfl) (by kernel_rfl) (by kernel_rfl) (fun _ _ _ h => h) (yieldsIf_load_row (by rfl) _ _ rfl BN rfl 37 (TA) _ (fun W hW => hW.1.2) Tryz.underlying37 rfl HIT.out) hHeld ?_
  try simp only [Act.put, List.getElem_toArray, List.getElem_cons_zero, List.setIfInBounds_toArray, List.set_cons_zero, List.set_cons_succ]
  refine wpAnyH_take (i := 2) (v := .agg (LA)) rfl (by kernel_rfl) (by kernel_rfl) (by kernel_rfl) (fun _ _ _ h => h) (yieldsIf_load_row (by rfl) _ _ rfl BL rfl 23 (LA) _ (fun W hW => hW.1.1.l) Tryz.underlying23 rfl HLS) hHeld ?_
  try simp only [Act.put, List.getElem_toArray, List.getElem_cons_zero, List.getElem_cons_succ, List.setIfInBounds_toArray, List.set_cons_zero, List.set_cons_succ]
  refine wpAnyH_take (i := 3) (v := .int .i64 way) rfl (by kernel_rfl) (by kernel_rfl) (by kernel_rfl) (fun _ _ _ h => h) (Or.inl ⟨by rfl, fun W hW => ?_⟩) hHeld ?_
  · clear hW
    go_simp
  try simp only [Act.put, List.getElem_toArray, List.getElem_cons_zero, List.getElem_cons_succ, List.setIfInBounds_toArray, List.set_cons_zero, List.set_cons_succ]
  refine wpAnyH_take (i := 4) (v := .slice a b.length ca) rfl (by kernel_rfl) (by kernel_rfl) (by kernel_rfl) (fun _ _ _ h => h) (Or.inl ⟨by rfl, fun W hW => ?_⟩) hHeld ?_
  · clear hW
    go_simp
  try simp only [Act.put, List.getElem_toArray, List.getElem_cons_zero, List.getElem_cons_succ, List.setIfInBounds_toArray, List.set_cons_zero, List.set_cons_succ]
  refine wpAnyH_take (i := 6) (v := .int .i64 J) rfl (by kernel_rfl) (by kernel_rfl) (by kernel_rfl) (fun _ _ _ h => h) (Or.inl ⟨by rfl, fun W hW => ?_⟩) hHeld ?_
  · clear hW
    go_simp
  try simp only [Act.put, List.getElem_toArray, List.getElem_cons_zero, List.getElem_cons_succ, List.setIfInBounds_toArray, List.set_cons_zero, List.set_cons_succ]
  refine wpAnyH_ready (rs := [1]) (by kernel_rfl) (by simp) (AllReadyH.cons rfl (fun K hK => ?_) AllReadyH.nil)
  refine step_litV (by rfl) 40 1 _ (by rfl) #[(0, .agg TA)] (by kernel_rfl) (flatG tN) 37 HLT ?_
  intro V1 wl C1 Kl
  refine hK.out _ _ (⟨⟨hHeld.1.1.kept Kl, hHeld.1.2.kept Kl⟩, hHeld.2.kept Kl⟩) (fun hHeld => ?_)
  clear hK K Kl
  try simp only [Act.put, List.getElem_toArray, List.getElem_cons_zero, List.getElem_cons_succ, List.setIfInBounds_toArray, List.set_cons_zero, List.set_cons_succ]
  refine wpAnyH_ready (rs := [5]) (by kernel_rfl) (by simp) (AllReadyH.cons rfl (fun K hK => ?_) AllReadyH.nil)
  go_simp
  refine (HJT.out _ V1 C1 hHeld.1.1.up).mono ?_
  rintro e wk ⟨rfl, Kk⟩
  go_wp2_with fail
  refine hK.out _ _ (⟨⟨hHeld.1.1.kept Kk, hHeld.1.2.kept Kk⟩, hHeld.2.kept Kk⟩) (fun hHeld => ?_)
  clear hK K Kk
  try simp only [Act.put, List.getElem_toArray, List.getElem_cons_zero, List.getElem_cons_succ, List.setIfInBounds_toArray, List.set_cons_zero, List.set_cons_succ]
  clear C1
  refine wpAnyH_take (i := 7) (v := .bool true) rfl (by kernel_rfl) (by kernel_rfl) (by kernel_rfl) (fun _ _ _ h => h) (Or.inl ⟨by rfl, fun W hW => ?_⟩) hHeld ?_
  · clear hW
    go_simp
  try simp only [Act.put, List.getElem_toArray, List.getElem_cons_zero, List.getElem_cons_succ, List.setIfInBounds_toArray, List.set_cons_zero, List.set_cons_succ]
  refine wpAnyH_take (i := 8) (v := .bool true) rfl (by kernel_rfl) (by kernel_rfl) (by kernel_rfl) (fun _ _ _ h => h) (Or.inl ⟨by rfl, fun W hW => ?_⟩) hHeld ?_
  · clear hW
    go_simp
  try simp only [Act.put, List.getElem_toArray, List.getElem_cons_zero, List.getElem_cons_succ, List.setIfInBounds_toArray, List.set_cons_zero, List.set_cons_succ]
  refine wpAnyH_take (i := 9) (v := .agg (ZA)) rfl (by kernel_rfl) (by kernel_rfl) (by kernel_rfl) (fun _ _ _ h => h) (yieldsIf_load_row (by rfl) _ _ rfl BZ rfl 37 (ZA) _ (fun W hW => hW.2) Tryz.underlying37 rfl HIZ.out.1) hHeld ?_
  try simp only [Act.put, List.getElem_toArray, List.getElem_cons_zero, List.getElem_cons_succ, List.setIfInBounds_toArray, List.set_cons_zero, List.set_cons_succ]
  refine wpAnyH_take (i := 11) (v := .agg (LA)) rfl (by kernel_rfl) (by kernel_rfl) (by kernel_rfl) (fun _ _ _ h => h) (yieldsIf_load_row (by rfl) _ _ rfl BL rfl 23 (LA) _ (fun W hW => hW.1.1.l) Tryz.underlying23 rfl HLS) hHeld ?_
  try simp only [Act.put, List.getElem_toArray, List.getElem_cons_zero, List.getElem_cons_succ, List.setIfInBounds_toArray, List.set_cons_zero, List.set_cons_succ]
  refine wpAnyH_take (i := 12) (v := .int .i64 way) rfl (by kernel_rfl) (by kernel_rfl) (by kernel_rfl) (fun _ _ _ h => h) (Or.inl ⟨by rfl, fun W hW => ?_⟩) hHeld ?_
  · clear hW
    go_simp
  try simp only [Act.put, List.getElem_toArray, List.getElem_cons_zero, List.getElem_cons_succ, List.setIfInBounds_toArray, List.set_cons_zero, List.set_cons_succ]
  refine wpAnyH_take (i := 13) (v := .slice a b.length ca) rfl (by kernel_rfl) (by kernel_rfl) (by kernel_rfl) (fun _ _ _ h => h) (Or.inl ⟨by rfl, fun W hW => ?_⟩) hHeld ?_
  · clear hW
    go_simp
  try simp only [Act.put, List.getElem_toArray, List.getElem_cons_zero, List.getElem_cons_succ, List.setIfInBounds_toArray, List.set_cons_zero, List.set_cons_succ]
  refine wpAnyH_take (i := 15) (v := .pointer (some ⟨BX, 5, none⟩)) rfl (by kernel_rfl) (by kernel_rfl) (by kernel_rfl) (fun _ _ _ h => h) (Or.inl ⟨by rfl, fun W hW => ?_⟩) hHeld ?_
  · clear hW
    go_simp
  try simp only [Act.put, List.getElem_toArray, List.getElem_cons_zero, List.getElem_cons_succ, List.setIfInBounds_toArray, List.set_cons_zero, List.set_cons_succ]
  refine wpAnyH_take (i := 16) (v := .int .i64 x.of) rfl (by kernel_rfl) (by kernel_rfl) (by kernel_rfl) (fun _ _ _ h => h) (Or.inl ⟨by rfl, fun W hW => ?_⟩) hHeld ?_
  · have x5 : W.cell? ⟨BX, 5, none⟩ = some (.int .i64 x.of) := by rw [hW.1.1.x.cell 5]; exact HCX.out.2
    clear hW
    go_simp
  try simp only [Act.put, List.getElem_toArray, List.getElem_cons_zero, List.getElem_cons_succ, List.setIfInBounds_toArray, List.set_cons_zero, List.set_cons_succ]
  refine wpAnyH_take (i := 17) (v := .agg WA) rfl (by kernel_rfl) (by kernel_rfl) (by kernel_rfl) (fun _ _ _ h => h) (yieldsIf_bld (by rfl) 37 _ (by rfl) #[(0, .int .i64 11), (5, .int .i64 x.of)] (by kernel_rfl) (.agg WA) HBW) hHeld ?_
  try simp only [Act.put, List.getElem_toArray, List.getElem_cons_zero, List.getElem_cons_succ, List.setIfInBounds_toArray, List.set_cons_zero, List.set_cons_succ]
  refine wpAnyH_take (i := 19) (v := .agg (LA)) rfl (by kernel_rfl) (by kernel_rfl) (by kernel_rfl) (fun _ _ _ h => h) (yieldsIf_load_row (by rfl) _ _ rfl BL rfl 23 (LA) _ (fun W hW => hW.1.1.l) Tryz.underlying23 rfl HLS) hHeld ?_
  try simp only [Act.put, List.getElem_toArray, List.getElem_cons_zero, List.getElem_cons_succ, List.setIfInBounds_toArray, List.set_cons_zero, List.set_cons_succ]
  refine wpAnyH_take (i := 20) (v := .int .i64 way) rfl (by kernel_rfl) (by kernel_rfl) (by kernel_rfl) (fun _ _ _ h => h) (Or.inl ⟨by rfl, fun W hW => ?_⟩) hHeld ?_
  · clear hW
    go_simp
  try simp only [Act.put, List.getElem_toArray, List.getElem_cons_zero, List.getElem_cons_succ, List.setIfInBounds_toArray, List.set_cons_zero, List.set_cons_succ]
  refine wpAnyH_take (i := 21) (v := .slice a b.length ca) rfl (by kernel_rfl) (by kernel_rfl) (by kernel_rfl) (fun _ _ _ h => h) (Or.inl ⟨by rfl, fun W hW => ?_⟩) hHeld ?_
  · clear hW
    go_simp
  try simp only [Act.put, List.getElem_toArray, List.getElem_cons_zero, List.getElem_cons_succ, List.setIfInBounds_toArray, List.set_cons_zero, List.set_cons_succ]
  refine wpAnyH_ready (rs := [10, 18]) (by kernel_rfl) (by simp) (AllReadyH.cons rfl (fun K hK => ?_) (AllReadyH.cons rfl (fun K hK => ?_) AllReadyH.nil))
  · skip
    refine step_litV (by rfl) 40 1 _ (by rfl) #[(0, .agg ZA)] (by kernel_rfl) (flatG [n0N x.of]) 37 HL0 ?_
    intro V10 wl C10 Kl
    refine hK.out _ _ (⟨⟨hHeld.1.1.kept Kl, hHeld.1.2.kept Kl⟩, hHeld.2.kept Kl⟩) (fun hHeld => ?_)
    clear hK K Kl
    try simp only [Act.put, List.getElem_toArray, List.getElem_cons_zero, List.getElem_cons_succ, List.setIfInBounds_toArray, List.set_cons_zero, List.set_cons_succ]
    refine wpAnyH_ready (rs := [14, 18]) (by kernel_rfl) (by simp) (AllReadyH.cons rfl (fun K hK => ?_) (AllReadyH.cons rfl (fun K hK => ?_) AllReadyH.nil))
    · skip
      go_simp
      refine (HJZ.out _ V10 C10 hHeld.1.1.up).mono ?_
      rintro e wk ⟨rfl, Kk⟩
      go_wp2_with fail
      refine hK.out _ _ (⟨⟨hHeld.1.1.kept Kk, hHeld.1.2.kept Kk⟩, hHeld.2.kept Kk⟩) (fun hHeld => ?_)
      clear hK K Kk
      try simp only [Act.put, List.getElem_toArray, List.getElem_cons_zero, List.getElem_cons_succ, List.setIfInBounds_toArray, List.set_cons_zero, List.set_cons_succ]
      refine wpAnyH_ready (rs := [18]) (by kernel_rfl) (by simp) (AllReadyH.cons rfl (fun K hK => ?_) AllReadyH.nil)
      refine step_litV (by rfl) 40 1 _ (by rfl) #[(0, .agg WA)] (by kernel_rfl) (flatG [wdN x.of]) 37 HLW ?_
      intro V18 wl C18 Kl
      refine hK.out _ _ (⟨⟨hHeld.1.1.kept Kl, hHeld.1.2.kept Kl⟩, hHeld.2.kept Kl⟩) (fun hHeld => ?_)
      clear hK K Kl
      try simp only [Act.put, List.getElem_toArray, List.getElem_cons_zero, List.getElem_cons_succ, List.setIfInBounds_toArray, List.set_cons_zero, List.set_cons_succ]
      refine wpAnyH_ready (rs := [22]) (by kernel_rfl) (by simp) (AllReadyH.cons rfl (fun K hK => ?_) AllReadyH.nil)
      go_simp
      refine (HJW.out _ V18 C18 hHeld.1.1.up).mono ?_
      rintro e wk ⟨rfl, Kk⟩
      go_wp2_with fail
      refine hK.out _ _ (⟨⟨hHeld.1.1.kept Kk, hHeld.1.2.kept Kk⟩, hHeld.2.kept Kk⟩) (fun hHeld => ?_)
      clear hK K Kk
      try simp only [Act.put, List.getElem_toArray, List.getElem_cons_zero, List.getElem_cons_succ, List.setIfInBounds_toArray, List.set_cons_zero, List.set_cons_succ]
      refine wpAnyH_take (i := 23) (v := .bool true) rfl (by kernel_rfl) (by kernel_rfl) (by kernel_rfl) (fun _ _ _ h => h) (Or.inl ⟨by rfl, fun W hW => ?_⟩) hHeld ?_
      · clear hW
        go_simp
      try simp only [Act.put, List.getElem_toArray, List.getElem_cons_zero, List.getElem_cons_succ, List.setIfInBounds_toArray, List.set_cons_zero, List.set_cons_succ]
      refine wpAnyH_take (i := 24) (v := .bool true) rfl (by kernel_rfl) (by kernel_rfl) (by kernel_rfl) (fun _ _ _ h => h) (Or.inl ⟨by rfl, fun W hW => ?_⟩) hHeld ?_
      · clear hW
        go_simp
      try simp only [Act.put, List.getElem_toArray, List.getElem_cons_zero, List.getElem_cons_succ, List.setIfInBounds_toArray, List.set_cons_zero, List.set_cons_succ]
      refine wpAnyH_take (i := 25) (v := .bool true) rfl (by kernel_rfl) (by kernel_rfl) (by kernel_rfl) (fun _ _ _ h => h) (Or.inl ⟨by rfl, fun W hW => ?_⟩) hHeld ?_
      · clear hW
        go_simp
      try simp only [Act.put, List.getElem_toArray, List.getElem_cons_zero, List.getElem_cons_succ, List.setIfInBounds_toArray, List.set_cons_zero, List.set_cons_succ]
      refine wpAnyH_ready (rs := [26]) (by kernel_rfl) (by simp) (AllReadyH.cons rfl (fun K hK => ?_) AllReadyH.nil)
      go_simp
      refine (awake14_any _).mono ?_
      rintro e wk ⟨rfl, Kk⟩
      go_wp2_with fail
      refine hK.out _ _ (⟨⟨hHeld.1.1.kept Kk, hHeld.1.2.kept Kk⟩, hHeld.2.kept Kk⟩) (fun hHeld => ?_)
      clear hK K Kk
      try simp only [Act.put, List.getElem_toArray, List.getElem_cons_zero, List.getElem_cons_succ, List.setIfInBounds_toArray, List.set_cons_zero, List.set_cons_succ]
      refine wpAnyH_take (i := 27) (v := .bool true) rfl (by kernel_rfl) (by kernel_rfl) (by kernel_rfl) (fun _ _ _ h => h) (Or.inl ⟨by rfl, fun W hW => ?_⟩) hHeld ?_
      · clear hW
        go_simp
      try simp only [Act.put, List.getElem_toArray, List.getElem_cons_zero, List.getElem_cons_succ, List.setIfInBounds_toArray, List.set_cons_zero, List.set_cons_succ]
      refine wpAnyH_take (i := 28) (v := .bool true) rfl (by kernel_rfl) (by kernel_rfl) (by kernel_rfl) (fun _ _ _ h => h) (Or.inl ⟨by rfl, fun W hW => ?_⟩) hHeld ?_
      · clear hW
        go_simp
      try simp only [Act.put, List.getElem_toArray, List.getElem_cons_zero, List.getElem_cons_succ, List.setIfInBounds_toArray, List.set_cons_zero, List.set_cons_succ]
      refine wpAnyH_done (by kernel_rfl) ?_ _
      have HFIN : Hid (w.grownBy _ none) := hHeld.1.1.up
      clear hHeld
      go_wp2
      go_ret
      exact ⟨rfl, HFIN.out⟩
    · skip
      refine step_litV (by rfl) 40 1 _ (by rfl) #[(0, .agg WA)] (by kernel_rfl) (flatG [wdN x.of]) 37 HLW ?_
      intro V18 wl C18 Kl
      have C10 := C10.keptNone Kl
      refine hK.out _ _ (⟨⟨hHeld.1.1.kept Kl, hHeld.1.2.kept Kl⟩, hHeld.2.kept Kl⟩) (fun hHeld => ?_)
      clear hK K Kl
      try simp only [Act.put, List.getElem_toArray, List.getElem_cons_zero, List.getElem_cons_succ, List.setIfInBounds_toArray, List.set_cons_zero, List.set_cons_succ]
      refine wpAnyH_ready (rs := [14]) (by kernel_rfl) (by simp) (AllReadyH.cons rfl (fun K hK => ?_) AllReadyH.nil)
      go_simp
      refine (HJZ.out _ V10 C10 hHeld.1.1.up).mono ?_
      rintro e wk ⟨rfl, Kk⟩
      have C18 := C18.keptNone Kk
      go_wp2_with fail
      refine hK.out _ _ (⟨⟨hHeld.1.1.kept Kk, hHeld.1.2.kept Kk⟩, hHeld.2.kept Kk⟩) (fun hHeld => ?_)
      clear hK K Kk
      try simp only [Act.put, List.getElem_toArray, List.getElem_cons_zero, List.getElem_cons_succ, List.setIfInBounds_toArray, List.set_cons_zero, List.set_cons_succ]
      refine wpAnyH_ready (rs := [22]) (by kernel_rfl) (by simp) (AllReadyH.cons rfl (fun K hK => ?_) AllReadyH.nil)
      go_simp
      refine (HJW.out _ V18 C18 hHeld.1.1.up).mono ?_
      rintro e wk ⟨rfl, Kk⟩
      go_wp2_with fail
      refine hK.out _ _ (⟨⟨hHeld.1.1.kept Kk, hHeld.1.2.kept Kk⟩, hHeld.2.kept Kk⟩) (fun hHeld => ?_)
      clear hK K Kk
      try simp only [Act.put, List.getElem_toArray, List.getElem_cons_zero, List.getElem_cons_succ, List.setIfInBounds_toArray, List.set_cons_zero, List.set_cons_succ]
      refine wpAnyH_take (i := 23) (v := .bool true) rfl (by kernel_rfl) (by kernel_rfl) (by kernel_rfl) (fun _ _ _ h => h) (Or.inl ⟨by rfl, fun W hW => ?_⟩) hHeld ?_
      · clear hW
        go_simp
      try simp only [Act.put, List.getElem_toArray, List.getElem_cons_zero, List.getElem_cons_succ, List.setIfInBounds_toArray, List.set_cons_zero, List.set_cons_succ]
      refine wpAnyH_take (i := 24) (v := .bool true) rfl (by kernel_rfl) (by kernel_rfl) (by kernel_rfl) (fun _ _ _ h => h) (Or.inl ⟨by rfl, fun W hW => ?_⟩) hHeld ?_
      · clear hW
        go_simp
      try simp only [Act.put, List.getElem_toArray, List.getElem_cons_zero, List.getElem_cons_succ, List.setIfInBounds_toArray, List.set_cons_zero, List.set_cons_succ]
      refine wpAnyH_take (i := 25) (v := .bool true) rfl (by kernel_rfl) (by kernel_rfl) (by kernel_rfl) (fun _ _ _ h => h) (Or.inl ⟨by rfl, fun W hW => ?_⟩) hHeld ?_
      · clear hW
        go_simp
      try simp only [Act.put, List.getElem_toArray, List.getElem_cons_zero, List.getElem_cons_succ, List.setIfInBounds_toArray, List.set_cons_zero, List.set_cons_succ]
      refine wpAnyH_ready (rs := [26]) (by kernel_rfl) (by simp) (AllReadyH.cons rfl (fun K hK => ?_) AllReadyH.nil)
      go_simp
      refine (awake14_any _).mono ?_
      rintro e wk ⟨rfl, Kk⟩
      go_wp2_with fail
      refine hK.out _ _ (⟨⟨hHeld.1.1.kept Kk, hHeld.1.2.kept Kk⟩, hHeld.2.kept Kk⟩) (fun hHeld => ?_)
      clear hK K Kk
      try simp only [Act.put, List.getElem_toArray, List.getElem_cons_zero, List.getElem_cons_succ, List.setIfInBounds_toArray, List.set_cons_zero, List.set_cons_succ]
      refine wpAnyH_take (i := 27) (v := .bool true) rfl (by kernel_rfl) (by kernel_rfl) (by kernel_rfl) (fun _ _ _ h => h) (Or.inl ⟨by rfl, fun W hW => ?_⟩) hHeld ?_
      · clear hW
        go_simp
      try simp only [Act.put, List.getElem_toArray, List.getElem_cons_zero, List.getElem_cons_succ, List.setIfInBounds_toArray, List.set_cons_zero, List.set_cons_succ]
      refine wpAnyH_take (i := 28) (v := .bool true) rfl (by kernel_rfl) (by kernel_rfl) (by kernel_rfl) (fun _ _ _ h => h) (Or.inl ⟨by rfl, fun W hW => ?_⟩) hHeld ?_
      · clear hW
        go_simp
      try simp only [Act.put, List.getElem_toArray, List.getElem_cons_zero, List.getElem_cons_succ, List.setIfInBounds_toArray, List.set_cons_zero, List.set_cons_succ]
      refine wpAnyH_done (by kernel_rfl) ?_ _
      have HFIN : Hid (w.grownBy _ none) := hHeld.1.1.up
      clear hHeld
      go_wp2
      go_ret
      exact ⟨rfl, HFIN.out⟩
  · skip
    refine step_litV (by rfl) 40 1 _ (by rfl) #[(0, .agg WA)] (by kernel_rfl) (flatG [wdN x.of]) 37 HLW ?_
    intro V18 wl C18 Kl
    refine hK.out _ _ (⟨⟨hHeld.1.1.kept Kl, hHeld.1.2.kept Kl⟩, hHeld.2.kept Kl⟩) (fun hHeld => ?_)
    clear hK K Kl
    try simp only [Act.put, List.getElem_toArray, List.getElem_cons_zero, List.getElem_cons_succ, List.setIfInBounds_toArray, List.set_cons_zero, List.set_cons_succ]
    refine wpAnyH_ready (rs := [10]) (by kernel_rfl) (by simp) (AllReadyH.cons rfl (fun K hK => ?_) AllReadyH.nil)
    refine step_litV (by rfl) 40 1 _ (by rfl) #[(0, .agg ZA)] (by kernel_rfl) (flatG [n0N x.of]) 37 HL0 ?_
    intro V10 wl C10 Kl
    have C18 := C18.keptNone Kl
    refine hK.out _ _ (⟨⟨hHeld.1.1.kept Kl, hHeld.1.2.kept Kl⟩, hHeld.2.kept Kl⟩) (fun hHeld => ?_)
    clear hK K Kl
    try simp only [Act.put, List.getElem_toArray, List.getElem_cons_zero, List.getElem_cons_succ, List.setIfInBounds_toArray, List.set_cons_zero, List.set_cons_succ]
    refine wpAnyH_ready (rs := [14]) (by kernel_rfl) (by simp) (AllReadyH.cons rfl (fun K hK => ?_) AllReadyH.nil)
    go_simp
    refine (HJZ.out _ V10 C10 hHeld.1.1.up).mono ?_
    rintro e wk ⟨rfl, Kk⟩
    have C18 := C18.keptNone Kk
    go_wp2_with fail
    refine hK.out _ _ (⟨⟨hHeld.1.1.kept Kk, hHeld.1.2.kept Kk⟩, hHeld.2.kept Kk⟩) (fun hHeld => ?_)
    clear hK K Kk
    try simp only [Act.put, List.getElem_toArray, List.getElem_cons_zero, List.getElem_cons_succ, List.setIfInBounds_toArray, List.set_cons_zero, List.set_cons_succ]
    refine wpAnyH_ready (rs := [22]) (by kernel_rfl) (by simp) (AllReadyH.cons rfl (fun K hK => ?_) AllReadyH.nil)
    go_simp
    refine (HJW.out _ V18 C18 hHeld.1.1.up).mono ?_
    rintro e wk ⟨rfl, Kk⟩
    go_wp2_with fail
    refine hK.out _ _ (⟨⟨hHeld.1.1.kept Kk, hHeld.1.2.kept Kk⟩, hHeld.2.kept Kk⟩) (fun hHeld => ?_)
    clear hK K Kk
    try simp only [Act.put, List.getElem_toArray, List.getElem_cons_zero, List.getElem_cons_succ, List.setIfInBounds_toArray, List.set_cons_zero, List.set_cons_succ]
    refine wpAnyH_take (i := 23) (v := .bool true) rfl (by kernel_rfl) (by kernel_rfl) (by kernel_rfl) (fun _ _ _ h => h) (Or.inl ⟨by rfl, fun W hW => ?_⟩) hHeld ?_
    · clear hW
      go_simp
    try simp only [Act.put, List.getElem_toArray, List.getElem_cons_zero, List.getElem_cons_succ, List.setIfInBounds_toArray, List.set_cons_zero, List.set_cons_succ]
    refine wpAnyH_take (i := 24) (v := .bool true) rfl (by kernel_rfl) (by kernel_rfl) (by kernel_rfl) (fun _ _ _ h => h) (Or.inl ⟨by rfl, fun W hW => ?_⟩) hHeld ?_
    · clear hW
      go_simp
    try simp only [Act.put, List.getElem_toArray, List.getElem_cons_zero, List.getElem_cons_succ, List.setIfInBounds_toArray, List.set_cons_zero, List.set_cons_succ]
    refine wpAnyH_take (i := 25) (v := .bool true) rfl (by kernel_rfl) (by kernel_rfl) (by kernel_rfl) (fun _ _ _ h => h) (Or.inl ⟨by rfl, fun W hW => ?_⟩) hHeld ?_
    · clear hW
      go_simp
    try simp only [Act.put, List.getElem_toArray, List.getElem_cons_zero, List.getElem_cons_succ, List.setIfInBounds_toArray, List.set_cons_zero, List.set_cons_succ]
    refine wpAnyH_ready (rs := [26]) (by kernel_rfl) (by simp) (AllReadyH.cons rfl (fun K hK => ?_) AllReadyH.nil)
    go_simp
    refine (awake14_any _).mono ?_
    rintro e wk ⟨rfl, Kk⟩
    go_wp2_with fail
    refine hK.out _ _ (⟨⟨hHeld.1.1.kept Kk, hHeld.1.2.kept Kk⟩, hHeld.2.kept Kk⟩) (fun hHeld => ?_)
    clear hK K Kk
    try simp only [Act.put, List.getElem_toArray, List.getElem_cons_zero, List.getElem_cons_succ, List.setIfInBounds_toArray, List.set_cons_zero, List.set_cons_succ]
    refine wpAnyH_take (i := 27) (v := .bool true) rfl (by kernel_rfl) (by kernel_rfl) (by kernel_rfl) (fun _ _ _ h => h) (Or.inl ⟨by rfl, fun W hW => ?_⟩) hHeld ?_
    · clear hW
      go_simp
    try simp only [Act.put, List.getElem_toArray, List.getElem_cons_zero, List.getElem_cons_succ, List.setIfInBounds_toArray, List.set_cons_zero, List.set_cons_succ]
    refine wpAnyH_take (i := 28) (v := .bool true) rfl (by kernel_rfl) (by kernel_rfl) (by kernel_rfl) (fun _ _ _ h => h) (Or.inl ⟨by rfl, fun W hW => ?_⟩) hHeld ?_
    · clear hW
      go_simp
    try simp only [Act.put, List.getElem_toArray, List.getElem_cons_zero, List.getElem_cons_succ, List.setIfInBounds_toArray, List.set_cons_zero, List.set_cons_succ]
    refine wpAnyH_done (by kernel_rfl) ?_ _
    have HFIN : Hid (w.grownBy _ none) := hHeld.1.1.up
    clear hHeld
    go_wp2
    go_ret
    exact ⟨rfl, HFIN.out⟩

set_option maxRecDepth 100000 in
theorem lifted (os : Os) (started : os.Started) (H : Type) (enc : TypeId × Value → H) :
    ReturnsInHanded {} Tryz.checked os 4 .any (Rows.meanSidesSpec.pre6 enc Tryz.prog Tryz.f4 Rows.meanSidesRow.domain false) (Rows.meanSidesSpec.post enc Tryz.prog Tryz.f4 false true false false) := by
  refine returnsInHanded_of_change_sized (C := Tryz.checked) own started (by kernel_rfl) Tryz.func4
    (ChangeSpec.witness6 (enc := enc) (C := Tryz.checked) false ⟨#[], #[.agg #[.int .i64 0, .int .i64 0, .int .u32 0, .int .u32 0, .int .i64 0, .int .i64 0, .int .i64 0, .int .u8 0, .int .u8 0, .int .u8 0, .int .u8 0, .int .u8 0, .int .u8 0, .int .u8 0, .int .u8 0, .int .u8 0, .int .u8 0, .int .u8 0, .int .u8 0, .int .u8 0, .int .u8 0, .int .u8 0, .int .u8 0, .int .i64 0], .agg #[.bool false, .bool false, .int .i64 0], .int .i64 0, .slice none 0 0], []⟩ 8 (by kernel_rfl) (by kernel_rfl) (by kernel_rfl) (by kernel_rfl)) ?_
  intro W base args ds gs before hval0 hW hcnd hsz0 _
  have hsz : (DataW.weightsEach Tryz.prog (Tryz.f4.params.toList ++ Rows.meanSidesSpec.plain.varTypes Tryz.prog) (ds ++ gs)).all (· ≤ reachBytes) = true := hsz0
  have hval : ∀ (j : Nat) t v, Tryz.f4.params[j]? = some t → args[j]? = some v → Value.okWide Tryz.prog W .any base t v := hval0
  have hW' := hW
  obtain ⟨p, q, hA0, hV, rfl, hfz, hnd⟩ := hW
  have hA : DataW.TrodAll enc Tryz.prog W 0 (fun _ => true) true Tryz.f4.params.toList args.toList ds p := hA0
  rw [Tryz.params4] at hA hval hsz
  obtain ⟨v0, vs0, d0, ds0, p0, q0, hargs, rfl, rfl, h0, r0⟩ := trodAll_cons hA
  obtain ⟨v1, vs1, d1, ds1, p1, q1, rfl, rfl, rfl, h1, r1⟩ := trodAll_cons r0
  obtain ⟨v2, vs2, d2, ds2, p2, q2, rfl, rfl, rfl, h2, r2⟩ := trodAll_cons r1
  obtain ⟨v3, vs3, d3, ds3, p3, q3, rfl, rfl, rfl, h3, r3⟩ := trodAll_cons r2
  obtain ⟨rfl, rfl, rfl⟩ := trodAll_nil r3
  obtain rfl : args = #[v0, v1, v2, v3] := by cases args; simp_all
  obtain ⟨rfl, rfl⟩ := trodVars_none hV
  have k0 := h0
  have lt0 : ∀ x ∈ p0, x.block < W.heap.size := by obtain ⟨m, hm⟩ := k0; exact DataW.trod_lt m _ _ _ hm
  obtain ⟨x0, rfl, hok0⟩ := open_node h0
  have k1 := h1
  have lt1 : ∀ x ∈ p1, x.block < W.heap.size := by obtain ⟨m, hm⟩ := k1; exact DataW.trod_lt m _ _ _ hm
  obtain ⟨x1, rfl⟩ := open_link h1
  obtain ⟨x2, rfl, rfl, rfl, w2⟩ := open_int Tryz.underlying3 (hval 2 3 v2 rfl rfl) h2
  obtain ⟨a3, len3, cap3, rfl⟩ := okWide_slice Tryz.underlying26 (hval 3 26 v3 rfl rfl)
  have k3 := h3
  have lt3 : ∀ x ∈ p3, x.block < W.heap.size := by obtain ⟨m, hm⟩ := k3; exact DataW.trod_lt m _ _ _ hm
  obtain ⟨xs3, rfl, hcells3, hnil3, hdat3⟩ := open_bytes Tryz.underlying26 Tryz.underlying5 (by kernel_rfl) h3
  have hlen3 : xs3.length * 1 ≤ 140737488351232 := by
    rcases hdat3 with ⟨_, rfl⟩ | ⟨elems, spare, rfl, hle⟩
    · simp
    · have := sized_slice hsz (j := 3) (t := 26) (e := 5) rfl rfl Tryz.underlying26
      rw [bytes5] at this
      unfold reachBytes at this
      omega
  clear hA0 hval0
  refine (walk x0 x1 x2 a3 cap3 xs3 W hok0 hcells3 hnil3 (by omega)).mono fun e W' ⟨he, hg⟩ => ?_
  subst he
  have bel : Below W.heap.size W W' := (Below.refl _ _).grown hg (Nat.le_refl _) (by simp)
  exact ⟨_, rfl, _, _, _, [], _, [], hW', trodAll_mk1 (shut_bool Tryz.underlying4 _), (trodAll_cons_mk (Below.trod laidOut (by kernel_rfl) (of_decide_eq_true (by kernel_rfl)) k0 bel lt0) (trodAll_cons_mk (Below.trod laidOut (by kernel_rfl) (of_decide_eq_true (by kernel_rfl)) k1 bel lt1) (trodAll_cons_mk (shut_int Tryz.underlying3 w2) (trodAll_cons_mk (Below.trod laidOut (by kernel_rfl) (of_decide_eq_true (by kernel_rfl)) k3 bel lt3) trodAll_mk0)))), rfl, bel.frame _, fun h => by cases h⟩

theorem over : Rows.MeanSidesSaid :=
  OpenClaim.holds_of_wide 4 Tryz.f4 rfl rfl rfl rfl rfl rfl rfl ⟨rfl, rfl, rfl, rfl, rfl⟩ rfl rfl rfl rfl rfl (by kernel_rfl) Tryz.func4 (by kernel_rfl)
    (of_decide_eq_true (by kernel_rfl)) (by unfold Func.isWrapper; first | (rw [if_pos (by decide +kernel)]; kernel_rfl) | (rw [if_neg (by decide +kernel)]; exact ⟨rfl, rfl⟩))
    (fun os started H enc _ => lifted os started H enc)

end meanSides

theorem meanSides_holds : Rows.MeanSidesSaid := meanSides.over
#print axioms meanSides_holds

end Go.Proofs.YtblpmgkagbiogaaGreat
