/-
  For every two numbers of 32 bits and every number of 8 bits riddlelaw5.VmJumps returns true and leaves what was there as it was: no condition of ours.
-/
import Derived.Test.YtaldhnionkacmabOpenI
import Derived.Test.YtaldhnionkacmabAwake5
import Derived.Test.YtaldhnionkacmabVmZ
import Derived.Test.YtaldhnionkacmabStep
import Derived.Deep.DeepCutAuto
import Derived.Deep.RegionHeld3
namespace Go.Proofs.Ytaldhnionkacmab
open Go.ChangeShapes Go.WideShapes Go.ChangeAt Go.RowKit
open Go.ChangeMaps (open_string shut_string)
set_option maxRecDepth 100000
namespace vmJumps

def u16v (v : Nat) : Value := .int .u16 (v : Int)

/-- What is kept from round to round: the codes, the answers. -/
def JRel (w : World) (O N a b : Nat) (wr : World) : Prop :=
  CV wr (some ⟨O, 0, none⟩) (jopsL.map u16v) ∧ CV wr (some ⟨N, 0, none⟩) ((jwantL a b).map Value.bool) ∧ w.grownBy wr none
theorem JRel.kept {w wr w' : World} {O N a b : Nat} (h : JRel w O N a b wr) (K : wr.grownBy w' none) : JRel w O N a b w' := ⟨h.1.keptNone K, h.2.1.keptNone K, grown_trans h.2.2 K⟩
/-- A program that is being made, too: its row lies behind a place. -/
def PRel (w : World) (O N a b D : Nat) (v : Value) (xs : List In) (wr : World) : Prop := JRel w O N a b wr ∧ wr.ownsRow D 27 4 v xs.length (flat xs) ∧ O < D ∧ N < D ∧ w.heap.size ≤ D
theorem PRel.kept {w wr w' : World} {O N a b D : Nat} {v : Value} {xs : List In} (h : PRel w O N a b D v xs wr) (K : wr.grownBy w' none) : PRel w O N a b D v xs w' := ⟨h.1.kept K, owns_keptNone h.2.1 K, h.2.2⟩

theorem cv_at {w : World} {g : Nat} {vs : List Value} (h : CV w (some ⟨g, 0, none⟩) vs) (i : Nat) (v : Value) (hv : vs[i]? = some v) : w.cell? ⟨g, i, none⟩ = some v := by
  obtain ⟨hi, he⟩ := List.getElem?_eq_some_iff.1 hv
  have := h.2 _ rfl i hi
  rw [Addr.add_lit, Nat.zero_add] at this
  rw [this, he]

/-- The row written: it alone, or one of its new blocks. -/
theorem JRel.row {w wr w' : World} {O N a b D : Nat} {v : Value} {xs : List In} (h : PRel w O N a b D v xs wr) (K : wr.grownBy w' v.ownBlock) : JRel w O N a b w' := by
  obtain ⟨⟨h1, h2, h3⟩, h4, h5, h6, h7⟩ := h
  have hlt := h4.lt
  exact ⟨h1.kept K (fun ad had _ e => by obtain rfl := Option.some.inj had; have := (hlt _ e.symm).1; simp only at this; omega), h2.kept K (fun ad had _ e => by obtain rfl := Option.some.inj had; have := (hlt _ e.symm).1; simp only at this; omega), grown_trans_new h3 K (fun x hx => by have := (hlt x hx).1; omega)⟩

theorem flatPre {a b c K far : Nat} (ha : a ≤ 4294967295) (hb : b ≤ 4294967295) (hc : c ≤ 65535) (hK : K ≤ 4294967295) (hf : far ≤ 255) : flat (jumpPre a b c K far) = [.int .u16 1, .int .u8 0, .int .u8 0, .int .u32 (b : Int), .int .u16 0, .int .u8 0, .int .u8 0, .int .u32 (a : Int), .int .u16 (c : Int), .int .u8 (far : Int), .int .u8 0, .int .u32 (K : Int)] := by
  simp only [jumpPre, flat, List.flatMap_cons, List.flatMap_nil, mkV_cells (show (1 : Nat) ≤ 65535 by omega) (show (0 : Nat) ≤ 255 by omega) (show (0 : Nat) ≤ 255 by omega) hb, mkV_cells (show (0 : Nat) ≤ 65535 by omega) (show (0 : Nat) ≤ 255 by omega) (show (0 : Nat) ≤ 255 by omega) ha, mkV_cells hc hf (show (0 : Nat) ≤ 255 by omega) hK]
  rfl

theorem xor_all (b : Nat) (hb : b ≤ 4294967295) : ∃ xb : Nat, xb ≤ 4294967295 ∧ Hid (bits .xor .u32 (if IntKind.u32.signed = true then -1 else IntKind.u32.max) (b : Int) = (xb : Int)) := by
  refine ⟨4294967295 ^^^ b, ?_, ?_⟩
  · have : 4294967295 ^^^ b < 2 ^ 32 := Nat.xor_lt_two_pow (by omega) (by omega)
    omega
  · have e : (if IntKind.u32.signed = true then (-1 : Int) else IntKind.u32.max) = ((4294967295 : Nat) : Int) := by decide
    show bits .xor .u32 _ _ = _
    rw [e]
    exact u32_xor_nat 4294967295 b (by omega) (by omega)

theorem JRel.box {w wr w' : World} {O N a b B : Nat} (h : JRel w O N a b wr) (K : wr.grownBy w' (some B)) (h1 : O < N) (h2 : N < B) (h3 : w.heap.size = O) : JRel w O N a b w' :=
  ⟨h.1.kept K (fun ad had _ e => by obtain rfl := Option.some.inj had; simp only [Option.some.injEq] at e; omega), h.2.1.kept K (fun ad had _ e => by obtain rfl := Option.some.inj had; simp only [Option.some.injEq] at e; omega), grown_trans_new h.2.2 K (by intro x hx; obtain rfl := Option.some.inj hx; omega)⟩

/-- A box of four cells, two of them written. -/
theorem bx_set {w : World} {B : Nat} {t : TypeId} {c f0 k d e : Int} (h : w.heap[B]? = some (.cells #[.int .u16 c, .int .u8 f0, .int .u8 0, .int .u32 k] t (0, 0))) :
    Bx ((w.setCell ⟨B, 0, none⟩ (.int .u16 d)).setCell ⟨B, 3, none⟩ (.int .u32 e)) B d f0 0 e := by
  have h1 := heap_setCell_same w B 0 _ t (.int .u16 d) h
  have h2 := heap_setCell_same (w.setCell ⟨B, 0, none⟩ (.int .u16 d)) B 3 _ t (.int .u32 e) h1
  exact ⟨cell_of_row _ B 0 _ _ _ h2, cell_of_row _ B 1 _ _ _ h2, cell_of_row _ B 2 _ _ _ h2, cell_of_row _ B 3 _ _ _ h2⟩

def pre1 (a b c K : Nat) : List In := [mkV 1 0 0 b, mkV 0 0 0 a, mkV c 0 1 K]
theorem flatPre1 {a b c K : Nat} (ha : a ≤ 4294967295) (hb : b ≤ 4294967295) (hc : c ≤ 65535) (hK : K ≤ 4294967295) : flat (pre1 a b c K) = [.int .u16 1, .int .u8 0, .int .u8 0, .int .u32 (b : Int), .int .u16 0, .int .u8 0, .int .u8 0, .int .u32 (a : Int), .int .u16 (c : Int), .int .u8 0, .int .u8 1, .int .u32 (K : Int)] := by
  simp only [pre1, flat, List.flatMap_cons, List.flatMap_nil, mkV_cells (show (1 : Nat) ≤ 65535 by omega) (show (0 : Nat) ≤ 255 by omega) (show (0 : Nat) ≤ 255 by omega) hb, mkV_cells (show (0 : Nat) ≤ 65535 by omega) (show (0 : Nat) ≤ 255 by omega) (show (0 : Nat) ≤ 255 by omega) ha, mkV_cells hc (show (0 : Nat) ≤ 255 by omega) (show (1 : Nat) ≤ 255 by omega) hK]
  rfl
theorem flatP0 {a b c K : Nat} (ha : a ≤ 4294967295) (hb : b ≤ 4294967295) (hc : c ≤ 65535) (hK : K ≤ 4294967295) : flat (jumpP0 a b c K) = [.int .u16 1, .int .u8 0, .int .u8 0, .int .u32 (b : Int), .int .u16 0, .int .u8 0, .int .u8 0, .int .u32 (a : Int), .int .u16 (c : Int), .int .u8 0, .int .u8 1, .int .u32 (K : Int), .int .u16 6, .int .u8 0, .int .u8 0, .int .u32 1, .int .u16 6, .int .u8 0, .int .u8 0, .int .u32 2] := by
  have e : jumpP0 a b c K = pre1 a b c K ++ [mkV 6 0 0 1, mkV 6 0 0 2] := rfl
  rw [e, flat_append, flatPre1 ha hb hc hK]
  rfl

theorem mid_len (a b c K far k : Nat) : (jumpMid a b c K far k).length = k + 4 := by simp [jumpMid, jumpPre]
theorem mid_succ (a b c K far k : Nat) : flat (jumpMid a b c K far (k + 1)) = flat (jumpMid a b c K far k) ++ [.int .u16 6, .int .u8 0, .int .u8 0, .int .u32 77] := by
  have e : jumpMid a b c K far (k + 1) = jumpMid a b c K far k ++ [mkV 6 0 0 77] := by
    rw [jumpMid, jumpMid, List.replicate_succ', List.append_assoc, List.cons_append]
  rw [e, flat_append]
  congr 1
theorem mid_end (a b c K m : Nat) : flat (jumpP a b c K m) = flat (jumpMid a b c K (m + 1) m) ++ [.int .u16 6, .int .u8 0, .int .u8 0, .int .u32 1, .int .u16 6, .int .u8 0, .int .u8 0, .int .u32 2] := by
  rw [jumpP, flat_append]
  congr 1

set_option maxHeartbeats 4000000 in
theorem walk (a b far : Nat) (w : World) (ha : a ≤ 4294967295) (hb : b ≤ 4294967295) (hfar : far ≤ 255) :
    Calls Try.prog 3 #[.int .u32 (a : Int), .int .u32 (b : Int), .int .u8 (far : Int)] w fun e w' => e = .returned (.bool true) ∧ w.grownBy w' none := by
  have e2 := u32_and_nat a b (by omega) (by omega)
  obtain ⟨i0, hi, hz0, hz1, hz2⟩ := info_parts info27
  obtain ⟨xb, hxl, HX⟩ := xor_all b hb
  go_enter Try.func3, Try.ntmps3
  go_upto_region 2 with fail
  have G0 : w.grownBy (w.alloc (.cells #[.int .u16 21, .int .u16 37, .int .u16 53, .int .u16 69] 23)) none := World.grownBy_alloc _ _ _
  have O0 : CV (w.alloc (.cells #[.int .u16 21, .int .u16 37, .int .u16 53, .int .u16 69] 23)) (some ⟨w.heap.size, 0, none⟩) (jopsL.map u16v) := cv_lit w _ [.int .u16 21, .int .u16 37, .int .u16 53, .int .u16 69]
  have hOl : w.heap.size < (w.alloc (.cells #[.int .u16 21, .int .u16 37, .int .u16 53, .int .u16 69] 23)).heap.size := by simp
  generalize w.alloc (.cells #[.int .u16 21, .int .u16 37, .int .u16 53, .int .u16 69] 23) = wo at *
  obtain ⟨O, hOe⟩ : ∃ O, w.heap.size = O := ⟨_, rfl⟩
  rw [hOe] at O0 hOl ⊢
  have HO : Hid (w.heap.size = O) := hOe
  clear hOe
  go_upto_region 3 with fail
  have R0 : JRel w O wo.heap.size a b (wo.alloc (.cells #[.bool ((a : Int) == (b : Int)), .bool (decide (b < a)), .bool (decide (b ≤ a)), .bool (((a &&& b : Nat) : Int) != 0)] 4)) := by
    refine ⟨O0.keptNone (World.grownBy_alloc _ _ _), ?_, grown_trans G0 (World.grownBy_alloc _ _ _)⟩
    have e : (jwantL a b).map Value.bool = (#[.bool ((a : Int) == (b : Int)), .bool (decide (b < a)), .bool (decide (b ≤ a)), .bool (((a &&& b : Nat) : Int) != 0)] : Array Value).toList := by
      rw [jwantL, ← cast_beq, ← cast_bne]
      rfl
    rw [e]
    exact cv_lit wo _ _
  have hNl : wo.heap.size < (wo.alloc (.cells #[.bool ((a : Int) == (b : Int)), .bool (decide (b < a)), .bool (decide (b ≤ a)), .bool (((a &&& b : Nat) : Int) != 0)] 4)).heap.size := by simp
  clear G0 O0 e2
  generalize wo.alloc (.cells #[.bool ((a : Int) == (b : Int)), .bool (decide (b < a)), .bool (decide (b ≤ a)), .bool (((a &&& b : Nat) : Int) != 0)] 4) = wq at *
  generalize wo.heap.size = N at *
  have R0 : JRel w O N a b wq ∧ N < wq.heap.size := ⟨R0, hNl⟩
  clear hNl
  go_wp2
  go_loopw [9] (fun i wr => ∃ n : Nat, n ≤ 4 ∧ i = .int .i64 n ∧ JRel w O N a b wr ∧ N < wr.heap.size) (fun i _ => 4 - (intOf i).toNat)
  case atStart => exact ⟨0, by omega, rfl, R0⟩
  case round =>
    clear R0
    obtain ⟨i, hi4, rfl, R, hNl⟩ := hrel
    by_cases hlt : i < 4
    · obtain ⟨op, hop⟩ : ∃ op, jopsL[i]? = some op := ⟨_, List.getElem?_eq_getElem (show i < jopsL.length from hlt)⟩
      obtain ⟨q, hq⟩ : ∃ q, (jwantL a b)[i]? = some q := ⟨_, List.getElem?_eq_getElem (show i < (jwantL a b).length from hlt)⟩
      obtain ⟨hop7, hor, hfz, h5a, h5b, hja, hjb, hra, hrb, hqa, hqb⟩ := jop_all (a := a) (b := b) (K := xb) i op q hop hq
      have HOP : Hid (∀ W : World, JRel w O N a b W → W.cell? ⟨O, i, none⟩ = some (.int .u16 (op : Int)) ∧ W.cell? ⟨N, i, none⟩ = some (.bool q)) := fun W h =>
        ⟨cv_at h.1 i (u16v op) (by rw [List.getElem?_map, hop]; rfl), cv_at h.2.1 i (.bool q) (by rw [List.getElem?_map, hq]; rfl)⟩
      have HA : Hid (∀ k, faultV op k = 0 ∧ faultV ((op + 8 : Nat) : Int) k = 0) := hfz
      have HB : Hid (((op : Int) == 5) = false ∧ (((op + 8 : Nat) : Int) == 5) = false ∧ jumpB op = true ∧ jumpB ((op + 8 : Nat) : Int) = true ∧ retB op = false ∧ retB ((op + 8 : Nat) : Int) = false ∧
        holdsV (bits .andNot .u16 (op : Int) 8) a (sideV op b b) = q ∧ holdsV (bits .andNot .u16 ((op + 8 : Nat) : Int) 8) a (sideV ((op + 8 : Nat) : Int) xb b) = q) := ⟨h5a, h5b, hja, hjb, hra, hrb, hqa, hqb⟩
      have hHO : Hid (bits .or .u16 (op : Int) 8 = ((op + 8 : Nat) : Int)) := hor
      clear hfz h5a h5b hja hjb hra hrb hqa hqb hop hq hor
      have hi1 : (i : Int) < 4 := by omega
      go_wp2
      go_loopw [10] (fun x wr => ∃ n : Nat, n ≤ 2 ∧ x = .int .i64 n ∧ JRel w O N a b wr ∧ N < wr.heap.size) (fun x _ => 2 - (intOf x).toNat)
      case atStart => exact ⟨0, by omega, rfl, R, hNl⟩
      case round =>
        clear R hNl
        obtain ⟨n, hn2, rfl, R, hNl⟩ := hrel
        by_cases hlt2 : n < 2
        · have co := (HOP.out _ R).1
          rcases (show n = 0 ∨ n = 1 by omega) with rfl | rfl
          · rw [show ((0 : Nat) : Int) = 0 from rfl]
            go_upto_region 10 with fail
            have R1 := R.kept (World.grownBy_alloc wr (.cells #[.int .u16 (op : Int), .int .u8 (far : Int), .int .u8 0, .int .u32 (b : Int)] 27) none)
            obtain ⟨x0, x1, x2, x3⟩ := bx_alloc wr 27 op far 0 b
            have hNl1 : N < (wr.alloc (.cells #[.int .u16 (op : Int), .int .u8 (far : Int), .int .u8 0, .int .u32 (b : Int)] 27)).heap.size := by simp; omega
            clear R co
            generalize wr.alloc (.cells #[.int .u16 (op : Int), .int .u8 (far : Int), .int .u8 0, .int .u32 (b : Int)] 27) = wb at *
            generalize wr.heap.size = B at *
            go_upto_region 14 with fail
            have hK : b ≤ 4294967295 := hb
            have hOw := HO.out
            have P1 : PRel w O N a b wb.heap.size (.slice (some ⟨wb.heap.size, 0, none⟩) 3 3) (jumpPre a b op b far) (wb.alloc (.cells #[.int .u16 1, .int .u8 0, .int .u8 0, .int .u32 (b : Int), .int .u16 0, .int .u8 0, .int .u8 0, .int .u32 (a : Int), .int .u16 (op : Int), .int .u8 (far : Int), .int .u8 0, .int .u32 (b : Int)] 27)) := by
              refine ⟨R1.kept (World.grownBy_alloc _ _ _), ?_, by omega, hNl1, by omega⟩
              rw [flatPre ha hb (by omega) hK hfar]
              exact World.ownsRow_lit (e := 27) (size := 4) wb #[.int .u16 1, .int .u8 0, .int .u8 0, .int .u32 (b : Int), .int .u16 0, .int .u8 0, .int .u8 0, .int .u32 (a : Int), .int .u16 (op : Int), .int .u8 (far : Int), .int .u8 0, .int .u32 (b : Int)] 3 (Nat.le_refl _) (by unfold maxLen; omega) (by simp)
            clear R1 x0 x1 x2 x3
            generalize wb.alloc (.cells #[.int .u16 1, .int .u8 0, .int .u8 0, .int .u32 (b : Int), .int .u16 0, .int .u8 0, .int .u8 0, .int .u32 (a : Int), .int .u16 (op : Int), .int .u8 (far : Int), .int .u8 0, .int .u32 (b : Int)] 27) = w3 at *
            generalize wb.heap.size = D at *
            by_cases hf0 : far = 0
            · have hfb : ((far : Int) == 0) = true := by rw [hf0]; rfl
              have HF0 : Hid (far = 0) := hf0
              have hfl : ¬ ((1 : Int) < (far : Int)) := by omega
              obtain ⟨hE, hRV⟩ := jump0_run (a := a) (b := b) (c := op) (K := b) (q := q) ha hb hK (by omega) (HA.out b).1 HB.out.1 HB.out.2.2.1 HB.out.2.2.2.2.1 HB.out.2.2.2.2.2.2.1
              obtain ⟨⟨rv, rf, rt⟩, hR⟩ : ∃ R, runV (jumpP0 a b op b) [] = R := ⟨_, rfl⟩
              rw [hR] at hRV
              simp only at hRV
              obtain ⟨rs, hrs⟩ : ∃ s : Int, (rt.length : Int) = s := ⟨_, rfl⟩
              have HRUN : ∀ (x : Option Addr) (cx : Nat) (W : World), CV W x (flat (jumpP0 a b op b)) → Calls Try.prog 5 #[.slice x 5 cx, .slice none 0 0] W fun e w' => RunEnd W rv rf rs 0 e w' := fun x cx W h => by
                have k := run_any x none cx 0 (jumpP0 a b op b) [] W h ⟨fun _ => rfl, fun _ h => by cases h⟩
                rw [hE, hR] at k
                rw [← hrs]
                exact k
              have HRV : Hid ((q = true → rv = 1) ∧ (q = false → rv = 2)) := ⟨fun h => by rw [if_pos h] at hRV; exact hRV, fun h => by rw [if_neg (by rw [h]; simp)] at hRV; exact hRV⟩
              have c10 : w3.cell? ⟨D, 10, none⟩ = some (.int .u8 0) := by rw [World.ownsRow.cellAt P1.2.1 10 (by simp), flatPre ha hb (by omega) hK hfar]; rfl
              have f10 := World.ownsRow.frozenAt P1.2.1 10
              have S1 := World.ownsRow.stored P1.2.1 10 (.int .u8 1)
              have HO4 : Hid ((w3.setCell ⟨D, 10, none⟩ (.int .u8 1)).ownsRow D 27 4 (.slice (some ⟨D, 0, none⟩) 3 3) 3 (flat (pre1 a b op b))) := by
                have k := S1.1
                rw [flatPre ha hb (by omega) hK hfar, HF0.out] at k
                show World.ownsRow _ _ _ _ _ _ _
                rw [flatPre1 ha hb (by omega) hK]
                exact k
              have HR4 : Hid (JRel w O N a b (w3.setCell ⟨D, 10, none⟩ (.int .u8 1))) := JRel.row P1 S1.2
              have hD4 : D < (w3.setCell ⟨D, 10, none⟩ (.int .u8 1)).heap.size := by have := (P1.2.1.lt D rfl).2; have := S1.2.size; omega
              have hq1 := P1.2.2
              clear hE hR hRV hrs S1 P1 hf0
              go_upto_region 16 with fail
              clear c10 f10
              generalize w3.setCell ⟨D, 10, none⟩ (.int .u8 1) = w4 at *
              go_wp2_with (at_builtin; refine wpList_append_cv rfl (.tmp 69) (.tmp 73) 28 rfl 27 i0 _ 4 8 Try.underlying28 hi hz0 hz1 hz2 rfl (by decide) D (.slice (some ⟨D, 0, none⟩) 3 3) 3 (flat (pre1 a b op b)) rfl ?t1 (some ⟨w4.heap.size, 0, none⟩) 1 1 [.int .u16 5, .int .u8 0, .int .u8 0, .int .u32 (far : Int)] rfl rfl (by simp) ?t2 (by simp [Value.oneCell']) (by unfold maxLen; omega) (by omega) ?t5 ?t6)
              case t1 => exact owns_keptNone HO4.out (World.grownBy_alloc _ _ _)
              case t2 => exact cv_lit w4 _ _
              case t5 => first | omega | (simp; omega)
              case t6 =>
                intro v5 w5 O5 K5
                have R5 : JRel w O N a b w5 := JRel.row (D := D) (xs := pre1 a b op b) (v := .slice (some ⟨D, 0, none⟩) 3 3) ⟨HR4.out.kept (World.grownBy_alloc _ _ none), owns_keptNone HO4.out (World.grownBy_alloc _ _ none), hq1⟩ K5
                have hN5 : N < w5.heap.size := by have := K5.size; simp at this; omega
                obtain ⟨g5, cap5, rfl, hcap5, hcm5, -, -⟩ := owns_head O5 (by omega)
                have cel : ∀ i v, ([.int .u16 1, .int .u8 0, .int .u8 0, .int .u32 (b : Int), .int .u16 0, .int .u8 0, .int .u8 0, .int .u32 (a : Int), .int .u16 (op : Int), .int .u8 0, .int .u8 1, .int .u32 (b : Int)] : List Value)[i]? = some v → w5.cell? ⟨g5, i, none⟩ = some v := fun i v h => by
                  have hi := (List.getElem?_eq_some_iff.1 h).1
                  simp only [List.length_cons, List.length_nil] at hi
                  rw [World.ownsRow.cellAt O5 i (by omega), List.getElem?_append_left (by rw [flatPre1 ha hb (by omega) hK]; simp; omega), flatPre1 ha hb (by omega) hK]
                  exact h
                have z0 := cel 0 _ rfl
                have z1 := cel 1 _ rfl
                have z2 := cel 2 _ rfl
                have z3 := cel 3 _ rfl
                have z4 := cel 4 _ rfl
                have z5 := cel 5 _ rfl
                have z6 := cel 6 _ rfl
                have z7 := cel 7 _ rfl
                have z8 := cel 8 _ rfl
                have z9 := cel 9 _ rfl
                have z10 := cel 10 _ rfl
                have z11 := cel 11 _ rfl
                unfold maxLen at hcm5
                clear cel O5 K5 HO4 HR4 hcap5
                go_wp2
                go_loopw [12, 13] (fun v n wr => v = .slice (some ⟨g5, 0, none⟩) 4 cap5 ∧ n = .int .i64 1 ∧ wr = w5) (fun _ _ _ => 0)
                case atStart => exact ⟨rfl, rfl, rfl⟩
                case round =>
                  obtain ⟨rfl, rfl, rfl⟩ := hrel
                  go_upto_region 22 with fail
                  go_cut [12] (fun v wx => ∃ ao cap, v = .slice ao 5 cap ∧ CV wx ao (flat (jumpP0 a b op b)) ∧ JRel w O N a b wx ∧ N < wx.heap.size)
                  case first =>
                    have HFP : Hid (flat (jumpP0 a b op b) = (#[.int .u16 1, .int .u8 0, .int .u8 0, .int .u32 (b : Int), .int .u16 0, .int .u8 0, .int .u8 0, .int .u32 (a : Int), .int .u16 (op : Int), .int .u8 0, .int .u8 1, .int .u32 (b : Int), .int .u16 6, .int .u8 0, .int .u8 0, .int .u32 1, .int .u16 6, .int .u8 0, .int .u8 0, .int .u32 2] : Array Value).toList) := flatP0 ha hb (by omega) hK
                    go_region
                    all_goals
                      go_wp2
                      go_meet
                      refine ⟨_, _, rfl, ?_, R5.kept (grown_alloc_drew _ _ none), by simp; omega⟩
                      rw [HFP.out]
                      exact cv_lit _ _ _
                  case rest =>
                    obtain ⟨ao6, cap6, rfl, C6, R6, hN6⟩ := hcut
                    clear z0 z1 z2 z3 z4 z5 z6 z7 z8 z9 z10 z11 R5 hN5
                    go_wp2_with fail
                    refine (HRUN _ _ _ C6).mono ?_
                    rintro e w7 ⟨rfl, K7⟩
                    have R7 := R6.kept K7
                    have hN7 : N < w7.heap.size := by have := K7.size; omega
                    clear K7
                    go_upto_region 25 with fail
                    have K8 := World.grownBy_alloc w7 (.cells #[.int .u32 (rv : Int), .int .i64 rf, .int .i64 rs] 30) none
                    have R9 := R7.kept K8
                    have hN9 : N < (w7.alloc (.cells #[.int .u32 (rv : Int), .int .i64 rf, .int .i64 rs] 30)).heap.size := by simp; omega
                    obtain ⟨y0, y1, y2⟩ := v3_alloc w7 30 rv rf rs
                    generalize w7.alloc (.cells #[.int .u32 (rv : Int), .int .i64 rf, .int .i64 rs] 30) = w9 at *
                    generalize w7.heap.size = B9 at *
                    have cn := (HOP.out _ R9).2
                    clear K8 R7 HRUN
                    cases q with
                    | true =>
                      obtain rfl : rv = 1 := HRV.out.1 rfl
                      clear HRV
                      go_wp2
                      go_roundw
                      case rel => exact ⟨1, by omega, by go_num, R9, hN9⟩
                      case measure => simp [intOf]
                    | false =>
                      obtain rfl : rv = 2 := HRV.out.2 rfl
                      clear HRV
                      go_wp2
                      go_roundw
                      case rel => exact ⟨1, by omega, by go_num, R9, hN9⟩
                      case measure => simp [intOf]
            · obtain ⟨m, hmf⟩ : ∃ m, m + 1 = far := ⟨far - 1, by omega⟩
              have HFE : Hid (m + 1 = far) := hmf
              have hfb : ((far : Int) == 0) = false := by rw [beq_eq_false_iff_ne]; omega
              obtain ⟨hE, hRV⟩ := jumpP_run (a := a) (b := b) (c := op) (K := b) (m := m) (q := q) ha hb hK (by omega) (by omega) (HA.out b).1 HB.out.1 HB.out.2.2.1 HB.out.2.2.2.2.1 HB.out.2.2.2.2.2.2.1
              obtain ⟨⟨rv, rf, rt⟩, hR⟩ : ∃ R, runV (jumpP a b op b m) [] = R := ⟨_, rfl⟩
              rw [hR] at hRV
              simp only at hRV
              obtain ⟨rs, hrs⟩ : ∃ s : Int, (rt.length : Int) = s := ⟨_, rfl⟩
              have HRUN : ∀ (x : Option Addr) (cx : Nat) (W : World), CV W x (flat (jumpP a b op b m)) → Calls Try.prog 5 #[.slice x (m + 6) cx, .slice none 0 0] W fun e w' => RunEnd W rv rf rs 0 e w' := fun x cx W h => by
                have k := run_any x none cx 0 (jumpP a b op b m) [] W h ⟨fun _ => rfl, fun _ h => by cases h⟩
                rw [hE, hR, jumpP_len] at k
                rw [← hrs]
                exact k
              have HRV : Hid ((q = true → rv = 1) ∧ (q = false → rv = 2)) := ⟨fun h => by rw [if_pos h] at hRV; exact hRV, fun h => by rw [if_neg (by rw [h]; simp)] at hRV; exact hRV⟩
              clear hE hR hRV hrs
              have hf1 : 1 ≤ far := by omega
              clear hmf hf0
              go_wp2_with (at_builtin; refine wpList_append_cv rfl (.tmp 69) (.tmp 73) 28 rfl 27 i0 _ 4 8 Try.underlying28 hi hz0 hz1 hz2 rfl (by decide) D (.slice (some ⟨D, 0, none⟩) 3 3) 3 (flat (jumpPre a b op b far)) rfl ?q1 (some ⟨w3.heap.size, 0, none⟩) 1 1 [.int .u16 5, .int .u8 0, .int .u8 0, .int .u32 (far : Int)] rfl rfl (by simp) ?q2 (by simp [Value.oneCell']) ?q3 ?q4 ?q5 ?q6)
              case q1 => exact owns_keptNone P1.2.1 (World.grownBy_alloc _ _ _)
              case q2 => exact cv_lit w3 _ _
              case q3 => unfold maxLen; omega
              case q4 => omega
              case q5 => have := (P1.2.1.lt D rfl).2; simp; omega
              case q6 =>
                intro v4 w4 O4 K4
                have P4 : PRel w O N a b D v4 (jumpMid a b op b far 0) w4 := by
                  refine ⟨JRel.row (P1.kept (World.grownBy_alloc _ _ _)) K4, ?_, P1.2.2⟩
                  have e : flat (jumpMid a b op b far 0) = flat (jumpPre a b op b far) ++ [.int .u16 5, .int .u8 0, .int .u8 0, .int .u32 (far : Int)] := by
                    rw [jumpMid, flat_append]
                    congr 1
                    exact mkV_cells (by omega) (by omega) (by omega) (by omega)
                  rw [e]
                  exact O4
                have hN4 : D < w4.heap.size := by have := (P1.2.1.lt D rfl).2; have := K4.size; simp at this; omega
                clear O4 K4 P1
                go_wp2
                go_loopw [12, 13] (fun v n wr => ∃ (tv : Value) (k : Nat), tv = v ∧ k + 1 ≤ far ∧ n = .int .i64 ((k + 1 : Nat) : Int) ∧ PRel w O N a b D tv (jumpMid a b op b far k) wr ∧ D < wr.heap.size) (fun _ n _ => far - (intOf n).toNat)
                case atStart => exact ⟨v4, 0, rfl, by omega, rfl, P4, hN4⟩
                case round =>
                  clear P4 hN4
                  obtain ⟨tv, k, rfl, hk1, rfl, P, hD⟩ := hrel
                  have hml := mid_len a b op b far k
                  have hown : wr.ownsRow D 27 4 tv (k + 4) (flat (jumpMid a b op b far k)) := by rw [← hml]; exact P.2.1
                  by_cases hlt3 : k + 1 < far
                  · have hl3 : (k : Int) + 1 < (far : Int) := by omega
                    go_wp2_with (at_builtin; refine wpList_append_cv rfl (.tmp 81) (.tmp 83) 28 rfl 27 i0 _ 4 8 Try.underlying28 hi hz0 hz1 hz2 rfl (by decide) D tv (k + 4) (flat (jumpMid a b op b far k)) rfl ?r1 (some ⟨wr.heap.size, 0, none⟩) 1 1 [.int .u16 6, .int .u8 0, .int .u8 0, .int .u32 77] rfl rfl (by simp) ?r2 (by simp [Value.oneCell']) ?r3 ?r4 ?r5 ?r6)
                    case r1 => exact owns_keptNone hown (World.grownBy_alloc _ _ _)
                    case r2 => exact cv_lit wr _ _
                    case r3 => unfold maxLen; omega
                    case r4 => omega
                    case r5 => simp; omega
                    case r6 =>
                      intro v5 w5 O5 K5
                      have P5 : PRel w O N a b D v5 (jumpMid a b op b far (k + 1)) w5 := by
                        refine ⟨JRel.row (P.kept (World.grownBy_alloc _ _ _)) K5, ?_, P.2.2⟩
                        rw [mid_succ, mid_len]
                        exact O5
                      have hD5 : D < w5.heap.size := by have := K5.size; simp at this; omega
                      clear O5 K5 P hown
                      go_wp2
                      go_roundw
                      case rel => exact ⟨v5, k + 1, rfl, by omega, by go_num, P5, hD5⟩
                      case measure => simp [intOf]; omega
                  · obtain rfl : k = m := by have := HFE.out; omega
                    have hl3 : ¬ ((k : Int) + 1 < (far : Int)) := by omega
                    go_wp2_with (at_builtin; refine wpList_append_cv rfl (.tmp 99) (.tmp 102) 28 rfl 27 i0 _ 4 8 Try.underlying28 hi hz0 hz1 hz2 rfl (by decide) D tv (k + 4) (flat (jumpMid a b op b far k)) rfl ?s1 (some ⟨wr.heap.size, 0, none⟩) 2 2 [.int .u16 6, .int .u8 0, .int .u8 0, .int .u32 1, .int .u16 6, .int .u8 0, .int .u8 0, .int .u32 2] rfl rfl (by simp) ?s2 (by simp [Value.oneCell']) ?s3 ?s4 ?s5 ?s6)
                    case s1 => exact owns_keptNone hown (World.grownBy_alloc _ _ _)
                    case s2 => exact cv_lit wr _ _
                    case s3 => unfold maxLen; omega
                    case s4 => omega
                    case s5 => first | omega | (simp; omega)
                    case s6 =>
                      intro v5 w5 O5 K5
                      have R5 : JRel w O N a b w5 := JRel.row (P.kept (World.grownBy_alloc _ _ _)) K5
                      have O6 : w5.ownsRow D 27 4 v5 (k + 6) (flat (jumpP a b op b k)) := by
                        rw [mid_end, HFE.out]
                        exact O5
                      have hN5 : N < w5.heap.size := by have := K5.size; simp at this; have := P.2.2.2.1; omega
                      obtain ⟨ao5, cap5, rfl, C5, -⟩ := cv_of_row O6
                      clear O5 O6 K5 P hown hml hD
                      go_wp2_with fail
                      refine (HRUN _ _ _ C5).mono ?_
                      rintro e w7 ⟨rfl, K7⟩
                      have R7 := R5.kept K7
                      have hN7 := K7.size
                      clear K7
                      go_upto_region 25 with fail
                      have K8 := World.grownBy_alloc w7 (.cells #[.int .u32 (rv : Int), .int .i64 rf, .int .i64 rs] 30) none
                      have R9 := R7.kept K8
                      have hN9 : N < (w7.alloc (.cells #[.int .u32 (rv : Int), .int .i64 rf, .int .i64 rs] 30)).heap.size := by simp; omega
                      obtain ⟨y0, y1, y2⟩ := v3_alloc w7 30 rv rf rs
                      generalize w7.alloc (.cells #[.int .u32 (rv : Int), .int .i64 rf, .int .i64 rs] 30) = w9 at *
                      generalize w7.heap.size = B9 at *
                      have cn := (HOP.out _ R9).2
                      clear K8 R7 HRUN
                      cases q with
                      | true =>
                        obtain rfl : rv = 1 := HRV.out.1 rfl
                        clear HRV
                        go_wp2
                        go_roundw
                        case rel => exact ⟨1, by omega, by go_num, R9, hN9⟩
                        case measure => simp [intOf]
                      | false =>
                        obtain rfl : rv = 2 := HRV.out.2 rfl
                        clear HRV
                        go_wp2
                        go_roundw
                        case rel => exact ⟨1, by omega, by go_num, R9, hN9⟩
                        case measure => simp [intOf]

          · rw [show ((1 : Nat) : Int) = 1 from rfl]
            have hor := hHO.out
            have hc8 : op + 8 ≤ 135 := by omega
            generalize op + 8 = c8 at *
            go_upto_region 10 with fail
            have R1 := R.kept (World.grownBy_alloc wr (.cells #[.int .u16 (op : Int), .int .u8 (far : Int), .int .u8 0, .int .u32 (b : Int)] 27) none)
            obtain ⟨x0, x1, x2, x3⟩ := bx_alloc wr 27 op far 0 b
            have B0 : BlkN (wr.alloc (.cells #[.int .u16 (op : Int), .int .u8 (far : Int), .int .u8 0, .int .u32 (b : Int)] 27)) 27 wr.heap.size 4 := ⟨_, heap_alloc_new wr _, rfl⟩
            have HH : Hid ((wr.alloc (.cells #[.int .u16 (op : Int), .int .u8 (far : Int), .int .u8 0, .int .u32 (b : Int)] 27)).heap[wr.heap.size]? = some (.cells #[.int .u16 (op : Int), .int .u8 (far : Int), .int .u8 0, .int .u32 (b : Int)] 27 (0, 0))) := heap_alloc_new wr _
            have hNl1 : N < (wr.alloc (.cells #[.int .u16 (op : Int), .int .u8 (far : Int), .int .u8 0, .int .u32 (b : Int)] 27)).heap.size := by simp; omega
            clear R co
            have co := (HOP.out _ R1).1
            generalize wr.alloc (.cells #[.int .u16 (op : Int), .int .u8 (far : Int), .int .u8 0, .int .u32 (b : Int)] 27) = wb at *
            generalize wr.heap.size = B at *
            have f0 := B0.free 0
            have f3 := B0.free 3
            go_upto_region 13 with fail
            have hX := HX.out
            rw [hX]
            have hOw := HO.out
            have K1 : wb.grownBy (wb.setCell ⟨B, 0, none⟩ (.int .u16 (c8 : Int))) (some B) := grown_set1 wb _ _
            have K2 := grown_trans K1 (grown_set1 (wb.setCell ⟨B, 0, none⟩ (.int .u16 (c8 : Int))) ⟨B, 3, none⟩ (.int .u32 (xb : Int)))
            have R2 := R1.box K2 hOl hNl hOw
            have hNl2 : N < ((wb.setCell ⟨B, 0, none⟩ (.int .u16 (c8 : Int))).setCell ⟨B, 3, none⟩ (.int .u32 (xb : Int))).heap.size := by have := K2.size; omega
            have X2 := bx_set (d := (c8 : Int)) (e := (xb : Int)) HH.out
            clear K1 K2 R1 x0 x1 x2 x3 co f0 f3 hNl1 HH B0 hX
            generalize (wb.setCell ⟨B, 0, none⟩ (.int .u16 (c8 : Int))).setCell ⟨B, 3, none⟩ (.int .u32 (xb : Int)) = wy at *
            have R1 := R2
            have hNl1 := hNl2
            obtain ⟨x0, x1, x2, x3⟩ := X2
            clear R2 hNl2
            have hK : xb ≤ 4294967295 := hxl
            go_upto_region 14 with fail
            have P1 : PRel w O N a b wy.heap.size (.slice (some ⟨wy.heap.size, 0, none⟩) 3 3) (jumpPre a b c8 xb far) (wy.alloc (.cells #[.int .u16 1, .int .u8 0, .int .u8 0, .int .u32 (b : Int), .int .u16 0, .int .u8 0, .int .u8 0, .int .u32 (a : Int), .int .u16 (c8 : Int), .int .u8 (far : Int), .int .u8 0, .int .u32 (xb : Int)] 27)) := by
              refine ⟨R1.kept (World.grownBy_alloc _ _ _), ?_, by omega, hNl1, by omega⟩
              rw [flatPre ha hb (by omega) hK hfar]
              exact World.ownsRow_lit (e := 27) (size := 4) wy #[.int .u16 1, .int .u8 0, .int .u8 0, .int .u32 (b : Int), .int .u16 0, .int .u8 0, .int .u8 0, .int .u32 (a : Int), .int .u16 (c8 : Int), .int .u8 (far : Int), .int .u8 0, .int .u32 (xb : Int)] 3 (Nat.le_refl _) (by unfold maxLen; omega) (by simp)
            clear R1 x0 x1 x2 x3
            generalize wy.alloc (.cells #[.int .u16 1, .int .u8 0, .int .u8 0, .int .u32 (b : Int), .int .u16 0, .int .u8 0, .int .u8 0, .int .u32 (a : Int), .int .u16 (c8 : Int), .int .u8 (far : Int), .int .u8 0, .int .u32 (xb : Int)] 27) = w3 at *
            generalize wy.heap.size = D at *
            by_cases hf0 : far = 0
            · have hfb : ((far : Int) == 0) = true := by rw [hf0]; rfl
              have HF0 : Hid (far = 0) := hf0
              have hfl : ¬ ((1 : Int) < (far : Int)) := by omega
              obtain ⟨hE, hRV⟩ := jump0_run (a := a) (b := b) (c := c8) (K := xb) (q := q) ha hb hK (by omega) (HA.out xb).2 HB.out.2.1 HB.out.2.2.2.1 HB.out.2.2.2.2.2.1 HB.out.2.2.2.2.2.2.2
              obtain ⟨⟨rv, rf, rt⟩, hR⟩ : ∃ R, runV (jumpP0 a b c8 xb) [] = R := ⟨_, rfl⟩
              rw [hR] at hRV
              simp only at hRV
              obtain ⟨rs, hrs⟩ : ∃ s : Int, (rt.length : Int) = s := ⟨_, rfl⟩
              have HRUN : ∀ (x : Option Addr) (cx : Nat) (W : World), CV W x (flat (jumpP0 a b c8 xb)) → Calls Try.prog 5 #[.slice x 5 cx, .slice none 0 0] W fun e w' => RunEnd W rv rf rs 0 e w' := fun x cx W h => by
                have k := run_any x none cx 0 (jumpP0 a b c8 xb) [] W h ⟨fun _ => rfl, fun _ h => by cases h⟩
                rw [hE, hR] at k
                rw [← hrs]
                exact k
              have HRV : Hid ((q = true → rv = 1) ∧ (q = false → rv = 2)) := ⟨fun h => by rw [if_pos h] at hRV; exact hRV, fun h => by rw [if_neg (by rw [h]; simp)] at hRV; exact hRV⟩
              have c10 : w3.cell? ⟨D, 10, none⟩ = some (.int .u8 0) := by rw [World.ownsRow.cellAt P1.2.1 10 (by simp), flatPre ha hb (by omega) hK hfar]; rfl
              have f10 := World.ownsRow.frozenAt P1.2.1 10
              have S1 := World.ownsRow.stored P1.2.1 10 (.int .u8 1)
              have HO4 : Hid ((w3.setCell ⟨D, 10, none⟩ (.int .u8 1)).ownsRow D 27 4 (.slice (some ⟨D, 0, none⟩) 3 3) 3 (flat (pre1 a b c8 xb))) := by
                have k := S1.1
                rw [flatPre ha hb (by omega) hK hfar, HF0.out] at k
                show World.ownsRow _ _ _ _ _ _ _
                rw [flatPre1 ha hb (by omega) hK]
                exact k
              have HR4 : Hid (JRel w O N a b (w3.setCell ⟨D, 10, none⟩ (.int .u8 1))) := JRel.row P1 S1.2
              have hD4 : D < (w3.setCell ⟨D, 10, none⟩ (.int .u8 1)).heap.size := by have := (P1.2.1.lt D rfl).2; have := S1.2.size; omega
              have hq1 := P1.2.2
              clear hE hR hRV hrs S1 P1 hf0
              go_upto_region 16 with fail
              clear c10 f10
              generalize w3.setCell ⟨D, 10, none⟩ (.int .u8 1) = w4 at *
              go_wp2_with (at_builtin; refine wpList_append_cv rfl (.tmp 69) (.tmp 73) 28 rfl 27 i0 _ 4 8 Try.underlying28 hi hz0 hz1 hz2 rfl (by decide) D (.slice (some ⟨D, 0, none⟩) 3 3) 3 (flat (pre1 a b c8 xb)) rfl ?t1 (some ⟨w4.heap.size, 0, none⟩) 1 1 [.int .u16 5, .int .u8 0, .int .u8 0, .int .u32 (far : Int)] rfl rfl (by simp) ?t2 (by simp [Value.oneCell']) (by unfold maxLen; omega) (by omega) ?t5 ?t6)
              case t1 => exact owns_keptNone HO4.out (World.grownBy_alloc _ _ _)
              case t2 => exact cv_lit w4 _ _
              case t5 => first | omega | (simp; omega)
              case t6 =>
                intro v5 w5 O5 K5
                have R5 : JRel w O N a b w5 := JRel.row (D := D) (xs := pre1 a b c8 xb) (v := .slice (some ⟨D, 0, none⟩) 3 3) ⟨HR4.out.kept (World.grownBy_alloc _ _ none), owns_keptNone HO4.out (World.grownBy_alloc _ _ none), hq1⟩ K5
                have hN5 : N < w5.heap.size := by have := K5.size; simp at this; omega
                obtain ⟨g5, cap5, rfl, hcap5, hcm5, -, -⟩ := owns_head O5 (by omega)
                have cel : ∀ i v, ([.int .u16 1, .int .u8 0, .int .u8 0, .int .u32 (b : Int), .int .u16 0, .int .u8 0, .int .u8 0, .int .u32 (a : Int), .int .u16 (c8 : Int), .int .u8 0, .int .u8 1, .int .u32 (xb : Int)] : List Value)[i]? = some v → w5.cell? ⟨g5, i, none⟩ = some v := fun i v h => by
                  have hi := (List.getElem?_eq_some_iff.1 h).1
                  simp only [List.length_cons, List.length_nil] at hi
                  rw [World.ownsRow.cellAt O5 i (by omega), List.getElem?_append_left (by rw [flatPre1 ha hb (by omega) hK]; simp; omega), flatPre1 ha hb (by omega) hK]
                  exact h
                have z0 := cel 0 _ rfl
                have z1 := cel 1 _ rfl
                have z2 := cel 2 _ rfl
                have z3 := cel 3 _ rfl
                have z4 := cel 4 _ rfl
                have z5 := cel 5 _ rfl
                have z6 := cel 6 _ rfl
                have z7 := cel 7 _ rfl
                have z8 := cel 8 _ rfl
                have z9 := cel 9 _ rfl
                have z10 := cel 10 _ rfl
                have z11 := cel 11 _ rfl
                unfold maxLen at hcm5
                clear cel O5 K5 HO4 HR4 hcap5
                go_wp2
                go_loopw [12, 13] (fun v n wr => v = .slice (some ⟨g5, 0, none⟩) 4 cap5 ∧ n = .int .i64 1 ∧ wr = w5) (fun _ _ _ => 0)
                case atStart => exact ⟨rfl, rfl, rfl⟩
                case round =>
                  obtain ⟨rfl, rfl, rfl⟩ := hrel
                  go_upto_region 22 with fail
                  go_cut [12] (fun v wx => ∃ ao cap, v = .slice ao 5 cap ∧ CV wx ao (flat (jumpP0 a b c8 xb)) ∧ JRel w O N a b wx ∧ N < wx.heap.size)
                  case first =>
                    have HFP : Hid (flat (jumpP0 a b c8 xb) = (#[.int .u16 1, .int .u8 0, .int .u8 0, .int .u32 (b : Int), .int .u16 0, .int .u8 0, .int .u8 0, .int .u32 (a : Int), .int .u16 (c8 : Int), .int .u8 0, .int .u8 1, .int .u32 (xb : Int), .int .u16 6, .int .u8 0, .int .u8 0, .int .u32 1, .int .u16 6, .int .u8 0, .int .u8 0, .int .u32 2] : Array Value).toList) := flatP0 ha hb (by omega) hK
                    go_region
                    all_goals
                      go_wp2
                      go_meet
                      refine ⟨_, _, rfl, ?_, R5.kept (grown_alloc_drew _ _ none), by simp; omega⟩
                      rw [HFP.out]
                      exact cv_lit _ _ _
                  case rest =>
                    obtain ⟨ao6, cap6, rfl, C6, R6, hN6⟩ := hcut
                    clear z0 z1 z2 z3 z4 z5 z6 z7 z8 z9 z10 z11 R5 hN5
                    go_wp2_with fail
                    refine (HRUN _ _ _ C6).mono ?_
                    rintro e w7 ⟨rfl, K7⟩
                    have R7 := R6.kept K7
                    have hN7 : N < w7.heap.size := by have := K7.size; omega
                    clear K7
                    go_upto_region 25 with fail
                    have K8 := World.grownBy_alloc w7 (.cells #[.int .u32 (rv : Int), .int .i64 rf, .int .i64 rs] 30) none
                    have R9 := R7.kept K8
                    have hN9 : N < (w7.alloc (.cells #[.int .u32 (rv : Int), .int .i64 rf, .int .i64 rs] 30)).heap.size := by simp; omega
                    obtain ⟨y0, y1, y2⟩ := v3_alloc w7 30 rv rf rs
                    generalize w7.alloc (.cells #[.int .u32 (rv : Int), .int .i64 rf, .int .i64 rs] 30) = w9 at *
                    generalize w7.heap.size = B9 at *
                    have cn := (HOP.out _ R9).2
                    clear K8 R7 HRUN
                    cases q with
                    | true =>
                      obtain rfl : rv = 1 := HRV.out.1 rfl
                      clear HRV
                      go_wp2
                      go_roundw
                      case rel => exact ⟨2, by omega, by go_num, R9, hN9⟩
                      case measure => simp [intOf]
                    | false =>
                      obtain rfl : rv = 2 := HRV.out.2 rfl
                      clear HRV
                      go_wp2
                      go_roundw
                      case rel => exact ⟨2, by omega, by go_num, R9, hN9⟩
                      case measure => simp [intOf]
            · obtain ⟨m, hmf⟩ : ∃ m, m + 1 = far := ⟨far - 1, by omega⟩
              have HFE : Hid (m + 1 = far) := hmf
              have hfb : ((far : Int) == 0) = false := by rw [beq_eq_false_iff_ne]; omega
              obtain ⟨hE, hRV⟩ := jumpP_run (a := a) (b := b) (c := c8) (K := xb) (m := m) (q := q) ha hb hK (by omega) (by omega) (HA.out xb).2 HB.out.2.1 HB.out.2.2.2.1 HB.out.2.2.2.2.2.1 HB.out.2.2.2.2.2.2.2
              obtain ⟨⟨rv, rf, rt⟩, hR⟩ : ∃ R, runV (jumpP a b c8 xb m) [] = R := ⟨_, rfl⟩
              rw [hR] at hRV
              simp only at hRV
              obtain ⟨rs, hrs⟩ : ∃ s : Int, (rt.length : Int) = s := ⟨_, rfl⟩
              have HRUN : ∀ (x : Option Addr) (cx : Nat) (W : World), CV W x (flat (jumpP a b c8 xb m)) → Calls Try.prog 5 #[.slice x (m + 6) cx, .slice none 0 0] W fun e w' => RunEnd W rv rf rs 0 e w' := fun x cx W h => by
                have k := run_any x none cx 0 (jumpP a b c8 xb m) [] W h ⟨fun _ => rfl, fun _ h => by cases h⟩
                rw [hE, hR, jumpP_len] at k
                rw [← hrs]
                exact k
              have HRV : Hid ((q = true → rv = 1) ∧ (q = false → rv = 2)) := ⟨fun h => by rw [if_pos h] at hRV; exact hRV, fun h => by rw [if_neg (by rw [h]; simp)] at hRV; exact hRV⟩
              clear hE hR hRV hrs
              have hf1 : 1 ≤ far := by omega
              clear hmf hf0
              go_wp2_with (at_builtin; refine wpList_append_cv rfl (.tmp 69) (.tmp 73) 28 rfl 27 i0 _ 4 8 Try.underlying28 hi hz0 hz1 hz2 rfl (by decide) D (.slice (some ⟨D, 0, none⟩) 3 3) 3 (flat (jumpPre a b c8 xb far)) rfl ?q1 (some ⟨w3.heap.size, 0, none⟩) 1 1 [.int .u16 5, .int .u8 0, .int .u8 0, .int .u32 (far : Int)] rfl rfl (by simp) ?q2 (by simp [Value.oneCell']) ?q3 ?q4 ?q5 ?q6)
              case q1 => exact owns_keptNone P1.2.1 (World.grownBy_alloc _ _ _)
              case q2 => exact cv_lit w3 _ _
              case q3 => unfold maxLen; omega
              case q4 => omega
              case q5 => have := (P1.2.1.lt D rfl).2; simp; omega
              case q6 =>
                intro v4 w4 O4 K4
                have P4 : PRel w O N a b D v4 (jumpMid a b c8 xb far 0) w4 := by
                  refine ⟨JRel.row (P1.kept (World.grownBy_alloc _ _ _)) K4, ?_, P1.2.2⟩
                  have e : flat (jumpMid a b c8 xb far 0) = flat (jumpPre a b c8 xb far) ++ [.int .u16 5, .int .u8 0, .int .u8 0, .int .u32 (far : Int)] := by
                    rw [jumpMid, flat_append]
                    congr 1
                    exact mkV_cells (by omega) (by omega) (by omega) (by omega)
                  rw [e]
                  exact O4
                have hN4 : D < w4.heap.size := by have := (P1.2.1.lt D rfl).2; have := K4.size; simp at this; omega
                clear O4 K4 P1
                go_wp2
                go_loopw [12, 13] (fun v n wr => ∃ (tv : Value) (k : Nat), tv = v ∧ k + 1 ≤ far ∧ n = .int .i64 ((k + 1 : Nat) : Int) ∧ PRel w O N a b D tv (jumpMid a b c8 xb far k) wr ∧ D < wr.heap.size) (fun _ n _ => far - (intOf n).toNat)
                case atStart => exact ⟨v4, 0, rfl, by omega, rfl, P4, hN4⟩
                case round =>
                  clear P4 hN4
                  obtain ⟨tv, k, rfl, hk1, rfl, P, hD⟩ := hrel
                  have hml := mid_len a b c8 xb far k
                  have hown : wr.ownsRow D 27 4 tv (k + 4) (flat (jumpMid a b c8 xb far k)) := by rw [← hml]; exact P.2.1
                  by_cases hlt3 : k + 1 < far
                  · have hl3 : (k : Int) + 1 < (far : Int) := by omega
                    go_wp2_with (at_builtin; refine wpList_append_cv rfl (.tmp 81) (.tmp 83) 28 rfl 27 i0 _ 4 8 Try.underlying28 hi hz0 hz1 hz2 rfl (by decide) D tv (k + 4) (flat (jumpMid a b c8 xb far k)) rfl ?r1 (some ⟨wr.heap.size, 0, none⟩) 1 1 [.int .u16 6, .int .u8 0, .int .u8 0, .int .u32 77] rfl rfl (by simp) ?r2 (by simp [Value.oneCell']) ?r3 ?r4 ?r5 ?r6)
                    case r1 => exact owns_keptNone hown (World.grownBy_alloc _ _ _)
                    case r2 => exact cv_lit wr _ _
                    case r3 => unfold maxLen; omega
                    case r4 => omega
                    case r5 => simp; omega
                    case r6 =>
                      intro v5 w5 O5 K5
                      have P5 : PRel w O N a b D v5 (jumpMid a b c8 xb far (k + 1)) w5 := by
                        refine ⟨JRel.row (P.kept (World.grownBy_alloc _ _ _)) K5, ?_, P.2.2⟩
                        rw [mid_succ, mid_len]
                        exact O5
                      have hD5 : D < w5.heap.size := by have := K5.size; simp at this; omega
                      clear O5 K5 P hown
                      go_wp2
                      go_roundw
                      case rel => exact ⟨v5, k + 1, rfl, by omega, by go_num, P5, hD5⟩
                      case measure => simp [intOf]; omega
                  · obtain rfl : k = m := by have := HFE.out; omega
                    have hl3 : ¬ ((k : Int) + 1 < (far : Int)) := by omega
                    go_wp2_with (at_builtin; refine wpList_append_cv rfl (.tmp 99) (.tmp 102) 28 rfl 27 i0 _ 4 8 Try.underlying28 hi hz0 hz1 hz2 rfl (by decide) D tv (k + 4) (flat (jumpMid a b c8 xb far k)) rfl ?s1 (some ⟨wr.heap.size, 0, none⟩) 2 2 [.int .u16 6, .int .u8 0, .int .u8 0, .int .u32 1, .int .u16 6, .int .u8 0, .int .u8 0, .int .u32 2] rfl rfl (by simp) ?s2 (by simp [Value.oneCell']) ?s3 ?s4 ?s5 ?s6)
                    case s1 => exact owns_keptNone hown (World.grownBy_alloc _ _ _)
                    case s2 => exact cv_lit wr _ _
                    case s3 => unfold maxLen; omega
                    case s4 => omega
                    case s5 => first | omega | (simp; omega)
                    case s6 =>
                      intro v5 w5 O5 K5
                      have R5 : JRel w O N a b w5 := JRel.row (P.kept (World.grownBy_alloc _ _ _)) K5
                      have O6 : w5.ownsRow D 27 4 v5 (k + 6) (flat (jumpP a b c8 xb k)) := by
                        rw [mid_end, HFE.out]
                        exact O5
                      have hN5 : N < w5.heap.size := by have := K5.size; simp at this; have := P.2.2.2.1; omega
                      obtain ⟨ao5, cap5, rfl, C5, -⟩ := cv_of_row O6
                      clear O5 O6 K5 P hown hml hD
                      go_wp2_with fail
                      refine (HRUN _ _ _ C5).mono ?_
                      rintro e w7 ⟨rfl, K7⟩
                      have R7 := R5.kept K7
                      have hN7 := K7.size
                      clear K7
                      go_upto_region 25 with fail
                      have K8 := World.grownBy_alloc w7 (.cells #[.int .u32 (rv : Int), .int .i64 rf, .int .i64 rs] 30) none
                      have R9 := R7.kept K8
                      have hN9 : N < (w7.alloc (.cells #[.int .u32 (rv : Int), .int .i64 rf, .int .i64 rs] 30)).heap.size := by simp; omega
                      obtain ⟨y0, y1, y2⟩ := v3_alloc w7 30 rv rf rs
                      generalize w7.alloc (.cells #[.int .u32 (rv : Int), .int .i64 rf, .int .i64 rs] 30) = w9 at *
                      generalize w7.heap.size = B9 at *
                      have cn := (HOP.out _ R9).2
                      clear K8 R7 HRUN
                      cases q with
                      | true =>
                        obtain rfl : rv = 1 := HRV.out.1 rfl
                        clear HRV
                        go_wp2
                        go_roundw
                        case rel => exact ⟨2, by omega, by go_num, R9, hN9⟩
                        case measure => simp [intOf]
                      | false =>
                        obtain rfl : rv = 2 := HRV.out.2 rfl
                        clear HRV
                        go_wp2
                        go_roundw
                        case rel => exact ⟨2, by omega, by go_num, R9, hN9⟩
                        case measure => simp [intOf]

        · obtain rfl : n = 2 := by omega
          go_wp2
          go_roundw
          case rel => exact ⟨i + 1, by omega, by go_num, R, hNl⟩
          case measure => simp [intOf]; omega
    · obtain rfl : i = 4 := by omega
      have GG := R.2.2
      go_wp2_with fail
      refine (awake5_any _).mono ?_
      rintro e w9 ⟨rfl, K9⟩
      have G9 := grown_trans GG K9
      clear GG K9 R
      go_wp2
      go_ret
      exact ⟨rfl, G9⟩

set_option maxRecDepth 100000 in
theorem lifted (os : Os) (started : os.Started) (H : Type) (enc : TypeId × Value → H) :
    ReturnsInHanded {} Try.checked os 3 .any (Rows.vmJumpsSpec.pre6 enc Try.prog Try.f3 Rows.vmJumpsRow.domain false) (Rows.vmJumpsSpec.post enc Try.prog Try.f3 false true false false) := by
  refine returnsInHanded_of_change_sized (C := Try.checked) own started (by kernel_rfl) Try.func3
    (ChangeSpec.witness6 (enc := enc) (C := Try.checked) false ⟨#[], #[.int .u32 0, .int .u32 0, .int .u8 0], []⟩ 8 (by kernel_rfl) (by kernel_rfl) (by kernel_rfl) (by kernel_rfl)) ?_
  intro W base args ds gs before hval0 hW hcnd hsz0 _
  have hsz : (DataW.weightsEach Try.prog (Try.f3.params.toList ++ Rows.vmJumpsSpec.plain.varTypes Try.prog) (ds ++ gs)).all (· ≤ reachBytes) = true := hsz0
  have hval : ∀ (j : Nat) t v, Try.f3.params[j]? = some t → args[j]? = some v → Value.okWide Try.prog W .any base t v := hval0
  have hW' := hW
  obtain ⟨p, q, hA0, hV, rfl, hfz, hnd⟩ := hW
  have hA : DataW.TrodAll enc Try.prog W 0 (fun _ => true) true Try.f3.params.toList args.toList ds p := hA0
  rw [Try.params3] at hA hval hsz
  obtain ⟨v0, vs0, d0, ds0, p0, q0, hargs, rfl, rfl, h0, r0⟩ := trodAll_cons hA
  obtain ⟨v1, vs1, d1, ds1, p1, q1, rfl, rfl, rfl, h1, r1⟩ := trodAll_cons r0
  obtain ⟨v2, vs2, d2, ds2, p2, q2, rfl, rfl, rfl, h2, r2⟩ := trodAll_cons r1
  obtain ⟨rfl, rfl, rfl⟩ := trodAll_nil r2
  obtain rfl : args = #[v0, v1, v2] := by cases args; simp_all
  obtain ⟨rfl, rfl⟩ := trodVars_none hV
  obtain ⟨y0, rfl, rfl, rfl, w0⟩ := open_int Try.underlying22 (hval 0 22 v0 rfl rfl) h0
  have bd0 := bounds_u32 w0
  obtain ⟨x0, rfl⟩ := Int.eq_ofNat_of_zero_le bd0.1
  have hv0 : x0 ≤ 4294967295 := by omega
  obtain ⟨y1, rfl, rfl, rfl, w1⟩ := open_int Try.underlying22 (hval 1 22 v1 rfl rfl) h1
  have bd1 := bounds_u32 w1
  obtain ⟨x1, rfl⟩ := Int.eq_ofNat_of_zero_le bd1.1
  have hv1 : x1 ≤ 4294967295 := by omega
  obtain ⟨y2, rfl, rfl, rfl, w2⟩ := open_int Try.underlying5 (hval 2 5 v2 rfl rfl) h2
  have bd2 := bounds_u8 w2
  obtain ⟨x2, rfl⟩ := Int.eq_ofNat_of_zero_le bd2.1
  have hv2 : x2 ≤ 255 := by omega
  clear hA0 hval0
  refine (walk x0 x1 x2 W hv0 hv1 hv2).mono fun e W' ⟨he, hg⟩ => ?_
  subst he
  have bel : Below W.heap.size W W' := (Below.refl _ _).grown hg (Nat.le_refl _) (by simp)
  exact ⟨_, rfl, _, _, _, [], _, [], hW', trodAll_mk1 (shut_bool Try.underlying4 _), (trodAll_cons_mk (shut_int Try.underlying22 w0) (trodAll_cons_mk (shut_int Try.underlying22 w1) (trodAll_cons_mk (shut_int Try.underlying5 w2) trodAll_mk0))), rfl, bel.frame _, fun h => by cases h⟩

theorem over : Rows.VmJumpsSaid :=
  OpenClaim.holds_of_wide 3 Try.f3 rfl rfl rfl rfl rfl rfl rfl ⟨rfl, rfl, rfl, rfl, rfl⟩ rfl rfl rfl rfl rfl (by kernel_rfl) Try.func3 (by kernel_rfl)
    (of_decide_eq_true (by kernel_rfl)) (by unfold Func.isWrapper; first | (rw [if_pos (by decide +kernel)]; kernel_rfl) | (rw [if_neg (by decide +kernel)]; exact ⟨rfl, rfl⟩))
    (fun os started H enc _ => lifted os started H enc)

end vmJumps

theorem vmJumps_holds : Rows.VmJumpsSaid := vmJumps.over
#print axioms vmJumps_holds
end Go.Proofs.Ytaldhnionkacmab
