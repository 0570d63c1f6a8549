/-
  Package forge as landed: isProtocol, isSetFrom.
-/
import Derived.Test.YtnojpepjloceoaaGreatLotP6
namespace Go.Proofs.YtnojpepjloceoaaGreat
open Go.RowKit
set_option maxRecDepth 100000

theorem len16 {xs : List UInt8} (h : xs.length = 16) : ∃ a b c d e f g i j k l m n o p q, xs = [a, b, c, d, e, f, g, i, j, k, l, m, n, o, p, q] := by
  match xs, h with
  | [a, b, c, d, e, f, g, i, j, k, l, m, n, o, p, q], _ => exact ⟨a, b, c, d, e, f, g, i, j, k, l, m, n, o, p, q, rfl⟩

theorem bld32 (xs ys : List UInt8) (hx : xs.length = 16) (hy : ys.length = 16) (W : World) : (Instr.buildSlice 75 2 #[(0, .agg (xs.map bv).toArray), (1, .agg (ys.map bv).toArray)]).run Tryz.prog W = .ok (.slice (some ⟨W.heap.size, 0, none⟩) 2 2) (W.alloc (.cells ((xs ++ ys).map bv).toArray 25)) := by
  obtain ⟨a, b, c, d, e, f, g, i, j, k, l, m, n, o, p, q, rfl⟩ := len16 hx
  obtain ⟨a', b', c', d', e', f', g', i', j', k', l', m', n', o', p', q', rfl⟩ := len16 hy
  kernel_rfl

/-- A list written down, its run known. -/
theorem wpList_build {P : Program} {ops : Array Oper} {rest : List Oper} {o : Oper} {a : Act} {w W' : World} {v : Value} {Q : Exit → Act → World → Prop} (hw : Region.wanted o (yielded ops a.tmps) = true) (t : TypeId) (n : Nat) (ps : Array (Nat × Operand)) (ho : o.op = .buildSlice t n ps)
    (qs : Array (Nat × Value)) (hq : ps.map (fun (i, x) => (i, a.eval x)) = qs) (hr : (Instr.buildSlice t n qs).run P w = .ok v W') (h : wpList P ops Q rest (a.put o.dst v) W') : wpList P ops Q (o :: rest) a w :=
  BigFrame.wpList_want hw fun _ hK => by
    unfold Oper.wp execOp
    rw [← hq] at hr
    simp only [ho, Sem.run_bind, Sem.run_pure, Result.andThen_ok, hr]
    exact hK _ _ h

def isProtB (p : Nat) : Bool := decide (p ≤ 65535) && (p % 2 == 1 && p / 256 % 2 == 0)

set_option maxRecDepth 100000 in
theorem isProt_any (p : Nat) (w : World) (hp : p ≤ 4294967295) : Calls Tryz.prog 31 #[.int .u32 (p : Int)] w fun e w' => e = .returned (.bool (isProtB p)) ∧ w' = w := by
  obtain ⟨x, hx⟩ : ∃ x : Nat, p % 2 = x := ⟨_, rfl⟩
  obtain ⟨y, hy⟩ : ∃ y : Nat, p / 256 % 2 = y := ⟨_, rfl⟩
  have e1 : bits .and .u32 (p : Int) 1 = (x : Int) := by rw [← hx]; exact mod_and p 1 (by omega) (by omega)
  have e2 : bits .and .u32 ((p : Int) / 256) 1 = (y : Int) := by rw [← hy]; exact mod_and (p / 256) 1 (by omega) (by omega)
  have HE : Hid (isProtB p = (decide (p ≤ 65535) && (x == 1 && y == 0))) := by show _ = _; rw [isProtB, hx, hy]
  have H3 : Hid (decide (p ≤ 65535) = decide ((p : Int) ≤ 65535)) := by show _ = _; rw [decide_eq_decide]; omega
  have H4 : Hid ((x == 1) = ((x : Int) == 1) ∧ (y == 0) = ((y : Int) == 0)) := ⟨natbeq x 1, natbeq y 0⟩
  clear hx hy
  cases h1 : decide ((p : Int) ≤ 65535) <;> cases h2 : ((x : Int) == 1)
  all_goals
    have HF : Hid _ := HE.out.trans (by rw [H3.out, h1, H4.out.1, h2, H4.out.2])
    clear HE H3 H4
    go_enter Tryz.func31, Tryz.ntmps31
    go_wp2
    go_ret
    refine ⟨ret_bool ?_, rfl⟩
    rw [HF.out]
    simp

theorem zeros_at (xs : List UInt8) (k : Nat) : zeroB xs k = true ↔ ∀ i (h : i < xs.length), k ≤ i → xs[i] = 0 := by
  unfold zeroB
  rw [List.all_eq_true]
  constructor
  · intro h i hi hk
    have := h xs[i] (List.mem_drop_iff_getElem.2 ⟨i - k, by omega, by congr 1; omega⟩)
    simpa using this
  · intro h x hx
    obtain ⟨i, hi, rfl⟩ := List.mem_drop_iff_getElem.1 hx
    simpa using h (k + i) (by omega) (by omega)

theorem zero_of {xs : List UInt8} {k : Nat} (h : ∀ i (hi : i < xs.length), k ≤ i → xs[i] = 0) : zeroB xs k = true := (zeros_at xs k).2 h
theorem zero_not {xs : List UInt8} {k i : Nat} (hi : i < xs.length) (hk : k ≤ i) (h : xs[i] ≠ 0) : zeroB xs k = false := by
  cases hz : zeroB xs k with
  | false => rfl
  | true => exact absurd ((zeros_at xs k).1 hz i hi hk) h

def z16A : Array Value := #[.int .u8 0, .int .u8 0, .int .u8 0, .int .u8 0, .int .u8 0, .int .u8 0, .int .u8 0, .int .u8 0, .int .u8 0, .int .u8 0, .int .u8 0, .int .u8 0, .int .u8 0, .int .u8 0, .int .u8 0, .int .u8 0]

theorem bvs_all (xs : List UInt8) : ((xs.map bv).toArray).all (·.oneCell') = true := all_oneCell_toArray (bv_one xs)

/-- Two addresses, one behind the other, in a block: which of them has a byte set from k on. -/
def ASt (w : World) (A : Nat) (xs ys : List UInt8) (wr : World) : Prop := VAt wr A 25 ((xs ++ ys).map bv).toArray ∧ w.grownBy wr none
theorem ASt.left {w wr : World} {A : Nat} {xs ys : List UInt8} (h : ASt w A xs ys wr) : wr.rangeAt A 0 (xs.map bv) := fun j v hv => by
  have hj : j < xs.length := by have := (List.getElem?_eq_some_iff.1 hv).1; simpa using this
  rw [h.1.cell (0 + j), List.getElem?_toArray, Nat.zero_add, List.getElem?_map, List.getElem?_append_left hj, ← List.getElem?_map]
  exact hv
theorem ASt.right {w wr : World} {A : Nat} {xs ys : List UInt8} (h : ASt w A xs ys wr) (hx : xs.length = 16) : wr.rangeAt A 16 (ys.map bv) := fun j v hv => by
  rw [h.1.cell (16 + j), List.getElem?_toArray, List.getElem?_map, List.getElem?_append_right (by omega), hx, Nat.add_sub_cancel_left, ← List.getElem?_map]
  exact hv
theorem ASt.kept {w wr wx : World} {A : Nat} {xs ys : List UInt8} (h : ASt w A xs ys wr) (K : wr.grownBy wx none) : ASt w A xs ys wx := ⟨h.1.kept K, grown_trans h.2 K⟩

set_option maxRecDepth 100000 in
set_option maxHeartbeats 2000000 in
theorem isSet0 (xs ys : List UInt8) (hx : xs.length = 16) (hy : ys.length = 16) (A : Nat) (w : World) (hA : VAt w A 25 ((xs ++ ys).map bv).toArray) :
    Calls Tryz.prog 33 #[.int .i64 0, .slice (some ⟨A, 0, none⟩) 2 2] w fun e w' => e = .returned (.bool (!(zeroB xs 0 && zeroB ys 0))) ∧ w.grownBy w' none := by
  obtain ⟨r, hr⟩ : ∃ r, (!(zeroB xs 0 && zeroB ys 0)) = r := ⟨_, rfl⟩
  rw [hr]
  have HR : Hid ((!(zeroB xs 0 && zeroB ys 0)) = r) := hr
  have HI : Hid (ASt w A xs ys w) := ⟨hA, World.grownBy.refl _ _⟩
  have HX : Hid (xs.length = 16 ∧ ys.length = 16) := ⟨hx, hy⟩
  have HS : Hid (∀ zs : List UInt8, zs.length = 16 → (Tryz.prog.info? 25).map (·.size) = some (zs.map bv).length) := by
    intro zs h
    rw [List.length_map, h]
    exact size25
  clear hr hA hx hy
  go_enter Tryz.func33, Tryz.ntmps33
  go_wp2
  go_loopw [11] (fun i wr => ∃ j : Nat, j ≤ 2 ∧ i = .int .i64 j ∧ Hid (ASt w A xs ys wr) ∧ Hid ((1 ≤ j → zeroB xs 0 = true) ∧ (2 ≤ j → zeroB ys 0 = true))) (fun i _ => 2 - (intOf i).toNat)
  case atStart => exact ⟨0, by omega, rfl, HI, ⟨by omega, by omega⟩⟩
  case round =>
    clear HI
    obtain ⟨j, hj, rfl, HA, HZ⟩ := hrel
    have hc : j = 0 ∨ j = 1 ∨ j = 2 := by omega
    rcases hc with rfl | rfl | rfl
    · rw [show ((0 : Nat) : Int) = 0 from rfl]
      have RA := HA.out.left
      have Z0 := VAt.alloc wr 25 z16A
      have Z1 := VAt.alloc wr 25 (xs.map bv).toArray
      have I1 : Hid (ASt w A xs ys (wr.alloc (.cells (xs.map bv).toArray 25))) := HA.out.kept (World.grownBy_alloc _ _ _)
      have hzl : z16A.size = ((xs.map bv).toArray).size := (show z16A.size = 16 from rfl).trans (by rw [List.size_toArray, List.length_map, HX.out.1])
      have hsz : (Tryz.prog.info? 25).map (·.size) = some ((xs.map bv).toArray).size := by rw [List.size_toArray]; exact HS.out xs HX.out.1
      have HSZ : Hid _ := hsz
      have HZL : Hid _ := hzl
      clear hsz hzl HA
      go_upto_region 4 with (first
        | refine wpList_load_midg rfl 25 (.tmp 13) rfl A 0 rfl (xs.map bv) _ RA Tryz.underlying25 rfl (HS.out xs HX.out.1) ?_
        | refine wpList_store_row rfl 25 (.tmp 6) (.tmp 14) rfl wr.heap.size (xs.map bv).toArray rfl rfl 25 _ Z0 HSZ.out HZL.out (bvs_all _) ?_)
      rw [World.setRow_alloc_new]
      generalize wr.alloc (.cells (xs.map bv).toArray 25) = w1 at *
      generalize wr.heap.size = D at *
      clear RA Z0 HSZ HZL
      have HC : Hid (∀ i (hi : i < xs.length), w1.cell? ⟨D, i, none⟩ = some (.int .u8 (xs[i].toNat : Int))) := fun i hi => by
        rw [Z1.cell i, List.getElem?_toArray, List.getElem?_map, List.getElem?_eq_getElem hi]
        rfl
      clear Z1
      generalize (xs.map bv).toArray = ZA at *
      go_wp2
      go_loopw [18] (fun i wy => ∃ q : Nat, q ≤ 16 ∧ i = .int .i64 q ∧ wy = w1 ∧ Hid (∀ i (hi : i < xs.length), 0 ≤ i → i < q → xs[i] = 0)) (fun i _ => 16 - (intOf i).toNat)
      case atStart => exact ⟨0, by omega, rfl, rfl, fun i hi h1 h2 => by omega⟩
      case round =>
        obtain ⟨q, hq, rfl, rfl, HQ⟩ := hrel
        by_cases hlt : q < 16
        · have hl' : (q : Int) < 16 := by omega
          have hq0 : (0 : Int) ≤ (q : Int) := by omega
          have hqx : q < xs.length := by have := HX.out; omega
          have cq := HC.out (q) hqx
          by_cases h0 : xs[q] = 0
          · rw [h0] at cq
            have HN : Hid (∀ i (hi : i < xs.length), 0 ≤ i → i < q + 1 → xs[i] = 0) := fun i hi h1 h2 => by
              by_cases e : i = q
              · subst e; exact h0
              · exact HQ.out i hi h1 (by omega)
            clear h0
            go_wp2
            go_roundw
            case rel => exact ⟨q + 1, by omega, by go_num, (by first | rfl | trivial), HN⟩
            case measure => simp [intOf]; omega
          · have hb : ((xs[q].toNat : Int) != 0) = true := by
              rw [bne_iff_ne]
              intro hh
              apply h0
              have : xs[q].toNat = 0 := by omega
              exact UInt8.toNat_inj.1 this
            have HN : Hid (zeroB xs 0 = false) := zero_not hqx (by omega) h0
            clear h0
            generalize xs[q].toNat = c at *
            go_wp2
            go_ret
            refine ⟨ret_bool ?_, I1.out.2⟩
            rw [← HR.out, HN.out]
            simp
        · obtain rfl : q = 16 := by omega
          have HN : Hid (zeroB xs 0 = true) := zero_of (fun i hi hk => HQ.out i hi hk (by have := HX.out; omega))
          rw [show ((16 : Nat) : Int) = 16 from rfl]
          clear HQ
          go_wp2
          go_roundw
          case rel => exact ⟨1, by omega, rfl, I1, ⟨fun _ => HN.out, by omega⟩⟩
          case measure => simp [intOf]
    · rw [show ((1 : Nat) : Int) = 1 from rfl]
      have RA := HA.out.right HX.out.1
      have Z0 := VAt.alloc wr 25 z16A
      have Z1 := VAt.alloc wr 25 (ys.map bv).toArray
      have I1 : Hid (ASt w A xs ys (wr.alloc (.cells (ys.map bv).toArray 25))) := HA.out.kept (World.grownBy_alloc _ _ _)
      have hzl : z16A.size = ((ys.map bv).toArray).size := (show z16A.size = 16 from rfl).trans (by rw [List.size_toArray, List.length_map, HX.out.2])
      have hsz : (Tryz.prog.info? 25).map (·.size) = some ((ys.map bv).toArray).size := by rw [List.size_toArray]; exact HS.out ys HX.out.2
      have HSZ : Hid _ := hsz
      have HZL : Hid _ := hzl
      clear hsz hzl HA
      go_upto_region 4 with (first
        | refine wpList_load_midg rfl 25 (.tmp 13) rfl A 16 rfl (ys.map bv) _ RA Tryz.underlying25 rfl (HS.out ys HX.out.2) ?_
        | refine wpList_store_row rfl 25 (.tmp 6) (.tmp 14) rfl wr.heap.size (ys.map bv).toArray rfl rfl 25 _ Z0 HSZ.out HZL.out (bvs_all _) ?_)
      rw [World.setRow_alloc_new]
      generalize wr.alloc (.cells (ys.map bv).toArray 25) = w1 at *
      generalize wr.heap.size = D at *
      clear RA Z0 HSZ HZL
      have HC : Hid (∀ i (hi : i < ys.length), w1.cell? ⟨D, i, none⟩ = some (.int .u8 (ys[i].toNat : Int))) := fun i hi => by
        rw [Z1.cell i, List.getElem?_toArray, List.getElem?_map, List.getElem?_eq_getElem hi]
        rfl
      clear Z1
      generalize (ys.map bv).toArray = ZA at *
      go_wp2
      go_loopw [18] (fun i wy => ∃ q : Nat, q ≤ 16 ∧ i = .int .i64 q ∧ wy = w1 ∧ Hid (∀ i (hi : i < ys.length), 0 ≤ i → i < q → ys[i] = 0)) (fun i _ => 16 - (intOf i).toNat)
      case atStart => exact ⟨0, by omega, rfl, rfl, fun i hi h1 h2 => by omega⟩
      case round =>
        obtain ⟨q, hq, rfl, rfl, HQ⟩ := hrel
        by_cases hlt : q < 16
        · have hl' : (q : Int) < 16 := by omega
          have hq0 : (0 : Int) ≤ (q : Int) := by omega
          have hqx : q < ys.length := by have := HX.out; omega
          have cq := HC.out (q) hqx
          by_cases h0 : ys[q] = 0
          · rw [h0] at cq
            have HN : Hid (∀ i (hi : i < ys.length), 0 ≤ i → i < q + 1 → ys[i] = 0) := fun i hi h1 h2 => by
              by_cases e : i = q
              · subst e; exact h0
              · exact HQ.out i hi h1 (by omega)
            clear h0
            go_wp2
            go_roundw
            case rel => exact ⟨q + 1, by omega, by go_num, (by first | rfl | trivial), HN⟩
            case measure => simp [intOf]; omega
          · have hb : ((ys[q].toNat : Int) != 0) = true := by
              rw [bne_iff_ne]
              intro hh
              apply h0
              have : ys[q].toNat = 0 := by omega
              exact UInt8.toNat_inj.1 this
            have HN : Hid (zeroB ys 0 = false) := zero_not hqx (by omega) h0
            clear h0
            generalize ys[q].toNat = c at *
            go_wp2
            go_ret
            refine ⟨ret_bool ?_, I1.out.2⟩
            rw [← HR.out, HN.out]
            simp
        · obtain rfl : q = 16 := by omega
          have HN : Hid (zeroB ys 0 = true) := zero_of (fun i hi hk => HQ.out i hi hk (by have := HX.out; omega))
          rw [show ((16 : Nat) : Int) = 16 from rfl]
          clear HQ
          go_wp2
          go_roundw
          case rel => exact ⟨2, by omega, rfl, I1, ⟨fun _ => HZ.out.1 (by omega), fun _ => HN.out⟩⟩
          case measure => simp [intOf]
    · rw [show ((2 : Nat) : Int) = 2 from rfl]
      have h1 := HZ.out.1 (by omega)
      have h2 := HZ.out.2 (by omega)
      go_wp2
      go_ret
      refine ⟨ret_bool ?_, HA.out.2⟩
      rw [← HR.out, h1, h2]
      rfl

set_option maxRecDepth 100000 in
set_option maxHeartbeats 2000000 in
theorem isSet4 (xs ys : List UInt8) (hx : xs.length = 16) (hy : ys.length = 16) (A : Nat) (w : World) (hA : VAt w A 25 ((xs ++ ys).map bv).toArray) :
    Calls Tryz.prog 33 #[.int .i64 4, .slice (some ⟨A, 0, none⟩) 2 2] w fun e w' => e = .returned (.bool (!(zeroB xs 4 && zeroB ys 4))) ∧ w.grownBy w' none := by
  obtain ⟨r, hr⟩ : ∃ r, (!(zeroB xs 4 && zeroB ys 4)) = r := ⟨_, rfl⟩
  rw [hr]
  have HR : Hid ((!(zeroB xs 4 && zeroB ys 4)) = r) := hr
  have HI : Hid (ASt w A xs ys w) := ⟨hA, World.grownBy.refl _ _⟩
  have HX : Hid (xs.length = 16 ∧ ys.length = 16) := ⟨hx, hy⟩
  have HS : Hid (∀ zs : List UInt8, zs.length = 16 → (Tryz.prog.info? 25).map (·.size) = some (zs.map bv).length) := by
    intro zs h
    rw [List.length_map, h]
    exact size25
  clear hr hA hx hy
  go_enter Tryz.func33, Tryz.ntmps33
  go_wp2
  go_loopw [11] (fun i wr => ∃ j : Nat, j ≤ 2 ∧ i = .int .i64 j ∧ Hid (ASt w A xs ys wr) ∧ Hid ((1 ≤ j → zeroB xs 4 = true) ∧ (2 ≤ j → zeroB ys 4 = true))) (fun i _ => 2 - (intOf i).toNat)
  case atStart => exact ⟨0, by omega, rfl, HI, ⟨by omega, by omega⟩⟩
  case round =>
    clear HI
    obtain ⟨j, hj, rfl, HA, HZ⟩ := hrel
    have hc : j = 0 ∨ j = 1 ∨ j = 2 := by omega
    rcases hc with rfl | rfl | rfl
    · rw [show ((0 : Nat) : Int) = 0 from rfl]
      have RA := HA.out.left
      have Z0 := VAt.alloc wr 25 z16A
      have Z1 := VAt.alloc wr 25 (xs.map bv).toArray
      have I1 : Hid (ASt w A xs ys (wr.alloc (.cells (xs.map bv).toArray 25))) := HA.out.kept (World.grownBy_alloc _ _ _)
      have hzl : z16A.size = ((xs.map bv).toArray).size := (show z16A.size = 16 from rfl).trans (by rw [List.size_toArray, List.length_map, HX.out.1])
      have hsz : (Tryz.prog.info? 25).map (·.size) = some ((xs.map bv).toArray).size := by rw [List.size_toArray]; exact HS.out xs HX.out.1
      have HSZ : Hid _ := hsz
      have HZL : Hid _ := hzl
      clear hsz hzl HA
      go_upto_region 4 with (first
        | refine wpList_load_midg rfl 25 (.tmp 13) rfl A 0 rfl (xs.map bv) _ RA Tryz.underlying25 rfl (HS.out xs HX.out.1) ?_
        | refine wpList_store_row rfl 25 (.tmp 6) (.tmp 14) rfl wr.heap.size (xs.map bv).toArray rfl rfl 25 _ Z0 HSZ.out HZL.out (bvs_all _) ?_)
      rw [World.setRow_alloc_new]
      generalize wr.alloc (.cells (xs.map bv).toArray 25) = w1 at *
      generalize wr.heap.size = D at *
      clear RA Z0 HSZ HZL
      have HC : Hid (∀ i (hi : i < xs.length), w1.cell? ⟨D, i, none⟩ = some (.int .u8 (xs[i].toNat : Int))) := fun i hi => by
        rw [Z1.cell i, List.getElem?_toArray, List.getElem?_map, List.getElem?_eq_getElem hi]
        rfl
      clear Z1
      generalize (xs.map bv).toArray = ZA at *
      go_wp2
      go_loopw [18] (fun i wy => ∃ q : Nat, q ≤ 12 ∧ i = .int .i64 q ∧ wy = w1 ∧ Hid (∀ i (hi : i < xs.length), 4 ≤ i → i < 4 + q → xs[i] = 0)) (fun i _ => 12 - (intOf i).toNat)
      case atStart => exact ⟨0, by omega, rfl, rfl, fun i hi h1 h2 => by omega⟩
      case round =>
        obtain ⟨q, hq, rfl, rfl, HQ⟩ := hrel
        by_cases hlt : q < 12
        · have hl' : (q : Int) < 12 := by omega
          have hq0 : (0 : Int) ≤ (q : Int) := by omega
          have hqx : 4 + q < xs.length := by have := HX.out; omega
          have cq := HC.out (4 + q) hqx
          by_cases h0 : xs[4 + q] = 0
          · rw [h0] at cq
            have HN : Hid (∀ i (hi : i < xs.length), 4 ≤ i → i < 4 + (q + 1) → xs[i] = 0) := fun i hi h1 h2 => by
              by_cases e : i = 4 + q
              · subst e; exact h0
              · exact HQ.out i hi h1 (by omega)
            clear h0
            go_wp2
            go_roundw
            case rel => exact ⟨q + 1, by omega, by go_num, (by first | rfl | trivial), HN⟩
            case measure => simp [intOf]; omega
          · have hb : ((xs[4 + q].toNat : Int) != 0) = true := by
              rw [bne_iff_ne]
              intro hh
              apply h0
              have : xs[4 + q].toNat = 0 := by omega
              exact UInt8.toNat_inj.1 this
            have HN : Hid (zeroB xs 4 = false) := zero_not hqx (by omega) h0
            clear h0
            generalize xs[4 + q].toNat = c at *
            go_wp2
            go_ret
            refine ⟨ret_bool ?_, I1.out.2⟩
            rw [← HR.out, HN.out]
            simp
        · obtain rfl : q = 12 := by omega
          have HN : Hid (zeroB xs 4 = true) := zero_of (fun i hi hk => HQ.out i hi hk (by have := HX.out; omega))
          rw [show ((12 : Nat) : Int) = 12 from rfl]
          clear HQ
          go_wp2
          go_roundw
          case rel => exact ⟨1, by omega, rfl, I1, ⟨fun _ => HN.out, by omega⟩⟩
          case measure => simp [intOf]
    · rw [show ((1 : Nat) : Int) = 1 from rfl]
      have RA := HA.out.right HX.out.1
      have Z0 := VAt.alloc wr 25 z16A
      have Z1 := VAt.alloc wr 25 (ys.map bv).toArray
      have I1 : Hid (ASt w A xs ys (wr.alloc (.cells (ys.map bv).toArray 25))) := HA.out.kept (World.grownBy_alloc _ _ _)
      have hzl : z16A.size = ((ys.map bv).toArray).size := (show z16A.size = 16 from rfl).trans (by rw [List.size_toArray, List.length_map, HX.out.2])
      have hsz : (Tryz.prog.info? 25).map (·.size) = some ((ys.map bv).toArray).size := by rw [List.size_toArray]; exact HS.out ys HX.out.2
      have HSZ : Hid _ := hsz
      have HZL : Hid _ := hzl
      clear hsz hzl HA
      go_upto_region 4 with (first
        | refine wpList_load_midg rfl 25 (.tmp 13) rfl A 16 rfl (ys.map bv) _ RA Tryz.underlying25 rfl (HS.out ys HX.out.2) ?_
        | refine wpList_store_row rfl 25 (.tmp 6) (.tmp 14) rfl wr.heap.size (ys.map bv).toArray rfl rfl 25 _ Z0 HSZ.out HZL.out (bvs_all _) ?_)
      rw [World.setRow_alloc_new]
      generalize wr.alloc (.cells (ys.map bv).toArray 25) = w1 at *
      generalize wr.heap.size = D at *
      clear RA Z0 HSZ HZL
      have HC : Hid (∀ i (hi : i < ys.length), w1.cell? ⟨D, i, none⟩ = some (.int .u8 (ys[i].toNat : Int))) := fun i hi => by
        rw [Z1.cell i, List.getElem?_toArray, List.getElem?_map, List.getElem?_eq_getElem hi]
        rfl
      clear Z1
      generalize (ys.map bv).toArray = ZA at *
      go_wp2
      go_loopw [18] (fun i wy => ∃ q : Nat, q ≤ 12 ∧ i = .int .i64 q ∧ wy = w1 ∧ Hid (∀ i (hi : i < ys.length), 4 ≤ i → i < 4 + q → ys[i] = 0)) (fun i _ => 12 - (intOf i).toNat)
      case atStart => exact ⟨0, by omega, rfl, rfl, fun i hi h1 h2 => by omega⟩
      case round =>
        obtain ⟨q, hq, rfl, rfl, HQ⟩ := hrel
        by_cases hlt : q < 12
        · have hl' : (q : Int) < 12 := by omega
          have hq0 : (0 : Int) ≤ (q : Int) := by omega
          have hqx : 4 + q < ys.length := by have := HX.out; omega
          have cq := HC.out (4 + q) hqx
          by_cases h0 : ys[4 + q] = 0
          · rw [h0] at cq
            have HN : Hid (∀ i (hi : i < ys.length), 4 ≤ i → i < 4 + (q + 1) → ys[i] = 0) := fun i hi h1 h2 => by
              by_cases e : i = 4 + q
              · subst e; exact h0
              · exact HQ.out i hi h1 (by omega)
            clear h0
            go_wp2
            go_roundw
            case rel => exact ⟨q + 1, by omega, by go_num, (by first | rfl | trivial), HN⟩
            case measure => simp [intOf]; omega
          · have hb : ((ys[4 + q].toNat : Int) != 0) = true := by
              rw [bne_iff_ne]
              intro hh
              apply h0
              have : ys[4 + q].toNat = 0 := by omega
              exact UInt8.toNat_inj.1 this
            have HN : Hid (zeroB ys 4 = false) := zero_not hqx (by omega) h0
            clear h0
            generalize ys[4 + q].toNat = c at *
            go_wp2
            go_ret
            refine ⟨ret_bool ?_, I1.out.2⟩
            rw [← HR.out, HN.out]
            simp
        · obtain rfl : q = 12 := by omega
          have HN : Hid (zeroB ys 4 = true) := zero_of (fun i hi hk => HQ.out i hi hk (by have := HX.out; omega))
          rw [show ((12 : Nat) : Int) = 12 from rfl]
          clear HQ
          go_wp2
          go_roundw
          case rel => exact ⟨2, by omega, rfl, I1, ⟨fun _ => HZ.out.1 (by omega), fun _ => HN.out⟩⟩
          case measure => simp [intOf]
    · rw [show ((2 : Nat) : Int) = 2 from rfl]
      have h1 := HZ.out.1 (by omega)
      have h2 := HZ.out.2 (by omega)
      go_wp2
      go_ret
      refine ⟨ret_bool ?_, HA.out.2⟩
      rw [← HR.out, h1, h2]
      rfl

end Go.Proofs.YtnojpepjloceoaaGreat
