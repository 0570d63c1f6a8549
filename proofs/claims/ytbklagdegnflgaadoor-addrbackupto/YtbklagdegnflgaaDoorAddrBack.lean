/-
  For every address of four bytes, of sixteen bytes and text, what is read of bulk at most 1048576, riddlelaw6.AddrBack returns true and leaves what was there as it was.
-/
import Derived.Test.YtbklagdegnflgaaDoorOpenA
import Derived.Test.YtbklagdegnflgaaDoorAwake6
import Derived.Test.YtbklagdegnflgaaDoorLaid6
import Derived.Deep.WholeRow
namespace Go.Proofs.YtbklagdegnflgaaDoor
open Go.ChangeShapes Go.WideShapes Go.ChangeAt Go.RowKit
open Go.ChangeMaps (open_string shut_string)
set_option maxRecDepth 100000
namespace addrBack

theorem wpList_load_g {P : Program} {ops : Array Oper} {rest : List Oper} {o : Oper} {a : Act} {w : World} {Q : Exit → Act → World → Prop} (hw : Region.wanted o (yielded ops a.tmps) = true) (ty : TypeId) (x : Operand) (ho : o.op = .load ty x)
    (g : Nat) (hx : a.eval x = .pointer (some ⟨g, 0, none⟩)) (xs : List UInt8) (n : Nat) (e : TypeId) (A : AAt w g ty xs) (hu : P.underlying ty = some (.array n e)) (hi : (P.info? ty).map (·.size) = some (xs.map bv).toArray.size)
    (h : wpList P ops Q rest (a.put o.dst (.agg (xs.map bv).toArray)) w) : wpList P ops Q (o :: rest) a w :=
  BigFrame.wpList_want hw fun _ hK => wp_load_row ty x ho g hx ty _ (0, 0) _ A hu rfl hi (hK _ _ h)

theorem print4_len (xs : List UInt8) (h : xs.length = 4) : (print4V xs).length ≤ 84 := by
  have := join_len 46 (xs.map fun x => dec x.toNat) 20 (fun l hl => by
    obtain ⟨y, -, rfl⟩ := List.mem_map.1 hl
    exact dec_len _)
  rw [List.length_map, h] at this
  exact this

theorem size_str (t : List UInt8) : (⟨t.toArray⟩ : ByteArray).size = t.length := by
  have := sl_len ⟨t.toArray⟩
  rw [sl_str] at this
  exact this.symm

set_option maxRecDepth 100000 in
set_option maxHeartbeats 4000000 in
theorem walk (xs ys : List UInt8) (s : ByteArray) (w : World) (h4 : xs.length = 4) (h16 : ys.length = 16) (hs : s.size ≤ 1048576) (T : Tab w) :
    Calls Tryd.prog 6 #[.agg (xs.map bv).toArray, .agg (ys.map bv).toArray, .string s] w fun e w' => e = .returned (.bool true) ∧ w.grownBy w' none := by
  have HTb : Hid (Tab w) := T
  clear T
  have HA : Hid (∀ W : World, Tab W → Calls Tryd.prog 11 #[.agg (xs.map bv).toArray] W fun e w' => e = .returned (str (print4V xs)) ∧ W.grownBy w' none) := fun W tb => print4_any xs W h4 tb
  have HB : Hid (∀ W : World, Tab W → Calls Tryd.prog 9 #[str (print4V xs)] W fun e w' => e = .returned (.tuple #[.agg (xs.map bv).toArray, .int .i64 0]) ∧ W.grownBy w' none) := fun W tb => by
    have k := parse4_any ⟨(print4V xs).toArray⟩ W (by rw [size_str]; have := print4_len xs h4; omega) tb
    rw [sl_str, parse4_print4 xs h4] at k
    exact k
  have hP6 : ∀ zs : List UInt8, zs.length = 16 → parse6V (print6V (pairsG zs)) = some zs := fun zs hz => by
    rw [parse6_print6 _ (pairs_len 8 zs (by omega)) (pairs_lt zs), bytes_pairs 8 zs (by omega)]
  have hC : ∀ zs : List UInt8, zs.length = 16 → ∀ W : World, Tab W → Calls Tryd.prog 16 #[.agg (zs.map bv).toArray] W fun e w' => e = .returned (str (print6V (pairsG zs))) ∧ W.grownBy w' none := fun zs hz W tb => print6_any zs W hz tb
  have hD : ∀ zs : List UInt8, zs.length = 16 → ∀ W : World, Tab W → Calls Tryd.prog 14 #[str (print6V (pairsG zs))] W fun e w' => e = .returned (.tuple #[.agg (zs.map bv).toArray, .int .i64 0]) ∧ W.grownBy w' none := fun zs hz W tb => by
    have k := parse6_any ⟨(print6V (pairsG zs)).toArray⟩ W (by rw [size_str]; have := print6_len (pairsG zs) (pairs_len 8 zs (by omega)); omega) tb
    rw [sl_str, hP6 zs hz] at k
    exact k
  have HC : Hid (∀ W : World, Tab W → Calls Tryd.prog 16 #[.agg (ys.map bv).toArray] W fun e w' => e = .returned (str (print6V (pairsG ys))) ∧ W.grownBy w' none) := hC ys h16
  have HD : Hid (∀ W : World, Tab W → Calls Tryd.prog 14 #[str (print6V (pairsG ys))] W fun e w' => e = .returned (.tuple #[.agg (ys.map bv).toArray, .int .i64 0]) ∧ W.grownBy w' none) := hD ys h16
  have HS : Hid (∀ W : World, Tab W → Calls Tryd.prog 14 #[.string s] W fun e w' => e = .returned (.tuple #[arrV 16 (parse6V (sl s)), .int .i64 (errV (parse6V (sl s)))]) ∧ W.grownBy w' none) := fun W tb => parse6_any s W hs tb
  have HQ4 : Hid (∀ W : World, (Op.equalIn 10000 22 (.agg (xs.map bv).toArray) (.agg (xs.map bv).toArray)).run Tryd.prog W = .ok true W) := fun W => by
    have := eq22 xs xs h4 h4 W
    rw [decide_eq_true rfl] at this
    exact this
  have hQ : ∀ zs : List UInt8, zs.length = 16 → ∀ W : World, (Op.equalIn 10000 29 (.agg (zs.map bv).toArray) (.agg (zs.map bv).toArray)).run Tryd.prog W = .ok true W := fun zs hz W => by
    have := eq29 zs zs hz hz W
    rw [decide_eq_true rfl] at this
    exact this
  have HQ16 : Hid (∀ W : World, (Op.equalIn 10000 29 (.agg (ys.map bv).toArray) (.agg (ys.map bv).toArray)).run Tryd.prog W = .ok true W) := hQ ys h16
  have hZ4 : (Tryd.prog.info? 22).map (·.size) = some (xs.map bv).toArray.size := by rw [bv_size, h4]; exact size22
  have hZ : ∀ zs : List UInt8, zs.length = 16 → (Tryd.prog.info? 29).map (·.size) = some (zs.map bv).toArray.size ∧ ((List.replicate 16 (0 : UInt8)).map bv).toArray.size = (zs.map bv).toArray.size := fun zs hz => by
    refine ⟨?_, ?_⟩
    · rw [bv_size, hz]; exact size29
    · rw [bv_size, bv_size, hz]; rfl
  have HZ4 : Hid ((Tryd.prog.info? 22).map (·.size) = some (xs.map bv).toArray.size ∧ ((List.replicate 4 (0 : UInt8)).map bv).toArray.size = (xs.map bv).toArray.size) := ⟨hZ4, by rw [bv_size, bv_size, h4]; rfl⟩
  have HZ16 := hZ ys h16
  have HZ16' : Hid ((Tryd.prog.info? 29).map (·.size) = some (ys.map bv).toArray.size ∧ ((List.replicate 16 (0 : UInt8)).map bv).toArray.size = (ys.map bv).toArray.size) := HZ16
  have HW : Hid (∀ zs : List UInt8, parse6V (sl s) = some zs → zs.length = 16) := fun zs hz => parse6_some hz
  have HR : Hid ((∀ zs : List UInt8, zs.length = 16 → ∀ W : World, Tab W → Calls Tryd.prog 16 #[.agg (zs.map bv).toArray] W fun e w' => e = .returned (str (print6V (pairsG zs))) ∧ W.grownBy w' none) ∧ (∀ zs : List UInt8, zs.length = 16 → ∀ W : World, Tab W → Calls Tryd.prog 14 #[str (print6V (pairsG zs))] W fun e w' => e = .returned (.tuple #[.agg (zs.map bv).toArray, .int .i64 0]) ∧ W.grownBy w' none)
    ∧ (∀ zs : List UInt8, zs.length = 16 → ∀ W : World, (Op.equalIn 10000 29 (.agg (zs.map bv).toArray) (.agg (zs.map bv).toArray)).run Tryd.prog W = .ok true W) ∧ (∀ zs : List UInt8, zs.length = 16 → (Tryd.prog.info? 29).map (·.size) = some (zs.map bv).toArray.size ∧ ((List.replicate 16 (0 : UInt8)).map bv).toArray.size = (zs.map bv).toArray.size)) := ⟨hC, hD, hQ, hZ⟩
  clear hC hD hQ hZ hZ4 HZ16 hP6 h4 h16
  have A0 := AAt.alloc w 22 xs
  have B0 := AAt.alloc (w.alloc (.cells (xs.map bv).toArray 22)) 29 ys
  have K0 := World.grownBy_alloc (w.alloc (.cells (xs.map bv).toArray 22)) (.cells (ys.map bv).toArray 29) none
  have A1 := A0.grown K0 (by simp)
  have G1 := grown_trans (World.grownBy_alloc w (.cells (xs.map bv).toArray 22) none) K0
  rw [show (w.alloc (.cells (xs.map bv).toArray 22)).heap.size = w.heap.size + 1 by simp] at B0
  generalize print4V xs = t4 at *
  go_enter Tryd.func6, Tryd.ntmps6
  go_upto_region 1 with fail
  generalize (w.alloc (.cells (xs.map bv).toArray 22)).alloc (.cells (ys.map bv).toArray 29) = w1 at *
  generalize w.heap.size + 1 = B at *
  generalize w.heap.size = A at *
  clear A0 K0
  go_wp2_with (first | refine wpList_load_row rfl 22 (.tmp 3) rfl A rfl 22 (xs.map bv).toArray (0, 0) _ A1 Tryd.underlying22 rfl HZ4.out.1 ?_)
  refine (HA.out _ (HTb.out.grown G1)).mono ?_
  rintro e w2 ⟨rfl, K2⟩
  have A2 := A1.grown K2 (by simp)
  have B2 := B0.grown K2 (by simp)
  have G2 := grown_trans G1 K2
  clear A1 B0 G1 K2 w1
  go_wp2_with fail
  refine (HB.out _ (HTb.out.grown G2)).mono ?_
  rintro e w3 ⟨rfl, K3⟩
  have A3 := A2.grown K3 (by simp)
  have B3 := B2.grown K3 (by simp)
  have G3 := grown_trans G2 K3
  clear A2 B2 G2 K3 w2
  have X3 := AAt.alloc w3 22 (List.replicate 4 0)
  have X4 := AAt.alloc w3 22 xs
  have K4 := World.grownBy_alloc w3 (.cells (xs.map bv).toArray 22) none
  have A4 := A3.grown K4 (by simp)
  have B4 := B3.grown K4 (by simp)
  have G4 := grown_trans G3 K4
  clear A3 B3 G3 K4
  go_upto_region 2 with (refine wpList_store_row rfl 22 (.tmp 7) (.tmp 20) rfl w3.heap.size (xs.map bv).toArray rfl rfl 22 _ X3 HZ4.out.1 HZ4.out.2 (bv_all _) ?_)
  rw [World.setRow_alloc_new]
  generalize w3.alloc (.cells (xs.map bv).toArray 22) = w4 at *
  generalize w3.heap.size = X at *
  clear X3 w3
  go_wp2_with (refine wpList_load_row rfl 29 (.tmp 4) rfl B rfl 29 (ys.map bv).toArray (0, 0) _ B4 Tryd.underlying29 rfl HZ16'.out.1 ?_)
  refine (HC.out _ (HTb.out.grown G4)).mono ?_
  rintro e w5 ⟨rfl, K5⟩
  have A5 := A4.grown K5 (by simp)
  have B5 := B4.grown K5 (by simp)
  have X5 := X4.grown K5 (by simp)
  have G5 := grown_trans G4 K5
  clear A4 B4 X4 G4 K5 w4
  go_wp2_with fail
  refine (HD.out _ (HTb.out.grown G5)).mono ?_
  rintro e w6 ⟨rfl, K6⟩
  have A6 := A5.grown K6 (by simp)
  have B6 := B5.grown K6 (by simp)
  have X6 := X5.grown K6 (by simp)
  have G6 := grown_trans G5 K6
  clear A5 B5 X5 G5 K6 w5
  have Y6 := AAt.alloc w6 29 (List.replicate 16 0)
  have Y7 := AAt.alloc w6 29 ys
  have K7 := World.grownBy_alloc w6 (.cells (ys.map bv).toArray 29) none
  have A7 := A6.grown K7 (by simp)
  have B7 := B6.grown K7 (by simp)
  have X7 := X6.grown K7 (by simp)
  have G7 := grown_trans G6 K7
  clear A6 B6 X6 G6 K7
  go_upto_region 3 with (refine wpList_store_row rfl 29 (.tmp 9) (.tmp 26) rfl w6.heap.size (ys.map bv).toArray rfl rfl 29 _ Y6 HZ16'.out.1 HZ16'.out.2 (bv_all _) ?_)
  rw [World.setRow_alloc_new]
  generalize w6.alloc (.cells (ys.map bv).toArray 29) = w7 at *
  generalize w6.heap.size = Y at *
  clear Y6 w6
  have heq4 := HQ4.out
  have heq16 := HQ16.out
  go_wp2_with (first | (refine wpList_load_g rfl 22 (.tmp 7) rfl X rfl xs 4 5 X7 Tryd.underlying22 HZ4.out.1 ?_) | (refine wpList_load_g rfl 22 (.tmp 3) rfl A rfl xs 4 5 A7 Tryd.underlying22 HZ4.out.1 ?_) | (refine wpList_load_g rfl 29 (.tmp 9) rfl Y rfl ys 16 5 Y7 Tryd.underlying29 HZ16'.out.1 ?_) | (refine wpList_load_g rfl 29 (.tmp 4) rfl B rfl ys 16 5 B7 Tryd.underlying29 HZ16'.out.1 ?_))
  clear heq4 heq16 A7 B7 X7 Y7
  refine (HS.out _ (HTb.out.grown G7)).mono ?_
  rintro e w8 ⟨rfl, K8⟩
  have G8 := grown_trans G7 K8
  clear G7 K8 w7
  cases hp : parse6V (sl s) with
  | none =>
    rw [show arrV 16 none = .agg #[.int .u8 0, .int .u8 0, .int .u8 0, .int .u8 0, .int .u8 0, .int .u8 0, .int .u8 0, .int .u8 0, .int .u8 0, .int .u8 0, .int .u8 0, .int .u8 0, .int .u8 0, .int .u8 0, .int .u8 0, .int .u8 0] from rfl, show errV none = 60 from rfl]
    have Z8 : AAt (w8.alloc (.cells #[.int .u8 0, .int .u8 0, .int .u8 0, .int .u8 0, .int .u8 0, .int .u8 0, .int .u8 0, .int .u8 0, .int .u8 0, .int .u8 0, .int .u8 0, .int .u8 0, .int .u8 0, .int .u8 0, .int .u8 0, .int .u8 0] 29)) w8.heap.size 29 (List.replicate 16 0) := AAt.alloc w8 29 (List.replicate 16 0)
    have G9 := grown_trans G8 (World.grownBy_alloc w8 (.cells #[.int .u8 0, .int .u8 0, .int .u8 0, .int .u8 0, .int .u8 0, .int .u8 0, .int .u8 0, .int .u8 0, .int .u8 0, .int .u8 0, .int .u8 0, .int .u8 0, .int .u8 0, .int .u8 0, .int .u8 0, .int .u8 0] 29) none)
    have heq0 : ∀ W : World, (Op.equalIn 10000 29 (.agg #[.int .u8 0, .int .u8 0, .int .u8 0, .int .u8 0, .int .u8 0, .int .u8 0, .int .u8 0, .int .u8 0, .int .u8 0, .int .u8 0, .int .u8 0, .int .u8 0, .int .u8 0, .int .u8 0, .int .u8 0, .int .u8 0]) (.agg #[.int .u8 0, .int .u8 0, .int .u8 0, .int .u8 0, .int .u8 0, .int .u8 0, .int .u8 0, .int .u8 0, .int .u8 0, .int .u8 0, .int .u8 0, .int .u8 0, .int .u8 0, .int .u8 0, .int .u8 0, .int .u8 0])).run Tryd.prog W = .ok true W := HR.out.2.2.1 (List.replicate 16 0) rfl
    have HZ0 : Hid ((Tryd.prog.info? 29).map (·.size) = some (#[.int .u8 0, .int .u8 0, .int .u8 0, .int .u8 0, .int .u8 0, .int .u8 0, .int .u8 0, .int .u8 0, .int .u8 0, .int .u8 0, .int .u8 0, .int .u8 0, .int .u8 0, .int .u8 0, .int .u8 0, .int .u8 0] : Array Value).size) := (HR.out.2.2.2 (List.replicate 16 0) rfl).1
    go_upto_region 6 with fail
    generalize w8.alloc (.cells #[.int .u8 0, .int .u8 0, .int .u8 0, .int .u8 0, .int .u8 0, .int .u8 0, .int .u8 0, .int .u8 0, .int .u8 0, .int .u8 0, .int .u8 0, .int .u8 0, .int .u8 0, .int .u8 0, .int .u8 0, .int .u8 0] 29) = w9 at *
    generalize w8.heap.size = Z at *
    clear G8 w8
    go_wp2_with (refine wpList_load_row rfl 29 (.tmp 11) rfl Z rfl 29 #[.int .u8 0, .int .u8 0, .int .u8 0, .int .u8 0, .int .u8 0, .int .u8 0, .int .u8 0, .int .u8 0, .int .u8 0, .int .u8 0, .int .u8 0, .int .u8 0, .int .u8 0, .int .u8 0, .int .u8 0, .int .u8 0] (0, 0) _ Z8 Tryd.underlying29 rfl HZ0.out ?_)
    refine (awake6_any _ (HTb.out.grown G9)).mono ?_
    rintro e w10 ⟨rfl, K10⟩
    have G10 := grown_trans G9 K10
    clear heq0 G9 K10 Z8
    go_wp2
    go_ret
    exact ⟨rfl, G10⟩
  | some zs =>
    have hz := HW.out zs hp
    have HT := HR.out.1 zs hz
    have HT2 := HR.out.2.1 zs hz
    have HE : Hid (∀ W : World, (Op.equalIn 10000 29 (.agg (zs.map bv).toArray) (.agg (zs.map bv).toArray)).run Tryd.prog W = .ok true W) := HR.out.2.2.1 zs hz
    have HZz : Hid ((Tryd.prog.info? 29).map (·.size) = some (zs.map bv).toArray.size ∧ ((List.replicate 16 (0 : UInt8)).map bv).toArray.size = (zs.map bv).toArray.size) := HR.out.2.2.2 zs hz
    have hl39 := print6_len (pairsG zs) (pairs_len 8 zs (by omega))
    rw [show arrV 16 (some zs) = .agg (zs.map bv).toArray from rfl, show errV (some zs) = 0 from rfl]
    have HH : Hid ((∀ W : World, Tab W → Calls Tryd.prog 16 #[.agg (zs.map bv).toArray] W fun e w' => e = .returned (str (print6V (pairsG zs))) ∧ W.grownBy w' none) ∧ (∀ W : World, Tab W → Calls Tryd.prog 14 #[str (print6V (pairsG zs))] W fun e w' => e = .returned (.tuple #[.agg (zs.map bv).toArray, .int .i64 0]) ∧ W.grownBy w' none)) := ⟨HT, HT2⟩
    clear HT HT2 hz hp HR HW HS HC HD HA HB
    generalize print6V (pairsG zs) = t6 at *
    have Z8 := AAt.alloc w8 29 (List.replicate 16 0)
    have Z9 := AAt.alloc w8 29 zs
    have G9 := grown_trans G8 (World.grownBy_alloc w8 (.cells (zs.map bv).toArray 29) none)
    go_upto_region 6 with (refine wpList_store_row rfl 29 (.tmp 11) (.tmp 47) rfl w8.heap.size (zs.map bv).toArray rfl rfl 29 _ Z8 HZz.out.1 HZz.out.2 (bv_all _) ?_)
    rw [World.setRow_alloc_new]
    generalize w8.alloc (.cells (zs.map bv).toArray 29) = w9 at *
    generalize w8.heap.size = Z at *
    clear Z8 G8 w8
    go_wp2_with (refine wpList_load_row rfl 29 (.tmp 11) rfl Z rfl 29 (zs.map bv).toArray (0, 0) _ Z9 Tryd.underlying29 rfl HZz.out.1 ?_)
    refine (HH.out.1 _ (HTb.out.grown G9)).mono ?_
    rintro e w10 ⟨rfl, K10⟩
    have Z10 := Z9.grown K10 (by simp)
    have G10 := grown_trans G9 K10
    clear Z9 G9 K10 w9
    go_wp2_with fail
    refine (HH.out.2 _ (HTb.out.grown G10)).mono ?_
    rintro e w11 ⟨rfl, K11⟩
    have Z11 := Z10.grown K11 (by simp)
    have G11 := grown_trans G10 K11
    clear Z10 G10 K11 w10
    have V11 := AAt.alloc w11 29 (List.replicate 16 0)
    have V12 := AAt.alloc w11 29 zs
    have K12 := World.grownBy_alloc w11 (.cells (zs.map bv).toArray 29) none
    have Z12 := Z11.grown K12 (by simp)
    have G12 := grown_trans G11 K12
    clear Z11 G11 K12
    go_upto_region 10 with (refine wpList_store_row rfl 29 (.tmp 14) (.tmp 62) rfl w11.heap.size (zs.map bv).toArray rfl rfl 29 _ V11 HZz.out.1 HZz.out.2 (bv_all _) ?_)
    rw [World.setRow_alloc_new]
    generalize w11.alloc (.cells (zs.map bv).toArray 29) = w12 at *
    generalize w11.heap.size = V at *
    clear V11 w11
    have heq := HE.out
    have hl39' : (t6.length : Int) ≤ 39 := by omega
    go_wp2_with (first | (refine wpList_load_g rfl 29 (.tmp 14) rfl V rfl zs 16 5 V12 Tryd.underlying29 HZz.out.1 ?_) | (refine wpList_load_g rfl 29 (.tmp 11) rfl Z rfl zs 16 5 Z12 Tryd.underlying29 HZz.out.1 ?_))
    clear heq
    refine (HH.out.1 _ (HTb.out.grown G12)).mono ?_
    rintro e w13 ⟨rfl, K13⟩
    have G13 := grown_trans G12 K13
    clear Z12 V12 G12 K13 w12
    go_wp2_with fail
    refine (awake6_any _ (HTb.out.grown G13)).mono ?_
    rintro e w14 ⟨rfl, K14⟩
    have G14 := grown_trans G13 K14
    clear G13 K14
    go_wp2
    go_ret
    exact ⟨rfl, G14⟩

set_option maxRecDepth 100000 in
theorem lifted (os : Os) (started : os.Started) (H : Type) (enc : TypeId × Value → H) (F : Stop.Interp) :
    ReturnsInHanded {} Tryd.checked os 6 .any ((Rows.OpenSpec.upto Rows.addrBackSpec).preRow enc Tryd.prog Tryd.f6 Rows.addrBackUptoRow.domain false Rows.addrBackUptoRow.laid) (((Rows.OpenSpec.upto Rows.addrBackSpec).at F).post enc Tryd.prog Tryd.f6 false true false false) := by
  have hx : DataW.whole enc Tryd.prog ((laidWorld os).forCall (fun _ _ => 0) ⟨#[], #[.agg #[.int .u8 0, .int .u8 0, .int .u8 0, .int .u8 0], .agg #[.int .u8 0, .int .u8 0, .int .u8 0, .int .u8 0, .int .u8 0, .int .u8 0, .int .u8 0, .int .u8 0, .int .u8 0, .int .u8 0, .int .u8 0, .int .u8 0, .int .u8 0, .int .u8 0, .int .u8 0, .int .u8 0], .string .empty], []⟩).memory Tryd.f6.params.toList Rows.addrBackSpec.vars false (#[.agg #[.int .u8 0, .int .u8 0, .int .u8 0, .int .u8 0], .agg #[.int .u8 0, .int .u8 0, .int .u8 0, .int .u8 0, .int .u8 0, .int .u8 0, .int .u8 0, .int .u8 0, .int .u8 0, .int .u8 0, .int .u8 0, .int .u8 0, .int .u8 0, .int .u8 0, .int .u8 0, .int .u8 0], .string .empty] : Array Value).toList 8 = some ([.agg [.lit (.int .u8 0), .lit (.int .u8 0), .lit (.int .u8 0), .lit (.int .u8 0)], .agg [.lit (.int .u8 0), .lit (.int .u8 0), .lit (.int .u8 0), .lit (.int .u8 0), .lit (.int .u8 0), .lit (.int .u8 0), .lit (.int .u8 0), .lit (.int .u8 0), .lit (.int .u8 0), .lit (.int .u8 0), .lit (.int .u8 0), .lit (.int .u8 0), .lit (.int .u8 0), .lit (.int .u8 0), .lit (.int .u8 0), .lit (.int .u8 0)], .lit (.string [])], [], []) := by kernel_rfl
  refine returnsInHanded_of_row (C := Tryd.checked) (s := (Rows.OpenSpec.upto Rows.addrBackSpec)) own started (by kernel_rfl) Tryd.func6
    (witness_row_at (enc := enc) (C := Tryd.checked) false (laidWorld os) #[.agg #[.int .u8 0, .int .u8 0, .int .u8 0, .int .u8 0], .agg #[.int .u8 0, .int .u8 0, .int .u8 0, .int .u8 0, .int .u8 0, .int .u8 0, .int .u8 0, .int .u8 0, .int .u8 0, .int .u8 0, .int .u8 0, .int .u8 0, .int .u8 0, .int .u8 0, .int .u8 0, .int .u8 0], .string .empty] rfl (by kernel_rfl) (by kernel_rfl) (by kernel_rfl)
      (OpenSpec.preRow_of_cond 8 hx (by kernel_rfl) (fun k hk => by cases hk; kernel_rfl) (by kernel_rfl) (laid_met os _))) ?_
  intro W base args ds gs before hval0 hW hcnd hcond hsz0 hL hsh _
  have hk0 := hcond _ rfl
  have T : Tab W := laid_tab hL hsh
  have hval : ∀ (j : Nat) t v, Tryd.f6.params[j]? = some t → args[j]? = some v → Value.okWide Tryd.prog W .any base t v := hval0
  have hW' := hW
  obtain ⟨p, q, hA0, hV, rfl, hfz, hnd⟩ := hW
  have hA : DataW.TrodAll enc Tryd.prog W 0 (fun _ => true) true Tryd.f6.params.toList args.toList ds p := hA0
  rw [Tryd.params6] at hA hval
  obtain ⟨v0, vs0, d0, ds0, p0, q0, hargs, rfl, rfl, h0, r0⟩ := trodAll_cons hA
  obtain ⟨v1, vs1, d1, ds1, p1, q1, rfl, rfl, rfl, h1, r1⟩ := trodAll_cons r0
  obtain ⟨v2, vs2, d2, ds2, p2, q2, rfl, rfl, rfl, h2, r2⟩ := trodAll_cons r1
  obtain ⟨rfl, rfl, rfl⟩ := trodAll_nil r2
  obtain rfl : args = #[v0, v1, v2] := by cases args; simp_all
  obtain ⟨rfl, rfl⟩ := trodVars_none hV
  have k0 := h0
  have lt0 : ∀ x ∈ p0, x.block < W.heap.size := by obtain ⟨m, hm⟩ := k0; exact DataW.trod_lt m _ _ _ hm
  obtain ⟨x0, xl0, rfl⟩ := open_arr Tryd.underlying22 (by kernel_rfl) (by decide) h0
  have k1 := h1
  have lt1 : ∀ x ∈ p1, x.block < W.heap.size := by obtain ⟨m, hm⟩ := k1; exact DataW.trod_lt m _ _ _ hm
  obtain ⟨x1, xl1, rfl⟩ := open_arr Tryd.underlying29 (by kernel_rfl) (by decide) h1
  obtain ⟨s2, rfl, rfl, rfl, hs2⟩ := open_string Tryd.underlying9 (hval 2 9 v2 rfl rfl) h2
  simp only [List.append_nil] at hW' hk0
  have hk : Rows.uptoBulkAll ([d0, d1, .lit (.string s2.data.toList)] : List (DataW H)) ≤ 1048576 := of_decide_eq_true hk0
  simp only [Rows.uptoBulkAll] at hk
  have hlen2 : s2.size ≤ 1048576 := by
    have e := bulk_string (H := H) s2
    omega
  clear hA0 hval0
  refine (walk x0 x1 s2 W xl0 xl1 hlen2 T).mono fun e W' ⟨he, hg⟩ => ?_
  subst he
  have bel : Below W.heap.size W W' := (Below.refl _ _).grown hg (Nat.le_refl _) (by simp)
  exact ⟨_, rfl, _, _, _, [], _, [], hW', trodAll_mk1 (shut_bool Tryd.underlying4 _), (trodAll_cons_mk (Below.trod laidOut (by kernel_rfl) (of_decide_eq_true (by kernel_rfl)) k0 bel lt0) (trodAll_cons_mk (Below.trod laidOut (by kernel_rfl) (of_decide_eq_true (by kernel_rfl)) k1 bel lt1) (trodAll_cons_mk (shut_string Tryd.underlying9 hs2) trodAll_mk0))), rfl, bel.frame _, fun h => by cases h⟩

theorem over : Rows.AddrBackUptoSaid :=
  OpenClaim.holds_of_cond 6 Tryd.f6 rfl rfl rfl rfl rfl rfl rfl ⟨rfl, rfl, rfl, rfl, rfl⟩ rfl rfl rfl rfl rfl (by kernel_rfl) Tryd.func6 (by kernel_rfl)
    (of_decide_eq_true (by kernel_rfl)) (by unfold Func.isWrapper; first | (rw [if_pos (by decide +kernel)]; kernel_rfl) | (rw [if_neg (by decide +kernel)]; exact ⟨rfl, rfl⟩))
    (fun os started H enc _ F => by rw [OpenClaim.pre_eq_preRow]; exact lifted os started H enc F)

theorem plain (f : FuncId) (fn : Func) (hf : Tryd.pinned.checked.prog.funcNamed "riddle/riddlelaw6.AddrBack" = some f) (hfn : Tryd.pinned.checked.prog.funcs[f]? = some fn) :
    false = Tryd.pinned.checked.prog.looks [] ∧ ∀ (j : Nat) t, fn.params[j]? = some t → Tryd.pinned.checked.prog.wantsStandIn t = false := by
  obtain rfl : f = 6 := Option.some.inj ((show Tryd.prog.funcNamed "riddle/riddlelaw6.AddrBack" = some 6 by kernel_rfl).symm.trans hf) |>.symm
  obtain rfl : fn = Tryd.f6 := (Option.some.inj (Tryd.func6.symm.trans hfn)).symm
  refine ⟨by kernel_rfl, fun j t ht => ?_⟩
  rw [Tryd.params6] at ht
  have ht2 := Array.mem_of_getElem? ht
  simp only [List.mem_toArray, List.mem_cons, List.not_mem_nil, or_false] at ht2
  rcases ht2 with rfl | rfl | rfl
  · exact (show Tryd.prog.wantsStandIn 22 = false by kernel_rfl)
  · exact (show Tryd.prog.wantsStandIn 29 = false by kernel_rfl)
  · exact (show Tryd.prog.wantsStandIn 9 = false by kernel_rfl)

theorem card : Rows.AddrBackUptoCardSaid :=
  Claim7.holds_tied_plain_at .later [] _ _ _ _ over (fun _ h => by cases h) (by kernel_rfl) (fun _ h => by cases h) addrBackUpto_row_tie rfl ⟨rfl, rfl⟩ (by kernel_rfl) rfl plain (by kernel_rfl)

end addrBack

theorem addrBackUpto_holds : Rows.AddrBackUptoCardSaid := addrBack.card
#print axioms addrBackUpto_holds

end Go.Proofs.YtbklagdegnflgaaDoor
