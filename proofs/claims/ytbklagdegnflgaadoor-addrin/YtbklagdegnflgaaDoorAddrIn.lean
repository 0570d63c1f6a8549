/-
  For every address of sixteen bytes, number and choice of its first four bytes riddlelaw6.AddrIn returns true and leaves what was there as it was: no condition.
-/
import Derived.Test.YtbklagdegnflgaaDoorOpenA
import Derived.Test.YtbklagdegnflgaaDoorAwake6
import Derived.Test.YtbklagdegnflgaaDoorLaid6
import Derived.Test.YtbklagdegnflgaaDoorAddrN
import Derived.Test.YtbklagdegnflgaaDoorLow
namespace Go.Proofs.YtbklagdegnflgaaDoor
open Go.ChangeShapes Go.WideShapes Go.ChangeAt Go.RowKit
open Go.ChangeMaps (open_string shut_string)
set_option maxRecDepth 100000
namespace addrIn

theorem AAt.front {w : World} {g t : Nat} {xs : List UInt8} (h : AAt w g t xs) (n : Nat) : Cells w (some ⟨g, 0, none⟩) (xs.take n) := by
  refine ⟨fun e => (by cases e), fun ad had i hi => ?_⟩
  obtain rfl := Option.some.inj had
  have hi' : i < xs.length := by rw [List.length_take] at hi; omega
  rw [Addr.add_lit, Nat.zero_add, h.cell hi', List.getElem_take]
  rfl

theorem rd2 {w : World} {base : Nat} {v : Value} {xs : List UInt8} (h : Owns w base v xs) : ∃ ao cap, v = .slice ao xs.length cap ∧ Cells w ao xs ∧ (ao = none → cap = 0) ∧ (∀ ad, ao = some ad → base ≤ ad.block) := by
  obtain ⟨ao, cap, e, hc, -, -, h0, hb, -⟩ := cv_of_row h
  exact ⟨ao, cap, e, hc.cells, h0, fun ad had => (hb ad had).1⟩

set_option maxRecDepth 100000 in
set_option maxHeartbeats 4000000 in
theorem walk (xs : List UInt8) (x : Int) (four : Bool) (w : World) (h16 : xs.length = 16) (T : Tab w) :
    Calls Tryd.prog 8 #[.agg (xs.map bv).toArray, .int .i64 x, .bool four] w fun e w' => e = .returned (.bool true) ∧ w.grownBy w' none := by
  have HTb : Hid (Tab w) := T
  clear T
  have A0 := AAt.alloc w 29 xs
  have G0 := World.grownBy_alloc w (.cells (xs.map bv).toArray 29) none
  have H16 : Hid (xs.length = 16) := h16
  clear h16
  go_enter Tryd.func8, Tryd.ntmps8
  go_upto_region 1 with fail
  generalize w.alloc (.cells (xs.map bv).toArray 29) = w1 at *
  generalize w.heap.size = A at *
  have HA0 : Hid (AAt w1 A 29 xs) := A0
  clear A0
  go_upto_if 21 with fail
  go_cut [2, 7, 21] (fun _ s _ wx => ∃ N : Nat, (N = 4 ∨ N = 16) ∧ s = .slice (some ⟨A, 0, none⟩) N 16 ∧ wx = w1)
  case first =>
    cases four with
    | true =>
      go_wp2
      go_meet
      exact ⟨4, .inl rfl, rfl, rfl⟩
    | false =>
      go_wp2
      go_meet
      exact ⟨16, .inr rfl, rfl, rfl⟩
  case rest =>
    obtain ⟨N, hN, rfl, hwx⟩ := hcut
    subst hwx
    obtain ⟨w2, hw2⟩ : ∃ w2 : World, w2 = wc := ⟨_, rfl⟩
    subst hw2
    have hn4 : 4 ≤ N := by omega
    have hn16 : N ≤ 16 := by omega
    have HN : Hid (N = 4 ∨ N = 16) := hN
    have HBL : Hid ((xs.take N).length = N) := by
      show (xs.take N).length = N
      rw [List.length_take]; have := H16.out; omega
    have HBC : Hid (Cells w2 (some ⟨A, 0, none⟩) (xs.take N)) := AAt.front HA0.out N
    clear hN
    generalize xs.take N = bs at *
    obtain rfl := HBL.out
    clear HBL
    have hlw := lowV_lt x
    generalize hlow : lowV x = lw at *
    have CL : Hid (∀ W : World, Calls Tryd.prog 27 #[.int .i64 x] W fun e w' => e = .returned (.int .i64 (lw : Int)) ∧ W = w') := fun W => by rw [← hlow]; exact low_any x W
    clear hlow
    have hd0 : ((8 * (bs.length : Int)) == 0) = false := by rw [beq_eq_false_iff_ne]; omega
    have hd1 : ¬ (8 * (bs.length : Int)) = 0 := by omega
    go_wp2_with fail
    refine (CL.out _).mono ?_
    rintro e w3 ⟨rfl, rfl⟩
    go_upto_region 5 with fail
    obtain ⟨k, hk⟩ : ∃ k : Nat, lw % (8 * bs.length) = k := ⟨_, rfl⟩
    have hki : (lw : Int) % (8 * (bs.length : Int)) = (k : Int) := by rw [← hk]; simp
    have hk8 : k < 8 * bs.length := by rw [← hk]; exact Nat.mod_lt _ (by omega)
    rw [hki]
    clear hki hk hd0 hd1 CL hlw
    go_wp2_with fail
    refine (copy_any (some ⟨A, 0, none⟩) 16 bs _ HBC.out (by simp) (by omega)).mono ?_
    rintro e w4 ⟨v4, rfl, O4, K4⟩
    obtain ⟨g, cap, rfl, hcap, hcm, hg, hg2⟩ := owns_head O4 (by omega)
    have HB4 := HBC.out.keptNone K4
    have G4 := grown_trans G0 K4
    obtain ⟨q, hq⟩ : ∃ q : Nat, k / 8 = q := ⟨_, rfl⟩
    obtain ⟨m, hm⟩ : ∃ m : Nat, k % 8 = m := ⟨_, rfl⟩
    have hqi : (k : Int) / 8 = (q : Int) := by omega
    have hmi : (k : Int) % 8 = (m : Int) := by omega
    have hm8 : m < 8 := by omega
    have hqN : q < bs.length := by omega
    have hql : (q : Int) < (bs.length : Int) := by omega
    have bl := (BlkN.ofRow O4).1
    have hfr := bl.free q
    have hcell : w4.cell? ⟨g, q, none⟩ = some (.int .u8 (bs[q].toNat : Int)) := by
      have := O4.cells (g := g) rfl q (.int .u8 (bs[q].toNat : Int)) (by rw [List.getElem?_map, List.getElem?_eq_getElem hqN]; rfl)
      rw [Addr.add_lit, Nat.zero_add] at this
      exact this
    obtain ⟨u, hu, hu8⟩ : ∃ u : Nat, bs[q].toNat ^^^ (128 / 2 ^ m) = u ∧ u < 256 := ⟨_, rfl, (bits_xor ⟨bs[q].toNat, by have := bs[q].toNat_lt; omega⟩ ⟨m, hm8⟩).2.1⟩
    have hX : bits BinOp.xor IntKind.u8 (bs[q].toNat : Int) (128 / 2 ^ m) = (u : Int) := by
      have := (bits_xor ⟨bs[q].toNat, by have := bs[q].toNat_lt; omega⟩ ⟨m, hm8⟩).1
      simp only at this
      rw [hu] at this
      rw [← this]
      simp
    have HF : Hid (flipV bs k = bs.set q (UInt8.ofNat u)) := by
      show flipV bs k = _
      have := flip_at bs k (by rw [hq]; exact hqN)
      simp only [hq, hm, flipB, hu] at this
      exact this
    have O5 : Owns (w4.setCell ⟨g, q, none⟩ (.int .u8 (u : Int))) w2.heap.size (.slice (some ⟨g, 0, none⟩) bs.length cap) (flipV bs k) := by
      have := (World.ownsRow.stored O4 q (.int .u8 (u : Int))).1
      have e2 : bv (UInt8.ofNat u) = .int .u8 (u : Int) := by
        unfold bv
        rw [UInt8.toNat_ofNat_of_lt' (by simpa using hu8)]
      unfold Owns
      rw [flipV_len, HF.out, List.map_set, e2]
      exact this
    have hgw : w.heap.size ≤ g := by have := G0.size; omega
    have hgA : g ≠ A := by
      intro e
      have := AAt.lt HA0.out
      omega
    have HB5 : Cells (w4.setCell ⟨g, q, none⟩ (.int .u8 (u : Int))) (some ⟨A, 0, none⟩) bs := HB4.kept (row := some g) (grown_setCell (World.grownBy.refl _ _) _ _ (.inl rfl)) (fun ad had _ e => by
      obtain rfl := Option.some.inj had
      exact hgA (Option.some.inj e).symm)
    have G5 : w.grownBy (w4.setCell ⟨g, q, none⟩ (.int .u8 (u : Int))) none := grown_setCell G4 _ _ (.inr hgw)
    go_upto_region 6 with fail
    go_region
    have O6 : Owns ((w4.setCell ⟨g, q, none⟩ (.int .u8 (u : Int))).drew) w2.heap.size (.slice (some ⟨g, 0, none⟩) bs.length cap) (flipV bs k) := World.ownsRow.drew O5
    have HB6 : Hid (Cells ((w4.setCell ⟨g, q, none⟩ (.int .u8 (u : Int))).drew) (some ⟨A, 0, none⟩) bs) := HB5.keptNone (grown_drewN _ 1 none)
    have G6 : w.grownBy ((w4.setCell ⟨g, q, none⟩ (.int .u8 (u : Int))).drew) none := grown_trans G5 (grown_drewN _ 1 none)
    have HC6 : Hid (Cells ((w4.setCell ⟨g, q, none⟩ (.int .u8 (u : Int))).drew) (some ⟨g, 0, none⟩) (flipV bs k)) := by
      obtain ⟨ao, cp, e, hc, -⟩ := O6.rd
      rw [flipV_len] at e
      injection e with e1 e2 e3
      subst e1
      exact hc
    generalize (w4.setCell ⟨g, q, none⟩ (.int .u8 (u : Int))).drew = w6 at *
    clear O6 O5 HB5 G5 HB4 G4 O4 K4 hcell hfr bl hX HF hg2 hu8 hu
    clear w4
    have HCL : Hid ((flipV bs k).length = bs.length) := flipV_len bs k
    have HMF : Hid (∀ n, maskV n (flipV bs k) = maskV n bs ↔ n ≤ k) := fun n => mask_flip bs n k hk8
    have HCC : Hid (∀ W : World, Cells W (some ⟨g, 0, none⟩) (flipV bs k) → Calls Tryd.prog 22 #[.slice (some ⟨g, 0, none⟩) bs.length cap] W fun e w' => ∃ v, e = .returned v ∧ Owns w' W.heap.size v (flipV bs k) ∧ W.grownBy w' none) := fun W h => by
      have := copy_any (some ⟨g, 0, none⟩) cap (flipV bs k) W h (by simp) (by rw [flipV_len]; omega)
      rw [flipV_len] at this
      exact this
    generalize flipV bs k = cs at *
    rw [hmi]
    go_wp2
    go_loopw [10] (fun i wr => ∃ n : Nat, n ≤ 8 * bs.length + 1 ∧ i = .int .i64 n ∧ w6.grownBy wr none) (fun i _ => 8 * bs.length + 1 - (intOf i).toNat)
    case atStart => exact ⟨0, Nat.zero_le _, rfl, World.grownBy.refl _ _⟩
    case round =>
      obtain ⟨n, hn, rfl, G⟩ := hrel
      by_cases hle : n ≤ 8 * bs.length
      · have hle' : (n : Int) ≤ 8 * (bs.length : Int) := by omega
        have l1 := law_net bs n HN.out hle
        have l2 := law_in bs bs n HN.out rfl hle
        have l3 := law_in cs bs n (by rw [HCL.out]; exact HN.out) HCL.out.symm (by rw [HCL.out]; exact hle)
        rw [decide_eq_true rfl] at l2
        have hdk : decide (maskV n cs = maskV n bs) = decide ((n : Int) ≤ (k : Int)) := by
          rw [decide_eq_decide, HMF.out n]
          omega
        rw [hdk] at l3
        have hml := mask_len n bs
        have HHost : Hid (n ≤ k → inE bs (setV (maskV n bs) k) (n : Int) = 62 ∧ inV bs (setV (maskV n bs) k) (n : Int) = false) := fun h => law_host bs _ n HN.out (by rw [setV_len, mask_len]) hle (mask_set bs n k hk8 h)
        have CN : Hid (∀ (W : World) a c, Cells W a bs → (a = none → c = 0) → Calls Tryd.prog 20 #[.slice a bs.length c, .int .i64 (n : Int)] W fun e w' => ∃ v, e = .returned (.tuple #[v, .int .i64 0]) ∧ Owns w' W.heap.size v (maskV n bs) ∧ W.grownBy w' none) := fun W a c h h0 => by
          have := net_any a c bs n W h h0 (by omega)
          rw [l1.1, l1.2] at this
          exact this
        have CI : Hid (∀ (W : World) a c b d, Cells W a bs → (a = none → c = 0) → Cells W b (maskV n bs) → (b = none → d = 0) → Calls Tryd.prog 25 #[.slice a bs.length c, .slice b (maskV n bs).length d, .int .i64 (n : Int)] W fun e w' => e = .returned (.tuple #[.bool true, .int .i64 0]) ∧ W.grownBy w' none) := fun W a c b d h h0 h' h0' => by
          have := in_any6 a c bs b d (maskV n bs) n W h h0 (by omega) h' h0'
          rw [l2.1, l2.2] at this
          exact this
        have CJ : Hid (∀ (W : World) a c b d, Cells W a cs → (a = none → c = 0) → Cells W b (maskV n bs) → (b = none → d = 0) → Calls Tryd.prog 25 #[.slice a cs.length c, .slice b (maskV n bs).length d, .int .i64 (n : Int)] W fun e w' => e = .returned (.tuple #[.bool (decide ((n : Int) ≤ (k : Int))), .int .i64 0]) ∧ W.grownBy w' none) := fun W a c b d h h0 h' h0' => by
          have := in_any6 a c cs b d (maskV n bs) n W h h0 (by rw [HCL.out]; omega) h' h0'
          rw [l3.1, l3.2] at this
          exact this
        clear l1 l2 l3 hdk
        have HML : Hid ((maskV n bs).length = bs.length) := hml
        clear hml
        generalize maskV n bs = ms at *
        have HBr : Hid (∀ W : World, wr.grownBy W none → Cells W (some ⟨A, 0, none⟩) bs) := fun W h => (HB6.out.keptNone G).keptNone h
        have HCr : Hid (∀ W : World, wr.grownBy W none → Cells W (some ⟨g, 0, none⟩) cs) := fun W h => (HC6.out.keptNone G).keptNone h
        have hms : ms.length ≤ 16 := by have := HML.out; omega
        go_wp2_with fail
        refine (copy_any (some ⟨A, 0, none⟩) 16 bs _ (HBr.out _ (World.grownBy.refl _ _)) (by simp) (by omega)).mono ?_
        rintro e w7 ⟨v7, rfl, O7, K7⟩
        obtain ⟨a7, c7, rfl, D7, h7, -⟩ := rd2 O7
        clear O7
        go_wp2_with fail
        refine (CN.out _ _ _ D7 h7).mono ?_
        rintro e w8 ⟨v8, rfl, O8, K8⟩
        obtain ⟨a8, c8, rfl, D8, h8, -⟩ := rd2 O8
        have G8 := grown_trans K7 K8
        clear O8 D7 K7 K8
        go_wp2_with fail
        refine (copy_any (some ⟨A, 0, none⟩) 16 bs _ (HBr.out _ G8) (by simp) (by omega)).mono ?_
        rintro e w9 ⟨v9, rfl, O9, K9⟩
        obtain ⟨a9, c9, rfl, D9, h9, -⟩ := rd2 O9
        have G9 := grown_trans G8 K9
        have E9 := D8.keptNone K9
        clear O9 D8 K9 G8
        go_wp2_with fail
        refine (copy_any a8 c8 ms _ E9 h8 (by omega)).mono ?_
        rintro e w10 ⟨v10, rfl, O10, K10⟩
        obtain ⟨a10, c10, rfl, D10, h10, -⟩ := rd2 O10
        have G10 := grown_trans G9 K10
        have E10 := E9.keptNone K10
        have F10 := D9.keptNone K10
        clear O10 D9 K10 G9 E9
        go_wp2_with fail
        refine (CI.out _ _ _ _ _ F10 h9 D10 h10).mono ?_
        rintro e w11 ⟨rfl, K11⟩
        have G11 := grown_trans G10 K11
        have E11 := E10.keptNone K11
        clear D10 F10 E10 G10 K11
        go_wp2_with fail
        refine (HCC.out _ (HCr.out _ G11)).mono ?_
        rintro e w12 ⟨v12, rfl, O12, K12⟩
        obtain ⟨a12, c12, rfl, D12, h12, -⟩ := rd2 O12
        have G12 := grown_trans G11 K12
        have E12 := E11.keptNone K12
        clear O12 E11 G11 K12
        go_wp2_with fail
        refine (copy_any a8 c8 ms _ E12 h8 (by omega)).mono ?_
        rintro e w13 ⟨v13, rfl, O13, K13⟩
        obtain ⟨a13, c13, rfl, D13, h13, -⟩ := rd2 O13
        have G13 := grown_trans G12 K13
        have E13 := E12.keptNone K13
        have F13 := D12.keptNone K13
        clear O13 D12 K13 G12 E12
        go_wp2_with fail
        refine (CJ.out _ _ _ _ _ F13 h12 D13 h13).mono ?_
        rintro e w14 ⟨rfl, K14⟩
        have G14 := grown_trans G13 K14
        have E14 := E13.keptNone K14
        clear D13 F13 E13 G13 K14 CN CI CJ HCC
        by_cases hnk : (n : Int) ≤ (k : Int)
        · rw [decide_eq_true hnk]
          have hn8 : (n : Int) < 8 * (bs.length : Int) := by omega
          obtain ⟨hE, hV⟩ := HHost.out (by omega)
          go_wp2_with fail
          refine (copy_any a8 c8 ms _ E14 h8 (by omega)).mono ?_
          rintro e w15 ⟨v15, rfl, O15, K15⟩
          have hmq : q < ms.length := by have := HML.out; omega
          obtain ⟨g5, cap5, rfl, hcap5, hcm5, hg5, hg6⟩ := owns_head O15 (by omega)
          have G15 := grown_trans G14 K15
          have bl5 := (BlkN.ofRow O15).1
          have hfr5 := bl5.free q
          have hql5 : (q : Int) < (ms.length : Int) := by omega
          have hcell5 : w15.cell? ⟨g5, q, none⟩ = some (.int .u8 (ms[q].toNat : Int)) := by
            have := O15.cells (g := g5) rfl q (.int .u8 (ms[q].toNat : Int)) (by rw [List.getElem?_map, List.getElem?_eq_getElem hmq]; rfl)
            rw [Addr.add_lit, Nat.zero_add] at this
            exact this
          obtain ⟨u5, hu5, hu58⟩ : ∃ u5 : Nat, ms[q].toNat ||| (128 / 2 ^ m) = u5 ∧ u5 < 256 := ⟨_, rfl, (bits_xor ⟨ms[q].toNat, by have := ms[q].toNat_lt; omega⟩ ⟨m, hm8⟩).2.2.2⟩
          have hX5 : bits BinOp.or IntKind.u8 (ms[q].toNat : Int) (128 / 2 ^ m) = (u5 : Int) := by
            have := (bits_xor ⟨ms[q].toNat, by have := ms[q].toNat_lt; omega⟩ ⟨m, hm8⟩).2.2.1
            simp only at this
            rw [hu5] at this
            rw [← this]
            simp
          have HF5 : Hid (setV ms k = ms.set q (UInt8.ofNat u5)) := by
            show setV ms k = _
            have := set_at ms k (by rw [hq]; exact hmq)
            simp only [hq, hm, orB, hu5] at this
            exact this
          have O16 : Owns (w15.setCell ⟨g5, q, none⟩ (.int .u8 (u5 : Int))) w14.heap.size (.slice (some ⟨g5, 0, none⟩) ms.length cap5) (setV ms k) := by
            have := (World.ownsRow.stored O15 q (.int .u8 (u5 : Int))).1
            have e2 : bv (UInt8.ofNat u5) = .int .u8 (u5 : Int) := by
              unfold bv
              rw [UInt8.toNat_ofNat_of_lt' (by simpa using hu58)]
            unfold Owns
            rw [setV_len, HF5.out, List.map_set, e2]
            exact this
          have hgw5 : wr.heap.size ≤ g5 := by have := G14.size; omega
          have G16 : wr.grownBy (w15.setCell ⟨g5, q, none⟩ (.int .u8 (u5 : Int))) none := grown_setCell G15 _ _ (.inr hgw5)
          go_upto_region 17 with fail
          go_region
          have O17 : Owns ((w15.setCell ⟨g5, q, none⟩ (.int .u8 (u5 : Int))).drew) w14.heap.size (.slice (some ⟨g5, 0, none⟩) ms.length cap5) (setV ms k) := World.ownsRow.drew O16
          have G17 : wr.grownBy ((w15.setCell ⟨g5, q, none⟩ (.int .u8 (u5 : Int))).drew) none := grown_trans G16 (grown_drewN _ 1 none)
          have C17 : Cells ((w15.setCell ⟨g5, q, none⟩ (.int .u8 (u5 : Int))).drew) (some ⟨g5, 0, none⟩) (setV ms k) := by
            obtain ⟨ao, cp, e, hc, -⟩ := O17.rd
            rw [setV_len] at e
            injection e with e1 e2 e3
            subst e1
            exact hc
          generalize (w15.setCell ⟨g5, q, none⟩ (.int .u8 (u5 : Int))).drew = w17 at *
          have CH : Hid (∀ (W : World) a c, Cells W a bs → (a = none → c = 0) → Cells W (some ⟨g5, 0, none⟩) (setV ms k) → Calls Tryd.prog 25 #[.slice a bs.length c, .slice (some ⟨g5, 0, none⟩) ms.length cap5, .int .i64 (n : Int)] W fun e w' => e = .returned (.tuple #[.bool false, .int .i64 62]) ∧ W.grownBy w' none) := fun W a c h h0 h' => by
            have := in_any6 a c bs (some ⟨g5, 0, none⟩) cap5 (setV ms k) n W h h0 (by omega) h' (by simp)
            rw [hE, hV, setV_len] at this
            exact this
          clear hE hV O17 O16 G16 G15 O15 hcell5 hfr5 bl5 hX5 HF5 hu5 hu58 K15 hg6 E14 G14
          go_wp2_with fail
          refine (copy_any (some ⟨A, 0, none⟩) 16 bs _ (HBr.out _ G17) (by simp) (by omega)).mono ?_
          rintro e w18 ⟨v18, rfl, O18, K18⟩
          obtain ⟨a18, c18, rfl, D18, h18, -⟩ := rd2 O18
          have G18 := grown_trans G17 K18
          have C18 := C17.keptNone K18
          clear O18 K18 C17 G17
          go_wp2_with fail
          refine (CH.out _ _ _ D18 h18 C18).mono ?_
          rintro e w19 ⟨rfl, K19⟩
          have GN := grown_trans G (grown_trans G18 K19)
          clear D18 C18 G18 K19 CH
          go_wp2
          go_roundw
          case rel => exact ⟨n + 1, by omega, by go_num, GN⟩
          case measure => simp [intOf]; omega
        · rw [decide_eq_false hnk]
          have GN := grown_trans G G14
          have hcase : (n : Int) < 8 * (bs.length : Int) ∨ ¬ (n : Int) < 8 * (bs.length : Int) := by omega
          rcases hcase with hc | hc
          all_goals
            go_wp2
            go_roundw
            case rel => exact ⟨n + 1, by omega, by go_num, GN⟩
            case measure => simp [intOf]; omega
      · have hle' : ¬ (n : Int) ≤ 8 * (bs.length : Int) := by omega
        go_wp2_with fail
        refine (awake6_any _ (HTb.out.grown (grown_trans G6 G))).mono ?_
        rintro e w7 ⟨rfl, K7⟩
        go_wp2
        go_ret
        exact ⟨rfl, grown_trans (grown_trans G6 G) K7⟩

set_option maxRecDepth 100000 in
theorem lifted (os : Os) (started : os.Started) (H : Type) (enc : TypeId × Value → H) (F : Stop.Interp) :
    ReturnsInHanded {} Tryd.checked os 8 .any ((OpenSpec.ofChange Rows.addrInSpec).preRow enc Tryd.prog Tryd.f8 Rows.addrInRow.domain false Rows.addrInRow.laid) (((OpenSpec.ofChange Rows.addrInSpec).at F).post enc Tryd.prog Tryd.f8 false true false false) := by
  have hx : DataW.whole enc Tryd.prog ((laidWorld os).forCall (fun _ _ => 0) ⟨#[], #[.agg #[.int .u8 0, .int .u8 0, .int .u8 0, .int .u8 0, .int .u8 0, .int .u8 0, .int .u8 0, .int .u8 0, .int .u8 0, .int .u8 0, .int .u8 0, .int .u8 0, .int .u8 0, .int .u8 0, .int .u8 0, .int .u8 0], .int .i64 0, .bool false], []⟩).memory Tryd.f8.params.toList Rows.addrInSpec.vars false (#[.agg #[.int .u8 0, .int .u8 0, .int .u8 0, .int .u8 0, .int .u8 0, .int .u8 0, .int .u8 0, .int .u8 0, .int .u8 0, .int .u8 0, .int .u8 0, .int .u8 0, .int .u8 0, .int .u8 0, .int .u8 0, .int .u8 0], .int .i64 0, .bool false] : Array Value).toList 8 = some ([.agg [.lit (.int .u8 0), .lit (.int .u8 0), .lit (.int .u8 0), .lit (.int .u8 0), .lit (.int .u8 0), .lit (.int .u8 0), .lit (.int .u8 0), .lit (.int .u8 0), .lit (.int .u8 0), .lit (.int .u8 0), .lit (.int .u8 0), .lit (.int .u8 0), .lit (.int .u8 0), .lit (.int .u8 0), .lit (.int .u8 0), .lit (.int .u8 0)], .lit (.int .i64 0), .lit (.bool false)], [], []) := by kernel_rfl
  refine returnsInHanded_of_row (C := Tryd.checked) (s := (OpenSpec.ofChange Rows.addrInSpec)) own started (by kernel_rfl) Tryd.func8
    (witness_row_at (enc := enc) (C := Tryd.checked) false (laidWorld os) #[.agg #[.int .u8 0, .int .u8 0, .int .u8 0, .int .u8 0, .int .u8 0, .int .u8 0, .int .u8 0, .int .u8 0, .int .u8 0, .int .u8 0, .int .u8 0, .int .u8 0, .int .u8 0, .int .u8 0, .int .u8 0, .int .u8 0], .int .i64 0, .bool false] rfl (by kernel_rfl) (by kernel_rfl) (by kernel_rfl)
      (OpenSpec.preRow_of_cond 8 hx (by kernel_rfl) (fun k hk => by cases hk) (by kernel_rfl) (laid_met os _))) ?_
  intro W base args ds gs before hval0 hW hcnd hcond hsz0 hL hsh _
  have hsz : (DataW.weightsEach Tryd.prog (Tryd.f8.params.toList ++ Rows.addrInSpec.plain.varTypes Tryd.prog) (ds ++ gs)).all (· ≤ reachBytes) = true := hsz0
  have T : Tab W := laid_tab hL hsh
  have hval : ∀ (j : Nat) t v, Tryd.f8.params[j]? = some t → args[j]? = some v → Value.okWide Tryd.prog W .any base t v := hval0
  have hW' := hW
  obtain ⟨p, q, hA0, hV, rfl, hfz, hnd⟩ := hW
  have hA : DataW.TrodAll enc Tryd.prog W 0 (fun _ => true) true Tryd.f8.params.toList args.toList ds p := hA0
  rw [Tryd.params8] at hA hval hsz
  obtain ⟨v0, vs0, d0, ds0, p0, q0, hargs, rfl, rfl, h0, r0⟩ := trodAll_cons hA
  obtain ⟨v1, vs1, d1, ds1, p1, q1, rfl, rfl, rfl, h1, r1⟩ := trodAll_cons r0
  obtain ⟨v2, vs2, d2, ds2, p2, q2, rfl, rfl, rfl, h2, r2⟩ := trodAll_cons r1
  obtain ⟨rfl, rfl, rfl⟩ := trodAll_nil r2
  obtain rfl : args = #[v0, v1, v2] := by cases args; simp_all
  obtain ⟨rfl, rfl⟩ := trodVars_none hV
  have k0 := h0
  have lt0 : ∀ x ∈ p0, x.block < W.heap.size := by obtain ⟨m, hm⟩ := k0; exact DataW.trod_lt m _ _ _ hm
  obtain ⟨x0, xl0, rfl⟩ := open_arr Tryd.underlying29 (by kernel_rfl) (by decide) h0
  obtain ⟨x1, rfl, rfl, rfl, w1⟩ := open_int Tryd.underlying3 (hval 1 3 v1 rfl rfl) h1
  obtain ⟨x2, rfl, rfl, rfl⟩ := open_bool Tryd.underlying4 (hval 2 4 v2 rfl rfl) h2
  clear hA0 hval0
  refine (walk x0 x1 x2 W xl0 T).mono fun e W' ⟨he, hg⟩ => ?_
  subst he
  have bel : Below W.heap.size W W' := (Below.refl _ _).grown hg (Nat.le_refl _) (by simp)
  exact ⟨_, rfl, _, _, _, [], _, [], hW', trodAll_mk1 (shut_bool Tryd.underlying4 _), (trodAll_cons_mk (Below.trod laidOut (by kernel_rfl) (of_decide_eq_true (by kernel_rfl)) k0 bel lt0) (trodAll_cons_mk (shut_int Tryd.underlying3 w1) (trodAll_cons_mk (shut_bool Tryd.underlying4 x2) trodAll_mk0))), rfl, bel.frame _, fun h => by cases h⟩

theorem over : Rows.AddrInSaid :=
  OpenClaim.holds_of_cond 8 Tryd.f8 rfl rfl rfl rfl rfl rfl rfl ⟨rfl, rfl, rfl, rfl, rfl⟩ rfl rfl rfl rfl rfl (by kernel_rfl) Tryd.func8 (by kernel_rfl)
    (of_decide_eq_true (by kernel_rfl)) (by unfold Func.isWrapper; first | (rw [if_pos (by decide +kernel)]; kernel_rfl) | (rw [if_neg (by decide +kernel)]; exact ⟨rfl, rfl⟩))
    (fun os started H enc _ F => by rw [OpenClaim.pre_eq_preRow]; exact lifted os started H enc F)

theorem plain (f : FuncId) (fn : Func) (hf : Tryd.pinned.checked.prog.funcNamed "riddle/riddlelaw6.AddrIn" = some f) (hfn : Tryd.pinned.checked.prog.funcs[f]? = some fn) :
    false = Tryd.pinned.checked.prog.looks [] ∧ ∀ (j : Nat) t, fn.params[j]? = some t → Tryd.pinned.checked.prog.wantsStandIn t = false := by
  obtain rfl : f = 8 := Option.some.inj ((show Tryd.prog.funcNamed "riddle/riddlelaw6.AddrIn" = some 8 by kernel_rfl).symm.trans hf) |>.symm
  obtain rfl : fn = Tryd.f8 := (Option.some.inj (Tryd.func8.symm.trans hfn)).symm
  refine ⟨by kernel_rfl, fun j t ht => ?_⟩
  rw [Tryd.params8] at ht
  have ht2 := Array.mem_of_getElem? ht
  simp only [List.mem_toArray, List.mem_cons, List.not_mem_nil, or_false] at ht2
  rcases ht2 with rfl | rfl | rfl
  · exact (show Tryd.prog.wantsStandIn 29 = false by kernel_rfl)
  · exact (show Tryd.prog.wantsStandIn 3 = false by kernel_rfl)
  · exact (show Tryd.prog.wantsStandIn 4 = false by kernel_rfl)

theorem card : Rows.AddrInCardSaid :=
  Claim7.holds_tied_plain_at .later [] _ _ _ _ over (fun _ h => by cases h) (by kernel_rfl) (fun _ h => by cases h) addrIn_row_tie rfl ⟨rfl, rfl⟩ (by kernel_rfl) rfl plain (by kernel_rfl)

end addrIn

theorem addrIn_holds : Rows.AddrInCardSaid := addrIn.card
#print axioms addrIn_holds

end Go.Proofs.YtbklagdegnflgaaDoor
