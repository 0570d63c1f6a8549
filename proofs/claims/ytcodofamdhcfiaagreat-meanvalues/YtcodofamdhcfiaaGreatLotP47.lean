import Derived.Test.YtcodofamdhcfiaaGreatLotP46
import Derived.Test.YtcodofamdhcfiaaGreatLotP1
import Derived.Test.YtcodofamdhcfiaaGreatRows
import Derived.ProofKit
import Derived.OpenShut
import Derived.ShutString
import Derived.ChangeOld
import Derived.SizedLaws
import Derived.JoinedCond
import Derived.Test.YtcodofamdhcfiaaGreatTyF
import Derived.Deep.Slices
import Derived.Test.YtcodofamdhcfiaaGreatLotP5
namespace Go.Proofs.YtcodofamdhcfiaaGreat
open Go.RowKit
set_option maxRecDepth 100000
theorem fld_rp (r : Rp) (W : World) : (Instr.field 46 (.agg (rpA r)) 3).run Tryz.prog W = .ok (.int .i64 r.sd) W := by kernel_rfl
set_option maxRecDepth 100000 in
set_option maxHeartbeats 8000000 in
theorem refvalue14_any (ao : Option Addr) (cap : Nat) (t : List Ng) (l : Lk) (way : Int) (a : Option Addr) (ca : Nat) (b : List UInt8) (w : World) (C : CV w ao (flatG t)) (hc0 : ao = none → cap = 0) (hm : (t.length + 2) * 72 ≤ 140737488355328) (hn : ∀ x ∈ t, x.n ≤ 4294967295) (hc : Cells w a b) (hb : b.length ≤ 140737488355328) (hcap : b.length ≤ ca) :
  Calls Tryz.prog 13 #[.slice ao t.length cap, .agg (lkA l), .int .i64 way, .slice a b.length ca] w fun e w' => e = .returned (valueA t l way b) ∧ w.grownBy w' none := by
 have HBL := box_lk l
 have L1 := VAt.alloc w 24 (lkA l)
 have K1 := World.grownBy_alloc w (.cells (lkA l) 24) none
 have HLS := lk_sz l
 have HCO : Hid (∀ W, w.grownBy W none → Calls Tryz.prog 15 #[.slice ao t.length cap, .agg (lkA l), .int .i64 way, .bool true] W fun e w' => e = .returned (.int .i64 (refuseM (cmpdM t) l way)) ∧ W.grownBy w' none) := fun W K => refcode_any true ao cap t l way W (C.keptNone K) hc0 hm hn
 have HLK : Hid (∀ W, w.grownBy W none → Calls Tryz.prog 16 #[.agg (lkA l), .slice a b.length ca] W fun e w' => e = .returned (.tuple #[.agg (vwA (exV Vw.zero (lookX l b))), .int .i64 (exE (lookX l b))]) ∧ W.grownBy w' none) := fun W K => reflook_any l a ca b W (hc.keptNone K) hb
 have HEV : Hid (∀ W v, w.grownBy W none → refuseM (cmpdM t) l way = 0 → lookX l b = .ok v → Calls Tryz.prog 17 #[.agg (sgA ⟨v, way, b⟩ a ca), .slice ao t.length cap] W fun e w' => ∃ r, e = .returned (.agg (rpA r)) ∧ (((evalM ⟨v, way, b⟩ [] t).getD 0 pm0).how = howR r ∧ (((evalM ⟨v, way, b⟩ [] t).getD 0 pm0).how = 1 → ((evalM ⟨v, way, b⟩ [] t).getD 0 pm0).val = r.v) ∧ (((evalM ⟨v, way, b⟩ [] t).getD 0 pm0).how ≠ 1 → ((evalM ⟨v, way, b⟩ [] t).getD 0 pm0).val = 0)) ∧ W.grownBy w' none) := fun W v K hr hl => by
  have h1 := (refuse_zero hr).1
  obtain ⟨p, h2, h3, h4⟩ := cmpd_iff.1 h1
  have h5 := walkG_weighs t [] _ 0 h2
  refine (refeval_any ⟨v, way, b⟩ a ca ao cap t p W (C.keptNone K) h2 (by omega) hn (hc.keptNone K) (look_sg way hl) hcap).mono ?_
  rintro e w' ⟨r, rfl, hq, K'⟩
  exact ⟨r, rfl, ⟨(hq.num h3).1, (hq.num h3).2, hq.ok.none⟩, K'⟩
 have HVS : Hid (∀ v, (Tryz.prog.info? 42).map (·.size) = some (vwA v).size ∧ 9 = (vwA v).size ∧ (vwA v).all (·.oneCell') = true) := fun v => ⟨vw_size v, rfl, vw_all v⟩
 have HSZ : Hid (∀ q, (Tryz.prog.info? 46).map (·.size) = some (rpA q).size ∧ 4 = (rpA q).size ∧ (rpA q).all (·.oneCell') = true) := fun q => ⟨rp_size q, rfl, rp_all q⟩
 have HFD := fld_rp
 have HBS := bld_sg
 obtain ⟨LA, hLA⟩ : ∃ LA, lkA l = LA := ⟨_, rfl⟩
 rw [hLA] at HBL L1 K1 HLS HCO HLK ⊢
 clear hLA C hc0 hm hn hc hb hcap
 obtain ⟨RR, hRR⟩ : ∃ R, valueA t l way b = R := ⟨_, rfl⟩
 rw [hRR]
 have HRR : Hid (RR = valueA t l way b) := hRR.symm
 clear hRR
 obtain ⟨E, hE⟩ : ∃ E, refuseM (cmpdM t) l way = E := ⟨_, rfl⟩
 rw [hE] at HCO HEV
 have HE : Hid (refuseM (cmpdM t) l way = E) := hE
 clear hE
 go_enter Tryz.func13, Tryz.ntmps13
 go_upto_region 1 with fail
 generalize w.alloc (.cells LA 24) = w1 at *
 generalize w.heap.size = B at *
 have HV1 : Hid (VAt w1 B 24 LA ∧ w.grownBy w1 none) := ⟨L1, K1⟩
 clear HBL L1 K1
 go_wp2_with (refine wpList_load_row rfl 24 (.tmp 5) rfl B rfl 24 LA (0, 0) _ HV1.out.1 Tryz.underlying24 rfl HLS ?_)
 refine (HCO.out w1 HV1.out.2).mono ?_
 rintro e w2 ⟨rfl, K2⟩
 have HV2 : Hid (VAt w2 B 24 LA ∧ w.grownBy w2 none) := ⟨HV1.out.1.kept K2, grown_trans HV1.out.2 K2⟩
 clear K2 HV1 HCO
 by_cases hE : E = 0
 case neg =>
  have hEb : (E != 0) = true := by rw [bne_iff_ne]; exact hE
  have HF : Hid (RR = .tuple #[.int .u32 0, .int .i64 0, .int .i64 E]) := by
   show RR = _
   rw [HRR.out]
   unfold valueA
   rw [HE.out, if_pos hE]
  clear hE HRR
  go_wp2
  go_ret3
  exact ⟨by rw [HF.out]; rfl, HV2.out.2⟩
 subst hE
 go_upto_region 4 with fail
 go_wp2_with (refine wpList_load_row rfl 24 (.tmp 5) rfl B rfl 24 LA (0, 0) _ HV2.out.1 Tryz.underlying24 rfl HLS ?_)
 refine (HLK.out w2 HV2.out.2).mono ?_
 rintro e w3 ⟨rfl, K3⟩
 have HG3 : Hid (w.grownBy w3 none) := grown_trans HV2.out.2 K3
 clear K3 HV2 HLK
 obtain ⟨vv, hvv⟩ : ∃ v, exV Vw.zero (lookX l b) = v := ⟨_, rfl⟩
 obtain ⟨ee, hee⟩ : ∃ e, exE (lookX l b) = e := ⟨_, rfl⟩
 rw [hvv, hee]
 have HVE : Hid (exV Vw.zero (lookX l b) = vv ∧ exE (lookX l b) = ee) := ⟨hvv, hee⟩
 clear hvv hee
 go_upto_region 5 with (refine wpList_store_row rfl 42 (.tmp 12) (.tmp 26) rfl w3.heap.size (vwA vv) rfl rfl 42 _ (heap_alloc_new w3 _) (HVS.out _).1 (HVS.out _).2.1 (HVS.out _).2.2 ?_)
 rw [World.setRow_alloc_new]
 have HV4 : Hid (VAt (w3.alloc (.cells (vwA vv) 42)) w3.heap.size 42 (vwA vv) ∧ w.grownBy (w3.alloc (.cells (vwA vv) 42)) none) := ⟨VAt.alloc _ _ _, grown_trans HG3.out (World.grownBy_alloc _ _ _)⟩
 generalize w3.alloc (.cells (vwA vv) 42) = w4 at *
 generalize w3.heap.size = V at *
 clear HG3
 try simp only [Act.put]
 cases hl : lookX l b with
 | error er =>
  have heb : (ee != 0) = true := by
   have := HVE.out.2
   rw [hl] at this
   rw [← this]
   exact look_err hl
  have HF : Hid (RR = .tuple #[.int .u32 0, .int .i64 2, .int .i64 0]) := by
   show RR = _
   rw [HRR.out]
   unfold valueA
   rw [HE.out, if_neg (by simp)]
   unfold meanM
   rw [hl]
   rfl
  clear HRR HVE hl
  go_wp2
  go_ret3
  exact ⟨by rw [HF.out]; rfl, HV4.out.2⟩
 | ok v =>
  obtain rfl : v = vv := by
   have := HVE.out.1
   rw [hl] at this
   exact this
  obtain rfl : ee = 0 := by
   have := HVE.out.2
   rw [hl] at this
   exact this.symm
  have HEC : Hid _ := fun W K => HEV.out W v K (by first | trivial | rfl) hl
  have HMM : Hid (meanM t l way b = (evalM ⟨v, way, b⟩ [] t).getD 0 pm0) := by
   show _ = _
   unfold meanM
   rw [hl]
  clear HVE hl HEV
  go_upto_region 7 with fail
  obtain ⟨VA, hVA⟩ : ∃ A, vwA v = A := ⟨_, rfl⟩
  obtain ⟨SA, hSA⟩ : ∃ A, sgA ⟨v, way, b⟩ a ca = A := ⟨_, rfl⟩
  have HB2 : Hid (∀ W : World, (Instr.build 48 #[(0, .agg VA), (1, .int .i64 way), (2, .slice a b.length ca)]).run Tryz.prog W = .ok (.agg SA) W) := fun W => by
   rw [← hVA, ← hSA]
   exact HBS v way b a ca W
  have HV5 : Hid (VAt w4 V 42 VA ∧ (Tryz.prog.info? 42).map (·.size) = some VA.size ∧ w.grownBy w4 none) := by
   rw [← hVA]
   exact ⟨HV4.out.1, (HVS.out v).1, HV4.out.2⟩
  rw [hSA] at HEC
  clear hVA hSA HBS HV4
  go_wp2_with (first
   | (refine wpList_load_row rfl 42 (.tmp 12) rfl V rfl 42 VA (0, 0) _ HV5.out.1 Tryz.underlying42 rfl HV5.out.2.1 ?_)
   | (refine wpList_bld rfl 48 _ rfl #[(0, .agg VA), (1, .int .i64 way), (2, .slice a b.length ca)] (by kernel_rfl) (.agg SA) HB2.out ?_))
  refine (HEC.out w4 HV5.out.2.2).mono ?_
  rintro e w6 ⟨r, rfl, hq, K6⟩
  have HG6 : Hid (w.grownBy w6 none) := grown_trans HV5.out.2.2 K6
  clear K6 HV5 HEC
  have HF : Hid (RR = .tuple #[.int .u32 ((meanM t l way b).val : Int), .int .i64 (meanM t l way b).how, .int .i64 0]) := by
   show RR = _
   rw [HRR.out]
   unfold valueA
   rw [HE.out, if_neg (by simp)]
  rw [HMM.out] at HF
  have HQ : Hid _ := hq
  clear hq HRR HMM HFD
  go_upto_region 8 with (refine wpList_store_row rfl 46 (.tmp 14) (.tmp 35) rfl w6.heap.size (rpA r) rfl rfl 46 _ (heap_alloc_new w6 _) (HSZ.out _).1 (HSZ.out _).2.1 (HSZ.out _).2.2 ?_)
  rw [World.setRow_alloc_new]
  have V7 := VAt.alloc w6 46 (rpA r)
  have HG7 : Hid (w.grownBy (w6.alloc (.cells (rpA r) 46)) none) := grown_trans HG6.out (World.grownBy_alloc _ _ _)
  generalize w6.alloc (.cells (rpA r) 46) = w7 at *
  generalize w6.heap.size = T at *
  obtain ⟨x0, x1, x2, -⟩ := rp_cells V7
  clear V7 HG6
  try simp only [Act.put]
  cases hab : r.ab with
  | true =>
   have e1 : howR r = 0 := by unfold howR; rw [hab]; rfl
   have HF2 : Hid (RR = .tuple #[.int .u32 0, .int .i64 0, .int .i64 0]) := by
    show RR = _
    have h1 := HQ.out.1
    rw [e1] at h1
    rw [HF.out, HQ.out.2.2 (by rw [h1]; decide), h1]
    rfl
   rw [hab] at x1
   clear e1 HF HQ hab
   go_wp2
   go_ret3
   exact ⟨by rw [HF2.out]; rfl, HG7.out⟩
  | false =>
   rw [hab] at x1
   cases hfl : r.fl with
   | true =>
    have e1 : howR r = 2 := by unfold howR; rw [hab, hfl]; rfl
    have HF2 : Hid (RR = .tuple #[.int .u32 0, .int .i64 2, .int .i64 0]) := by
     show RR = _
     have h1 := HQ.out.1
     rw [e1] at h1
     rw [HF.out, HQ.out.2.2 (by rw [h1]; decide), h1]
     rfl
    rw [hfl] at x2
    clear e1 HF HQ hab hfl
    go_wp2
    go_ret3
    exact ⟨by rw [HF2.out]; rfl, HG7.out⟩
   | false =>
    have e1 : howR r = 1 := by unfold howR; rw [hab, hfl]; rfl
    have HF2 : Hid (RR = .tuple #[.int .u32 (r.v : Int), .int .i64 1, .int .i64 0]) := by
     show RR = _
     have h1 := HQ.out.1
     rw [e1] at h1
     rw [HF.out, HQ.out.2.1 h1, h1]
    rw [hfl] at x2
    clear e1 HF HQ hab hfl
    go_wp2
    go_ret3
    exact ⟨by rw [HF2.out]; rfl, HG7.out⟩

open Go.ChangeShapes Go.WideShapes Go.ChangeAt Go.RowKit
theorem own : ownKnob Tryz.prog.godebug = none := by kernel_rfl
theorem laidOut : laidOutB Tryz.prog = true := by kernel_rfl
theorem bytes5 : Tryz.prog.bytesOf 5 = 1 := by kernel_rfl
theorem open_bytes {H : Type} {enc : TypeId × Value → H} {P : Program} {W : World} {t e : TypeId} {d : DataW H} {ps : List MemPlace} {a : Option Addr} {len cap : Nat}
  (ht : P.underlying t = some (.slice e)) (he : P.underlying e = some (.int .u8)) (hc : P.cellsOf e = 1)
  (h : DataW.Trod enc P W 0 (fun _ => true) true t (.slice a len cap) d ps) :
  ∃ xs : List UInt8, len = xs.length ∧ Cells W a xs ∧ (a = none → cap = 0) ∧ ((d = .nil ∧ xs = []) ∨ ∃ elems spare, d = .slice elems spare ∧ xs.length ≤ elems.length + spare.length) := by
 obtain ⟨fuel, hf⟩ := h
 rcases open_ints ht he hc hf with ⟨hcs, hx⟩ | ⟨x, l, c, zs, hcs, _, hl, hm, hz, hx, hcell, hwz⟩
 ·simp [Value.cells] at hcs
  obtain ⟨rfl, rfl, rfl⟩ := hcs
  simp only [Prod.mk.injEq] at hx
  exact ⟨[], rfl, ⟨fun _ => rfl, fun ad had => (by cases had)⟩, fun _ => rfl, .inl ⟨hx.1, rfl⟩⟩
 ·simp [Value.cells] at hcs
  obtain ⟨rfl, rfl, rfl⟩ := hcs
  simp only [Prod.mk.injEq] at hx
  have hz' : zs.length = cap := by simpa using hz
  have hlen : ((zs.take len).map fun z => UInt8.ofNat z.toNat).length = len := by simp; omega
  refine ⟨(zs.take len).map fun z => UInt8.ofNat z.toNat, hlen.symm, ⟨fun h => (by cases h), fun ad had i hi => ?_⟩, fun h => (by cases h), .inr ⟨_, _, hx.1, ?_⟩⟩
  ·obtain rfl := Option.some.inj had
   rw [hlen] at hi
   have hiz : i < zs.length := by omega
   rw [hcell i hiz]
   have hw := bounds_u8 (hwz (zs[i]) (List.getElem_mem hiz))
   simp only [List.getD_eq_getElem?_getD, List.getElem?_eq_getElem hiz, Option.getD_some, List.getElem_map, List.getElem_take, bv]
   congr 2
   simp
   omega
  ·rw [hlen]
   simp [lits]
   omega

open Go.ChangeShapes Go.WideShapes Go.ChangeAt Go.RowKit
theorem bytes52 : Tryz.prog.bytesOf 52 = 72 := by kernel_rfl
theorem cellsNd : Tryz.prog.cellsOf 52 = 24 := by kernel_rfl
theorem cellsI : Tryz.prog.cellsOf 3 = 1 := by kernel_rfl
theorem cellsU : Tryz.prog.cellsOf 37 = 1 := by kernel_rfl
theorem cellsB : Tryz.prog.cellsOf 5 = 1 := by kernel_rfl
theorem cellsA : Tryz.prog.cellsOf 50 = 16 := by kernel_rfl
def byteN : Value → UInt8
 | .int _ a => UInt8.ofNat a.toNat
 | _ => 0
def intN : Value → Int
 | .int _ a => a
 | _ => 0
def ivl (cs : List Value) (i : Nat) : Int := intN (cs.getD i undef)
def ngOf (cs : List Value) : Ng := ⟨ivl cs 0, ivl cs 1, (ivl cs 2).toNat, (ivl cs 3).toNat, ivl cs 4, ivl cs 5, ivl cs 6, ((cs.drop 7).take 16).map byteN, ivl cs 23⟩
def Ng.ok (x : Ng) : Prop := x.n ≤ 4294967295 ∧ x.m ≤ 4294967295 ∧ x.addr.length = 16
theorem arr16N {H : Type} {enc : TypeId × Value → H} {W : World} {base : Nat} {spare : Nat → Bool} {held : Bool} {fuel : Nat} {cs : List Value} {x : DataW H × List MemPlace}
  (h : DataW.trod enc Tryz.prog W base spare held fuel 50 cs = some x) : cs.length = 16 ∧ ∀ i (hi : i < cs.length), cs[i] = .int .u8 ((byteN cs[i]).toNat : Int) := by
 obtain ⟨ys, m, _, rfl, hl, hlen, hf⟩ := DataW.trod_array Tryz.underlying50 h
 rw [cellsA] at hl
 refine ⟨hl, fun i hi => ?_⟩
 have f := hf i (by omega)
 rw [cellsB, Nat.mul_one, List.getElem?_eq_getElem (by omega), List.drop_eq_getElem_cons hi, List.take_succ_cons, List.take_zero] at f
 obtain ⟨k, e, _, w⟩ := DataW.trod_int Tryz.underlying5 f
 simp only [List.cons.injEq, and_true] at e
 have b := bounds_u8 w
 rw [e]
 have z : ((UInt8.ofNat k.toNat).toNat : Int) = k := by simp; omega
 simp only [byteN, z]
theorem one_int {H : Type} {enc : TypeId × Value → H} {W : World} {base : Nat} {spare : Nat → Bool} {held : Bool} {fuel : Nat} {cs : List Value} {x : DataW H × List MemPlace} (o : Nat) (ho : o < cs.length)
  (h : DataW.trod enc Tryz.prog W base spare held fuel 3 ((cs.drop o).take 1) = some x) : cs[o] = .int .i64 (ivl cs o) := by
 rw [List.drop_eq_getElem_cons ho, List.take_succ_cons, List.take_zero] at h
 obtain ⟨k, e, _, _⟩ := DataW.trod_int Tryz.underlying3 h
 simp only [List.cons.injEq, and_true] at e
 unfold ivl
 rw [List.getD_eq_getElem?_getD, List.getElem?_eq_getElem ho, e]
 rfl
theorem one_u32 {H : Type} {enc : TypeId × Value → H} {W : World} {base : Nat} {spare : Nat → Bool} {held : Bool} {fuel : Nat} {cs : List Value} {x : DataW H × List MemPlace} (o : Nat) (ho : o < cs.length)
  (h : DataW.trod enc Tryz.prog W base spare held fuel 37 ((cs.drop o).take 1) = some x) : cs[o] = .int .u32 ((ivl cs o).toNat : Int) ∧ (ivl cs o).toNat ≤ 4294967295 := by
 rw [List.drop_eq_getElem_cons ho, List.take_succ_cons, List.take_zero] at h
 obtain ⟨k, e, _, w⟩ := DataW.trod_int Tryz.underlying37 h
 simp only [List.cons.injEq, and_true] at e
 have b := bounds_u32 w
 have hi : ivl cs o = k := by
  unfold ivl
  rw [List.getD_eq_getElem?_getD, List.getElem?_eq_getElem ho, e]
  rfl
 rw [hi]
 refine ⟨?_, by omega⟩
 rw [e]
 congr 1
 omega
theorem node_cells {H : Type} {enc : TypeId × Value → H} {W : World} {base : Nat} {spare : Nat → Bool} {held : Bool} {fuel : Nat} {cs : List Value} {x : DataW H × List MemPlace} (h : DataW.trod enc Tryz.prog W base spare held fuel 52 cs = some x) : cs = (ngOf cs).cells ∧ (ngOf cs).ok := by
 obtain ⟨ys, n, _, rfl, hl, hlen, hf⟩ := DataW.trod_struct Tryz.underlying52 h
 rw [cellsNd] at hl
 have hy9 : ys.length = 9 := hlen
 have hy : ∀ i, i < 9 → ∃ y, ys[i]? = some y := fun i hi => ⟨ys[i], List.getElem?_eq_getElem (by omega)⟩
 have f0 : DataW.trod enc Tryz.prog W base spare held n 3 ((cs.drop 0).take (Tryz.prog.cellsOf 3)) = ys[0]? := hf 0 _ rfl
 have f1 : DataW.trod enc Tryz.prog W base spare held n 3 ((cs.drop 1).take (Tryz.prog.cellsOf 3)) = ys[1]? := hf 1 _ rfl
 have f2 : DataW.trod enc Tryz.prog W base spare held n 37 ((cs.drop 2).take (Tryz.prog.cellsOf 37)) = ys[2]? := hf 2 _ rfl
 have f3 : DataW.trod enc Tryz.prog W base spare held n 37 ((cs.drop 3).take (Tryz.prog.cellsOf 37)) = ys[3]? := hf 3 _ rfl
 have f4 : DataW.trod enc Tryz.prog W base spare held n 3 ((cs.drop 4).take (Tryz.prog.cellsOf 3)) = ys[4]? := hf 4 _ rfl
 have f5 : DataW.trod enc Tryz.prog W base spare held n 3 ((cs.drop 5).take (Tryz.prog.cellsOf 3)) = ys[5]? := hf 5 _ rfl
 have f6 : DataW.trod enc Tryz.prog W base spare held n 3 ((cs.drop 6).take (Tryz.prog.cellsOf 3)) = ys[6]? := hf 6 _ rfl
 have f7 : DataW.trod enc Tryz.prog W base spare held n 50 ((cs.drop 7).take (Tryz.prog.cellsOf 50)) = ys[7]? := hf 7 _ rfl
 have f8 : DataW.trod enc Tryz.prog W base spare held n 3 ((cs.drop 23).take (Tryz.prog.cellsOf 3)) = ys[8]? := hf 8 _ rfl
 rw [cellsI] at f0 f1 f4 f5 f6 f8
 rw [cellsU] at f2 f3
 rw [cellsA] at f7
 obtain ⟨y0, h0⟩ := hy 0 (by omega)
 obtain ⟨y1, h1⟩ := hy 1 (by omega)
 obtain ⟨y2, h2⟩ := hy 2 (by omega)
 obtain ⟨y3, h3⟩ := hy 3 (by omega)
 obtain ⟨y4, h4⟩ := hy 4 (by omega)
 obtain ⟨y5, h5⟩ := hy 5 (by omega)
 obtain ⟨y6, h6⟩ := hy 6 (by omega)
 obtain ⟨y7, h7⟩ := hy 7 (by omega)
 obtain ⟨y8, h8⟩ := hy 8 (by omega)
 have e0 := one_int 0 (by omega) (f0.trans h0)
 have e1 := one_int 1 (by omega) (f1.trans h1)
 have e2 := one_u32 2 (by omega) (f2.trans h2)
 have e3 := one_u32 3 (by omega) (f3.trans h3)
 have e4 := one_int 4 (by omega) (f4.trans h4)
 have e5 := one_int 5 (by omega) (f5.trans h5)
 have e6 := one_int 6 (by omega) (f6.trans h6)
 have e8 := one_int 23 (by omega) (f8.trans h8)
 obtain ⟨l7, e7⟩ := arr16N (f7.trans h7)
 have a7 : ∀ i (hi : i < 16), cs[7 + i]'(by omega) = adg (ngOf cs) i := fun i hi => by
  have := e7 i (by omega)
  rw [List.getElem_take, List.getElem_drop] at this
  rw [this]
  unfold adg ngOf
  simp only
  rw [List.getD_eq_getElem?_getD, List.getElem?_map, List.getElem?_eq_getElem (by omega), List.getElem_take, List.getElem_drop]
  rfl
 refine ⟨?_, e2.2, e3.2, by simp [ngOf, hl]⟩
 apply List.ext_getElem
 ·rw [hl]; rfl
 ·intro i hi1 hi2
  have hi : i < 24 := by omega
  have : i = 0 ∨ i = 1 ∨ i = 2 ∨ i = 3 ∨ i = 4 ∨ i = 5 ∨ i = 6 ∨ i = 7 ∨ i = 8 ∨ i = 9 ∨ i = 10 ∨ i = 11 ∨ i = 12 ∨ i = 13 ∨ i = 14 ∨ i = 15 ∨ i = 16 ∨ i = 17 ∨ i = 18 ∨ i = 19 ∨ i = 20 ∨ i = 21 ∨ i = 22 ∨ i = 23 := by omega
  rcases this with rfl | rfl | rfl | rfl | rfl | rfl | rfl | rfl | rfl | rfl | rfl | rfl | rfl | rfl | rfl | rfl | rfl | rfl | rfl | rfl | rfl | rfl | rfl | rfl
  ·exact e0
  ·exact e1
  ·exact e2.1
  ·exact e3.1
  ·exact e4
  ·exact e5
  ·exact e6
  ·exact a7 0 (by omega)
  ·exact a7 1 (by omega)
  ·exact a7 2 (by omega)
  ·exact a7 3 (by omega)
  ·exact a7 4 (by omega)
  ·exact a7 5 (by omega)
  ·exact a7 6 (by omega)
  ·exact a7 7 (by omega)
  ·exact a7 8 (by omega)
  ·exact a7 9 (by omega)
  ·exact a7 10 (by omega)
  ·exact a7 11 (by omega)
  ·exact a7 12 (by omega)
  ·exact a7 13 (by omega)
  ·exact a7 14 (by omega)
  ·exact a7 15 (by omega)
  ·exact e8
theorem open_nodes {H : Type} {enc : TypeId × Value → H} {W : World} {d : DataW H} {ps : List MemPlace} {a : Option Addr} {len cap : Nat}
  (h : DataW.Trod enc Tryz.prog W 0 (fun _ => true) true 22 (.slice a len cap) d ps) :
  ∃ xs : List Ng, len = xs.length ∧ CV W a (flatG xs) ∧ (a = none → cap = 0) ∧ (xs.length ≤ cap ∧ cap ≤ maxLen) ∧ (∀ x ∈ xs, x.ok) ∧ ((d = .nil ∧ xs = []) ∨ ∃ elems spare, d = .slice elems spare ∧ xs.length ≤ elems.length + spare.length) := by
 obtain ⟨fuel, hf⟩ := h
 rcases Go.Deep.open_slice Tryz.underlying22 hf with ⟨hcs, hx⟩ | ⟨x, l, c, m, n, D, Pl, hcs, _, hl, hm, hmm, hx, hcell⟩
 ·simp [Value.cells] at hcs
  obtain ⟨rfl, rfl, rfl⟩ := hcs
  simp only [Prod.mk.injEq] at hx
  exact ⟨[], rfl, ⟨fun _ => rfl, fun ad had => (by cases had)⟩, fun _ => rfl, ⟨Nat.le_refl _, Nat.zero_le _⟩, (fun x hx => by cases hx), .inl ⟨hx.1, rfl⟩⟩
 ·simp [Value.cells] at hcs
  obtain ⟨rfl, rfl, rfl⟩ := hcs
  simp only [Prod.mk.injEq] at hx
  simp only [if_true] at hmm
  have hmm' : m = cap := hmm
  rw [cellsNd] at hcell
  have hlen : ((List.range len).map fun i => ngOf ((W.cells? 0 (x.add (i * 24)) 24).getD [])).length = len := by simp
  refine ⟨(List.range len).map fun i => ngOf ((W.cells? 0 (x.add (i * 24)) 24).getD []), hlen.symm, ⟨fun h => (by cases h), fun ad had q hq => ?_⟩, fun h => (by cases h), ⟨by rw [hlen]; exact hl, hm⟩, fun y hy => ?_, .inr ⟨_, _, hx.1, ?_⟩⟩
  ·obtain rfl := Option.some.inj had
   have hq4 : q < len * 24 := by rw [flatG_len, hlen] at hq; exact hq
   obtain ⟨cs', hcs', htr⟩ := hcell (q / 24) (by omega)
   obtain ⟨_, hl4, hget⟩ := World.cells?_some hcs'
   have hk := (node_cells htr).1
   have hj : q % 24 < 24 := Nat.mod_lt _ (by decide)
   have e1 : (x.add (q / 24 * 24)).add (q % 24) = x.add q := by
    rw [Addr.add_add]
    congr 1
    omega
   have e2 := hget (q % 24) hj
   rw [e1] at e2
   rw [e2]
   have e3 := flatG_get ((List.range len).map fun i => ngOf ((W.cells? 0 (x.add (i * 24)) 24).getD [])) (q / 24) (q % 24) (by rw [hlen]; omega) hj
   rw [show q / 24 * 24 + q % 24 = q by omega, List.getElem?_eq_getElem hq] at e3
   rw [e3]
   simp only [List.getElem_map, List.getElem_range, hcs', Option.getD_some]
   rw [← hk]
  ·obtain ⟨i, hi, rfl⟩ := List.mem_map.1 hy
   rw [List.mem_range] at hi
   obtain ⟨cs', hcs', htr⟩ := hcell i (by omega)
   rw [hcs', Option.getD_some]
   exact (node_cells htr).2
  ·rw [hlen]
   simp

open Go.ChangeShapes Go.WideShapes Go.ChangeAt Go.RowKit
theorem cellsLink : Tryz.prog.cellsOf 24 = 3 := by kernel_rfl
theorem cellsBool : Tryz.prog.cellsOf 4 = 1 := by kernel_rfl
theorem cellsInt : Tryz.prog.cellsOf 3 = 1 := by kernel_rfl
def lkOf : List Value → Lk
 | [.bool a, .bool b, .int _ c] => ⟨a, b, c⟩
 | _ => ⟨false, false, 0⟩
theorem link_cells {H : Type} {enc : TypeId × Value → H} {W : World} {base : Nat} {spare : Nat → Bool} {held : Bool} {fuel : Nat} {cs : List Value} {x : DataW H × List MemPlace} (h : DataW.trod enc Tryz.prog W base spare held fuel 24 cs = some x) : cs = (lkA (lkOf cs)).toList := by
 obtain ⟨ys, n, _, rfl, hl, hlen, hf⟩ := DataW.trod_struct Tryz.underlying24 h
 rw [cellsLink] at hl
 match cs, hl with
 | [c0, c1, c2], _ =>
  match ys, hlen with
  | [y0, y1, y2], _ =>
   have f0 : DataW.trod enc Tryz.prog W base spare held n 4 (([c0, c1, c2].drop 0).take (Tryz.prog.cellsOf 4)) = some y0 := hf 0 _ rfl
   have f1 : DataW.trod enc Tryz.prog W base spare held n 4 (([c0, c1, c2].drop 1).take (Tryz.prog.cellsOf 4)) = some y1 := hf 1 _ rfl
   have f2 : DataW.trod enc Tryz.prog W base spare held n 3 (([c0, c1, c2].drop 2).take (Tryz.prog.cellsOf 3)) = some y2 := hf 2 _ rfl
   rw [cellsBool] at f0 f1
   rw [cellsInt] at f2
   obtain ⟨n0, e0, _⟩ := DataW.trod_bool Tryz.underlying4 f0
   obtain ⟨n1, e1, _⟩ := DataW.trod_bool Tryz.underlying4 f1
   obtain ⟨n2, e2, _, _⟩ := DataW.trod_int Tryz.underlying3 f2
   simp at e0 e1 e2
   subst e0 e1 e2
   rfl
theorem open_link {H : Type} {enc : TypeId × Value → H} {W : World} {d : DataW H} {ps : List MemPlace} {v : Value}
  (h : DataW.Trod enc Tryz.prog W 0 (fun _ => true) true 24 v d ps) : ∃ x : Lk, v = .agg (lkA x) := by
 obtain ⟨fuel, hf⟩ := h
 have e := link_cells hf
 refine ⟨lkOf v.cells.toList, ?_⟩
 cases v with
 | agg cs =>
  simp only [Value.cells] at e ⊢
  congr 1
  exact Array.toList_inj.1 e
 | _ => have := congrArg List.length e; simp [Value.cells, lkA] at this
theorem open_cap {H : Type} {enc : TypeId × Value → H} {P : Program} {W : World} {t e : TypeId} {d : DataW H} {ps : List MemPlace} {a : Option Addr} {len cap : Nat}
  (ht : P.underlying t = some (.slice e)) (he : P.underlying e = some (.int .u8)) (hc : P.cellsOf e = 1)
  (h : DataW.Trod enc P W 0 (fun _ => true) true t (.slice a len cap) d ps) : len ≤ cap := by
 obtain ⟨fuel, hf⟩ := h
 rcases open_ints ht he hc hf with ⟨hcs, hx⟩ | ⟨x, l, c, zs, hcs, _, hl, hm, hz, hx, hcell, hwz⟩
 ·simp [Value.cells] at hcs
  obtain ⟨rfl, rfl, rfl⟩ := hcs
  exact Nat.le_refl _
 ·simp [Value.cells] at hcs
  obtain ⟨rfl, rfl, rfl⟩ := hcs
  exact hl

end Go.Proofs.YtcodofamdhcfiaaGreat
