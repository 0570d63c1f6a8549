import Derived.Test.YtklipelnjgpnjaaGreatDoorLotB48
import Derived.Test.YtklipelnjgpnjaaGreatDoorLotB6
import Derived.Test.YtklipelnjgpnjaaGreatDoorLotB35
import Derived.Test.YtklipelnjgpnjaaGreatDoorLotB23
import Derived.Test.YtklipelnjgpnjaaGreatDoorLotB12
import Derived.Test.YtklipelnjgpnjaaGreatDoorCards
import Derived.Test.YtklipelnjgpnjaaGreatDoorTie
import Derived.Test.YtklipelnjgpnjaaGreatDoorLotB38
import Derived.Test.YtklipelnjgpnjaaGreatDoorLotB37
import Derived.Deep.DeepHandedRow
import Derived.Deep.DeepWitnessRowRef
import Derived.Stop.LaidErr
import Derived.SliceStrings
import Derived.Lay
import Derived.Lib.LaidTab
import Derived.Shelf.Vars
set_option maxHeartbeats 64000000
set_option maxRecDepth 100000
namespace Go.Proofs.YtklipelnjgpnjaaGreatDoor
open Go.RowKit
theorem aM6 {s : List UInt8} {t : List Ng} {ns : List (Nd × Nat)} (hp : a1Q s = .ok ns) (hf : ns.map (·.1.g) = t) (hs : s.length ≤ 140737488355328) (W : World) (TW : a1d W) :
  Calls Tryz.prog 17 #[.string ⟨s.toArray⟩] W fun e w' => ∃ ao cap vp, e = .returned (.tuple #[.slice ao t.length cap, vp, .int .i64 0, .int .i64 0]) ∧ CV w' ao (q9 t) ∧ (ao = none → cap = 0) ∧ W.grownBy w' none := by
 refine (aP8 ⟨s.toArray⟩ (by simpa [ByteArray.size] using hs) W TW).mono ?_
 rintro e w' ⟨vt, vp, rfl, O, -, G⟩
 have hsl : sl ⟨s.toArray⟩ = s := by simp [sl]
 rw [hsl, hp] at O ⊢
 simp only [prN, prP, prE] at O ⊢
 obtain ⟨ao, cap, rfl, C, -, -, h0, -, -⟩ := T0 O
 rw [← at5, List.map_map] at C
 subst hf
 refine ⟨ao, cap, vp, by rw [List.length_map, List.length_map]; rfl, C, h0, G⟩
theorem ac6 {bf : Nat} {full : Bool} (HB : ∀ (l : Int) (w : World), Calls Tryz.prog bf #[.int .i64 l] w fun e w' => e = .returned (.int .i64 (gfB full l)) ∧ w' = w) (HF : ∀ (xs : Array Value) (w : World), (callFunc bf xs).run Tryz.prog w = .ok (.enter bf xs) w) (nb no cap : Nat) (t : List Ng) (T : Tr) (hw : T.Wf) (hf : T.flat = t) (hok : (L8 t).2 = 0) (hn : ∀ x ∈ t, x.n ≤ 4294967295) (hmm : ∀ x ∈ t, x.m ≤ 4294967295) (w : World) (TA : j7 w) (C : CV w (some ⟨nb, no, none⟩) (q9 t)) :
  Calls Tryz.prog 24 #[.slice (some ⟨nb, no, none⟩) t.length cap, .func (.func bf) #[] #[]] w fun e w' => e = .returned (a0k full T) ∧ w.grownBy w' none := by
 obtain ⟨hty, hnok, hl, hne⟩ := as8 hok hn hmm hw hf
 have hne := hne full
 have htl := a5z full T
 rw [hf] at htl
 have CK := a5Z (some ⟨nb, no, none⟩) cap t w C (by omega) hn
 unfold a1v at CK
 rw [hok] at CK
 have HWR : Hid (∀ W, w.grownBy W none → Calls Tryz.prog 45 #[.slice (some ⟨nb, no, none⟩) t.length cap, .func (.func bf) #[] #[]] W fun e w' => ∃ v ts, e = .returned (.agg #[v, .int .i64 0, .int .i64 ((T.txt full).2 : Int)]) ∧ w'.ownsRow W.heap.size 9 1 v ts.length (ts.map str) ∧ ts.reverse.flatten = (T.txt full).1 ∧ ts.length ≤ 800000 ∧ (ts = [] → (T.txt full).1 = []) ∧ W.grownBy w' none) := fun W G => b1e HB HF nb no cap t T hw hty hf hnok (by omega) W (fun V hV => (TA.grown G).grown (a0L hV)) (C.keptNone G)
 have HTL : Hid ((T.txt full).1.length ≤ 1600 * t.length ∧ t.length ≤ 3000) := ⟨htl.1, hl⟩
 have hd := htl.2
 have HS : Hid (a0k full T = if 200 < (T.txt full).2 then .tuple #[str [], .int .i64 131] else .tuple #[str (T.txt full).1, .int .i64 0]) := rfl
 have HNE : Hid ((T.txt full).1 ≠ []) := hne
 obtain ⟨R, hR⟩ : ∃ R, a0k full T = R := ⟨_, rfl⟩
 rw [hR] at HS ⊢
 obtain ⟨tx, htx⟩ : ∃ tx, (T.txt full).1 = tx := ⟨_, rfl⟩
 obtain ⟨dx, hdx⟩ : ∃ dx, (T.txt full).2 = dx := ⟨_, rfl⟩
 rw [htx] at HTL HNE
 rw [htx, hdx] at HS HWR
 rw [hdx] at hd
 clear htl hne hR htx hdx TA C hn hmm hok hnok hty hw hf
 go_enter Tryz.func24, Tryz.ntmps24
 have HCK : Hid (Calls _ _ _ _ _) := CK
 clear CK hd
 go_wp2_with fail
 refine HCK.out.mono ?_
 rintro e w1 ⟨rfl, K1⟩
 have HK1 : Hid (w.grownBy w1 none) := K1
 have CW := HWR.out w1 K1
 have HCW : Hid (Calls _ _ _ _ _) := CW
 clear HCK K1 HWR CW
 go_wp2_with fail
 refine HCW.out.mono ?_
 rintro e w2 ⟨v, ts, rfl, O, hts, htl, hnil, K2⟩
 obtain ⟨ao, n2, c2, rfl⟩ : ∃ ao n c, v = .slice ao n c := by rcases O.2 with ⟨rfl, -⟩ | ⟨g, cap, cur, rfl, -⟩ <;> exact ⟨_, _, _, rfl⟩
 have HO : Hid (w2.ownsRow w1.heap.size 9 1 (.slice ao n2 c2) ts.length (ts.map str)) := O
 have HTS : Hid (ts.reverse.flatten = tx ∧ ts.length ≤ 800000 ∧ (ts = [] → tx = [])) := ⟨hts, htl, hnil⟩
 have HK2 : Hid (w1.grownBy w2 none) := K2
 clear HCW O hts htl hnil K2
 by_cases h200 : 200 < dx
 ·have hdec : (200 : Int) < (dx : Int) := by omega
  rw [if_pos h200] at HS
  clear h200
  go_wp2
  go_ret2
  refine ⟨?_, ?_⟩
  ·rw [HS.out]
   rfl
  ·exact d3 (d3 HK1.out HK2.out) (World.grownBy_alloc _ _ _)
 ·have hdec : ¬ ((200 : Int) < (dx : Int)) := by omega
  rw [if_neg h200] at HS
  clear h200
  go_wp2_with fail
  have hne : ts ≠ [] := fun e => HNE.out (HTS.out.2.2 e)
  have G3 := World.grownBy_alloc w2 (.cells #[.slice ao n2 c2, .int .i64 0, .int .i64 (dx : Int)] 87) none
  have V3 : VAt (w2.alloc (.cells #[.slice ao n2 c2, .int .i64 0, .int .i64 (dx : Int)] 87)) w2.heap.size 87 #[.slice ao n2 c2, .int .i64 0, .int .i64 (dx : Int)] := VAt.alloc _ _ _
  have HT := aZ9 w1.heap.size w1.heap.size w2.heap.size ts (.slice ao n2 c2) 0 (dx : Int) (w2.alloc (.cells #[.slice ao n2 c2, .int .i64 0, .int .i64 (dx : Int)] 87)) (fun e => by have := (HO.out.lt _ e).2; omega) (Nat.le_refl _) ⟨V3, E7 HO.out G3⟩ hne (by have := HTS.out.2.1; omega) (by rw [HTS.out.1]; have := HTL.out; omega)
  have HG3 : Hid (w.grownBy (w2.alloc (.cells #[.slice ao n2 c2, .int .i64 0, .int .i64 (dx : Int)] 87)) none) := d3 (d3 HK1.out HK2.out) G3
  have HL : Hid (w.heap.size ≤ w1.heap.size) := HK1.out.size
  rw [HTS.out.1] at HT
  refine HT.mono ?_
  clear HT G3 V3 hne
  rintro e w4 ⟨rfl, B4⟩
  go_wp2
  go_ret2
  refine ⟨?_, ?_⟩
  ·rw [HS.out]
   rfl
  ·exact a0L ((a1u HG3.out).trans (B4.mono HL.out))
theorem ac7 {bf : Nat} (ao : Option Addr) (cap : Nat) (t : List Ng) (hno : (L8 t).2 ≠ 0) (hm : t.length * 72 ≤ 140737488355328) (hn : ∀ x ∈ t, x.n ≤ 4294967295) (w : World) (C : CV w ao (q9 t)) :
  Calls Tryz.prog 24 #[.slice ao t.length cap, .func (.func bf) #[] #[]] w fun e w' => e = .returned (.tuple #[str [], .int .i64 130]) ∧ w.grownBy w' none := by
 have CK := a5Z ao cap t w C hm hn
 unfold a1v at CK
 have hne : ((L8 t).2 != 0) = true := by rw [bne_iff_ne]; exact hno
 have HCK : Hid (Calls _ _ _ _ _) := CK
 generalize (L8 t).2 = ce at *
 generalize (L8 t).1 = cn at *
 clear CK C hno hn hm
 go_enter Tryz.func24, Tryz.ntmps24
 go_wp2_with fail
 refine HCK.out.mono ?_
 rintro e w1 ⟨rfl, K1⟩
 clear HCK
 go_wp2
 go_ret2
 exact ⟨rfl, K1⟩
theorem ab9 (t : List Ng) (ao : Option Addr) (cap : Nat) (w : World) (R : Value) (r1 r2 : Value) (hR : R = .tuple #[r1, r2]) (H : Calls Tryz.prog 24 #[.slice ao t.length cap, .func (.func 25) #[] #[]] w fun e w' => e = .returned R ∧ w.grownBy w' none) :
  Calls Tryz.prog 11 #[.slice ao t.length cap] w fun e w' => e = .returned R ∧ w.grownBy w' none := by
 subst hR
 have HH : Hid (Calls _ _ _ _ _) := H
 clear H
 go_enter Tryz.func11, Tryz.ntmps11
 go_wp2_with fail
 refine HH.out.mono ?_
 rintro e w1 ⟨rfl, K1⟩
 clear HH
 go_wp2
 go_ret2
 exact ⟨rfl, K1⟩
theorem aV0 (T : Tr) : ∃ r1 r2, a0k false T = .tuple #[r1, r2] := by
 unfold a0k
 split <;> exact ⟨_, _, rfl⟩
theorem ab7 (ao : Option Addr) (cap : Nat) (t : List Ng) (T : Tr) (hw : T.Wf) (hf : T.flat = t) (hok : (L8 t).2 = 0) (hn : ∀ x ∈ t, x.n ≤ 4294967295) (hmm : ∀ x ∈ t, x.m ≤ 4294967295) (w : World) (TA : j7 w) (C : CV w ao (q9 t)) :
  Calls Tryz.prog 11 #[.slice ao t.length cap] w fun e w' => e = .returned (a0k false T) ∧ w.grownBy w' none := by
 have ht : 0 < t.length := by rw [← hf]; exact List.length_pos_iff.2 T.flat_ne
 obtain ⟨b, o, rfl, -⟩ := C.ngs (k := 0) ht
 obtain ⟨r1, r2, hr⟩ := aV0 T
 exact ab9 t _ cap w _ r1 r2 hr (ac6 (full := false) ak2 ao5 b o cap t T hw hf hok hn hmm w TA C)
theorem aV2 (ao : Option Addr) (cap : Nat) (t : List Ng) (hno : (L8 t).2 ≠ 0) (hm : t.length * 72 ≤ 140737488355328) (hn : ∀ x ∈ t, x.n ≤ 4294967295) (w : World) (C : CV w ao (q9 t)) :
  Calls Tryz.prog 11 #[.slice ao t.length cap] w fun e w' => e = .returned (.tuple #[str [], .int .i64 130]) ∧ w.grownBy w' none :=
 ab9 t ao cap w _ _ _ rfl (ac7 ao cap t hno hm hn w C)
theorem ab8 (t : List Ng) (ao : Option Addr) (cap : Nat) (w : World) (R : Value) (r1 r2 : Value) (hR : R = .tuple #[r1, r2]) (H : Calls Tryz.prog 24 #[.slice ao t.length cap, .func (.func 27) #[] #[]] w fun e w' => e = .returned R ∧ w.grownBy w' none) :
  Calls Tryz.prog 13 #[.slice ao t.length cap] w fun e w' => e = .returned R ∧ w.grownBy w' none := by
 subst hR
 have HH : Hid (Calls _ _ _ _ _) := H
 clear H
 go_enter Tryz.func13, Tryz.ntmps13
 go_wp2_with fail
 refine HH.out.mono ?_
 rintro e w1 ⟨rfl, K1⟩
 clear HH
 go_wp2
 go_ret2
 exact ⟨rfl, K1⟩
theorem aU9 (T : Tr) : ∃ r1 r2, a0k true T = .tuple #[r1, r2] := by
 unfold a0k
 split <;> exact ⟨_, _, rfl⟩
theorem ab6 (ao : Option Addr) (cap : Nat) (t : List Ng) (T : Tr) (hw : T.Wf) (hf : T.flat = t) (hok : (L8 t).2 = 0) (hn : ∀ x ∈ t, x.n ≤ 4294967295) (hmm : ∀ x ∈ t, x.m ≤ 4294967295) (w : World) (TA : j7 w) (C : CV w ao (q9 t)) :
  Calls Tryz.prog 13 #[.slice ao t.length cap] w fun e w' => e = .returned (a0k true T) ∧ w.grownBy w' none := by
 have ht : 0 < t.length := by rw [← hf]; exact List.length_pos_iff.2 T.flat_ne
 obtain ⟨b, o, rfl, -⟩ := C.ngs (k := 0) ht
 obtain ⟨r1, r2, hr⟩ := aU9 T
 exact ab8 t _ cap w _ r1 r2 hr (ac6 (full := true) ak1 ao4 b o cap t T hw hf hok hn hmm w TA C)
theorem aV1 (ao : Option Addr) (cap : Nat) (t : List Ng) (hno : (L8 t).2 ≠ 0) (hm : t.length * 72 ≤ 140737488355328) (hn : ∀ x ∈ t, x.n ≤ 4294967295) (w : World) (C : CV w ao (q9 t)) :
  Calls Tryz.prog 13 #[.slice ao t.length cap] w fun e w' => e = .returned (.tuple #[str [], .int .i64 130]) ∧ w.grownBy w' none :=
 ab8 t ao cap w _ _ _ rfl (ac7 ao cap t hno hm hn w C)
def aw1 : Ng := { ngZ with kind := 11, of := 2 }
def aw2 : Ng := { ngZ with kind := 11, of := 5 }
def aw3 : Ng := { ngZ with kind := 9 }
def aw4 : Ng := { ngZ with kind := 8 }
def awT : Tr := .one aw3 (.two aw4 (.leaf aw1) (.one aw3 (.leaf aw2)))
theorem a86 : awT.Wf := ⟨rfl, rfl, rfl, rfl, rfl⟩
theorem a85 : (L8 [aw1, aw2, aw3, aw4, aw3]).2 = 0 := by kernel_rfl
theorem aj7 : a0k false awT = .tuple #[.string ⟨#[110, 111, 116, 32, 40, 105, 112, 32, 111, 114, 32, 110, 111, 116, 32, 117, 100, 112, 41]⟩, .int .i64 0] := by kernel_rfl
theorem aj6 : a0k true awT = .tuple #[.string ⟨#[110, 111, 116, 32, 40, 105, 112, 32, 111, 114, 32, 40, 110, 111, 116, 32, 117, 100, 112, 41, 41]⟩, .int .i64 0] := by kernel_rfl
theorem a4z (w : World) (TA : j7 w) : Calls Tryz.prog 14 #[] w fun e w' => e = .returned (.bool true) ∧ w.grownBy w' none := by
 have HCS : Hid (∀ W, w.grownBy W none → CV W (some ⟨w.heap.size, 0, none⟩) (q9 [aw1, aw2, aw3, aw4, aw3]) → Calls Tryz.prog 11 #[.slice (some ⟨w.heap.size, 0, none⟩) 5 5] W fun e w' => e = .returned (.tuple #[.string ⟨#[110, 111, 116, 32, 40, 105, 112, 32, 111, 114, 32, 110, 111, 116, 32, 117, 100, 112, 41]⟩, .int .i64 0]) ∧ W.grownBy w' none) := fun W G C => by
  have := ab7 _ 5 [aw1, aw2, aw3, aw4, aw3] awT a86 rfl a85 (by simp [aw1, aw2, aw3, aw4, ngZ]) (by simp [aw1, aw2, aw3, aw4, ngZ]) W (TA.grown G) C
  rw [aj7] at this
  exact this
 have HCF : Hid (∀ W, w.grownBy W none → CV W (some ⟨w.heap.size, 0, none⟩) (q9 [aw1, aw2, aw3, aw4, aw3]) → Calls Tryz.prog 13 #[.slice (some ⟨w.heap.size, 0, none⟩) 5 5] W fun e w' => e = .returned (.tuple #[.string ⟨#[110, 111, 116, 32, 40, 105, 112, 32, 111, 114, 32, 40, 110, 111, 116, 32, 117, 100, 112, 41, 41]⟩, .int .i64 0]) ∧ W.grownBy w' none) := fun W G C => by
  have := ab6 _ 5 [aw1, aw2, aw3, aw4, aw3] awT a86 rfl a85 (by simp [aw1, aw2, aw3, aw4, ngZ]) (by simp [aw1, aw2, aw3, aw4, ngZ]) W (TA.grown G) C
  rw [aj6] at this
  exact this
 clear TA
 go_enter Tryz.func14, Tryz.ntmps14
 go_upto_region 2 with fail
 generalize hW : w.alloc (Obj.cells _ 43) = W
 have hW' : w.alloc (.cells (q9 [aw1, aw2, aw3, aw4, aw3]).toArray 43) = W := hW
 clear hW
 have G : w.grownBy W none := hW' ▸ World.grownBy_alloc _ _ _
 have C : CV W (some ⟨w.heap.size, 0, none⟩) (q9 [aw1, aw2, aw3, aw4, aw3]) := by
  rw [← hW']
  exact ⟨fun h => (by cases h), fun ad had j hj => by
   obtain rfl := Option.some.inj had
   have e : ((⟨w.heap.size, 0, none⟩ : Addr).add j) = ⟨w.heap.size, j, none⟩ := by unfold Addr.add; split <;> simp_all
   rw [e, VAt.cell (VAt.alloc w _ _) j]
   simp [hj]⟩
 have HG : Hid (w.grownBy W none) := G
 have HC : Hid (CV W (some ⟨w.heap.size, 0, none⟩) (q9 [aw1, aw2, aw3, aw4, aw3])) := C
 clear hW' G C
 go_wp2_with fail
 refine (HCS.out W HG.out HC.out).mono ?_
 rintro e w2 ⟨rfl, K2⟩
 have HK2 : Hid (W.grownBy w2 none) := K2
 clear K2 HCS
 go_wp2_with fail
 refine (HCF.out w2 (d3 HG.out HK2.out) (HC.out.keptNone HK2.out)).mono ?_
 rintro e w3 ⟨rfl, K3⟩
 clear HCF
 go_wp2
 go_ret
 exact ⟨rfl, d3 (d3 HG.out HK2.out) K3⟩

open Go.ChangeShapes Go.WideShapes Go.ChangeAt Go.RowKit
def a2w : List (String × DataW Unit) := [("math/bits.deBruijn32tab", Rows.laid_math_bits_deBruijn32tab), ("math/bits.deBruijn64tab", Rows.laid_math_bits_deBruijn64tab), ("internal/strconv.uint64pow10", Rows.laid_internal_strconv_uint64pow10), ("strconv.ErrRange", Rows.laid_strconv_ErrRange), ("strconv.ErrSyntax", Rows.laid_strconv_ErrSyntax), ("riddle/lex.signs", Rows.laid_riddle_lex_signs)]
theorem ab4 : Tryz.prog.globalNamed "riddle/lex.signs" = some 0 := by kernel_rfl
theorem aU3 : (Tryz.prog.globals[0]?).map (·.type) = some 82 := by kernel_rfl
theorem aU1 : Tryz.prog.cellsOf 9 = 1 := by kernel_rfl
theorem as4 : Tryz.prog.globalNamed "strconv.ErrSyntax" = some 2 := by kernel_rfl
theorem as5 : (Tryz.prog.globals[2]?).map (·.type) = some 152 := by kernel_rfl
theorem as2 : Tryz.prog.globalNamed "strconv.ErrRange" = some 3 := by kernel_rfl
theorem as3 : (Tryz.prog.globals[3]?).map (·.type) = some 152 := by kernel_rfl
theorem aU2 : (Rows.laid_riddle_lex_signs : DataW Unit) = .slice (a0S.map fun l => .lit (.string l)) [] := by kernel_rfl
theorem a92 {W : World} {n nm : String} {d : DataW Unit} {r : List (String × DataW Unit)} {g : Nat} (h : laidMet Tryz.prog ((n, .iface nm d) :: r) W) (hg : Tryz.prog.globalNamed n = some g) (ht : (Tryz.prog.globals[g]?).map (·.type) = some 152) :
  ∃ t v, W.cell? ⟨g, 0, none⟩ = some (.iface t v) := by
 obtain ⟨ps, ⟨g', t', cs, fuel, p, q, hg', ht', hv, hd, _, _⟩, _⟩ := h
 obtain rfl := Option.some.inj (hg.symm.trans hg')
 obtain rfl := Option.some.inj (ht.symm.trans ht')
 obtain ⟨l⟩ := cs
 obtain ⟨f1, u, v, hl, -, -⟩ := iface_of_trod Tryz.underlying152 hd
 simp only at hl
 subst hl
 exact ⟨u, v, by simpa using World.var?_cell hg hv 0⟩
theorem aW7 {W : World} {r : List (String × DataW Unit)} (h : laidMet Tryz.prog (("riddle/lex.signs", Rows.laid_riddle_lex_signs) :: r) W) :
  ∃ ao cap, W.cell? ⟨0, 0, none⟩ = some (.slice ao 25 cap) ∧ CV W ao (a0S.map str) := by
 obtain ⟨ps, ⟨g', t', cs, fuel, p, q, hg', ht', hv, hd, _, _⟩, _⟩ := h
 obtain rfl := Option.some.inj (ab4.symm.trans hg')
 obtain rfl := Option.some.inj (aU3.symm.trans ht')
 obtain ⟨l⟩ := cs
 rw [aU2] at hd
 have hlen : a0S.length = 25 := rfl
 rcases open_strings Tryz.underlying82 Tryz.underlying9 aU1 hd with ⟨_, hx⟩ | ⟨a, len, cap, ss, hcs, _, hl, hm, hz, hx, hcell, hsz⟩
 ·simp at hx
 ·simp only at hcs
  subst hcs
  simp only [Prod.mk.injEq, DataW.slice.injEq] at hx
  have h1 := hx.1.1
  have hll : len = 25 := by
   have := congrArg List.length h1
   have hle : len ≤ ss.length := by rw [hz]; split <;> omega
   simp [strs, hlen] at this
   omega
  subst hll
  have hle : 25 ≤ ss.length := by rw [hz]; split <;> omega
  refine ⟨some a, cap, by simpa using World.var?_cell ab4 hv 0, fun h => (by cases h), fun ad had i hi => ?_⟩
  obtain rfl := Option.some.inj had
  rw [List.length_map, hlen] at hi
  have hc := hcell i (by omega)
  rw [hc]
  have h2 := congrArg (·[i]?) h1
  simp only [strs, List.getElem?_map, List.getElem?_take] at h2
  rw [if_pos hi, List.getElem?_eq_getElem (by omega : i < ss.length), List.getElem?_eq_getElem (by rw [hlen]; exact hi)] at h2
  simp only [Option.map_some, Option.some.injEq, DataW.lit.injEq, Lit.string.injEq] at h2
  rw [List.getElem_map, List.getD_eq_getElem?_getD, List.getElem?_eq_getElem (by omega : i < ss.length), Option.getD_some, h2, str]
theorem aA6 {W : World} (h : laidMetH Tryz.prog a2w W) (_ : W.ShapedOpen Tryz.prog) : Tab W := by
 have h1 : laidMet Tryz.prog a2w W := h
 have h2 := h1.tail.tail.tail
 have h3 := h2.tail
 have h4 := h3.tail
 exact ⟨aW7 h4, a92 h3 as4 as5, a92 h2 as2 as3⟩

noncomputable def a6x (os : Os) : World := World.laidAll Tryz.prog os a2w
theorem aA5 (os : Os) (args : Array Value) : laidMet Tryz.prog a2w ((a6x os).forCall (fun _ _ => 0) ⟨#[], args, []⟩).memory :=
 laidMet_laidAll args (by kernel_rfl) (by kernel_rfl)

open Go.ChangeShapes Go.WideShapes Go.ChangeAt Go.RowKit
theorem aZ8 : (Tryz.prog.globals[4]?).map (·.type) = some 210 := by kernel_rfl
theorem aZ6 : Tryz.prog.cellsOf 210 = 20 := by kernel_rfl
theorem aZ5 : Tryz.prog.cellsOf 159 = 1 := by kernel_rfl
theorem aZ7 : (Rows.laid_internal_strconv_uint64pow10 : DataW Unit) = Lib.tabData .u64 Lib.pow10Tab := by kernel_rfl
def a6F : DataW Unit → List Int
 | .agg ds => ds.map fun | .lit (.int _ z) => z | _ => 0
 | _ => []
theorem a9a : Tryz.prog.globalNamed "math/bits.deBruijn64tab" = some 6 := by kernel_rfl
theorem aB2 : (Tryz.prog.globals[6]?).map (·.type) = some 221 := by kernel_rfl
theorem aB0 : Tryz.prog.cellsOf 221 = 64 := by kernel_rfl
theorem aA9 : Tryz.prog.cellsOf 5 = 1 := by kernel_rfl
theorem aB1 : (Rows.laid_math_bits_deBruijn64tab : DataW Unit) = Lib.tabData .u8 (a6F Rows.laid_math_bits_deBruijn64tab) := by kernel_rfl
theorem a99 : (a6F Rows.laid_math_bits_deBruijn64tab).getD 15 0 = 4 ∧ 15 < (a6F Rows.laid_math_bits_deBruijn64tab).length := by decide +kernel
theorem aA7 {W : World} (h : laidMetH Tryz.prog a2w W) (hsh : W.ShapedOpen Tryz.prog) : j7 W := by
 have h1 : laidMet Tryz.prog a2w W := h
 refine ⟨?_, ?_, ?_⟩
 ·have h2 := h1.tail.tail
  rw [aZ7] at h2
  exact Lib.tabIs_of_head ae3 aZ8 Tryz.underlying210 Tryz.underlying159 aZ5 aZ6 h2
 ·have h2 := h1.tail
  rw [aB1] at h2
  have h3 := Lib.tabIs_of_head a9a aB2 Tryz.underlying221 Tryz.underlying5 aA9 aB0 h2
  have h4 := h3.cell a9a 15 a99.2
  rw [a99.1] at h4
  exact h4
 ·exact cell_of_shapedOpen_int (zero := #[.int .i64 0]) (t := 3) hsh (of_decide_eq_true (by kernel_rfl)) (by kernel_rfl) rfl (by kernel_rfl) (by kernel_rfl) Tryz.underlying3
theorem aA8 {W : World} (h : laidMetH Tryz.prog a2w W) (hsh : W.ShapedOpen Tryz.prog) : a1d W := ⟨aA6 h hsh, aA7 h hsh⟩

end Go.Proofs.YtklipelnjgpnjaaGreatDoor
