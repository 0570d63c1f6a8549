import Derived.Test.YtklipelnjgpnjaaGreatDoorLotA43
import Derived.Test.YtklipelnjgpnjaaGreatDoorLotA46
import Derived.Test.YtklipelnjgpnjaaGreatDoorLotA14
import Derived.Test.YtklipelnjgpnjaaGreatDoorCards
import Derived.Test.YtklipelnjgpnjaaGreatDoorTie
import Derived.Test.YtklipelnjgpnjaaGreatDoorLotA3
import Derived.Test.YtklipelnjgpnjaaGreatDoorLotA45
import Derived.Deep.DeepHandedRow
import Derived.Deep.DeepWitnessRowRef
import Derived.Lib.LaidTab
import Derived.Stop.LaidErr
import Derived.SliceStrings
import Derived.Lay
import Derived.Shelf.Vars
namespace Go.Proofs.YtklipelnjgpnjaaGreatDoor
open Go.RowKit
set_option maxRecDepth 100000
set_option maxRecDepth 100000 in
set_option maxHeartbeats 8000000 in
theorem source_S (nb no cap : Nat) (t : List Ng) (T : Tr) (hw : T.Wf) (hf : T.flat = t) (hok : (checkG t).2 = 0) (hn : ∀ x ∈ t, x.n ≤ 4294967295) (hmm : ∀ x ∈ t, x.m ≤ 4294967295) (w : World) (TA : TabA w) (C : CV w (some ⟨nb, no, none⟩) (flatG t)) :
  Calls Tryz.prog 24 #[.slice (some ⟨nb, no, none⟩) t.length cap, .func (.func 25) #[] #[]] w fun e w' => e = .returned (showR false T) ∧ w.grownBy w' none := by
 obtain ⟨hty, hnok, hl, hne⟩ := filt_has hok hn hmm hw hf
 have hne := hne false
 have htl := txt_len false T
 rw [hf] at htl
 have CK := check12_any (some ⟨nb, no, none⟩) cap t w C (by omega) hn
 unfold checkR at CK
 rw [hok] at CK
 have HWR : Hid (∀ W, w.grownBy W none → Calls Tryz.prog 45 #[.slice (some ⟨nb, no, none⟩) t.length cap, .func (.func 25) #[] #[]] W fun e w' => ∃ v ts, e = .returned (.agg #[v, .int .i64 0, .int .i64 ((T.txt false).2 : Int)]) ∧ w'.ownsRow W.heap.size 9 1 v ts.length (ts.map str) ∧ ts.reverse.flatten = (T.txt false).1 ∧ ts.length ≤ 800000 ∧ (ts = [] → (T.txt false).1 = []) ∧ W.grownBy w' none) := fun W G => written_S nb no cap t T hw hty hf hnok (by omega) W (fun V hV => (TA.grown G).grown (grown_of hV)) (C.keptNone G)
 have HTL : Hid ((T.txt false).1.length ≤ 1600 * t.length ∧ t.length ≤ 3000) := ⟨htl.1, hl⟩
 have hd := htl.2
 have HS : Hid (showR false T = if 200 < (T.txt false).2 then .tuple #[str [], .int .i64 131] else .tuple #[str (T.txt false).1, .int .i64 0]) := rfl
 have HNE : Hid ((T.txt false).1 ≠ []) := hne
 obtain ⟨R, hR⟩ : ∃ R, showR false T = R := ⟨_, rfl⟩
 rw [hR] at HS ⊢
 obtain ⟨tx, htx⟩ : ∃ tx, (T.txt false).1 = tx := ⟨_, rfl⟩
 obtain ⟨dx, hdx⟩ : ∃ dx, (T.txt false).2 = dx := ⟨_, rfl⟩
 rw [htx] at HTL HNE
 rw [htx, hdx] at HS HWR
 rw [hdx] at hd
 clear htl hne hR htx hdx TA C hn hmm hok hnok hty hw hf
 go_enter Tryz.func24, Tryz.ntmps24
 have HCK : Hid (Calls _ _ _ _ _) := CK
 clear CK hd
 go_wp2_with fail
 refine HCK.out.mono ?_
 rintro e w1 ⟨rfl, K1⟩
 have HK1 : Hid (w.grownBy w1 none) := K1
 have CW := HWR.out w1 K1
 have HCW : Hid (Calls _ _ _ _ _) := CW
 clear HCK K1 HWR CW
 go_wp2_with fail
 refine HCW.out.mono ?_
 rintro e w2 ⟨v, ts, rfl, O, hts, htl, hnil, K2⟩
 obtain ⟨ao, n2, c2, rfl⟩ : ∃ ao n c, v = .slice ao n c := by rcases O.2 with ⟨rfl, -⟩ | ⟨g, cap, cur, rfl, -⟩ <;> exact ⟨_, _, _, rfl⟩
 have HO : Hid (w2.ownsRow w1.heap.size 9 1 (.slice ao n2 c2) ts.length (ts.map str)) := O
 have HTS : Hid (ts.reverse.flatten = tx ∧ ts.length ≤ 800000 ∧ (ts = [] → tx = [])) := ⟨hts, htl, hnil⟩
 have HK2 : Hid (w1.grownBy w2 none) := K2
 clear HCW O hts htl hnil K2
 by_cases h200 : 200 < dx
 ·have hdec : (200 : Int) < (dx : Int) := by omega
  rw [if_pos h200] at HS
  clear h200
  go_wp2
  go_ret2
  refine ⟨?_, ?_⟩
  ·rw [HS.out]
   rfl
  ·exact grown_trans (grown_trans HK1.out HK2.out) (World.grownBy_alloc _ _ _)
 ·have hdec : ¬ ((200 : Int) < (dx : Int)) := by omega
  rw [if_neg h200] at HS
  clear h200
  go_wp2_with fail
  have hne : ts ≠ [] := fun e => HNE.out (HTS.out.2.2 e)
  have G3 := World.grownBy_alloc w2 (.cells #[.slice ao n2 c2, .int .i64 0, .int .i64 (dx : Int)] 87) none
  have V3 : VAt (w2.alloc (.cells #[.slice ao n2 c2, .int .i64 0, .int .i64 (dx : Int)] 87)) w2.heap.size 87 #[.slice ao n2 c2, .int .i64 0, .int .i64 (dx : Int)] := VAt.alloc _ _ _
  have HT := text_any13 w1.heap.size w1.heap.size w2.heap.size ts (.slice ao n2 c2) 0 (dx : Int) (w2.alloc (.cells #[.slice ao n2 c2, .int .i64 0, .int .i64 (dx : Int)] 87)) (fun e => by have := (HO.out.lt _ e).2; omega) (Nat.le_refl _) ⟨V3, owns_keptNone HO.out G3⟩ hne (by have := HTS.out.2.1; omega) (by rw [HTS.out.1]; have := HTL.out; omega)
  have HG3 : Hid (w.grownBy (w2.alloc (.cells #[.slice ao n2 c2, .int .i64 0, .int .i64 (dx : Int)] 87)) none) := grown_trans (grown_trans HK1.out HK2.out) G3
  have HL : Hid (w.heap.size ≤ w1.heap.size) := HK1.out.size
  rw [HTS.out.1] at HT
  refine HT.mono ?_
  clear HT G3 V3 hne
  rintro e w4 ⟨rfl, B4⟩
  go_wp2
  go_ret2
  refine ⟨?_, ?_⟩
  ·rw [HS.out]
   rfl
  ·exact grown_of ((below_of HG3.out).trans (B4.mono HL.out))
set_option maxRecDepth 100000 in
set_option maxHeartbeats 4000000 in
theorem source_no_S (ao : Option Addr) (cap : Nat) (t : List Ng) (hno : (checkG t).2 ≠ 0) (hm : t.length * 72 ≤ 140737488355328) (hn : ∀ x ∈ t, x.n ≤ 4294967295) (w : World) (C : CV w ao (flatG t)) :
  Calls Tryz.prog 24 #[.slice ao t.length cap, .func (.func 25) #[] #[]] w fun e w' => e = .returned (.tuple #[str [], .int .i64 130]) ∧ w.grownBy w' none := by
 have CK := check12_any ao cap t w C hm hn
 unfold checkR at CK
 have hne : ((checkG t).2 != 0) = true := by rw [bne_iff_ne]; exact hno
 have HCK : Hid (Calls _ _ _ _ _) := CK
 generalize (checkG t).2 = ce at *
 generalize (checkG t).1 = cn at *
 clear CK C hno hn hm
 go_enter Tryz.func24, Tryz.ntmps24
 go_wp2_with fail
 refine HCK.out.mono ?_
 rintro e w1 ⟨rfl, K1⟩
 clear HCK
 go_wp2
 go_ret2
 exact ⟨rfl, K1⟩
set_option maxRecDepth 100000 in
set_option maxHeartbeats 4000000 in
theorem shown_S (t : List Ng) (ao : Option Addr) (cap : Nat) (w : World) (R : Value) (r1 r2 : Value) (hR : R = .tuple #[r1, r2]) (H : Calls Tryz.prog 24 #[.slice ao t.length cap, .func (.func 25) #[] #[]] w fun e w' => e = .returned R ∧ w.grownBy w' none) :
  Calls Tryz.prog 11 #[.slice ao t.length cap] w fun e w' => e = .returned R ∧ w.grownBy w' none := by
 subst hR
 have HH : Hid (Calls _ _ _ _ _) := H
 clear H
 go_enter Tryz.func11, Tryz.ntmps11
 go_wp2_with fail
 refine HH.out.mono ?_
 rintro e w1 ⟨rfl, K1⟩
 clear HH
 go_wp2
 go_ret2
 exact ⟨rfl, K1⟩
theorem showR_two_S (T : Tr) : ∃ r1 r2, showR false T = .tuple #[r1, r2] := by
 unfold showR
 split <;> exact ⟨_, _, rfl⟩
theorem show_ok_S (ao : Option Addr) (cap : Nat) (t : List Ng) (T : Tr) (hw : T.Wf) (hf : T.flat = t) (hok : (checkG t).2 = 0) (hn : ∀ x ∈ t, x.n ≤ 4294967295) (hmm : ∀ x ∈ t, x.m ≤ 4294967295) (w : World) (TA : TabA w) (C : CV w ao (flatG t)) :
  Calls Tryz.prog 11 #[.slice ao t.length cap] w fun e w' => e = .returned (showR false T) ∧ w.grownBy w' none := by
 have ht : 0 < t.length := by rw [← hf]; exact List.length_pos_iff.2 T.flat_ne
 obtain ⟨b, o, rfl, -⟩ := C.ngs (k := 0) ht
 obtain ⟨r1, r2, hr⟩ := showR_two_S T
 exact shown_S t _ cap w _ r1 r2 hr (source_S b o cap t T hw hf hok hn hmm w TA C)
theorem show_no_S (ao : Option Addr) (cap : Nat) (t : List Ng) (hno : (checkG t).2 ≠ 0) (hm : t.length * 72 ≤ 140737488355328) (hn : ∀ x ∈ t, x.n ≤ 4294967295) (w : World) (C : CV w ao (flatG t)) :
  Calls Tryz.prog 11 #[.slice ao t.length cap] w fun e w' => e = .returned (.tuple #[str [], .int .i64 130]) ∧ w.grownBy w' none :=
 shown_S t ao cap w _ _ _ rfl (source_no_S ao cap t hno hm hn w C)
set_option maxRecDepth 100000 in
set_option maxHeartbeats 8000000 in
theorem source_F (nb no cap : Nat) (t : List Ng) (T : Tr) (hw : T.Wf) (hf : T.flat = t) (hok : (checkG t).2 = 0) (hn : ∀ x ∈ t, x.n ≤ 4294967295) (hmm : ∀ x ∈ t, x.m ≤ 4294967295) (w : World) (TA : TabA w) (C : CV w (some ⟨nb, no, none⟩) (flatG t)) :
  Calls Tryz.prog 24 #[.slice (some ⟨nb, no, none⟩) t.length cap, .func (.func 27) #[] #[]] w fun e w' => e = .returned (showR true T) ∧ w.grownBy w' none := by
 obtain ⟨hty, hnok, hl, hne⟩ := filt_has hok hn hmm hw hf
 have hne := hne true
 have htl := txt_len true T
 rw [hf] at htl
 have CK := check12_any (some ⟨nb, no, none⟩) cap t w C (by omega) hn
 unfold checkR at CK
 rw [hok] at CK
 have HWR : Hid (∀ W, w.grownBy W none → Calls Tryz.prog 45 #[.slice (some ⟨nb, no, none⟩) t.length cap, .func (.func 27) #[] #[]] W fun e w' => ∃ v ts, e = .returned (.agg #[v, .int .i64 0, .int .i64 ((T.txt true).2 : Int)]) ∧ w'.ownsRow W.heap.size 9 1 v ts.length (ts.map str) ∧ ts.reverse.flatten = (T.txt true).1 ∧ ts.length ≤ 800000 ∧ (ts = [] → (T.txt true).1 = []) ∧ W.grownBy w' none) := fun W G => written_F nb no cap t T hw hty hf hnok (by omega) W (fun V hV => (TA.grown G).grown (grown_of hV)) (C.keptNone G)
 have HTL : Hid ((T.txt true).1.length ≤ 1600 * t.length ∧ t.length ≤ 3000) := ⟨htl.1, hl⟩
 have hd := htl.2
 have HS : Hid (showR true T = if 200 < (T.txt true).2 then .tuple #[str [], .int .i64 131] else .tuple #[str (T.txt true).1, .int .i64 0]) := rfl
 have HNE : Hid ((T.txt true).1 ≠ []) := hne
 obtain ⟨R, hR⟩ : ∃ R, showR true T = R := ⟨_, rfl⟩
 rw [hR] at HS ⊢
 obtain ⟨tx, htx⟩ : ∃ tx, (T.txt true).1 = tx := ⟨_, rfl⟩
 obtain ⟨dx, hdx⟩ : ∃ dx, (T.txt true).2 = dx := ⟨_, rfl⟩
 rw [htx] at HTL HNE
 rw [htx, hdx] at HS HWR
 rw [hdx] at hd
 clear htl hne hR htx hdx TA C hn hmm hok hnok hty hw hf
 go_enter Tryz.func24, Tryz.ntmps24
 have HCK : Hid (Calls _ _ _ _ _) := CK
 clear CK hd
 go_wp2_with fail
 refine HCK.out.mono ?_
 rintro e w1 ⟨rfl, K1⟩
 have HK1 : Hid (w.grownBy w1 none) := K1
 have CW := HWR.out w1 K1
 have HCW : Hid (Calls _ _ _ _ _) := CW
 clear HCK K1 HWR CW
 go_wp2_with fail
 refine HCW.out.mono ?_
 rintro e w2 ⟨v, ts, rfl, O, hts, htl, hnil, K2⟩
 obtain ⟨ao, n2, c2, rfl⟩ : ∃ ao n c, v = .slice ao n c := by rcases O.2 with ⟨rfl, -⟩ | ⟨g, cap, cur, rfl, -⟩ <;> exact ⟨_, _, _, rfl⟩
 have HO : Hid (w2.ownsRow w1.heap.size 9 1 (.slice ao n2 c2) ts.length (ts.map str)) := O
 have HTS : Hid (ts.reverse.flatten = tx ∧ ts.length ≤ 800000 ∧ (ts = [] → tx = [])) := ⟨hts, htl, hnil⟩
 have HK2 : Hid (w1.grownBy w2 none) := K2
 clear HCW O hts htl hnil K2
 by_cases h200 : 200 < dx
 ·have hdec : (200 : Int) < (dx : Int) := by omega
  rw [if_pos h200] at HS
  clear h200
  go_wp2
  go_ret2
  refine ⟨?_, ?_⟩
  ·rw [HS.out]
   rfl
  ·exact grown_trans (grown_trans HK1.out HK2.out) (World.grownBy_alloc _ _ _)
 ·have hdec : ¬ ((200 : Int) < (dx : Int)) := by omega
  rw [if_neg h200] at HS
  clear h200
  go_wp2_with fail
  have hne : ts ≠ [] := fun e => HNE.out (HTS.out.2.2 e)
  have G3 := World.grownBy_alloc w2 (.cells #[.slice ao n2 c2, .int .i64 0, .int .i64 (dx : Int)] 87) none
  have V3 : VAt (w2.alloc (.cells #[.slice ao n2 c2, .int .i64 0, .int .i64 (dx : Int)] 87)) w2.heap.size 87 #[.slice ao n2 c2, .int .i64 0, .int .i64 (dx : Int)] := VAt.alloc _ _ _
  have HT := text_any13 w1.heap.size w1.heap.size w2.heap.size ts (.slice ao n2 c2) 0 (dx : Int) (w2.alloc (.cells #[.slice ao n2 c2, .int .i64 0, .int .i64 (dx : Int)] 87)) (fun e => by have := (HO.out.lt _ e).2; omega) (Nat.le_refl _) ⟨V3, owns_keptNone HO.out G3⟩ hne (by have := HTS.out.2.1; omega) (by rw [HTS.out.1]; have := HTL.out; omega)
  have HG3 : Hid (w.grownBy (w2.alloc (.cells #[.slice ao n2 c2, .int .i64 0, .int .i64 (dx : Int)] 87)) none) := grown_trans (grown_trans HK1.out HK2.out) G3
  have HL : Hid (w.heap.size ≤ w1.heap.size) := HK1.out.size
  rw [HTS.out.1] at HT
  refine HT.mono ?_
  clear HT G3 V3 hne
  rintro e w4 ⟨rfl, B4⟩
  go_wp2
  go_ret2
  refine ⟨?_, ?_⟩
  ·rw [HS.out]
   rfl
  ·exact grown_of ((below_of HG3.out).trans (B4.mono HL.out))
set_option maxRecDepth 100000 in
set_option maxHeartbeats 4000000 in
theorem source_no_F (ao : Option Addr) (cap : Nat) (t : List Ng) (hno : (checkG t).2 ≠ 0) (hm : t.length * 72 ≤ 140737488355328) (hn : ∀ x ∈ t, x.n ≤ 4294967295) (w : World) (C : CV w ao (flatG t)) :
  Calls Tryz.prog 24 #[.slice ao t.length cap, .func (.func 27) #[] #[]] w fun e w' => e = .returned (.tuple #[str [], .int .i64 130]) ∧ w.grownBy w' none := by
 have CK := check12_any ao cap t w C hm hn
 unfold checkR at CK
 have hne : ((checkG t).2 != 0) = true := by rw [bne_iff_ne]; exact hno
 have HCK : Hid (Calls _ _ _ _ _) := CK
 generalize (checkG t).2 = ce at *
 generalize (checkG t).1 = cn at *
 clear CK C hno hn hm
 go_enter Tryz.func24, Tryz.ntmps24
 go_wp2_with fail
 refine HCK.out.mono ?_
 rintro e w1 ⟨rfl, K1⟩
 clear HCK
 go_wp2
 go_ret2
 exact ⟨rfl, K1⟩
set_option maxRecDepth 100000 in
set_option maxHeartbeats 4000000 in
theorem shown_F (t : List Ng) (ao : Option Addr) (cap : Nat) (w : World) (R : Value) (r1 r2 : Value) (hR : R = .tuple #[r1, r2]) (H : Calls Tryz.prog 24 #[.slice ao t.length cap, .func (.func 27) #[] #[]] w fun e w' => e = .returned R ∧ w.grownBy w' none) :
  Calls Tryz.prog 13 #[.slice ao t.length cap] w fun e w' => e = .returned R ∧ w.grownBy w' none := by
 subst hR
 have HH : Hid (Calls _ _ _ _ _) := H
 clear H
 go_enter Tryz.func13, Tryz.ntmps13
 go_wp2_with fail
 refine HH.out.mono ?_
 rintro e w1 ⟨rfl, K1⟩
 clear HH
 go_wp2
 go_ret2
 exact ⟨rfl, K1⟩
theorem showR_two_F (T : Tr) : ∃ r1 r2, showR true T = .tuple #[r1, r2] := by
 unfold showR
 split <;> exact ⟨_, _, rfl⟩
theorem show_ok_F (ao : Option Addr) (cap : Nat) (t : List Ng) (T : Tr) (hw : T.Wf) (hf : T.flat = t) (hok : (checkG t).2 = 0) (hn : ∀ x ∈ t, x.n ≤ 4294967295) (hmm : ∀ x ∈ t, x.m ≤ 4294967295) (w : World) (TA : TabA w) (C : CV w ao (flatG t)) :
  Calls Tryz.prog 13 #[.slice ao t.length cap] w fun e w' => e = .returned (showR true T) ∧ w.grownBy w' none := by
 have ht : 0 < t.length := by rw [← hf]; exact List.length_pos_iff.2 T.flat_ne
 obtain ⟨b, o, rfl, -⟩ := C.ngs (k := 0) ht
 obtain ⟨r1, r2, hr⟩ := showR_two_F T
 exact shown_F t _ cap w _ r1 r2 hr (source_F b o cap t T hw hf hok hn hmm w TA C)
theorem show_no_F (ao : Option Addr) (cap : Nat) (t : List Ng) (hno : (checkG t).2 ≠ 0) (hm : t.length * 72 ≤ 140737488355328) (hn : ∀ x ∈ t, x.n ≤ 4294967295) (w : World) (C : CV w ao (flatG t)) :
  Calls Tryz.prog 13 #[.slice ao t.length cap] w fun e w' => e = .returned (.tuple #[str [], .int .i64 130]) ∧ w.grownBy w' none :=
 shown_F t ao cap w _ _ _ rfl (source_no_F ao cap t hno hm hn w C)
def aw1 : Ng := { ngZ with kind := 11, of := 2 }
def aw2 : Ng := { ngZ with kind := 11, of := 5 }
def aw3 : Ng := { ngZ with kind := 9 }
def aw4 : Ng := { ngZ with kind := 8 }
def awT : Tr := .one aw3 (.two aw4 (.leaf aw1) (.one aw3 (.leaf aw2)))
theorem awT_wf : awT.Wf := ⟨rfl, rfl, rfl, rfl, rfl⟩
theorem awT_ok : (checkG [aw1, aw2, aw3, aw4, aw3]).2 = 0 := by kernel_rfl
theorem awT_S : showR false awT = .tuple #[.string ⟨#[110, 111, 116, 32, 40, 105, 112, 32, 111, 114, 32, 110, 111, 116, 32, 117, 100, 112, 41]⟩, .int .i64 0] := by kernel_rfl
theorem awT_F : showR true awT = .tuple #[.string ⟨#[110, 111, 116, 32, 40, 105, 112, 32, 111, 114, 32, 40, 110, 111, 116, 32, 117, 100, 112, 41, 41]⟩, .int .i64 0] := by kernel_rfl
set_option maxRecDepth 100000 in
set_option maxHeartbeats 8000000 in
theorem awake13_any (w : World) (TA : TabA w) : Calls Tryz.prog 14 #[] w fun e w' => e = .returned (.bool true) ∧ w.grownBy w' none := by
 have HCS : Hid (∀ W, w.grownBy W none → CV W (some ⟨w.heap.size, 0, none⟩) (flatG [aw1, aw2, aw3, aw4, aw3]) → Calls Tryz.prog 11 #[.slice (some ⟨w.heap.size, 0, none⟩) 5 5] W fun e w' => e = .returned (.tuple #[.string ⟨#[110, 111, 116, 32, 40, 105, 112, 32, 111, 114, 32, 110, 111, 116, 32, 117, 100, 112, 41]⟩, .int .i64 0]) ∧ W.grownBy w' none) := fun W G C => by
  have := show_ok_S _ 5 [aw1, aw2, aw3, aw4, aw3] awT awT_wf rfl awT_ok (by simp [aw1, aw2, aw3, aw4, ngZ]) (by simp [aw1, aw2, aw3, aw4, ngZ]) W (TA.grown G) C
  rw [awT_S] at this
  exact this
 have HCF : Hid (∀ W, w.grownBy W none → CV W (some ⟨w.heap.size, 0, none⟩) (flatG [aw1, aw2, aw3, aw4, aw3]) → Calls Tryz.prog 13 #[.slice (some ⟨w.heap.size, 0, none⟩) 5 5] W fun e w' => e = .returned (.tuple #[.string ⟨#[110, 111, 116, 32, 40, 105, 112, 32, 111, 114, 32, 40, 110, 111, 116, 32, 117, 100, 112, 41, 41]⟩, .int .i64 0]) ∧ W.grownBy w' none) := fun W G C => by
  have := show_ok_F _ 5 [aw1, aw2, aw3, aw4, aw3] awT awT_wf rfl awT_ok (by simp [aw1, aw2, aw3, aw4, ngZ]) (by simp [aw1, aw2, aw3, aw4, ngZ]) W (TA.grown G) C
  rw [awT_F] at this
  exact this
 clear TA
 go_enter Tryz.func14, Tryz.ntmps14
 go_upto_region 2 with fail
 generalize hW : w.alloc (Obj.cells _ 43) = W
 have hW' : w.alloc (.cells (flatG [aw1, aw2, aw3, aw4, aw3]).toArray 43) = W := hW
 clear hW
 have G : w.grownBy W none := hW' ▸ World.grownBy_alloc _ _ _
 have C : CV W (some ⟨w.heap.size, 0, none⟩) (flatG [aw1, aw2, aw3, aw4, aw3]) := by
  rw [← hW']
  exact ⟨fun h => (by cases h), fun ad had j hj => by
   obtain rfl := Option.some.inj had
   have e : ((⟨w.heap.size, 0, none⟩ : Addr).add j) = ⟨w.heap.size, j, none⟩ := by unfold Addr.add; split <;> simp_all
   rw [e, VAt.cell (VAt.alloc w _ _) j]
   simp [hj]⟩
 have HG : Hid (w.grownBy W none) := G
 have HC : Hid (CV W (some ⟨w.heap.size, 0, none⟩) (flatG [aw1, aw2, aw3, aw4, aw3])) := C
 clear hW' G C
 go_wp2_with fail
 refine (HCS.out W HG.out HC.out).mono ?_
 rintro e w2 ⟨rfl, K2⟩
 have HK2 : Hid (W.grownBy w2 none) := K2
 clear K2 HCS
 go_wp2_with fail
 refine (HCF.out w2 (grown_trans HG.out HK2.out) (HC.out.keptNone HK2.out)).mono ?_
 rintro e w3 ⟨rfl, K3⟩
 clear HCF
 go_wp2
 go_ret
 exact ⟨rfl, grown_trans (grown_trans HG.out HK2.out) K3⟩

open Go.ChangeShapes Go.WideShapes Go.ChangeAt Go.RowKit
def laidL : List (String × DataW Unit) := [("math/bits.deBruijn32tab", Rows.laid_math_bits_deBruijn32tab), ("math/bits.deBruijn64tab", Rows.laid_math_bits_deBruijn64tab), ("internal/strconv.uint64pow10", Rows.laid_internal_strconv_uint64pow10)] 
theorem tab_type : (Tryz.prog.globals[4]?).map (·.type) = some 210 := by kernel_rfl
theorem tab_cells : Tryz.prog.cellsOf 210 = 20 := by kernel_rfl
theorem tab_cell : Tryz.prog.cellsOf 159 = 1 := by kernel_rfl
theorem tab_data : (Rows.laid_internal_strconv_uint64pow10 : DataW Unit) = Lib.tabData .u64 Lib.pow10Tab := by kernel_rfl
def litsOf13 : DataW Unit → List Int
 | .agg ds => ds.map fun | .lit (.int _ z) => z | _ => 0
 | _ => []
theorem last_global : Tryz.prog.globalNamed "math/bits.deBruijn64tab" = some 6 := by kernel_rfl
theorem last_type : (Tryz.prog.globals[6]?).map (·.type) = some 221 := by kernel_rfl
theorem last_cells : Tryz.prog.cellsOf 221 = 64 := by kernel_rfl
theorem last_cell : Tryz.prog.cellsOf 5 = 1 := by kernel_rfl
theorem last_data : (Rows.laid_math_bits_deBruijn64tab : DataW Unit) = Lib.tabData .u8 (litsOf13 Rows.laid_math_bits_deBruijn64tab) := by kernel_rfl
theorem last_at : (litsOf13 Rows.laid_math_bits_deBruijn64tab).getD 15 0 = 4 ∧ 15 < (litsOf13 Rows.laid_math_bits_deBruijn64tab).length := by decide +kernel
theorem laid_tab {W : World} (h : laidMetH Tryz.prog laidL W) (hsh : W.ShapedOpen Tryz.prog) : TabA W := by
 have h1 : laidMet Tryz.prog laidL W := h
 refine ⟨?_, ?_, ?_⟩
 ·have h2 := h1.tail.tail
  rw [tab_data] at h2
  exact Lib.tabIs_of_head tab_global tab_type Tryz.underlying210 Tryz.underlying159 tab_cell tab_cells h2
 ·have h2 := h1.tail
  rw [last_data] at h2
  have h3 := Lib.tabIs_of_head last_global last_type Tryz.underlying221 Tryz.underlying5 last_cell last_cells h2
  have h4 := h3.cell last_global 15 last_at.2
  rw [last_at.1] at h4
  exact h4
 ·exact cell_of_shapedOpen_int (zero := #[.int .i64 0]) (t := 3) hsh (of_decide_eq_true (by kernel_rfl)) (by kernel_rfl) rfl (by kernel_rfl) (by kernel_rfl) Tryz.underlying3
abbrev TabB := TabA
theorem laid_tabB {W : World} (h : laidMetH Tryz.prog laidL W) (hsh : W.ShapedOpen Tryz.prog) : TabB W := laid_tab h hsh

noncomputable def laidWorld (os : Os) : World := World.laidAll Tryz.prog os laidL
theorem laid_met (os : Os) (args : Array Value) : laidMet Tryz.prog laidL ((laidWorld os).forCall (fun _ _ => 0) ⟨#[], args, []⟩).memory :=
 laidMet_laidAll args (by kernel_rfl) (by kernel_rfl)

end Go.Proofs.YtklipelnjgpnjaaGreatDoor
