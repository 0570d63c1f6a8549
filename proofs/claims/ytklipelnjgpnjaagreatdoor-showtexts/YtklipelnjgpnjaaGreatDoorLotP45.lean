import Derived.Test.YtklipelnjgpnjaaGreatDoorLotP43
import Derived.Test.YtklipelnjgpnjaaGreatDoorLotP44
import Derived.Test.YtklipelnjgpnjaaGreatDoorLotP14
import Derived.Test.YtklipelnjgpnjaaGreatDoorLotP1
import Derived.Test.YtklipelnjgpnjaaGreatDoorRows
import Derived.ProofKit
import Derived.OpenShut
import Derived.ShutString
import Derived.ChangeOld
import Derived.SizedLaws
import Derived.JoinedCond
import Derived.Test.YtklipelnjgpnjaaGreatDoorLotP9
import Derived.Deep.Slices
import Derived.Test.YtklipelnjgpnjaaGreatDoorCards
import Derived.Test.YtklipelnjgpnjaaGreatDoorTie
import Derived.Test.YtklipelnjgpnjaaGreatDoorLotP3
import Derived.Deep.DeepHandedRow
import Derived.Deep.DeepWitnessRowRef
import Derived.Lib.LaidTab
import Derived.Stop.LaidErr
import Derived.SliceStrings
import Derived.Lay
import Derived.Shelf.Vars
namespace Go.Proofs.YtklipelnjgpnjaaGreatDoor
open Go.RowKit
set_option maxRecDepth 100000
set_option maxRecDepth 100000 in
set_option maxHeartbeats 8000000 in
theorem source_S (nb no cap : Nat) (t : List Ng) (T : Tr) (hw : T.Wf) (hf : T.flat = t) (hok : (checkG t).2 = 0) (hn : ∀ x ∈ t, x.n ≤ 4294967295) (hmm : ∀ x ∈ t, x.m ≤ 4294967295) (w : World) (TA : TabA w) (C : CV w (some ⟨nb, no, none⟩) (flatG t)) :
  Calls Tryz.prog 24 #[.slice (some ⟨nb, no, none⟩) t.length cap, .func (.func 25) #[] #[]] w fun e w' => e = .returned (showR false T) ∧ w.grownBy w' none := by
 obtain ⟨hty, hnok, hl, hne⟩ := filt_has hok hn hmm hw hf
 have hne := hne false
 have htl := txt_len false T
 rw [hf] at htl
 have CK := check12_any (some ⟨nb, no, none⟩) cap t w C (by omega) hn
 unfold checkR at CK
 rw [hok] at CK
 have HWR : Hid (∀ W, w.grownBy W none → Calls Tryz.prog 45 #[.slice (some ⟨nb, no, none⟩) t.length cap, .func (.func 25) #[] #[]] W fun e w' => ∃ v ts, e = .returned (.agg #[v, .int .i64 0, .int .i64 ((T.txt false).2 : Int)]) ∧ w'.ownsRow W.heap.size 9 1 v ts.length (ts.map str) ∧ ts.reverse.flatten = (T.txt false).1 ∧ ts.length ≤ 800000 ∧ (ts = [] → (T.txt false).1 = []) ∧ W.grownBy w' none) := fun W G => written_S nb no cap t T hw hty hf hnok (by omega) W (fun V hV => (TA.grown G).grown (grown_of hV)) (C.keptNone G)
 have HTL : Hid ((T.txt false).1.length ≤ 1600 * t.length ∧ t.length ≤ 3000) := ⟨htl.1, hl⟩
 have hd := htl.2
 have HS : Hid (showR false T = if 200 < (T.txt false).2 then .tuple #[str [], .int .i64 131] else .tuple #[str (T.txt false).1, .int .i64 0]) := rfl
 have HNE : Hid ((T.txt false).1 ≠ []) := hne
 obtain ⟨R, hR⟩ : ∃ R, showR false T = R := ⟨_, rfl⟩
 rw [hR] at HS ⊢
 obtain ⟨tx, htx⟩ : ∃ tx, (T.txt false).1 = tx := ⟨_, rfl⟩
 obtain ⟨dx, hdx⟩ : ∃ dx, (T.txt false).2 = dx := ⟨_, rfl⟩
 rw [htx] at HTL HNE
 rw [htx, hdx] at HS HWR
 rw [hdx] at hd
 clear htl hne hR htx hdx TA C hn hmm hok hnok hty hw hf
 go_enter Tryz.func24, Tryz.ntmps24
 have HCK : Hid (Calls _ _ _ _ _) := CK
 clear CK hd
 go_wp2_with fail
 refine HCK.out.mono ?_
 rintro e w1 ⟨rfl, K1⟩
 have HK1 : Hid (w.grownBy w1 none) := K1
 have CW := HWR.out w1 K1
 have HCW : Hid (Calls _ _ _ _ _) := CW
 clear HCK K1 HWR CW
 go_wp2_with fail
 refine HCW.out.mono ?_
 rintro e w2 ⟨v, ts, rfl, O, hts, htl, hnil, K2⟩
 obtain ⟨ao, n2, c2, rfl⟩ : ∃ ao n c, v = .slice ao n c := by rcases O.2 with ⟨rfl, -⟩ | ⟨g, cap, cur, rfl, -⟩ <;> exact ⟨_, _, _, rfl⟩
 have HO : Hid (w2.ownsRow w1.heap.size 9 1 (.slice ao n2 c2) ts.length (ts.map str)) := O
 have HTS : Hid (ts.reverse.flatten = tx ∧ ts.length ≤ 800000 ∧ (ts = [] → tx = [])) := ⟨hts, htl, hnil⟩
 have HK2 : Hid (w1.grownBy w2 none) := K2
 clear HCW O hts htl hnil K2
 by_cases h200 : 200 < dx
 ·have hdec : (200 : Int) < (dx : Int) := by omega
  rw [if_pos h200] at HS
  clear h200
  go_wp2
  go_ret2
  refine ⟨?_, ?_⟩
  ·rw [HS.out]
   rfl
  ·exact grown_trans (grown_trans HK1.out HK2.out) (World.grownBy_alloc _ _ _)
 ·have hdec : ¬ ((200 : Int) < (dx : Int)) := by omega
  rw [if_neg h200] at HS
  clear h200
  go_wp2_with fail
  have hne : ts ≠ [] := fun e => HNE.out (HTS.out.2.2 e)
  have G3 := World.grownBy_alloc w2 (.cells #[.slice ao n2 c2, .int .i64 0, .int .i64 (dx : Int)] 87) none
  have V3 : VAt (w2.alloc (.cells #[.slice ao n2 c2, .int .i64 0, .int .i64 (dx : Int)] 87)) w2.heap.size 87 #[.slice ao n2 c2, .int .i64 0, .int .i64 (dx : Int)] := VAt.alloc _ _ _
  have HT := text_any13 w1.heap.size w1.heap.size w2.heap.size ts (.slice ao n2 c2) 0 (dx : Int) (w2.alloc (.cells #[.slice ao n2 c2, .int .i64 0, .int .i64 (dx : Int)] 87)) (fun e => by have := (HO.out.lt _ e).2; omega) (Nat.le_refl _) ⟨V3, owns_keptNone HO.out G3⟩ hne (by have := HTS.out.2.1; omega) (by rw [HTS.out.1]; have := HTL.out; omega)
  have HG3 : Hid (w.grownBy (w2.alloc (.cells #[.slice ao n2 c2, .int .i64 0, .int .i64 (dx : Int)] 87)) none) := grown_trans (grown_trans HK1.out HK2.out) G3
  have HL : Hid (w.heap.size ≤ w1.heap.size) := HK1.out.size
  rw [HTS.out.1] at HT
  refine HT.mono ?_
  clear HT G3 V3 hne
  rintro e w4 ⟨rfl, B4⟩
  go_wp2
  go_ret2
  refine ⟨?_, ?_⟩
  ·rw [HS.out]
   rfl
  ·exact grown_of ((below_of HG3.out).trans (B4.mono HL.out))
set_option maxRecDepth 100000 in
set_option maxHeartbeats 4000000 in
theorem source_no_S (ao : Option Addr) (cap : Nat) (t : List Ng) (hno : (checkG t).2 ≠ 0) (hm : t.length * 72 ≤ 140737488355328) (hn : ∀ x ∈ t, x.n ≤ 4294967295) (w : World) (C : CV w ao (flatG t)) :
  Calls Tryz.prog 24 #[.slice ao t.length cap, .func (.func 25) #[] #[]] w fun e w' => e = .returned (.tuple #[str [], .int .i64 130]) ∧ w.grownBy w' none := by
 have CK := check12_any ao cap t w C hm hn
 unfold checkR at CK
 have hne : ((checkG t).2 != 0) = true := by rw [bne_iff_ne]; exact hno
 have HCK : Hid (Calls _ _ _ _ _) := CK
 generalize (checkG t).2 = ce at *
 generalize (checkG t).1 = cn at *
 clear CK C hno hn hm
 go_enter Tryz.func24, Tryz.ntmps24
 go_wp2_with fail
 refine HCK.out.mono ?_
 rintro e w1 ⟨rfl, K1⟩
 clear HCK
 go_wp2
 go_ret2
 exact ⟨rfl, K1⟩
set_option maxRecDepth 100000 in
set_option maxHeartbeats 4000000 in
theorem shown_S (t : List Ng) (ao : Option Addr) (cap : Nat) (w : World) (R : Value) (r1 r2 : Value) (hR : R = .tuple #[r1, r2]) (H : Calls Tryz.prog 24 #[.slice ao t.length cap, .func (.func 25) #[] #[]] w fun e w' => e = .returned R ∧ w.grownBy w' none) :
  Calls Tryz.prog 11 #[.slice ao t.length cap] w fun e w' => e = .returned R ∧ w.grownBy w' none := by
 subst hR
 have HH : Hid (Calls _ _ _ _ _) := H
 clear H
 go_enter Tryz.func11, Tryz.ntmps11
 go_wp2_with fail
 refine HH.out.mono ?_
 rintro e w1 ⟨rfl, K1⟩
 clear HH
 go_wp2
 go_ret2
 exact ⟨rfl, K1⟩
theorem showR_two_S (T : Tr) : ∃ r1 r2, showR false T = .tuple #[r1, r2] := by
 unfold showR
 split <;> exact ⟨_, _, rfl⟩
theorem show_ok_S (ao : Option Addr) (cap : Nat) (t : List Ng) (T : Tr) (hw : T.Wf) (hf : T.flat = t) (hok : (checkG t).2 = 0) (hn : ∀ x ∈ t, x.n ≤ 4294967295) (hmm : ∀ x ∈ t, x.m ≤ 4294967295) (w : World) (TA : TabA w) (C : CV w ao (flatG t)) :
  Calls Tryz.prog 11 #[.slice ao t.length cap] w fun e w' => e = .returned (showR false T) ∧ w.grownBy w' none := by
 have ht : 0 < t.length := by rw [← hf]; exact List.length_pos_iff.2 T.flat_ne
 obtain ⟨b, o, rfl, -⟩ := C.ngs (k := 0) ht
 obtain ⟨r1, r2, hr⟩ := showR_two_S T
 exact shown_S t _ cap w _ r1 r2 hr (source_S b o cap t T hw hf hok hn hmm w TA C)
theorem show_no_S (ao : Option Addr) (cap : Nat) (t : List Ng) (hno : (checkG t).2 ≠ 0) (hm : t.length * 72 ≤ 140737488355328) (hn : ∀ x ∈ t, x.n ≤ 4294967295) (w : World) (C : CV w ao (flatG t)) :
  Calls Tryz.prog 11 #[.slice ao t.length cap] w fun e w' => e = .returned (.tuple #[str [], .int .i64 130]) ∧ w.grownBy w' none :=
 shown_S t ao cap w _ _ _ rfl (source_no_S ao cap t hno hm hn w C)
set_option maxRecDepth 100000 in
set_option maxHeartbeats 8000000 in
theorem source_F (nb no cap : Nat) (t : List Ng) (T : Tr) (hw : T.Wf) (hf : T.flat = t) (hok : (checkG t).2 = 0) (hn : ∀ x ∈ t, x.n ≤ 4294967295) (hmm : ∀ x ∈ t, x.m ≤ 4294967295) (w : World) (TA : TabA w) (C : CV w (some ⟨nb, no, none⟩) (flatG t)) :
  Calls Tryz.prog 24 #[.slice (some ⟨nb, no, none⟩) t.length cap, .func (.func 27) #[] #[]] w fun e w' => e = .returned (showR true T) ∧ w.grownBy w' none := by
 obtain ⟨hty, hnok, hl, hne⟩ := filt_has hok hn hmm hw hf
 have hne := hne true
 have htl := txt_len true T
 rw [hf] at htl
 have CK := check12_any (some ⟨nb, no, none⟩) cap t w C (by omega) hn
 unfold checkR at CK
 rw [hok] at CK
 have HWR : Hid (∀ W, w.grownBy W none → Calls Tryz.prog 45 #[.slice (some ⟨nb, no, none⟩) t.length cap, .func (.func 27) #[] #[]] W fun e w' => ∃ v ts, e = .returned (.agg #[v, .int .i64 0, .int .i64 ((T.txt true).2 : Int)]) ∧ w'.ownsRow W.heap.size 9 1 v ts.length (ts.map str) ∧ ts.reverse.flatten = (T.txt true).1 ∧ ts.length ≤ 800000 ∧ (ts = [] → (T.txt true).1 = []) ∧ W.grownBy w' none) := fun W G => written_F nb no cap t T hw hty hf hnok (by omega) W (fun V hV => (TA.grown G).grown (grown_of hV)) (C.keptNone G)
 have HTL : Hid ((T.txt true).1.length ≤ 1600 * t.length ∧ t.length ≤ 3000) := ⟨htl.1, hl⟩
 have hd := htl.2
 have HS : Hid (showR true T = if 200 < (T.txt true).2 then .tuple #[str [], .int .i64 131] else .tuple #[str (T.txt true).1, .int .i64 0]) := rfl
 have HNE : Hid ((T.txt true).1 ≠ []) := hne
 obtain ⟨R, hR⟩ : ∃ R, showR true T = R := ⟨_, rfl⟩
 rw [hR] at HS ⊢
 obtain ⟨tx, htx⟩ : ∃ tx, (T.txt true).1 = tx := ⟨_, rfl⟩
 obtain ⟨dx, hdx⟩ : ∃ dx, (T.txt true).2 = dx := ⟨_, rfl⟩
 rw [htx] at HTL HNE
 rw [htx, hdx] at HS HWR
 rw [hdx] at hd
 clear htl hne hR htx hdx TA C hn hmm hok hnok hty hw hf
 go_enter Tryz.func24, Tryz.ntmps24
 have HCK : Hid (Calls _ _ _ _ _) := CK
 clear CK hd
 go_wp2_with fail
 refine HCK.out.mono ?_
 rintro e w1 ⟨rfl, K1⟩
 have HK1 : Hid (w.grownBy w1 none) := K1
 have CW := HWR.out w1 K1
 have HCW : Hid (Calls _ _ _ _ _) := CW
 clear HCK K1 HWR CW
 go_wp2_with fail
 refine HCW.out.mono ?_
 rintro e w2 ⟨v, ts, rfl, O, hts, htl, hnil, K2⟩
 obtain ⟨ao, n2, c2, rfl⟩ : ∃ ao n c, v = .slice ao n c := by rcases O.2 with ⟨rfl, -⟩ | ⟨g, cap, cur, rfl, -⟩ <;> exact ⟨_, _, _, rfl⟩
 have HO : Hid (w2.ownsRow w1.heap.size 9 1 (.slice ao n2 c2) ts.length (ts.map str)) := O
 have HTS : Hid (ts.reverse.flatten = tx ∧ ts.length ≤ 800000 ∧ (ts = [] → tx = [])) := ⟨hts, htl, hnil⟩
 have HK2 : Hid (w1.grownBy w2 none) := K2
 clear HCW O hts htl hnil K2
 by_cases h200 : 200 < dx
 ·have hdec : (200 : Int) < (dx : Int) := by omega
  rw [if_pos h200] at HS
  clear h200
  go_wp2
  go_ret2
  refine ⟨?_, ?_⟩
  ·rw [HS.out]
   rfl
  ·exact grown_trans (grown_trans HK1.out HK2.out) (World.grownBy_alloc _ _ _)
 ·have hdec : ¬ ((200 : Int) < (dx : Int)) := by omega
  rw [if_neg h200] at HS
  clear h200
  go_wp2_with fail
  have hne : ts ≠ [] := fun e => HNE.out (HTS.out.2.2 e)
  have G3 := World.grownBy_alloc w2 (.cells #[.slice ao n2 c2, .int .i64 0, .int .i64 (dx : Int)] 87) none
  have V3 : VAt (w2.alloc (.cells #[.slice ao n2 c2, .int .i64 0, .int .i64 (dx : Int)] 87)) w2.heap.size 87 #[.slice ao n2 c2, .int .i64 0, .int .i64 (dx : Int)] := VAt.alloc _ _ _
  have HT := text_any13 w1.heap.size w1.heap.size w2.heap.size ts (.slice ao n2 c2) 0 (dx : Int) (w2.alloc (.cells #[.slice ao n2 c2, .int .i64 0, .int .i64 (dx : Int)] 87)) (fun e => by have := (HO.out.lt _ e).2; omega) (Nat.le_refl _) ⟨V3, owns_keptNone HO.out G3⟩ hne (by have := HTS.out.2.1; omega) (by rw [HTS.out.1]; have := HTL.out; omega)
  have HG3 : Hid (w.grownBy (w2.alloc (.cells #[.slice ao n2 c2, .int .i64 0, .int .i64 (dx : Int)] 87)) none) := grown_trans (grown_trans HK1.out HK2.out) G3
  have HL : Hid (w.heap.size ≤ w1.heap.size) := HK1.out.size
  rw [HTS.out.1] at HT
  refine HT.mono ?_
  clear HT G3 V3 hne
  rintro e w4 ⟨rfl, B4⟩
  go_wp2
  go_ret2
  refine ⟨?_, ?_⟩
  ·rw [HS.out]
   rfl
  ·exact grown_of ((below_of HG3.out).trans (B4.mono HL.out))
set_option maxRecDepth 100000 in
set_option maxHeartbeats 4000000 in
theorem source_no_F (ao : Option Addr) (cap : Nat) (t : List Ng) (hno : (checkG t).2 ≠ 0) (hm : t.length * 72 ≤ 140737488355328) (hn : ∀ x ∈ t, x.n ≤ 4294967295) (w : World) (C : CV w ao (flatG t)) :
  Calls Tryz.prog 24 #[.slice ao t.length cap, .func (.func 27) #[] #[]] w fun e w' => e = .returned (.tuple #[str [], .int .i64 130]) ∧ w.grownBy w' none := by
 have CK := check12_any ao cap t w C hm hn
 unfold checkR at CK
 have hne : ((checkG t).2 != 0) = true := by rw [bne_iff_ne]; exact hno
 have HCK : Hid (Calls _ _ _ _ _) := CK
 generalize (checkG t).2 = ce at *
 generalize (checkG t).1 = cn at *
 clear CK C hno hn hm
 go_enter Tryz.func24, Tryz.ntmps24
 go_wp2_with fail
 refine HCK.out.mono ?_
 rintro e w1 ⟨rfl, K1⟩
 clear HCK
 go_wp2
 go_ret2
 exact ⟨rfl, K1⟩
set_option maxRecDepth 100000 in
set_option maxHeartbeats 4000000 in
theorem shown_F (t : List Ng) (ao : Option Addr) (cap : Nat) (w : World) (R : Value) (r1 r2 : Value) (hR : R = .tuple #[r1, r2]) (H : Calls Tryz.prog 24 #[.slice ao t.length cap, .func (.func 27) #[] #[]] w fun e w' => e = .returned R ∧ w.grownBy w' none) :
  Calls Tryz.prog 13 #[.slice ao t.length cap] w fun e w' => e = .returned R ∧ w.grownBy w' none := by
 subst hR
 have HH : Hid (Calls _ _ _ _ _) := H
 clear H
 go_enter Tryz.func13, Tryz.ntmps13
 go_wp2_with fail
 refine HH.out.mono ?_
 rintro e w1 ⟨rfl, K1⟩
 clear HH
 go_wp2
 go_ret2
 exact ⟨rfl, K1⟩
theorem showR_two_F (T : Tr) : ∃ r1 r2, showR true T = .tuple #[r1, r2] := by
 unfold showR
 split <;> exact ⟨_, _, rfl⟩
theorem show_ok_F (ao : Option Addr) (cap : Nat) (t : List Ng) (T : Tr) (hw : T.Wf) (hf : T.flat = t) (hok : (checkG t).2 = 0) (hn : ∀ x ∈ t, x.n ≤ 4294967295) (hmm : ∀ x ∈ t, x.m ≤ 4294967295) (w : World) (TA : TabA w) (C : CV w ao (flatG t)) :
  Calls Tryz.prog 13 #[.slice ao t.length cap] w fun e w' => e = .returned (showR true T) ∧ w.grownBy w' none := by
 have ht : 0 < t.length := by rw [← hf]; exact List.length_pos_iff.2 T.flat_ne
 obtain ⟨b, o, rfl, -⟩ := C.ngs (k := 0) ht
 obtain ⟨r1, r2, hr⟩ := showR_two_F T
 exact shown_F t _ cap w _ r1 r2 hr (source_F b o cap t T hw hf hok hn hmm w TA C)
theorem show_no_F (ao : Option Addr) (cap : Nat) (t : List Ng) (hno : (checkG t).2 ≠ 0) (hm : t.length * 72 ≤ 140737488355328) (hn : ∀ x ∈ t, x.n ≤ 4294967295) (w : World) (C : CV w ao (flatG t)) :
  Calls Tryz.prog 13 #[.slice ao t.length cap] w fun e w' => e = .returned (.tuple #[str [], .int .i64 130]) ∧ w.grownBy w' none :=
 shown_F t ao cap w _ _ _ rfl (source_no_F ao cap t hno hm hn w C)
def aw1 : Ng := { ngZ with kind := 11, of := 2 }
def aw2 : Ng := { ngZ with kind := 11, of := 5 }
def aw3 : Ng := { ngZ with kind := 9 }
def aw4 : Ng := { ngZ with kind := 8 }
def awT : Tr := .one aw3 (.two aw4 (.leaf aw1) (.one aw3 (.leaf aw2)))
theorem awT_wf : awT.Wf := ⟨rfl, rfl, rfl, rfl, rfl⟩
theorem awT_ok : (checkG [aw1, aw2, aw3, aw4, aw3]).2 = 0 := by kernel_rfl
theorem awT_S : showR false awT = .tuple #[.string ⟨#[110, 111, 116, 32, 40, 105, 112, 32, 111, 114, 32, 110, 111, 116, 32, 117, 100, 112, 41]⟩, .int .i64 0] := by kernel_rfl
theorem awT_F : showR true awT = .tuple #[.string ⟨#[110, 111, 116, 32, 40, 105, 112, 32, 111, 114, 32, 40, 110, 111, 116, 32, 117, 100, 112, 41, 41]⟩, .int .i64 0] := by kernel_rfl
set_option maxRecDepth 100000 in
set_option maxHeartbeats 8000000 in
theorem awake13_any (w : World) (TA : TabA w) : Calls Tryz.prog 14 #[] w fun e w' => e = .returned (.bool true) ∧ w.grownBy w' none := by
 have HCS : Hid (∀ W, w.grownBy W none → CV W (some ⟨w.heap.size, 0, none⟩) (flatG [aw1, aw2, aw3, aw4, aw3]) → Calls Tryz.prog 11 #[.slice (some ⟨w.heap.size, 0, none⟩) 5 5] W fun e w' => e = .returned (.tuple #[.string ⟨#[110, 111, 116, 32, 40, 105, 112, 32, 111, 114, 32, 110, 111, 116, 32, 117, 100, 112, 41]⟩, .int .i64 0]) ∧ W.grownBy w' none) := fun W G C => by
  have := show_ok_S _ 5 [aw1, aw2, aw3, aw4, aw3] awT awT_wf rfl awT_ok (by simp [aw1, aw2, aw3, aw4, ngZ]) (by simp [aw1, aw2, aw3, aw4, ngZ]) W (TA.grown G) C
  rw [awT_S] at this
  exact this
 have HCF : Hid (∀ W, w.grownBy W none → CV W (some ⟨w.heap.size, 0, none⟩) (flatG [aw1, aw2, aw3, aw4, aw3]) → Calls Tryz.prog 13 #[.slice (some ⟨w.heap.size, 0, none⟩) 5 5] W fun e w' => e = .returned (.tuple #[.string ⟨#[110, 111, 116, 32, 40, 105, 112, 32, 111, 114, 32, 40, 110, 111, 116, 32, 117, 100, 112, 41, 41]⟩, .int .i64 0]) ∧ W.grownBy w' none) := fun W G C => by
  have := show_ok_F _ 5 [aw1, aw2, aw3, aw4, aw3] awT awT_wf rfl awT_ok (by simp [aw1, aw2, aw3, aw4, ngZ]) (by simp [aw1, aw2, aw3, aw4, ngZ]) W (TA.grown G) C
  rw [awT_F] at this
  exact this
 clear TA
 go_enter Tryz.func14, Tryz.ntmps14
 go_upto_region 2 with fail
 generalize hW : w.alloc (Obj.cells _ 43) = W
 have hW' : w.alloc (.cells (flatG [aw1, aw2, aw3, aw4, aw3]).toArray 43) = W := hW
 clear hW
 have G : w.grownBy W none := hW' ▸ World.grownBy_alloc _ _ _
 have C : CV W (some ⟨w.heap.size, 0, none⟩) (flatG [aw1, aw2, aw3, aw4, aw3]) := by
  rw [← hW']
  exact ⟨fun h => (by cases h), fun ad had j hj => by
   obtain rfl := Option.some.inj had
   have e : ((⟨w.heap.size, 0, none⟩ : Addr).add j) = ⟨w.heap.size, j, none⟩ := by unfold Addr.add; split <;> simp_all
   rw [e, VAt.cell (VAt.alloc w _ _) j]
   simp [hj]⟩
 have HG : Hid (w.grownBy W none) := G
 have HC : Hid (CV W (some ⟨w.heap.size, 0, none⟩) (flatG [aw1, aw2, aw3, aw4, aw3])) := C
 clear hW' G C
 go_wp2_with fail
 refine (HCS.out W HG.out HC.out).mono ?_
 rintro e w2 ⟨rfl, K2⟩
 have HK2 : Hid (W.grownBy w2 none) := K2
 clear K2 HCS
 go_wp2_with fail
 refine (HCF.out w2 (grown_trans HG.out HK2.out) (HC.out.keptNone HK2.out)).mono ?_
 rintro e w3 ⟨rfl, K3⟩
 clear HCF
 go_wp2
 go_ret
 exact ⟨rfl, grown_trans (grown_trans HG.out HK2.out) K3⟩

open Go.ChangeShapes Go.WideShapes Go.ChangeAt Go.RowKit
theorem own : ownKnob Tryz.prog.godebug = none := by kernel_rfl
theorem laidOut : laidOutB Tryz.prog = true := by kernel_rfl

open Go.ChangeShapes Go.WideShapes Go.ChangeAt Go.RowKit
theorem bytes43 : Tryz.prog.bytesOf 43 = 72 := by kernel_rfl
theorem cellsNd : Tryz.prog.cellsOf 43 = 24 := by kernel_rfl
theorem cellsI : Tryz.prog.cellsOf 3 = 1 := by kernel_rfl
theorem cellsU : Tryz.prog.cellsOf 40 = 1 := by kernel_rfl
theorem cellsB : Tryz.prog.cellsOf 5 = 1 := by kernel_rfl
theorem cellsA : Tryz.prog.cellsOf 41 = 16 := by kernel_rfl
def byteN : Value → UInt8
 | .int _ a => UInt8.ofNat a.toNat
 | _ => 0
def intN : Value → Int
 | .int _ a => a
 | _ => 0
def ivl (cs : List Value) (i : Nat) : Int := intN (cs.getD i undef)
def ngOf (cs : List Value) : Ng := ⟨ivl cs 0, ivl cs 1, (ivl cs 2).toNat, (ivl cs 3).toNat, ivl cs 4, ivl cs 5, ivl cs 6, ((cs.drop 7).take 16).map byteN, ivl cs 23⟩
def Ng.ok (x : Ng) : Prop := x.n ≤ 4294967295 ∧ x.m ≤ 4294967295 ∧ x.addr.length = 16
theorem arr16N {H : Type} {enc : TypeId × Value → H} {W : World} {base : Nat} {spare : Nat → Bool} {held : Bool} {fuel : Nat} {cs : List Value} {x : DataW H × List MemPlace}
  (h : DataW.trod enc Tryz.prog W base spare held fuel 41 cs = some x) : cs.length = 16 ∧ ∀ i (hi : i < cs.length), cs[i] = .int .u8 ((byteN cs[i]).toNat : Int) := by
 obtain ⟨ys, m, _, rfl, hl, hlen, hf⟩ := DataW.trod_array Tryz.underlying41 h
 rw [cellsA] at hl
 refine ⟨hl, fun i hi => ?_⟩
 have f := hf i (by omega)
 rw [cellsB, Nat.mul_one, List.getElem?_eq_getElem (by omega), List.drop_eq_getElem_cons hi, List.take_succ_cons, List.take_zero] at f
 obtain ⟨k, e, _, w⟩ := DataW.trod_int Tryz.underlying5 f
 simp only [List.cons.injEq, and_true] at e
 have b := bounds_u8 w
 rw [e]
 have z : ((UInt8.ofNat k.toNat).toNat : Int) = k := by simp; omega
 simp only [byteN, z]
theorem one_int {H : Type} {enc : TypeId × Value → H} {W : World} {base : Nat} {spare : Nat → Bool} {held : Bool} {fuel : Nat} {cs : List Value} {x : DataW H × List MemPlace} (o : Nat) (ho : o < cs.length)
  (h : DataW.trod enc Tryz.prog W base spare held fuel 3 ((cs.drop o).take 1) = some x) : cs[o] = .int .i64 (ivl cs o) := by
 rw [List.drop_eq_getElem_cons ho, List.take_succ_cons, List.take_zero] at h
 obtain ⟨k, e, _, _⟩ := DataW.trod_int Tryz.underlying3 h
 simp only [List.cons.injEq, and_true] at e
 unfold ivl
 rw [List.getD_eq_getElem?_getD, List.getElem?_eq_getElem ho, e]
 rfl
theorem one_u32 {H : Type} {enc : TypeId × Value → H} {W : World} {base : Nat} {spare : Nat → Bool} {held : Bool} {fuel : Nat} {cs : List Value} {x : DataW H × List MemPlace} (o : Nat) (ho : o < cs.length)
  (h : DataW.trod enc Tryz.prog W base spare held fuel 40 ((cs.drop o).take 1) = some x) : cs[o] = .int .u32 ((ivl cs o).toNat : Int) ∧ (ivl cs o).toNat ≤ 4294967295 := by
 rw [List.drop_eq_getElem_cons ho, List.take_succ_cons, List.take_zero] at h
 obtain ⟨k, e, _, w⟩ := DataW.trod_int Tryz.underlying40 h
 simp only [List.cons.injEq, and_true] at e
 have b := bounds_u32 w
 have hi : ivl cs o = k := by
  unfold ivl
  rw [List.getD_eq_getElem?_getD, List.getElem?_eq_getElem ho, e]
  rfl
 rw [hi]
 refine ⟨?_, by omega⟩
 rw [e]
 congr 1
 omega
theorem node_cells {H : Type} {enc : TypeId × Value → H} {W : World} {base : Nat} {spare : Nat → Bool} {held : Bool} {fuel : Nat} {cs : List Value} {x : DataW H × List MemPlace} (h : DataW.trod enc Tryz.prog W base spare held fuel 43 cs = some x) : cs = (ngOf cs).cells ∧ (ngOf cs).ok := by
 obtain ⟨ys, n, _, rfl, hl, hlen, hf⟩ := DataW.trod_struct Tryz.underlying43 h
 rw [cellsNd] at hl
 have hy9 : ys.length = 9 := hlen
 have hy : ∀ i, i < 9 → ∃ y, ys[i]? = some y := fun i hi => ⟨ys[i], List.getElem?_eq_getElem (by omega)⟩
 have f0 : DataW.trod enc Tryz.prog W base spare held n 3 ((cs.drop 0).take (Tryz.prog.cellsOf 3)) = ys[0]? := hf 0 _ rfl
 have f1 : DataW.trod enc Tryz.prog W base spare held n 3 ((cs.drop 1).take (Tryz.prog.cellsOf 3)) = ys[1]? := hf 1 _ rfl
 have f2 : DataW.trod enc Tryz.prog W base spare held n 40 ((cs.drop 2).take (Tryz.prog.cellsOf 40)) = ys[2]? := hf 2 _ rfl
 have f3 : DataW.trod enc Tryz.prog W base spare held n 40 ((cs.drop 3).take (Tryz.prog.cellsOf 40)) = ys[3]? := hf 3 _ rfl
 have f4 : DataW.trod enc Tryz.prog W base spare held n 3 ((cs.drop 4).take (Tryz.prog.cellsOf 3)) = ys[4]? := hf 4 _ rfl
 have f5 : DataW.trod enc Tryz.prog W base spare held n 3 ((cs.drop 5).take (Tryz.prog.cellsOf 3)) = ys[5]? := hf 5 _ rfl
 have f6 : DataW.trod enc Tryz.prog W base spare held n 3 ((cs.drop 6).take (Tryz.prog.cellsOf 3)) = ys[6]? := hf 6 _ rfl
 have f7 : DataW.trod enc Tryz.prog W base spare held n 41 ((cs.drop 7).take (Tryz.prog.cellsOf 41)) = ys[7]? := hf 7 _ rfl
 have f8 : DataW.trod enc Tryz.prog W base spare held n 3 ((cs.drop 23).take (Tryz.prog.cellsOf 3)) = ys[8]? := hf 8 _ rfl
 rw [cellsI] at f0 f1 f4 f5 f6 f8
 rw [cellsU] at f2 f3
 rw [cellsA] at f7
 obtain ⟨y0, h0⟩ := hy 0 (by omega)
 obtain ⟨y1, h1⟩ := hy 1 (by omega)
 obtain ⟨y2, h2⟩ := hy 2 (by omega)
 obtain ⟨y3, h3⟩ := hy 3 (by omega)
 obtain ⟨y4, h4⟩ := hy 4 (by omega)
 obtain ⟨y5, h5⟩ := hy 5 (by omega)
 obtain ⟨y6, h6⟩ := hy 6 (by omega)
 obtain ⟨y7, h7⟩ := hy 7 (by omega)
 obtain ⟨y8, h8⟩ := hy 8 (by omega)
 have e0 := one_int 0 (by omega) (f0.trans h0)
 have e1 := one_int 1 (by omega) (f1.trans h1)
 have e2 := one_u32 2 (by omega) (f2.trans h2)
 have e3 := one_u32 3 (by omega) (f3.trans h3)
 have e4 := one_int 4 (by omega) (f4.trans h4)
 have e5 := one_int 5 (by omega) (f5.trans h5)
 have e6 := one_int 6 (by omega) (f6.trans h6)
 have e8 := one_int 23 (by omega) (f8.trans h8)
 obtain ⟨l7, e7⟩ := arr16N (f7.trans h7)
 have a7 : ∀ i (hi : i < 16), cs[7 + i]'(by omega) = adg (ngOf cs) i := fun i hi => by
  have := e7 i (by omega)
  rw [List.getElem_take, List.getElem_drop] at this
  rw [this]
  unfold adg ngOf
  simp only
  rw [List.getD_eq_getElem?_getD, List.getElem?_map, List.getElem?_eq_getElem (by omega), List.getElem_take, List.getElem_drop]
  rfl
 refine ⟨?_, e2.2, e3.2, by simp [ngOf, hl]⟩
 apply List.ext_getElem
 ·rw [hl]; rfl
 ·intro i hi1 hi2
  have hi : i < 24 := by omega
  have : i = 0 ∨ i = 1 ∨ i = 2 ∨ i = 3 ∨ i = 4 ∨ i = 5 ∨ i = 6 ∨ i = 7 ∨ i = 8 ∨ i = 9 ∨ i = 10 ∨ i = 11 ∨ i = 12 ∨ i = 13 ∨ i = 14 ∨ i = 15 ∨ i = 16 ∨ i = 17 ∨ i = 18 ∨ i = 19 ∨ i = 20 ∨ i = 21 ∨ i = 22 ∨ i = 23 := by omega
  rcases this with rfl | rfl | rfl | rfl | rfl | rfl | rfl | rfl | rfl | rfl | rfl | rfl | rfl | rfl | rfl | rfl | rfl | rfl | rfl | rfl | rfl | rfl | rfl | rfl
  ·exact e0
  ·exact e1
  ·exact e2.1
  ·exact e3.1
  ·exact e4
  ·exact e5
  ·exact e6
  ·exact a7 0 (by omega)
  ·exact a7 1 (by omega)
  ·exact a7 2 (by omega)
  ·exact a7 3 (by omega)
  ·exact a7 4 (by omega)
  ·exact a7 5 (by omega)
  ·exact a7 6 (by omega)
  ·exact a7 7 (by omega)
  ·exact a7 8 (by omega)
  ·exact a7 9 (by omega)
  ·exact a7 10 (by omega)
  ·exact a7 11 (by omega)
  ·exact a7 12 (by omega)
  ·exact a7 13 (by omega)
  ·exact a7 14 (by omega)
  ·exact a7 15 (by omega)
  ·exact e8
theorem open_nodes {H : Type} {enc : TypeId × Value → H} {W : World} {d : DataW H} {ps : List MemPlace} {a : Option Addr} {len cap : Nat}
  (h : DataW.Trod enc Tryz.prog W 0 (fun _ => true) true 22 (.slice a len cap) d ps) :
  ∃ xs : List Ng, len = xs.length ∧ CV W a (flatG xs) ∧ (a = none → cap = 0) ∧ (xs.length ≤ cap ∧ cap ≤ maxLen) ∧ (∀ x ∈ xs, x.ok) ∧ ((d = .nil ∧ xs = []) ∨ ∃ elems spare, d = .slice elems spare ∧ xs.length ≤ elems.length + spare.length) := by
 obtain ⟨fuel, hf⟩ := h
 rcases Go.Deep.open_slice Tryz.underlying22 hf with ⟨hcs, hx⟩ | ⟨x, l, c, m, n, D, Pl, hcs, _, hl, hm, hmm, hx, hcell⟩
 ·simp [Value.cells] at hcs
  obtain ⟨rfl, rfl, rfl⟩ := hcs
  simp only [Prod.mk.injEq] at hx
  exact ⟨[], rfl, ⟨fun _ => rfl, fun ad had => (by cases had)⟩, fun _ => rfl, ⟨Nat.le_refl _, Nat.zero_le _⟩, (fun x hx => by cases hx), .inl ⟨hx.1, rfl⟩⟩
 ·simp [Value.cells] at hcs
  obtain ⟨rfl, rfl, rfl⟩ := hcs
  simp only [Prod.mk.injEq] at hx
  simp only [if_true] at hmm
  have hmm' : m = cap := hmm
  rw [cellsNd] at hcell
  have hlen : ((List.range len).map fun i => ngOf ((W.cells? 0 (x.add (i * 24)) 24).getD [])).length = len := by simp
  refine ⟨(List.range len).map fun i => ngOf ((W.cells? 0 (x.add (i * 24)) 24).getD []), hlen.symm, ⟨fun h => (by cases h), fun ad had q hq => ?_⟩, fun h => (by cases h), ⟨by rw [hlen]; exact hl, hm⟩, fun y hy => ?_, .inr ⟨_, _, hx.1, ?_⟩⟩
  ·obtain rfl := Option.some.inj had
   have hq4 : q < len * 24 := by rw [flatG_len, hlen] at hq; exact hq
   obtain ⟨cs', hcs', htr⟩ := hcell (q / 24) (by omega)
   obtain ⟨_, hl4, hget⟩ := World.cells?_some hcs'
   have hk := (node_cells htr).1
   have hj : q % 24 < 24 := Nat.mod_lt _ (by decide)
   have e1 : (x.add (q / 24 * 24)).add (q % 24) = x.add q := by
    rw [Addr.add_add]
    congr 1
    omega
   have e2 := hget (q % 24) hj
   rw [e1] at e2
   rw [e2]
   have e3 := flatG_get ((List.range len).map fun i => ngOf ((W.cells? 0 (x.add (i * 24)) 24).getD [])) (q / 24) (q % 24) (by rw [hlen]; omega) hj
   rw [show q / 24 * 24 + q % 24 = q by omega, List.getElem?_eq_getElem hq] at e3
   rw [e3]
   simp only [List.getElem_map, List.getElem_range, hcs', Option.getD_some]
   rw [← hk]
  ·obtain ⟨i, hi, rfl⟩ := List.mem_map.1 hy
   rw [List.mem_range] at hi
   obtain ⟨cs', hcs', htr⟩ := hcell i (by omega)
   rw [hcs', Option.getD_some]
   exact (node_cells htr).2
  ·rw [hlen]
   simp

open Go.ChangeShapes Go.WideShapes Go.ChangeAt Go.RowKit
def laidL : List (String × DataW Unit) := [("math/bits.deBruijn32tab", Rows.laid_math_bits_deBruijn32tab), ("math/bits.deBruijn64tab", Rows.laid_math_bits_deBruijn64tab), ("internal/strconv.uint64pow10", Rows.laid_internal_strconv_uint64pow10)] 
theorem tab_type : (Tryz.prog.globals[4]?).map (·.type) = some 210 := by kernel_rfl
theorem tab_cells : Tryz.prog.cellsOf 210 = 20 := by kernel_rfl
theorem tab_cell : Tryz.prog.cellsOf 159 = 1 := by kernel_rfl
theorem tab_data : (Rows.laid_internal_strconv_uint64pow10 : DataW Unit) = Lib.tabData .u64 Lib.pow10Tab := by kernel_rfl
def litsOf13 : DataW Unit → List Int
 | .agg ds => ds.map fun | .lit (.int _ z) => z | _ => 0
 | _ => []
theorem last_global : Tryz.prog.globalNamed "math/bits.deBruijn64tab" = some 6 := by kernel_rfl
theorem last_type : (Tryz.prog.globals[6]?).map (·.type) = some 221 := by kernel_rfl
theorem last_cells : Tryz.prog.cellsOf 221 = 64 := by kernel_rfl
theorem last_cell : Tryz.prog.cellsOf 5 = 1 := by kernel_rfl
theorem last_data : (Rows.laid_math_bits_deBruijn64tab : DataW Unit) = Lib.tabData .u8 (litsOf13 Rows.laid_math_bits_deBruijn64tab) := by kernel_rfl
theorem last_at : (litsOf13 Rows.laid_math_bits_deBruijn64tab).getD 15 0 = 4 ∧ 15 < (litsOf13 Rows.laid_math_bits_deBruijn64tab).length := by decide +kernel
theorem laid_tab {W : World} (h : laidMetH Tryz.prog laidL W) (hsh : W.ShapedOpen Tryz.prog) : TabA W := by
 have h1 : laidMet Tryz.prog laidL W := h
 refine ⟨?_, ?_, ?_⟩
 ·have h2 := h1.tail.tail
  rw [tab_data] at h2
  exact Lib.tabIs_of_head tab_global tab_type Tryz.underlying210 Tryz.underlying159 tab_cell tab_cells h2
 ·have h2 := h1.tail
  rw [last_data] at h2
  have h3 := Lib.tabIs_of_head last_global last_type Tryz.underlying221 Tryz.underlying5 last_cell last_cells h2
  have h4 := h3.cell last_global 15 last_at.2
  rw [last_at.1] at h4
  exact h4
 ·exact cell_of_shapedOpen_int (zero := #[.int .i64 0]) (t := 3) hsh (of_decide_eq_true (by kernel_rfl)) (by kernel_rfl) rfl (by kernel_rfl) (by kernel_rfl) Tryz.underlying3
abbrev TabB := TabA
theorem laid_tabB {W : World} (h : laidMetH Tryz.prog laidL W) (hsh : W.ShapedOpen Tryz.prog) : TabB W := laid_tab h hsh

noncomputable def laidWorld (os : Os) : World := World.laidAll Tryz.prog os laidL
theorem laid_met (os : Os) (args : Array Value) : laidMet Tryz.prog laidL ((laidWorld os).forCall (fun _ _ => 0) ⟨#[], args, []⟩).memory :=
 laidMet_laidAll args (by kernel_rfl) (by kernel_rfl)

end Go.Proofs.YtklipelnjgpnjaaGreatDoor
