import Derived.Test.YtklipelnjgpnjaaGreatDoorLotF44
import Derived.Test.YtklipelnjgpnjaaGreatDoorLotF43
import Derived.Test.YtklipelnjgpnjaaGreatDoorLotF15
import Derived.Test.YtklipelnjgpnjaaGreatDoorLotF9
import Derived.Test.YtklipelnjgpnjaaGreatDoorLotF1
import Derived.Test.YtklipelnjgpnjaaGreatDoorRows
import Derived.ProofKit
import Derived.OpenShut
import Derived.ShutString
import Derived.ChangeOld
import Derived.SizedLaws
import Derived.JoinedCond
import Derived.Deep.Slices
import Derived.Test.YtklipelnjgpnjaaGreatDoorCards
import Derived.Test.YtklipelnjgpnjaaGreatDoorTie
import Derived.Test.YtklipelnjgpnjaaGreatDoorLotF3
import Derived.Deep.DeepHandedRow
import Derived.Deep.DeepWitnessRowRef
import Derived.Lib.LaidTab
import Derived.Stop.LaidErr
import Derived.SliceStrings
import Derived.Lay
import Derived.Shelf.Vars
namespace Go.Proofs.YtklipelnjgpnjaaGreatDoor
open Go.RowKit
set_option maxRecDepth 100000
def aw1 : Ng := { ngZ with kind := 11, of := 2 }
def aw2 : Ng := { ngZ with kind := 11, of := 5 }
def aw3 : Ng := { ngZ with kind := 9 }
def aw4 : Ng := { ngZ with kind := 8 }
def awT : Tr := .one aw3 (.two aw4 (.leaf aw1) (.one aw3 (.leaf aw2)))
theorem awT_wf : awT.Wf := ⟨rfl, rfl, rfl, rfl, rfl⟩
theorem awT_ok : (checkG [aw1, aw2, aw3, aw4, aw3]).2 = 0 := by kernel_rfl
theorem awT_S : showR false awT = .tuple #[.string ⟨#[110, 111, 116, 32, 40, 105, 112, 32, 111, 114, 32, 110, 111, 116, 32, 117, 100, 112, 41]⟩, .int .i64 0] := by kernel_rfl
theorem awT_F : showR true awT = .tuple #[.string ⟨#[110, 111, 116, 32, 40, 105, 112, 32, 111, 114, 32, 40, 110, 111, 116, 32, 117, 100, 112, 41, 41]⟩, .int .i64 0] := by kernel_rfl
set_option maxRecDepth 100000 in
set_option maxHeartbeats 8000000 in
theorem awake13_any (w : World) (TA : TabA w) : Calls Tryz.prog 14 #[] w fun e w' => e = .returned (.bool true) ∧ w.grownBy w' none := by
 have HCS : Hid (∀ W, w.grownBy W none → CV W (some ⟨w.heap.size, 0, none⟩) (flatG [aw1, aw2, aw3, aw4, aw3]) → Calls Tryz.prog 11 #[.slice (some ⟨w.heap.size, 0, none⟩) 5 5] W fun e w' => e = .returned (.tuple #[.string ⟨#[110, 111, 116, 32, 40, 105, 112, 32, 111, 114, 32, 110, 111, 116, 32, 117, 100, 112, 41]⟩, .int .i64 0]) ∧ W.grownBy w' none) := fun W G C => by
  have := show_ok_S _ 5 [aw1, aw2, aw3, aw4, aw3] awT awT_wf rfl awT_ok (by simp [aw1, aw2, aw3, aw4, ngZ]) (by simp [aw1, aw2, aw3, aw4, ngZ]) W (TA.grown G) C
  rw [awT_S] at this
  exact this
 have HCF : Hid (∀ W, w.grownBy W none → CV W (some ⟨w.heap.size, 0, none⟩) (flatG [aw1, aw2, aw3, aw4, aw3]) → Calls Tryz.prog 13 #[.slice (some ⟨w.heap.size, 0, none⟩) 5 5] W fun e w' => e = .returned (.tuple #[.string ⟨#[110, 111, 116, 32, 40, 105, 112, 32, 111, 114, 32, 40, 110, 111, 116, 32, 117, 100, 112, 41, 41]⟩, .int .i64 0]) ∧ W.grownBy w' none) := fun W G C => by
  have := show_ok_F _ 5 [aw1, aw2, aw3, aw4, aw3] awT awT_wf rfl awT_ok (by simp [aw1, aw2, aw3, aw4, ngZ]) (by simp [aw1, aw2, aw3, aw4, ngZ]) W (TA.grown G) C
  rw [awT_F] at this
  exact this
 clear TA
 go_enter Tryz.func14, Tryz.ntmps14
 go_upto_region 2 with fail
 generalize hW : w.alloc (Obj.cells _ 43) = W
 have hW' : w.alloc (.cells (flatG [aw1, aw2, aw3, aw4, aw3]).toArray 43) = W := hW
 clear hW
 have G : w.grownBy W none := hW' ▸ World.grownBy_alloc _ _ _
 have C : CV W (some ⟨w.heap.size, 0, none⟩) (flatG [aw1, aw2, aw3, aw4, aw3]) := by
  rw [← hW']
  exact ⟨fun h => (by cases h), fun ad had j hj => by
   obtain rfl := Option.some.inj had
   have e : ((⟨w.heap.size, 0, none⟩ : Addr).add j) = ⟨w.heap.size, j, none⟩ := by unfold Addr.add; split <;> simp_all
   rw [e, VAt.cell (VAt.alloc w _ _) j]
   simp [hj]⟩
 have HG : Hid (w.grownBy W none) := G
 have HC : Hid (CV W (some ⟨w.heap.size, 0, none⟩) (flatG [aw1, aw2, aw3, aw4, aw3])) := C
 clear hW' G C
 go_wp2_with fail
 refine (HCS.out W HG.out HC.out).mono ?_
 rintro e w2 ⟨rfl, K2⟩
 have HK2 : Hid (W.grownBy w2 none) := K2
 clear K2 HCS
 go_wp2_with fail
 refine (HCF.out w2 (grown_trans HG.out HK2.out) (HC.out.keptNone HK2.out)).mono ?_
 rintro e w3 ⟨rfl, K3⟩
 clear HCF
 go_wp2
 go_ret
 exact ⟨rfl, grown_trans (grown_trans HG.out HK2.out) K3⟩
def Tr.kids : Tr → List Tr
 | .leaf _ => []
 | .one _ p => [p]
 | .two _ p q => [p, q]
theorem Tr.kids_wf {T : Tr} (h : T.Wf) : ∀ p ∈ T.kids, p.Wf := by
 cases T with
 | leaf x => intro p hp; cases hp
 | one x p => intro q hq; rw [List.mem_singleton.1 hq]; exact h.2
 | two x p q =>
  intro r hr
  rcases List.mem_cons.1 hr with rfl | hr
  ·exact h.2.1
  ·rw [List.mem_singleton.1 hr]; exact h.2.2
theorem Tr.kids_len {T : Tr} (h : T.Wf) : arG T.root.kind = some T.kids.length := by
 cases T with
 | leaf x => exact h
 | one x p => exact h.1
 | two x p q => exact h.1
theorem Tr.kids_flat (T : Tr) : T.flat = (T.kids.map Tr.flat).flatten ++ [T.root] := by
 cases T <;> simp [Tr.flat, Tr.kids, Tr.root]
theorem tree_split {r s P Q : List Ng} (h : r ++ s = P ++ Q) (h2 : leftG 0 s = some 1) (hQ : leftG 0 Q = some 1) : r = P ∧ s = Q := by
 rcases List.append_eq_append_iff.1 h with ⟨c, h1, h3⟩ | ⟨c, h1, h3⟩
 ·by_cases hc : c = []
  ·subst hc; simp at h1 h3; exact ⟨h1.symm, h3⟩
  ·rw [h3] at h2
   have := tree_end h2 hc
   have := tree_sum hQ
   omega
 ·by_cases hc : c = []
  ·subst hc; simp at h1 h3; exact ⟨h1, h3.symm⟩
  ·rw [h3] at hQ
   have := tree_end hQ hc
   have := tree_sum h2
   omega
theorem tr_parts {T : Tr} (hw : T.Wf) : partsG T.flat = some (T.kids.map Tr.flat) := by
 obtain ⟨pss, hp⟩ := parts_left.1 (Tr.flat_left hw)
 obtain ⟨y, a, ht, har, hl, -⟩ := parts_lists hp
 have htr := parts_trees hp
 have hk := T.kids_flat
 rw [hk] at ht
 obtain ⟨h1, h2⟩ := List.append_inj' ht rfl
 have hy : T.root = y := by simpa using h2
 subst hy
 have hlen := T.kids_len hw
 rw [har] at hlen
 have hlen := Option.some.inj hlen
 rw [hp]
 congr 1
 have hkw := T.kids_wf hw
 cases T with
 | leaf x =>
  have : pss.length = 0 := by rw [hl, hlen]; rfl
  rw [List.length_eq_zero_iff.1 this]; rfl
 | one x p =>
  have h0 : pss.length = 1 := by rw [hl, hlen]; rfl
  match pss, h0 with
  | [r], _ => simp [Tr.kids] at h1 ⊢; exact h1.symm
 | two x p q =>
  have h0 : pss.length = 2 := by rw [hl, hlen]; rfl
  match pss, h0 with
  | [r, s], _ =>
   simp [Tr.kids] at h1 ⊢
   have := tree_split h1.symm (htr s (by simp)) (Tr.flat_left (hkw q (by simp [Tr.kids])))
   exact ⟨this.1, this.2⟩
def partT (T : Tr) : List UInt8 := if 0 < arI T.root.kind then [40] ++ (T.txt true).1 ++ [41] else (T.txt true).1
theorem row_ari {x : Ng} {a : Nat} (ha : arG x.kind = some a) (ht : truthG x.kind = true) : decide (rowG x < 12) = decide (0 < arI x.kind) := by
 have h6 : 6 ≤ x.kind := by unfold truthG at ht; exact of_decide_eq_true ht
 unfold arI
 rw [ha]
 rcases arG_cases ha with ⟨rfl, hk⟩ | ⟨rfl, hk⟩ | ⟨rfl, hk⟩
 ·have hr : rowG x ≤ 4 := by
   unfold rowG
   rcases (by omega : x.kind = 9) with h
   simp [h]
  rw [decide_eq_true (by omega : rowG x < 12), decide_eq_true (by decide)]
 ·have hr : rowG x ≤ 4 := by
   unfold rowG
   rcases (by omega : x.kind = 6 ∨ x.kind = 7 ∨ x.kind = 8) with h | h | h <;> simp [h]
  rw [decide_eq_true (by omega : rowG x < 12), decide_eq_true (by decide)]
 ·rw [row_leaf ha]
  rfl
theorem part_put {T : Tr} (hw : T.Wf) (ht : truthG T.root.kind = true) {least : Int} (hl : least ≤ 12) : (putT (wantT true (rowG T.root) least) (T.txt true)).1 = partT T ∧ (T.txt true).2 ≤ (putT (wantT true (rowG T.root) least) (T.txt true)).2 := by
 have e : wantT true (rowG T.root) least = decide (0 < arI T.root.kind) := by
  rw [← row_ari (T.kids_len hw) ht]
  unfold wantT
  by_cases h : rowG T.root < 12
  ·simp [h]
  ·have : ¬ rowG T.root < least := by omega
   simp [h, this]
 rw [e]
 unfold putT partT
 by_cases h : 0 < arI T.root.kind
 ·rw [decide_eq_true h, if_pos rfl, if_pos h]
  exact ⟨rfl, Nat.le_succ _⟩
 ·rw [decide_eq_false h, if_neg (by decide), if_neg h]
  exact ⟨rfl, Nat.le_refl _⟩
def midT (k : Int) : List UInt8 := if k = 7 then [32, 97, 110, 100, 32] else if k = 8 then [32, 111, 114, 32] else []
def laidT (k : Int) : List Tr → List UInt8
 | [] => []
 | p :: ps => partT p ++ midT k ++ (ps.map partT).flatten
theorem laid_more {k : Int} {ps : List Tr} {i : Nat} (h : i < ps.length) : laidT k (ps.take (i + 1)) = laidT k (ps.take i) ++ partT ps[i] ++ (if i = 0 then midT k else []) := by
 cases ps with
 | nil => simp at h
 | cons p ps =>
  cases i with
  | zero => simp [laidT]
  | succ i =>
   have hi : i < ps.length := by simpa using h
   rw [List.take_succ_cons, List.take_succ_cons]
   have e : List.map partT (ps.take (i + 1)) = List.map partT (ps.take i) ++ [partT ps[i]] := by rw [List.take_succ_eq_append_getElem hi, List.map_append]; rfl
   show partT p ++ midT k ++ (List.map partT (ps.take (i + 1))).flatten = partT p ++ midT k ++ (List.map partT (ps.take i)).flatten ++ partT (p :: ps)[i + 1] ++ (if i + 1 = 0 then midT k else [])
   rw [e, List.flatten_append, if_neg (by omega)]
   simp only [List.flatten_cons, List.flatten_nil, List.append_nil, List.append_assoc, List.getElem_cons_succ]
theorem part_len {P : Tr} (h : P.flat.length ≤ 300) : (partT P).length ≤ 480002 := by
 have := (txt_len true P).1
 unfold partT
 split
 ·simp only [List.length_append, List.length_cons, List.length_nil]; omega
 ·omega
theorem mid_len (k : Int) : (midT k).length ≤ 5 := by
 unfold midT
 split
 ·decide
 ·split <;> decide
theorem laid_len {k : Int} {ps : List Tr} (h2 : ps.length ≤ 2) (h : ∀ P ∈ ps, P.flat.length ≤ 300) : (laidT k ps).length ≤ 1000000 := by
 have hm := mid_len k
 match ps, h2, h with
 | [], _, _ => exact Nat.zero_le _
 | [p], _, h =>
  have hp := part_len (h p (by simp))
  simp only [laidT, List.map_nil, List.flatten_nil, List.append_nil, List.length_append]
  omega
 | [p, q], _, h =>
  have hp := part_len (h p (by simp))
  have hq := part_len (h q (by simp))
  simp only [laidT, List.map_cons, List.map_nil, List.flatten_cons, List.flatten_nil, List.append_nil, List.length_append]
  omega
theorem full_text {T : Tr} (hw : T.Wf) (hty : T.Typed) (h : T.root.kind = 7 ∨ T.root.kind = 8 ∨ T.root.kind = 9) : (T.txt true).1 = (if T.root.kind = 9 then [110, 111, 116, 32] else []) ++ laidT T.root.kind T.kids ∧ ∀ p ∈ T.kids, (p.txt true).2 ≤ (T.txt true).2 := by
 have hwant : wantsG T.root.kind = true := by
  unfold wantsG
  exact decide_eq_true h
 cases T with
 | leaf x =>
  have h : x.kind = 7 ∨ x.kind = 8 ∨ x.kind = 9 := h
  have ha : arG x.kind = some 0 := hw
  exfalso
  rcases h with h | h | h <;> (rw [h] at ha; cases ha)
 | one x p =>
  have h : x.kind = 7 ∨ x.kind = 8 ∨ x.kind = 9 := h
  have ha : arG x.kind = some 1 := hw.1
  have h9 : x.kind = 9 := by
   rcases h with h | h | h
   ·rw [h] at ha; cases ha
   ·rw [h] at ha; cases ha
   ·exact h
  have hp : truthG p.root.kind = true := hty.2.trans hwant
  have hr : rowG x ≤ 12 := by unfold rowG; simp [h9]
  obtain ⟨h1, h2⟩ := part_put hw.2 hp hr
  have et : (Tr.one x p).txt true = ((if x.kind = 9 then [110, 111, 116, 32] else [45]) ++ (putT (wantT true (rowG p.root) (rowG x)) (p.txt true)).1, (putT (wantT true (rowG p.root) (rowG x)) (p.txt true)).2 + 1) := by
   rw [Tr.txt, if_neg (by omega)]
  constructor
  ·rw [et]
   show _ ++ _ = (if x.kind = 9 then _ else _) ++ laidT x.kind [p]
   rw [h1, if_pos h9, if_pos h9]
   simp [laidT, midT, h9]
  ·intro q hq
   rw [List.mem_singleton.1 hq, et]
   show _ ≤ _ + 1
   omega
 | two x p q =>
  have h : x.kind = 7 ∨ x.kind = 8 ∨ x.kind = 9 := h
  have ha : arG x.kind = some 2 := hw.1
  have h78 : x.kind = 7 ∨ x.kind = 8 := by
   rcases h with h | h | h
   ·exact .inl h
   ·exact .inr h
   ·rw [h] at ha; cases ha
  obtain ⟨-, -, t1, t2⟩ := hty
  have hp : truthG p.root.kind = true := t1.trans hwant
  have hq : truthG q.root.kind = true := t2.trans hwant
  have hr : rowG x ≤ 2 := by unfold rowG; rcases h78 with h | h <;> simp [h]
  obtain ⟨h1, h2⟩ := part_put (least := if rowG x = 4 then 5 else rowG x) hw.2.1 hp (by split <;> omega)
  obtain ⟨h3, h4⟩ := part_put (least := rowG x + 1) hw.2.2 hq (by omega)
  have et : (Tr.two x p q).txt true = ((putT (wantT true (rowG p.root) (if rowG x = 4 then 5 else rowG x)) (p.txt true)).1 ++ [32] ++ signT x ++ [32] ++ (putT (wantT true (rowG q.root) (rowG x + 1)) (q.txt true)).1,
   max (putT (wantT true (rowG p.root) (if rowG x = 4 then 5 else rowG x)) (p.txt true)).2 (putT (wantT true (rowG q.root) (rowG x + 1)) (q.txt true)).2) := by rw [Tr.txt]
  constructor
  ·rw [et]
   show _ ++ _ = (if x.kind = 9 then _ else _) ++ laidT x.kind [p, q]
   rw [h1, h3, if_neg (by omega)]
   rcases h78 with h | h
   ·simp [laidT, midT, h, signT]
   ·simp [laidT, midT, h, signT]
  ·intro r hr
   rw [et]
   show _ ≤ max _ _
   rcases List.mem_cons.1 hr with rfl | hr
   ·omega
   ·rw [List.mem_singleton.1 hr]; omega
theorem kids_filt {T : Tr} (hw : T.Wf) (hf : (checkG T.flat).2 = 0) (h : T.root.kind = 7 ∨ T.root.kind = 8 ∨ T.root.kind = 9) : ∀ p ∈ T.kids, (checkG p.flat).2 = 0 := by
 have hwant : wantsG T.root.kind = true := by
  unfold wantsG
  exact decide_eq_true h
 obtain ⟨y, a, ht, har, hl, hS⟩ := parts_lists (tr_parts hw)
 have hy : T.root = y := by
  have hk := T.kids_flat
  rw [ht] at hk
  have := (List.append_inj' hk rfl).2
  simpa using this.symm
 subst hy
 intro p hp
 obtain ⟨i, hi, rfl⟩ := List.getElem_of_mem hp
 have := parts_filt ht har hl hS hf i (by rw [List.length_map]; exact hi)
 rw [if_pos hwant, List.getElem_map] at this
 exact this
theorem kids_mem {T : Tr} {p : Tr} (hp : p ∈ T.kids) : ∀ x ∈ p.flat, x ∈ T.flat := by
 intro x hx
 rw [T.kids_flat]
 exact List.mem_append_left _ (List.mem_flatten.2 ⟨_, List.mem_map_of_mem hp, hx⟩)

open Go.ChangeShapes Go.WideShapes Go.ChangeAt Go.RowKit
theorem own : ownKnob Tryz.prog.godebug = none := by kernel_rfl
theorem laidOut : laidOutB Tryz.prog = true := by kernel_rfl

open Go.ChangeShapes Go.WideShapes Go.ChangeAt Go.RowKit
theorem bytes43 : Tryz.prog.bytesOf 43 = 72 := by kernel_rfl
theorem cellsNd : Tryz.prog.cellsOf 43 = 24 := by kernel_rfl
theorem cellsI : Tryz.prog.cellsOf 3 = 1 := by kernel_rfl
theorem cellsU : Tryz.prog.cellsOf 40 = 1 := by kernel_rfl
theorem cellsB : Tryz.prog.cellsOf 5 = 1 := by kernel_rfl
theorem cellsA : Tryz.prog.cellsOf 41 = 16 := by kernel_rfl
def byteN : Value → UInt8
 | .int _ a => UInt8.ofNat a.toNat
 | _ => 0
def intN : Value → Int
 | .int _ a => a
 | _ => 0
def ivl (cs : List Value) (i : Nat) : Int := intN (cs.getD i undef)
def ngOf (cs : List Value) : Ng := ⟨ivl cs 0, ivl cs 1, (ivl cs 2).toNat, (ivl cs 3).toNat, ivl cs 4, ivl cs 5, ivl cs 6, ((cs.drop 7).take 16).map byteN, ivl cs 23⟩
def Ng.ok (x : Ng) : Prop := x.n ≤ 4294967295 ∧ x.m ≤ 4294967295 ∧ x.addr.length = 16
theorem arr16N {H : Type} {enc : TypeId × Value → H} {W : World} {base : Nat} {spare : Nat → Bool} {held : Bool} {fuel : Nat} {cs : List Value} {x : DataW H × List MemPlace}
  (h : DataW.trod enc Tryz.prog W base spare held fuel 41 cs = some x) : cs.length = 16 ∧ ∀ i (hi : i < cs.length), cs[i] = .int .u8 ((byteN cs[i]).toNat : Int) := by
 obtain ⟨ys, m, _, rfl, hl, hlen, hf⟩ := DataW.trod_array Tryz.underlying41 h
 rw [cellsA] at hl
 refine ⟨hl, fun i hi => ?_⟩
 have f := hf i (by omega)
 rw [cellsB, Nat.mul_one, List.getElem?_eq_getElem (by omega), List.drop_eq_getElem_cons hi, List.take_succ_cons, List.take_zero] at f
 obtain ⟨k, e, _, w⟩ := DataW.trod_int Tryz.underlying5 f
 simp only [List.cons.injEq, and_true] at e
 have b := bounds_u8 w
 rw [e]
 have z : ((UInt8.ofNat k.toNat).toNat : Int) = k := by simp; omega
 simp only [byteN, z]
theorem one_int {H : Type} {enc : TypeId × Value → H} {W : World} {base : Nat} {spare : Nat → Bool} {held : Bool} {fuel : Nat} {cs : List Value} {x : DataW H × List MemPlace} (o : Nat) (ho : o < cs.length)
  (h : DataW.trod enc Tryz.prog W base spare held fuel 3 ((cs.drop o).take 1) = some x) : cs[o] = .int .i64 (ivl cs o) := by
 rw [List.drop_eq_getElem_cons ho, List.take_succ_cons, List.take_zero] at h
 obtain ⟨k, e, _, _⟩ := DataW.trod_int Tryz.underlying3 h
 simp only [List.cons.injEq, and_true] at e
 unfold ivl
 rw [List.getD_eq_getElem?_getD, List.getElem?_eq_getElem ho, e]
 rfl
theorem one_u32 {H : Type} {enc : TypeId × Value → H} {W : World} {base : Nat} {spare : Nat → Bool} {held : Bool} {fuel : Nat} {cs : List Value} {x : DataW H × List MemPlace} (o : Nat) (ho : o < cs.length)
  (h : DataW.trod enc Tryz.prog W base spare held fuel 40 ((cs.drop o).take 1) = some x) : cs[o] = .int .u32 ((ivl cs o).toNat : Int) ∧ (ivl cs o).toNat ≤ 4294967295 := by
 rw [List.drop_eq_getElem_cons ho, List.take_succ_cons, List.take_zero] at h
 obtain ⟨k, e, _, w⟩ := DataW.trod_int Tryz.underlying40 h
 simp only [List.cons.injEq, and_true] at e
 have b := bounds_u32 w
 have hi : ivl cs o = k := by
  unfold ivl
  rw [List.getD_eq_getElem?_getD, List.getElem?_eq_getElem ho, e]
  rfl
 rw [hi]
 refine ⟨?_, by omega⟩
 rw [e]
 congr 1
 omega
theorem node_cells {H : Type} {enc : TypeId × Value → H} {W : World} {base : Nat} {spare : Nat → Bool} {held : Bool} {fuel : Nat} {cs : List Value} {x : DataW H × List MemPlace} (h : DataW.trod enc Tryz.prog W base spare held fuel 43 cs = some x) : cs = (ngOf cs).cells ∧ (ngOf cs).ok := by
 obtain ⟨ys, n, _, rfl, hl, hlen, hf⟩ := DataW.trod_struct Tryz.underlying43 h
 rw [cellsNd] at hl
 have hy9 : ys.length = 9 := hlen
 have hy : ∀ i, i < 9 → ∃ y, ys[i]? = some y := fun i hi => ⟨ys[i], List.getElem?_eq_getElem (by omega)⟩
 have f0 : DataW.trod enc Tryz.prog W base spare held n 3 ((cs.drop 0).take (Tryz.prog.cellsOf 3)) = ys[0]? := hf 0 _ rfl
 have f1 : DataW.trod enc Tryz.prog W base spare held n 3 ((cs.drop 1).take (Tryz.prog.cellsOf 3)) = ys[1]? := hf 1 _ rfl
 have f2 : DataW.trod enc Tryz.prog W base spare held n 40 ((cs.drop 2).take (Tryz.prog.cellsOf 40)) = ys[2]? := hf 2 _ rfl
 have f3 : DataW.trod enc Tryz.prog W base spare held n 40 ((cs.drop 3).take (Tryz.prog.cellsOf 40)) = ys[3]? := hf 3 _ rfl
 have f4 : DataW.trod enc Tryz.prog W base spare held n 3 ((cs.drop 4).take (Tryz.prog.cellsOf 3)) = ys[4]? := hf 4 _ rfl
 have f5 : DataW.trod enc Tryz.prog W base spare held n 3 ((cs.drop 5).take (Tryz.prog.cellsOf 3)) = ys[5]? := hf 5 _ rfl
 have f6 : DataW.trod enc Tryz.prog W base spare held n 3 ((cs.drop 6).take (Tryz.prog.cellsOf 3)) = ys[6]? := hf 6 _ rfl
 have f7 : DataW.trod enc Tryz.prog W base spare held n 41 ((cs.drop 7).take (Tryz.prog.cellsOf 41)) = ys[7]? := hf 7 _ rfl
 have f8 : DataW.trod enc Tryz.prog W base spare held n 3 ((cs.drop 23).take (Tryz.prog.cellsOf 3)) = ys[8]? := hf 8 _ rfl
 rw [cellsI] at f0 f1 f4 f5 f6 f8
 rw [cellsU] at f2 f3
 rw [cellsA] at f7
 obtain ⟨y0, h0⟩ := hy 0 (by omega)
 obtain ⟨y1, h1⟩ := hy 1 (by omega)
 obtain ⟨y2, h2⟩ := hy 2 (by omega)
 obtain ⟨y3, h3⟩ := hy 3 (by omega)
 obtain ⟨y4, h4⟩ := hy 4 (by omega)
 obtain ⟨y5, h5⟩ := hy 5 (by omega)
 obtain ⟨y6, h6⟩ := hy 6 (by omega)
 obtain ⟨y7, h7⟩ := hy 7 (by omega)
 obtain ⟨y8, h8⟩ := hy 8 (by omega)
 have e0 := one_int 0 (by omega) (f0.trans h0)
 have e1 := one_int 1 (by omega) (f1.trans h1)
 have e2 := one_u32 2 (by omega) (f2.trans h2)
 have e3 := one_u32 3 (by omega) (f3.trans h3)
 have e4 := one_int 4 (by omega) (f4.trans h4)
 have e5 := one_int 5 (by omega) (f5.trans h5)
 have e6 := one_int 6 (by omega) (f6.trans h6)
 have e8 := one_int 23 (by omega) (f8.trans h8)
 obtain ⟨l7, e7⟩ := arr16N (f7.trans h7)
 have a7 : ∀ i (hi : i < 16), cs[7 + i]'(by omega) = adg (ngOf cs) i := fun i hi => by
  have := e7 i (by omega)
  rw [List.getElem_take, List.getElem_drop] at this
  rw [this]
  unfold adg ngOf
  simp only
  rw [List.getD_eq_getElem?_getD, List.getElem?_map, List.getElem?_eq_getElem (by omega), List.getElem_take, List.getElem_drop]
  rfl
 refine ⟨?_, e2.2, e3.2, by simp [ngOf, hl]⟩
 apply List.ext_getElem
 ·rw [hl]; rfl
 ·intro i hi1 hi2
  have hi : i < 24 := by omega
  have : i = 0 ∨ i = 1 ∨ i = 2 ∨ i = 3 ∨ i = 4 ∨ i = 5 ∨ i = 6 ∨ i = 7 ∨ i = 8 ∨ i = 9 ∨ i = 10 ∨ i = 11 ∨ i = 12 ∨ i = 13 ∨ i = 14 ∨ i = 15 ∨ i = 16 ∨ i = 17 ∨ i = 18 ∨ i = 19 ∨ i = 20 ∨ i = 21 ∨ i = 22 ∨ i = 23 := by omega
  rcases this with rfl | rfl | rfl | rfl | rfl | rfl | rfl | rfl | rfl | rfl | rfl | rfl | rfl | rfl | rfl | rfl | rfl | rfl | rfl | rfl | rfl | rfl | rfl | rfl
  ·exact e0
  ·exact e1
  ·exact e2.1
  ·exact e3.1
  ·exact e4
  ·exact e5
  ·exact e6
  ·exact a7 0 (by omega)
  ·exact a7 1 (by omega)
  ·exact a7 2 (by omega)
  ·exact a7 3 (by omega)
  ·exact a7 4 (by omega)
  ·exact a7 5 (by omega)
  ·exact a7 6 (by omega)
  ·exact a7 7 (by omega)
  ·exact a7 8 (by omega)
  ·exact a7 9 (by omega)
  ·exact a7 10 (by omega)
  ·exact a7 11 (by omega)
  ·exact a7 12 (by omega)
  ·exact a7 13 (by omega)
  ·exact a7 14 (by omega)
  ·exact a7 15 (by omega)
  ·exact e8
theorem open_nodes {H : Type} {enc : TypeId × Value → H} {W : World} {d : DataW H} {ps : List MemPlace} {a : Option Addr} {len cap : Nat}
  (h : DataW.Trod enc Tryz.prog W 0 (fun _ => true) true 22 (.slice a len cap) d ps) :
  ∃ xs : List Ng, len = xs.length ∧ CV W a (flatG xs) ∧ (a = none → cap = 0) ∧ (xs.length ≤ cap ∧ cap ≤ maxLen) ∧ (∀ x ∈ xs, x.ok) ∧ ((d = .nil ∧ xs = []) ∨ ∃ elems spare, d = .slice elems spare ∧ xs.length ≤ elems.length + spare.length) := by
 obtain ⟨fuel, hf⟩ := h
 rcases Go.Deep.open_slice Tryz.underlying22 hf with ⟨hcs, hx⟩ | ⟨x, l, c, m, n, D, Pl, hcs, _, hl, hm, hmm, hx, hcell⟩
 ·simp [Value.cells] at hcs
  obtain ⟨rfl, rfl, rfl⟩ := hcs
  simp only [Prod.mk.injEq] at hx
  exact ⟨[], rfl, ⟨fun _ => rfl, fun ad had => (by cases had)⟩, fun _ => rfl, ⟨Nat.le_refl _, Nat.zero_le _⟩, (fun x hx => by cases hx), .inl ⟨hx.1, rfl⟩⟩
 ·simp [Value.cells] at hcs
  obtain ⟨rfl, rfl, rfl⟩ := hcs
  simp only [Prod.mk.injEq] at hx
  simp only [if_true] at hmm
  have hmm' : m = cap := hmm
  rw [cellsNd] at hcell
  have hlen : ((List.range len).map fun i => ngOf ((W.cells? 0 (x.add (i * 24)) 24).getD [])).length = len := by simp
  refine ⟨(List.range len).map fun i => ngOf ((W.cells? 0 (x.add (i * 24)) 24).getD []), hlen.symm, ⟨fun h => (by cases h), fun ad had q hq => ?_⟩, fun h => (by cases h), ⟨by rw [hlen]; exact hl, hm⟩, fun y hy => ?_, .inr ⟨_, _, hx.1, ?_⟩⟩
  ·obtain rfl := Option.some.inj had
   have hq4 : q < len * 24 := by rw [flatG_len, hlen] at hq; exact hq
   obtain ⟨cs', hcs', htr⟩ := hcell (q / 24) (by omega)
   obtain ⟨_, hl4, hget⟩ := World.cells?_some hcs'
   have hk := (node_cells htr).1
   have hj : q % 24 < 24 := Nat.mod_lt _ (by decide)
   have e1 : (x.add (q / 24 * 24)).add (q % 24) = x.add q := by
    rw [Addr.add_add]
    congr 1
    omega
   have e2 := hget (q % 24) hj
   rw [e1] at e2
   rw [e2]
   have e3 := flatG_get ((List.range len).map fun i => ngOf ((W.cells? 0 (x.add (i * 24)) 24).getD [])) (q / 24) (q % 24) (by rw [hlen]; omega) hj
   rw [show q / 24 * 24 + q % 24 = q by omega, List.getElem?_eq_getElem hq] at e3
   rw [e3]
   simp only [List.getElem_map, List.getElem_range, hcs', Option.getD_some]
   rw [← hk]
  ·obtain ⟨i, hi, rfl⟩ := List.mem_map.1 hy
   rw [List.mem_range] at hi
   obtain ⟨cs', hcs', htr⟩ := hcell i (by omega)
   rw [hcs', Option.getD_some]
   exact (node_cells htr).2
  ·rw [hlen]
   simp

open Go.ChangeShapes Go.WideShapes Go.ChangeAt Go.RowKit
def laidL : List (String × DataW Unit) := [("math/bits.deBruijn32tab", Rows.laid_math_bits_deBruijn32tab), ("math/bits.deBruijn64tab", Rows.laid_math_bits_deBruijn64tab), ("internal/strconv.uint64pow10", Rows.laid_internal_strconv_uint64pow10)] 
theorem tab_type : (Tryz.prog.globals[4]?).map (·.type) = some 210 := by kernel_rfl
theorem tab_cells : Tryz.prog.cellsOf 210 = 20 := by kernel_rfl
theorem tab_cell : Tryz.prog.cellsOf 159 = 1 := by kernel_rfl
theorem tab_data : (Rows.laid_internal_strconv_uint64pow10 : DataW Unit) = Lib.tabData .u64 Lib.pow10Tab := by kernel_rfl
def litsOf13 : DataW Unit → List Int
 | .agg ds => ds.map fun | .lit (.int _ z) => z | _ => 0
 | _ => []
theorem last_global : Tryz.prog.globalNamed "math/bits.deBruijn64tab" = some 6 := by kernel_rfl
theorem last_type : (Tryz.prog.globals[6]?).map (·.type) = some 221 := by kernel_rfl
theorem last_cells : Tryz.prog.cellsOf 221 = 64 := by kernel_rfl
theorem last_cell : Tryz.prog.cellsOf 5 = 1 := by kernel_rfl
theorem last_data : (Rows.laid_math_bits_deBruijn64tab : DataW Unit) = Lib.tabData .u8 (litsOf13 Rows.laid_math_bits_deBruijn64tab) := by kernel_rfl
theorem last_at : (litsOf13 Rows.laid_math_bits_deBruijn64tab).getD 15 0 = 4 ∧ 15 < (litsOf13 Rows.laid_math_bits_deBruijn64tab).length := by decide +kernel
theorem laid_tab {W : World} (h : laidMetH Tryz.prog laidL W) (hsh : W.ShapedOpen Tryz.prog) : TabA W := by
 have h1 : laidMet Tryz.prog laidL W := h
 refine ⟨?_, ?_, ?_⟩
 ·have h2 := h1.tail.tail
  rw [tab_data] at h2
  exact Lib.tabIs_of_head tab_global tab_type Tryz.underlying210 Tryz.underlying159 tab_cell tab_cells h2
 ·have h2 := h1.tail
  rw [last_data] at h2
  have h3 := Lib.tabIs_of_head last_global last_type Tryz.underlying221 Tryz.underlying5 last_cell last_cells h2
  have h4 := h3.cell last_global 15 last_at.2
  rw [last_at.1] at h4
  exact h4
 ·exact cell_of_shapedOpen_int (zero := #[.int .i64 0]) (t := 3) hsh (of_decide_eq_true (by kernel_rfl)) (by kernel_rfl) rfl (by kernel_rfl) (by kernel_rfl) Tryz.underlying3
abbrev TabB := TabA
theorem laid_tabB {W : World} (h : laidMetH Tryz.prog laidL W) (hsh : W.ShapedOpen Tryz.prog) : TabB W := laid_tab h hsh

noncomputable def laidWorld (os : Os) : World := World.laidAll Tryz.prog os laidL
theorem laid_met (os : Os) (args : Array Value) : laidMet Tryz.prog laidL ((laidWorld os).forCall (fun _ _ => 0) ⟨#[], args, []⟩).memory :=
 laidMet_laidAll args (by kernel_rfl) (by kernel_rfl)

end Go.Proofs.YtklipelnjgpnjaaGreatDoor
