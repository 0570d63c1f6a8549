import Derived.Test.YtklipelnjgpnjaaGreatDoorLotS17
import Derived.Test.YtklipelnjgpnjaaGreatDoorLotS18
import Derived.Test.YtklipelnjgpnjaaGreatDoorLotS38
import Derived.Test.YtklipelnjgpnjaaGreatDoorLotS33
import Derived.Test.YtklipelnjgpnjaaGreatDoorLotS21
import Derived.Test.YtklipelnjgpnjaaGreatDoorLotS11
import Derived.Test.YtklipelnjgpnjaaGreatDoorCards
import Derived.Test.YtklipelnjgpnjaaGreatDoorTie
import Derived.Test.YtklipelnjgpnjaaGreatDoorLotS36
import Derived.Test.YtklipelnjgpnjaaGreatDoorLotS35
import Derived.Deep.DeepHandedRow
import Derived.Deep.DeepWitnessRowRef
import Derived.Stop.LaidErr
import Derived.SliceStrings
import Derived.Lay
import Derived.Test.YtklipelnjgpnjaaGreatDoorLotS46
import Derived.Lib.LaidTab
import Derived.Shelf.Vars
set_option maxHeartbeats 64000000
set_option maxRecDepth 100000
namespace Go.Proofs.YtklipelnjgpnjaaGreatDoor
open Go.RowKit
theorem a3y {ts : List Tk} (h : ts ≠ []) : ts.tail.length + 1 = ts.length := by
 cases ts with
 | nil => exact absurd rfl h
 | cons a r => rfl
theorem ab7 {of at' side : Nat} {ts r : List Tk} {ns : List (Nd × Nat)} (h : S2 of at' side ts = .ok (ns, r)) : ns.length = 1 := by
 unfold S2 at h
 split at h
 ·obtain ⟨⟨n, r1⟩, h1, h2⟩ := m3 h
  cases h2
  rfl
 ·split at h
  ·obtain ⟨⟨n, r1⟩, h1, h2⟩ := m3 h
   obtain ⟨r2, h3, h4⟩ := m3 h2
   obtain ⟨⟨m, r3⟩, h5, h6⟩ := m3 h4
   cases h6
   rfl
  ·split at h
   ·obtain ⟨⟨n, r1⟩, h1, h2⟩ := m3 h
    cases h2
    rfl
   ·split at h
    ·obtain ⟨⟨n, r1⟩, h1, h2⟩ := m3 h
     obtain ⟨r2, h3, h4⟩ := m3 h2
     obtain ⟨⟨m, r3⟩, h5, h6⟩ := m3 h4
     cases h6
     rfl
    ·cases h
theorem b17 {ts r : List Tk} {ns : List (Nd × Nat)} (h : P8 ts = .ok (ns, r)) : ns.length = 1 := by
 unfold P8 at h
 split at h
 ·cases h; rfl
 ·split at h
  ·cases h; rfl
  ·split at h
   ·cases h; rfl
   ·split at h
    ·obtain ⟨⟨n, r1⟩, h1, h2⟩ := m3 h
     cases h2
     rfl
    ·split at h
     ·exact ab7 h
     ·cases h
def LnO (rec : Nat → List Tk → Out) : Prop := ∀ nest ts ns r, rec nest ts = .ok (ns, r) → ns.length + r.length ≤ ts.length
theorem aF3 {rec : Nat → List Tk → Out} (hr : LnO rec) {nest of at' : Nat} {ts r : List Tk} {ns : List (Nd × Nat)} (h : M1 rec nest of at' ts = .ok (ns, r)) : ns.length + r.length ≤ ts.length + 1 := by
 unfold M1 at h
 split at h
 ·rename_i hb
  obtain ⟨-, h⟩ := a16 h
  obtain ⟨⟨n1, r1⟩, h1, h2⟩ := m3 h
  obtain ⟨⟨n2, r2⟩, h3, h4⟩ := m3 h2
  cases h4
  have a1 := hr _ _ _ _ h1
  have a2 := (a78 h3).2
  have a3 := a3y (U7 hb.1)
  simp only [List.length_append, List.length_singleton] at *
  omega
 ·split at h
  ·cases h
  ·split at h
   ·rename_i hb
    obtain ⟨⟨n, r1⟩, h1, h2⟩ := m3 h
    cases h2
    have a2 := ((L3 (U7 hb.2)).trans (a28 h1)).2
    simp only [List.length_singleton]
    omega
   ·split at h
    ·have a1 := ab7 h
     have a2 := (a5m h).1.2
     omega
    ·cases h
     simp only [List.length_singleton]
     omega
theorem aN1 {rec : Nat → List Tk → Out} (hr : LnO rec) : LnO (s9 rec) := by
 intro nest ts ns r h
 unfold s9 at h
 split at h
 ·cases h
  have := (L3 (ts := ts) (a1h (by omega))).2
  simp only [List.length_singleton]
  omega
 ·split at h
  ·rename_i hb
   obtain ⟨-, h⟩ := a16 h
   obtain ⟨⟨n1, r1⟩, h1, h2⟩ := m3 h
   obtain ⟨r2, h3, h4⟩ := m3 h2
   cases h4
   have a1 := hr _ _ _ _ h1
   have a2 := (a2B h3).2
   have a3 := a3y (U7 hb)
   simp only at *
   omega
  ·split at h
   ·cases h
   ·rename_i hk
    have hk' : (hdT ts).kind = 2 := Decidable.byContradiction hk
    have hne := a1h (ts := ts) (by omega)
    split at h
    ·have a1 := aF3 hr h
     have a3 := a3y hne
     omega
    ·have a1 := b17 h
     have a2 := (af8 hk' h).1.2
     omega
theorem a9l {rec : List Tk → Out} (hr : ∀ ts ns r, rec ts = .ok (ns, r) → ns.length + r.length ≤ ts.length) (k : Nat) : ∀ (f : Nat) (ns : List (Nd × Nat)) (ts : List Tk) (ms : List (Nd × Nat)) (r : List Tk), q9 rec k f ns ts = .ok (ms, r) → ms.length + r.length ≤ ns.length + ts.length
 | 0, ns, ts, ms, r, h => by
  cases h
  exact Nat.le_refl _
 | f + 1, ns, ts, ms, r, h => by
  unfold q9 at h
  split at h
  ·cases h
   exact Nat.le_refl _
  ·rename_i nd ho
   have hne : ts ≠ [] := a1h (by
    unfold opT at ho
    split at ho
    ·omega
    ·cases ho)
   have a3 := a3y hne
   obtain ⟨⟨n1, r1⟩, h1, h2⟩ := m3 h
   have a1 := hr _ _ _ h1
   split at h2
   ·cases h2
    simp only [List.length_append, List.length_singleton] at *
    omega
   ·have a4 := a9l hr k f _ _ _ _ h2
    simp only [List.length_append, List.length_singleton] at *
    omega
theorem aa1 : ∀ (f k : Nat), LnO (d6 f k)
 | 0, k => fun nest ts ns r h => by cases h
 | f + 1, k => fun nest ts ns r h => by
  have ih := aa1 f
  rw [J9] at h
  unfold L0 at h
  split at h
  ·rename_i hb
   obtain ⟨-, h⟩ := a16 h
   obtain ⟨⟨n1, r1⟩, h1, h2⟩ := m3 h
   cases h2
   have hne : ts ≠ [] := by rcases hb.2 with hb | hb <;> exact U7 hb
   have a1 := ih 3 _ _ _ _ h1
   have a3 := a3y hne
   simp only [List.length_append, List.length_singleton] at *
   omega
  ·split at h
   ·rename_i hb
    obtain ⟨-, h⟩ := a16 h
    obtain ⟨⟨n1, r1⟩, h1, h2⟩ := m3 h
    cases h2
    have a1 := ih 11 _ _ _ _ h1
    have a3 := a3y (U7 hb.2)
    simp only [List.length_append, List.length_singleton] at *
    omega
   ·split at h
    ·exact ih (k + 1) _ _ _ _ h
    ·split at h
     ·exact aN1 (ih 1) _ _ _ _ h
     ·obtain ⟨⟨n1, r1⟩, h1, h2⟩ := m3 h
      have a1 := ih (k + 1) _ _ _ _ h1
      have a2 := a9l (fun ts ns r h => ih (k + 1) nest ts ns r h) k _ _ _ _ _ h2
      simp only at *
      omega
theorem aM2 {ts : List Tk} {ns : List (Nd × Nat)} (h : a1p ts = .ok ns) : ns.length ≤ ts.length := by
 unfold a1p at h
 obtain ⟨⟨v, r⟩, h1, h2⟩ := m3 h
 have a := aa1 _ _ _ _ _ _ h1
 simp only at h2
 split at h2
 ·cases h2; omega
 ·cases h2
theorem aY0 {s : List UInt8} {ts : List Tk} {x : Er} (h : U8 s = .ok ts) (hp : a08 s = .error x) : a2l ts x := by
 have hG := (a9c h).1
 unfold a08 at hp
 rw [h, D0] at hp
 rcases aM4 hG.1 with ⟨ns, h1, -⟩ | ⟨e, h1, h2⟩
 ·rw [h1] at hp; cases hp
 ·rw [h1] at hp
  cases hp
  exact h2
theorem aX7 {ts : List Tk} {x : Er} (h : a2l ts x) : x.2 = 110 ∨ x.2 = 111 ∨ x.2 = 112 ∨ x.2 = 113 := by
 obtain ⟨t, -, -, ⟨h, -⟩ | ⟨-, h | h | h⟩⟩ := h
 ·exact .inl h
 ·exact .inr (.inl h)
 ·exact .inr (.inr (.inl h))
 ·exact .inr (.inr (.inr h))
theorem aX8 {s : List UInt8} {x : Er} (hp : a08 s = .error x) : ¬ x.2 = 0 := fun h0 => by
 cases hx : U8 s with
 | error y =>
  have := a9a hx
  unfold a08 at hp
  rw [hx, ae0] at hp
  cases hp
  rw [h0] at this
  cases this
 | ok ts =>
  have := aX7 (aY0 hx hp)
  rw [h0] at this
  simp at this
theorem aX9 {s : List UInt8} {ns : List (Nd × Nat)} (h : a08 s = .ok ns) : ns.length ≤ 65537 := by
 obtain ⟨ts, h1, h2⟩ := m3 h
 have := aM2 h2
 obtain ⟨-, us, h3, h4, -⟩ := a9d h1
 have : ts.length = us.length + 1 := by rw [h3, List.length_append]; rfl
 omega
theorem ac3 {bf : Nat} {full : Bool} (HB : ∀ (l : Int) (w : World), Calls Tryz.prog bf #[.int .i64 l] w fun e w' => e = .returned (.int .i64 (gfB full l)) ∧ w' = w) (HF : ∀ (xs : Array Value) (w : World), (callFunc bf xs).run Tryz.prog w = .ok (.enter bf xs) w) (nb no cap : Nat) (t : List Ng) (T : Tr) (hw : T.Wf) (hf : T.flat = t) (hok : (M8 t).2 = 0) (hn : ∀ x ∈ t, x.n ≤ 4294967295) (hmm : ∀ x ∈ t, x.m ≤ 4294967295) (w : World) (TA : j4 w) (C : CV w (some ⟨nb, no, none⟩) (D6 t)) :
  Calls Tryz.prog 24 #[.slice (some ⟨nb, no, none⟩) t.length cap, .func (.func bf) #[] #[]] w fun e w' => e = .returned (a0T full T) ∧ w.grownBy w' none := by
 obtain ⟨hty, hnok, hl, hne⟩ := ar9 hok hn hmm hw hf
 have hne := hne full
 have htl := a5w full T
 rw [hf] at htl
 have CK := a8d (some ⟨nb, no, none⟩) cap t w C (by omega) hn
 unfold a1J at CK
 rw [hok] at CK
 have HWR : Hid (∀ W, w.grownBy W none → Calls Tryz.prog 45 #[.slice (some ⟨nb, no, none⟩) t.length cap, .func (.func bf) #[] #[]] W fun e w' => ∃ v ts, e = .returned (.agg #[v, .int .i64 0, .int .i64 ((T.txt full).2 : Int)]) ∧ w'.ownsRow W.heap.size 9 1 v ts.length (ts.map str) ∧ ts.reverse.flatten = (T.txt full).1 ∧ ts.length ≤ 800000 ∧ (ts = [] → (T.txt full).1 = []) ∧ W.grownBy w' none) := fun W G => b1f HB HF nb no cap t T hw hty hf hnok (by omega) W (fun V hV => (TA.grown G).grown (a0M hV)) (C.keptNone G)
 have HTL : Hid ((T.txt full).1.length ≤ 1600 * t.length ∧ t.length ≤ 3000) := ⟨htl.1, hl⟩
 have hd := htl.2
 have HS : Hid (a0T full T = if 200 < (T.txt full).2 then .tuple #[str [], .int .i64 131] else .tuple #[str (T.txt full).1, .int .i64 0]) := rfl
 have HNE : Hid ((T.txt full).1 ≠ []) := hne
 obtain ⟨R, hR⟩ : ∃ R, a0T full T = R := ⟨_, rfl⟩
 rw [hR] at HS ⊢
 obtain ⟨tx, htx⟩ : ∃ tx, (T.txt full).1 = tx := ⟨_, rfl⟩
 obtain ⟨dx, hdx⟩ : ∃ dx, (T.txt full).2 = dx := ⟨_, rfl⟩
 rw [htx] at HTL HNE
 rw [htx, hdx] at HS HWR
 rw [hdx] at hd
 clear htl hne hR htx hdx TA C hn hmm hok hnok hty hw hf
 go_enter Tryz.func24, Tryz.ntmps24
 have HCK : Hid (Calls _ _ _ _ _) := CK
 clear CK hd
 go_wp2_with fail
 refine HCK.out.mono ?_
 rintro e w1 ⟨rfl, K1⟩
 have HK1 : Hid (w.grownBy w1 none) := K1
 have CW := HWR.out w1 K1
 have HCW : Hid (Calls _ _ _ _ _) := CW
 clear HCK K1 HWR CW
 go_wp2_with fail
 refine HCW.out.mono ?_
 rintro e w2 ⟨v, ts, rfl, O, hts, htl, hnil, K2⟩
 obtain ⟨ao, n2, c2, rfl⟩ : ∃ ao n c, v = .slice ao n c := by rcases O.2 with ⟨rfl, -⟩ | ⟨g, cap, cur, rfl, -⟩ <;> exact ⟨_, _, _, rfl⟩
 have HO : Hid (w2.ownsRow w1.heap.size 9 1 (.slice ao n2 c2) ts.length (ts.map str)) := O
 have HTS : Hid (ts.reverse.flatten = tx ∧ ts.length ≤ 800000 ∧ (ts = [] → tx = [])) := ⟨hts, htl, hnil⟩
 have HK2 : Hid (w1.grownBy w2 none) := K2
 clear HCW O hts htl hnil K2
 by_cases h200 : 200 < dx
 ·have hdec : (200 : Int) < (dx : Int) := by omega
  rw [if_pos h200] at HS
  clear h200
  go_wp2
  go_ret2
  refine ⟨?_, ?_⟩
  ·rw [HS.out]
   rfl
  ·exact d3 (d3 HK1.out HK2.out) (World.grownBy_alloc _ _ _)
 ·have hdec : ¬ ((200 : Int) < (dx : Int)) := by omega
  rw [if_neg h200] at HS
  clear h200
  go_wp2_with fail
  have hne : ts ≠ [] := fun e => HNE.out (HTS.out.2.2 e)
  have G3 := World.grownBy_alloc w2 (.cells #[.slice ao n2 c2, .int .i64 0, .int .i64 (dx : Int)] 87) none
  have V3 : VAt (w2.alloc (.cells #[.slice ao n2 c2, .int .i64 0, .int .i64 (dx : Int)] 87)) w2.heap.size 87 #[.slice ao n2 c2, .int .i64 0, .int .i64 (dx : Int)] := VAt.alloc _ _ _
  have HT := b02 w1.heap.size w1.heap.size w2.heap.size ts (.slice ao n2 c2) 0 (dx : Int) (w2.alloc (.cells #[.slice ao n2 c2, .int .i64 0, .int .i64 (dx : Int)] 87)) (fun e => by have := (HO.out.lt _ e).2; omega) (Nat.le_refl _) ⟨V3, D8 HO.out G3⟩ hne (by have := HTS.out.2.1; omega) (by rw [HTS.out.1]; have := HTL.out; omega)
  have HG3 : Hid (w.grownBy (w2.alloc (.cells #[.slice ao n2 c2, .int .i64 0, .int .i64 (dx : Int)] 87)) none) := d3 (d3 HK1.out HK2.out) G3
  have HL : Hid (w.heap.size ≤ w1.heap.size) := HK1.out.size
  rw [HTS.out.1] at HT
  refine HT.mono ?_
  clear HT G3 V3 hne
  rintro e w4 ⟨rfl, B4⟩
  go_wp2
  go_ret2
  refine ⟨?_, ?_⟩
  ·rw [HS.out]
   rfl
  ·exact a0M ((a1x HG3.out).trans (B4.mono HL.out))
theorem aV0 (t : List Ng) (ao : Option Addr) (cap : Nat) (w : World) (R : Value) (r1 r2 : Value) (hR : R = .tuple #[r1, r2]) (H : Calls Tryz.prog 24 #[.slice ao t.length cap, .func (.func 25) #[] #[]] w fun e w' => e = .returned R ∧ w.grownBy w' none) :
  Calls Tryz.prog 11 #[.slice ao t.length cap] w fun e w' => e = .returned R ∧ w.grownBy w' none := by
 subst hR
 have HH : Hid (Calls _ _ _ _ _) := H
 clear H
 go_enter Tryz.func11, Tryz.ntmps11
 go_wp2_with fail
 refine HH.out.mono ?_
 rintro e w1 ⟨rfl, K1⟩
 clear HH
 go_wp2
 go_ret2
 exact ⟨rfl, K1⟩
theorem aU7 (T : Tr) : ∃ r1 r2, a0T false T = .tuple #[r1, r2] := by
 unfold a0T
 split <;> exact ⟨_, _, rfl⟩
theorem ab5 (ao : Option Addr) (cap : Nat) (t : List Ng) (T : Tr) (hw : T.Wf) (hf : T.flat = t) (hok : (M8 t).2 = 0) (hn : ∀ x ∈ t, x.n ≤ 4294967295) (hmm : ∀ x ∈ t, x.m ≤ 4294967295) (w : World) (TA : j4 w) (C : CV w ao (D6 t)) :
  Calls Tryz.prog 11 #[.slice ao t.length cap] w fun e w' => e = .returned (a0T false T) ∧ w.grownBy w' none := by
 have ht : 0 < t.length := by rw [← hf]; exact List.length_pos_iff.2 T.flat_ne
 obtain ⟨b, o, rfl, -⟩ := C.ngs (k := 0) ht
 obtain ⟨r1, r2, hr⟩ := aU7 T
 exact aV0 t _ cap w _ r1 r2 hr (ac3 (full := false) aj4 an7 b o cap t T hw hf hok hn hmm w TA C)
theorem aU9 (t : List Ng) (ao : Option Addr) (cap : Nat) (w : World) (R : Value) (r1 r2 : Value) (hR : R = .tuple #[r1, r2]) (H : Calls Tryz.prog 24 #[.slice ao t.length cap, .func (.func 27) #[] #[]] w fun e w' => e = .returned R ∧ w.grownBy w' none) :
  Calls Tryz.prog 13 #[.slice ao t.length cap] w fun e w' => e = .returned R ∧ w.grownBy w' none := by
 subst hR
 have HH : Hid (Calls _ _ _ _ _) := H
 clear H
 go_enter Tryz.func13, Tryz.ntmps13
 go_wp2_with fail
 refine HH.out.mono ?_
 rintro e w1 ⟨rfl, K1⟩
 clear HH
 go_wp2
 go_ret2
 exact ⟨rfl, K1⟩
theorem aU6 (T : Tr) : ∃ r1 r2, a0T true T = .tuple #[r1, r2] := by
 unfold a0T
 split <;> exact ⟨_, _, rfl⟩
theorem aU8 (ao : Option Addr) (cap : Nat) (t : List Ng) (T : Tr) (hw : T.Wf) (hf : T.flat = t) (hok : (M8 t).2 = 0) (hn : ∀ x ∈ t, x.n ≤ 4294967295) (hmm : ∀ x ∈ t, x.m ≤ 4294967295) (w : World) (TA : j4 w) (C : CV w ao (D6 t)) :
  Calls Tryz.prog 13 #[.slice ao t.length cap] w fun e w' => e = .returned (a0T true T) ∧ w.grownBy w' none := by
 have ht : 0 < t.length := by rw [← hf]; exact List.length_pos_iff.2 T.flat_ne
 obtain ⟨b, o, rfl, -⟩ := C.ngs (k := 0) ht
 obtain ⟨r1, r2, hr⟩ := aU6 T
 exact aU9 t _ cap w _ r1 r2 hr (ac3 (full := true) aj3 an6 b o cap t T hw hf hok hn hmm w TA C)
def aw1 : Ng := { ngZ with kind := 11, of := 2 }
def aw2 : Ng := { ngZ with kind := 11, of := 5 }
def aw3 : Ng := { ngZ with kind := 9 }
def aw4 : Ng := { ngZ with kind := 8 }
def awT : Tr := .one aw3 (.two aw4 (.leaf aw1) (.one aw3 (.leaf aw2)))
theorem a81 : awT.Wf := ⟨rfl, rfl, rfl, rfl, rfl⟩
theorem a7Z : (M8 [aw1, aw2, aw3, aw4, aw3]).2 = 0 := by kernel_rfl
theorem ai8 : a0T false awT = .tuple #[.string ⟨#[110, 111, 116, 32, 40, 105, 112, 32, 111, 114, 32, 110, 111, 116, 32, 117, 100, 112, 41]⟩, .int .i64 0] := by kernel_rfl
theorem ai7 : a0T true awT = .tuple #[.string ⟨#[110, 111, 116, 32, 40, 105, 112, 32, 111, 114, 32, 40, 110, 111, 116, 32, 117, 100, 112, 41, 41]⟩, .int .i64 0] := by kernel_rfl
theorem ai9 (w : World) (TA : j4 w) : Calls Tryz.prog 14 #[] w fun e w' => e = .returned (.bool true) ∧ w.grownBy w' none := by
 have HCS : Hid (∀ W, w.grownBy W none → CV W (some ⟨w.heap.size, 0, none⟩) (D6 [aw1, aw2, aw3, aw4, aw3]) → Calls Tryz.prog 11 #[.slice (some ⟨w.heap.size, 0, none⟩) 5 5] W fun e w' => e = .returned (.tuple #[.string ⟨#[110, 111, 116, 32, 40, 105, 112, 32, 111, 114, 32, 110, 111, 116, 32, 117, 100, 112, 41]⟩, .int .i64 0]) ∧ W.grownBy w' none) := fun W G C => by
  have := ab5 _ 5 [aw1, aw2, aw3, aw4, aw3] awT a81 rfl a7Z (by simp [aw1, aw2, aw3, aw4, ngZ]) (by simp [aw1, aw2, aw3, aw4, ngZ]) W (TA.grown G) C
  rw [ai8] at this
  exact this
 have HCF : Hid (∀ W, w.grownBy W none → CV W (some ⟨w.heap.size, 0, none⟩) (D6 [aw1, aw2, aw3, aw4, aw3]) → Calls Tryz.prog 13 #[.slice (some ⟨w.heap.size, 0, none⟩) 5 5] W fun e w' => e = .returned (.tuple #[.string ⟨#[110, 111, 116, 32, 40, 105, 112, 32, 111, 114, 32, 40, 110, 111, 116, 32, 117, 100, 112, 41, 41]⟩, .int .i64 0]) ∧ W.grownBy w' none) := fun W G C => by
  have := aU8 _ 5 [aw1, aw2, aw3, aw4, aw3] awT a81 rfl a7Z (by simp [aw1, aw2, aw3, aw4, ngZ]) (by simp [aw1, aw2, aw3, aw4, ngZ]) W (TA.grown G) C
  rw [ai7] at this
  exact this
 clear TA
 go_enter Tryz.func14, Tryz.ntmps14
 go_upto_region 2 with fail
 generalize hW : w.alloc (Obj.cells _ 43) = W
 have hW' : w.alloc (.cells (D6 [aw1, aw2, aw3, aw4, aw3]).toArray 43) = W := hW
 clear hW
 have G : w.grownBy W none := hW' ▸ World.grownBy_alloc _ _ _
 have C : CV W (some ⟨w.heap.size, 0, none⟩) (D6 [aw1, aw2, aw3, aw4, aw3]) := by
  rw [← hW']
  exact ⟨fun h => (by cases h), fun ad had j hj => by
   obtain rfl := Option.some.inj had
   have e : ((⟨w.heap.size, 0, none⟩ : Addr).add j) = ⟨w.heap.size, j, none⟩ := by unfold Addr.add; split <;> simp_all
   rw [e, VAt.cell (VAt.alloc w _ _) j]
   simp [hj]⟩
 have HG : Hid (w.grownBy W none) := G
 have HC : Hid (CV W (some ⟨w.heap.size, 0, none⟩) (D6 [aw1, aw2, aw3, aw4, aw3])) := C
 clear hW' G C
 go_wp2_with fail
 refine (HCS.out W HG.out HC.out).mono ?_
 rintro e w2 ⟨rfl, K2⟩
 have HK2 : Hid (W.grownBy w2 none) := K2
 clear K2 HCS
 go_wp2_with fail
 refine (HCF.out w2 (d3 HG.out HK2.out) (HC.out.keptNone HK2.out)).mono ?_
 rintro e w3 ⟨rfl, K3⟩
 clear HCF
 go_wp2
 go_ret
 exact ⟨rfl, d3 (d3 HG.out HK2.out) K3⟩

open Go.ChangeShapes Go.WideShapes Go.ChangeAt Go.RowKit
def a2x : List (String × DataW Unit) := [("math/bits.deBruijn32tab", Rows.laid_math_bits_deBruijn32tab), ("math/bits.deBruijn64tab", Rows.laid_math_bits_deBruijn64tab), ("internal/strconv.uint64pow10", Rows.laid_internal_strconv_uint64pow10), ("strconv.ErrRange", Rows.laid_strconv_ErrRange), ("strconv.ErrSyntax", Rows.laid_strconv_ErrSyntax), ("riddle/lex.signs", Rows.laid_riddle_lex_signs)]
theorem ab3 : Tryz.prog.globalNamed "riddle/lex.signs" = some 0 := by kernel_rfl
theorem aU0 : (Tryz.prog.globals[0]?).map (·.type) = some 82 := by kernel_rfl
theorem aT8 : Tryz.prog.cellsOf 9 = 1 := by kernel_rfl
theorem ar5 : Tryz.prog.globalNamed "strconv.ErrSyntax" = some 2 := by kernel_rfl
theorem ar6 : (Tryz.prog.globals[2]?).map (·.type) = some 152 := by kernel_rfl
theorem ar3 : Tryz.prog.globalNamed "strconv.ErrRange" = some 3 := by kernel_rfl
theorem ar4 : (Tryz.prog.globals[3]?).map (·.type) = some 152 := by kernel_rfl
theorem aT9 : (Rows.laid_riddle_lex_signs : DataW Unit) = .slice (a0U.map fun l => .lit (.string l)) [] := by kernel_rfl
theorem a90 {W : World} {n nm : String} {d : DataW Unit} {r : List (String × DataW Unit)} {g : Nat} (h : laidMet Tryz.prog ((n, .iface nm d) :: r) W) (hg : Tryz.prog.globalNamed n = some g) (ht : (Tryz.prog.globals[g]?).map (·.type) = some 152) :
  ∃ t v, W.cell? ⟨g, 0, none⟩ = some (.iface t v) := by
 obtain ⟨ps, ⟨g', t', cs, fuel, p, q, hg', ht', hv, hd, _, _⟩, _⟩ := h
 obtain rfl := Option.some.inj (hg.symm.trans hg')
 obtain rfl := Option.some.inj (ht.symm.trans ht')
 obtain ⟨l⟩ := cs
 obtain ⟨f1, u, v, hl, -, -⟩ := iface_of_trod Tryz.underlying152 hd
 simp only at hl
 subst hl
 exact ⟨u, v, by simpa using World.var?_cell hg hv 0⟩
theorem aW7 {W : World} {r : List (String × DataW Unit)} (h : laidMet Tryz.prog (("riddle/lex.signs", Rows.laid_riddle_lex_signs) :: r) W) :
  ∃ ao cap, W.cell? ⟨0, 0, none⟩ = some (.slice ao 25 cap) ∧ CV W ao (a0U.map str) := by
 obtain ⟨ps, ⟨g', t', cs, fuel, p, q, hg', ht', hv, hd, _, _⟩, _⟩ := h
 obtain rfl := Option.some.inj (ab3.symm.trans hg')
 obtain rfl := Option.some.inj (aU0.symm.trans ht')
 obtain ⟨l⟩ := cs
 rw [aT9] at hd
 have hlen : a0U.length = 25 := rfl
 rcases open_strings Tryz.underlying82 Tryz.underlying9 aT8 hd with ⟨_, hx⟩ | ⟨a, len, cap, ss, hcs, _, hl, hm, hz, hx, hcell, hsz⟩
 ·simp at hx
 ·simp only at hcs
  subst hcs
  simp only [Prod.mk.injEq, DataW.slice.injEq] at hx
  have h1 := hx.1.1
  have hll : len = 25 := by
   have := congrArg List.length h1
   have hle : len ≤ ss.length := by rw [hz]; split <;> omega
   simp [strs, hlen] at this
   omega
  subst hll
  have hle : 25 ≤ ss.length := by rw [hz]; split <;> omega
  refine ⟨some a, cap, by simpa using World.var?_cell ab3 hv 0, fun h => (by cases h), fun ad had i hi => ?_⟩
  obtain rfl := Option.some.inj had
  rw [List.length_map, hlen] at hi
  have hc := hcell i (by omega)
  rw [hc]
  have h2 := congrArg (·[i]?) h1
  simp only [strs, List.getElem?_map, List.getElem?_take] at h2
  rw [if_pos hi, List.getElem?_eq_getElem (by omega : i < ss.length), List.getElem?_eq_getElem (by rw [hlen]; exact hi)] at h2
  simp only [Option.map_some, Option.some.injEq, DataW.lit.injEq, Lit.string.injEq] at h2
  rw [List.getElem_map, List.getD_eq_getElem?_getD, List.getElem?_eq_getElem (by omega : i < ss.length), Option.getD_some, h2, str]
theorem aA1 {W : World} (h : laidMetH Tryz.prog a2x W) (_ : W.ShapedOpen Tryz.prog) : Tab W := by
 have h1 : laidMet Tryz.prog a2x W := h
 have h2 := h1.tail.tail.tail
 have h3 := h2.tail
 have h4 := h3.tail
 exact ⟨aW7 h4, a90 h3 ar5 ar6, a90 h2 ar3 ar4⟩

noncomputable def a6s (os : Os) : World := World.laidAll Tryz.prog os a2x
theorem aA0 (os : Os) (args : Array Value) : laidMet Tryz.prog a2x ((a6s os).forCall (fun _ _ => 0) ⟨#[], args, []⟩).memory :=
 laidMet_laidAll args (by kernel_rfl) (by kernel_rfl)

open Go.ChangeShapes Go.WideShapes Go.ChangeAt Go.RowKit
theorem b01 : (Tryz.prog.globals[4]?).map (·.type) = some 210 := by kernel_rfl
theorem aZ9 : Tryz.prog.cellsOf 210 = 20 := by kernel_rfl
theorem aZ8 : Tryz.prog.cellsOf 159 = 1 := by kernel_rfl
theorem b00 : (Rows.laid_internal_strconv_uint64pow10 : DataW Unit) = Lib.tabData .u64 Lib.pow10Tab := by kernel_rfl
def a6y : DataW Unit → List Int
 | .agg ds => ds.map fun | .lit (.int _ z) => z | _ => 0
 | _ => []
theorem a98 : Tryz.prog.globalNamed "math/bits.deBruijn64tab" = some 6 := by kernel_rfl
theorem aA7 : (Tryz.prog.globals[6]?).map (·.type) = some 221 := by kernel_rfl
theorem aA5 : Tryz.prog.cellsOf 221 = 64 := by kernel_rfl
theorem aA4 : Tryz.prog.cellsOf 5 = 1 := by kernel_rfl
theorem aA6 : (Rows.laid_math_bits_deBruijn64tab : DataW Unit) = Lib.tabData .u8 (a6y Rows.laid_math_bits_deBruijn64tab) := by kernel_rfl
theorem a97 : (a6y Rows.laid_math_bits_deBruijn64tab).getD 15 0 = 4 ∧ 15 < (a6y Rows.laid_math_bits_deBruijn64tab).length := by decide +kernel
theorem aA2 {W : World} (h : laidMetH Tryz.prog a2x W) (hsh : W.ShapedOpen Tryz.prog) : j4 W := by
 have h1 : laidMet Tryz.prog a2x W := h
 refine ⟨?_, ?_, ?_⟩
 ·have h2 := h1.tail.tail
  rw [b00] at h2
  exact Lib.tabIs_of_head ad5 b01 Tryz.underlying210 Tryz.underlying159 aZ8 aZ9 h2
 ·have h2 := h1.tail
  rw [aA6] at h2
  have h3 := Lib.tabIs_of_head a98 aA7 Tryz.underlying221 Tryz.underlying5 aA4 aA5 h2
  have h4 := h3.cell a98 15 a97.2
  rw [a97.1] at h4
  exact h4
 ·exact cell_of_shapedOpen_int (zero := #[.int .i64 0]) (t := 3) hsh (of_decide_eq_true (by kernel_rfl)) (by kernel_rfl) rfl (by kernel_rfl) (by kernel_rfl) Tryz.underlying3
theorem aA3 {W : World} (h : laidMetH Tryz.prog a2x W) (hsh : W.ShapedOpen Tryz.prog) : a1e W := ⟨aA1 h hsh, aA2 h hsh⟩

end Go.Proofs.YtklipelnjgpnjaaGreatDoor
