import Derived.Test.YtklipelnjgpnjaaGreatDoorLotN45
import Derived.Test.YtklipelnjgpnjaaGreatDoorLotN3
import Derived.Test.YtklipelnjgpnjaaGreatDoorLotN12
import Derived.Test.YtklipelnjgpnjaaGreatDoorLotN13
import Derived.Test.YtklipelnjgpnjaaGreatDoorLotN37
import Derived.Test.YtklipelnjgpnjaaGreatDoorLotN15
import Derived.Test.YtklipelnjgpnjaaGreatDoorLotN40
import Derived.Test.YtklipelnjgpnjaaGreatDoorLotN34
import Derived.Test.YtklipelnjgpnjaaGreatDoorLotN22
import Derived.Test.YtklipelnjgpnjaaGreatDoorLotN8
import Derived.Test.YtklipelnjgpnjaaGreatDoorCards
import Derived.Test.YtklipelnjgpnjaaGreatDoorTie
import Derived.Test.YtklipelnjgpnjaaGreatDoorLotN36
import Derived.Test.YtklipelnjgpnjaaGreatDoorLotN35
import Derived.Deep.DeepHandedRow
import Derived.Deep.DeepWitnessRowRef
import Derived.Stop.LaidErr
import Derived.SliceStrings
import Derived.Lay
import Derived.Lib.LaidTab
import Derived.Shelf.Vars
set_option maxHeartbeats 64000000
set_option maxRecDepth 100000
namespace Go.Proofs.YtklipelnjgpnjaaGreatDoor
open Go.RowKit
theorem aJ7 {s : List UInt8} {t : List Ng} {ns : List (Nd × Nat)} (hp : U2 s = .ok ns) (hf : ns.map (·.1.g) = t) (hs : s.length ≤ 140737488355328) (W : World) (TW : a04 W) :
  Calls Tryz.prog 17 #[.string ⟨s.toArray⟩] W fun e w' => ∃ ao cap vp, e = .returned (.tuple #[.slice ao t.length cap, vp, .int .i64 0, .int .i64 0]) ∧ CV w' ao (p9 t) ∧ (ao = none → cap = 0) ∧ W.grownBy w' none := by
 refine (a9w ⟨s.toArray⟩ (by simpa [ByteArray.size] using hs) W TW).mono ?_
 rintro e w' ⟨vt, vp, rfl, O, -, G⟩
 have hsl : sl ⟨s.toArray⟩ = s := by simp [sl]
 rw [hsl, hp] at O ⊢
 simp only [prN, prP, prE] at O ⊢
 obtain ⟨ao, cap, rfl, C, -, -, h0, -, -⟩ := S5 O
 rw [← ar1, List.map_map] at C
 subst hf
 refine ⟨ao, cap, vp, by rw [List.length_map, List.length_map]; rfl, C, h0, G⟩
theorem aJ3 {s : ByteArray} {x : Er} (hp : U2 (sl s) = .error x) (hs : s.size ≤ 140737488355328) (W : World) (TW : a04 W) :
  Calls Tryz.prog 17 #[.string s] W fun e w' => ∃ vt vp p, e = .returned (.tuple #[vt, vp, p, .int .i64 x.2]) ∧ W.grownBy w' none := by
 refine (a9w s hs W TW).mono ?_
 rintro e w' ⟨vt, vp, rfl, -, -, G⟩
 rw [hp]
 exact ⟨vt, vp, _, rfl, G⟩
theorem aJ9 (X : ByteArray) (hs : X.size ≤ 140737488355328) (hno : ∀ x, U2 (sl X) = .error x → x.2 ≠ 0) :
  (∃ c : Int, c ≠ 0 ∧ ∀ W, a04 W → Calls Tryz.prog 17 #[.string X] W fun e w' => ∃ vt vp p, e = .returned (.tuple #[vt, vp, p, .int .i64 c]) ∧ W.grownBy w' none) ∨
  (∃ ns t, U2 (sl X) = .ok ns ∧ ns.map (·.1.g) = t ∧ ∀ W, a04 W → Calls Tryz.prog 17 #[.string X] W fun e w' => ∃ ao cap vp, e = .returned (.tuple #[.slice ao t.length cap, vp, .int .i64 0, .int .i64 0]) ∧ CV w' ao (p9 t) ∧ (ao = none → cap = 0) ∧ W.grownBy w' none) := by
 cases hp : U2 (sl X) with
 | error x => exact .inl ⟨x.2, hno x hp, fun W TW => aJ3 hp hs W TW⟩
 | ok ns =>
  have hX : X = ⟨(sl X).toArray⟩ := by
   unfold sl
   rw [Array.toArray_toList]
  refine .inr ⟨ns, _, rfl, rfl, fun W TW => ?_⟩
  have h := aJ7 hp rfl (by unfold sl; rw [Array.length_toList]; exact hs) W TW
  rw [← hX] at h
  exact h
theorem a3h {ts : List Tk} (h : ts ≠ []) : ts.tail.length + 1 = ts.length := by
 cases ts with
 | nil => exact absurd rfl h
 | cons a r => rfl
theorem a9W {of at' side : Nat} {ts r : List Tk} {ns : List (Nd × Nat)} (h : a02 of at' side ts = .ok (ns, r)) : ns.length = 1 := by
 unfold a02 at h
 split at h
 ·obtain ⟨⟨n, r1⟩, h1, h2⟩ := j0 h
  cases h2
  rfl
 ·split at h
  ·obtain ⟨⟨n, r1⟩, h1, h2⟩ := j0 h
   obtain ⟨r2, h3, h4⟩ := j0 h2
   obtain ⟨⟨m, r3⟩, h5, h6⟩ := j0 h4
   cases h6
   rfl
  ·split at h
   ·obtain ⟨⟨n, r1⟩, h1, h2⟩ := j0 h
    cases h2
    rfl
   ·split at h
    ·obtain ⟨⟨n, r1⟩, h1, h2⟩ := j0 h
     obtain ⟨r2, h3, h4⟩ := j0 h2
     obtain ⟨⟨m, r3⟩, h5, h6⟩ := j0 h4
     cases h6
     rfl
    ·cases h
theorem b0q {ts r : List Tk} {ns : List (Nd × Nat)} (h : L7 ts = .ok (ns, r)) : ns.length = 1 := by
 unfold L7 at h
 split at h
 ·cases h; rfl
 ·split at h
  ·cases h; rfl
  ·split at h
   ·cases h; rfl
   ·split at h
    ·obtain ⟨⟨n, r1⟩, h1, h2⟩ := j0 h
     cases h2
     rfl
    ·split at h
     ·exact a9W h
     ·cases h
def LnO (rec : Nat → List Tk → Out) : Prop := ∀ nest ts ns r, rec nest ts = .ok (ns, r) → ns.length + r.length ≤ ts.length
theorem aD1 {rec : Nat → List Tk → Out} (hr : LnO rec) {nest of at' : Nat} {ts r : List Tk} {ns : List (Nd × Nat)} (h : T2 rec nest of at' ts = .ok (ns, r)) : ns.length + r.length ≤ ts.length + 1 := by
 unfold T2 at h
 split at h
 ·rename_i hb
  obtain ⟨-, h⟩ := a00 h
  obtain ⟨⟨n1, r1⟩, h1, h2⟩ := j0 h
  obtain ⟨⟨n2, r2⟩, h3, h4⟩ := j0 h2
  cases h4
  have a1 := hr _ _ _ _ h1
  have a2 := (a4O h3).2
  have a3 := a3h (T1 hb.1)
  simp only [List.length_append, List.length_singleton] at *
  omega
 ·split at h
  ·cases h
  ·split at h
   ·rename_i hb
    obtain ⟨⟨n, r1⟩, h1, h2⟩ := j0 h
    cases h2
    have a2 := ((I5 (T1 hb.2)).trans (a1x h1)).2
    simp only [List.length_singleton]
    omega
   ·split at h
    ·have a1 := a9W h
     have a2 := (a4L h).1.2
     omega
    ·cases h
     simp only [List.length_singleton]
     omega
theorem aK5 {rec : Nat → List Tk → Out} (hr : LnO rec) : LnO (L3 rec) := by
 intro nest ts ns r h
 unfold L3 at h
 split at h
 ·cases h
  have := (I5 (ts := ts) (a0V (by omega))).2
  simp only [List.length_singleton]
  omega
 ·split at h
  ·rename_i hb
   obtain ⟨-, h⟩ := a00 h
   obtain ⟨⟨n1, r1⟩, h1, h2⟩ := j0 h
   obtain ⟨r2, h3, h4⟩ := j0 h2
   cases h4
   have a1 := hr _ _ _ _ h1
   have a2 := (a1K h3).2
   have a3 := a3h (T1 hb)
   simp only at *
   omega
  ·split at h
   ·cases h
   ·rename_i hk
    have hk' : (hdT ts).kind = 2 := Decidable.byContradiction hk
    have hne := a0V (ts := ts) (by omega)
    split at h
    ·have a1 := aD1 hr h
     have a3 := a3h hne
     omega
    ·have a1 := b0q h
     have a2 := (a6U hk' h).1.2
     omega
theorem a8T {rec : List Tk → Out} (hr : ∀ ts ns r, rec ts = .ok (ns, r) → ns.length + r.length ≤ ts.length) (k : Nat) : ∀ (f : Nat) (ns : List (Nd × Nat)) (ts : List Tk) (ms : List (Nd × Nat)) (r : List Tk), x8 rec k f ns ts = .ok (ms, r) → ms.length + r.length ≤ ns.length + ts.length
 | 0, ns, ts, ms, r, h => by
  cases h
  exact Nat.le_refl _
 | f + 1, ns, ts, ms, r, h => by
  unfold x8 at h
  split at h
  ·cases h
   exact Nat.le_refl _
  ·rename_i nd ho
   have hne : ts ≠ [] := a0V (by
    unfold opT at ho
    split at ho
    ·omega
    ·cases ho)
   have a3 := a3h hne
   obtain ⟨⟨n1, r1⟩, h1, h2⟩ := j0 h
   have a1 := hr _ _ _ h1
   split at h2
   ·cases h2
    simp only [List.length_append, List.length_singleton] at *
    omega
   ·have a4 := a8T hr k f _ _ _ _ h2
    simp only [List.length_append, List.length_singleton] at *
    omega
theorem a9F : ∀ (f k : Nat), LnO (d7 f k)
 | 0, k => fun nest ts ns r h => by cases h
 | f + 1, k => fun nest ts ns r h => by
  have ih := a9F f
  rw [T4] at h
  unfold N0 at h
  split at h
  ·rename_i hb
   obtain ⟨-, h⟩ := a00 h
   obtain ⟨⟨n1, r1⟩, h1, h2⟩ := j0 h
   cases h2
   have hne : ts ≠ [] := by rcases hb.2 with hb | hb <;> exact T1 hb
   have a1 := ih 3 _ _ _ _ h1
   have a3 := a3h hne
   simp only [List.length_append, List.length_singleton] at *
   omega
  ·split at h
   ·rename_i hb
    obtain ⟨-, h⟩ := a00 h
    obtain ⟨⟨n1, r1⟩, h1, h2⟩ := j0 h
    cases h2
    have a1 := ih 11 _ _ _ _ h1
    have a3 := a3h (T1 hb.2)
    simp only [List.length_append, List.length_singleton] at *
    omega
   ·split at h
    ·exact ih (k + 1) _ _ _ _ h
    ·split at h
     ·exact aK5 (ih 1) _ _ _ _ h
     ·obtain ⟨⟨n1, r1⟩, h1, h2⟩ := j0 h
      have a1 := ih (k + 1) _ _ _ _ h1
      have a2 := a8T (fun ts ns r h => ih (k + 1) nest ts ns r h) k _ _ _ _ _ h2
      simp only at *
      omega
theorem aJ4 {ts : List Tk} {ns : List (Nd × Nat)} (h : a14 ts = .ok ns) : ns.length ≤ ts.length := by
 unfold a14 at h
 obtain ⟨⟨v, r⟩, h1, h2⟩ := j0 h
 have a := a9F _ _ _ _ _ _ h1
 simp only at h2
 split at h2
 ·cases h2; omega
 ·cases h2
theorem aV1 {s : List UInt8} {ts : List Tk} {x : Er} (h : O0 s = .ok ts) (hp : U2 s = .error x) : a1Y ts x := by
 have hG := (a8O h).1
 unfold U2 at hp
 rw [h, M6] at hp
 rcases aJ6 hG.1 with ⟨ns, h1, -⟩ | ⟨e, h1, h2⟩
 ·rw [h1] at hp; cases hp
 ·rw [h1] at hp
  cases hp
  exact h2
theorem aU8 {ts : List Tk} {x : Er} (h : a1Y ts x) : x.2 = 110 ∨ x.2 = 111 ∨ x.2 = 112 ∨ x.2 = 113 := by
 obtain ⟨t, -, -, ⟨h, -⟩ | ⟨-, h | h | h⟩⟩ := h
 ·exact .inl h
 ·exact .inr (.inl h)
 ·exact .inr (.inr (.inl h))
 ·exact .inr (.inr (.inr h))
theorem aU9 {s : List UInt8} {x : Er} (hp : U2 s = .error x) : ¬ x.2 = 0 := fun h0 => by
 cases hx : O0 s with
 | error y =>
  have := a8M hx
  unfold U2 at hp
  rw [hx, ab9] at hp
  cases hp
  rw [h0] at this
  cases this
 | ok ts =>
  have := aU8 (aV1 hx hp)
  rw [h0] at this
  simp at this
theorem aV0 {s : List UInt8} {ns : List (Nd × Nat)} (h : U2 s = .ok ns) : ns.length ≤ 65537 := by
 obtain ⟨ts, h1, h2⟩ := j0 h
 have := aJ4 h2
 obtain ⟨-, us, h3, h4, -⟩ := a8P h1
 have : ts.length = us.length + 1 := by rw [h3, List.length_append]; rfl
 omega
def OkD (d : Nd) : Prop := d.n ≤ 4294967295 ∧ d.m ≤ 4294967295 ∧ d.addr.length = 16
def NmT (ts : List Tk) : Prop := ∀ t ∈ ts, t.num ≤ 4294967295
theorem NmT.suf {ts r : List Tk} (h : NmT ts) (hs : r <:+ ts) : NmT r := fun t ht => h t (hs.subset ht)
theorem NmT.tail {ts : List Tk} (h : NmT ts) : NmT ts.tail := h.suf (List.tail_suffix ts)
theorem NmT.hd {ts : List Tk} (h : NmT ts) : (hdT ts).num ≤ 4294967295 := by
 cases ts with
 | nil => exact Nat.zero_le _
 | cons t r => exact h t (List.mem_cons_self ..)
theorem a6r (row least : Int) (r : List UInt8 × Nat) : (y9 (D2 false row least) r).2 = r.2 + if row < least then 1 else 0 := by
 unfold y9 D2
 by_cases h : row < least <;> simp [h]
theorem ao2 {x : Ng} {p : Tr} (h : x.kind = 3) : ((Tr.one x p).txt false).2 = (p.txt false).2 + 1 := by rw [Tr.txt, if_pos h]
theorem a7Q {x : Ng} {p : Tr} (h : x.kind ≠ 3) : ((Tr.one x p).txt false).2 = (p.txt false).2 + (if d5 p.root < d5 x then 1 else 0) + 1 := by
 rw [Tr.txt, if_neg h]
 show (y9 _ _).2 + 1 = _
 rw [a6r]
theorem ao3 {x : Ng} {p q : Tr} : ((Tr.two x p q).txt false).2 = max ((p.txt false).2 + if d5 p.root < (if d5 x = 4 then 5 else d5 x) then 1 else 0) ((q.txt false).2 + if d5 q.root < d5 x + 1 then 1 else 0) := by
 rw [Tr.txt]
 show max (y9 _ _).2 (y9 _ _).2 = _
 rw [a6r, a6r]
def Rg (k : Int) (nest : Nat) (ns : List (Nd × Nat)) (r : List Tk) : Prop :=
 NmT r ∧ (∀ x ∈ ns, OkD x.1) ∧ ∃ T : Tr, T.Wf ∧ T.flat = ns.map (·.1.g) ∧ nest + ((T.txt false).2 + if d5 T.root < k then 1 else 0) ≤ 200
theorem Rg.mono {k k' : Int} {nest : Nat} {r : List Tk} {ns : List (Nd × Nat)} (h : Rg k nest ns r) (hk : k' ≤ k) : Rg k' nest ns r := by
 obtain ⟨hn, ho, T, h1, h2, h3⟩ := h
 refine ⟨hn, ho, T, h1, h2, ?_⟩
 by_cases hx : d5 T.root < k'
 ·rw [if_pos hx]; rw [if_pos (by omega)] at h3; omega
 ·rw [if_neg hx]; omega
theorem a17 {d : Nd} {p nest : Nat} {r : List Tk} (ha : arG d.g.kind = some 0) (ho : OkD d) (hr : NmT r) (hn : nest ≤ 200) : Rg 12 nest [(d, p)] r := by
 refine ⟨hr, fun x hx => by rw [List.mem_singleton.1 hx]; exact ho, .leaf d.g, ha, rfl, ?_⟩
 rw [show d5 (Tr.leaf d.g).root = 12 from a9E ha]
 have : ((Tr.leaf d.g).txt false).2 = 0 := rfl
 rw [this, if_neg (by decide)]
 omega
theorem a2W {ts r : List Tk} {n : Nat} (h : j7 ts = .ok (n, r)) (hN : NmT ts) : n ≤ 4294967295 ∧ NmT r := by
 unfold j7 at h
 split at h
 ·cases h; exact ⟨hN.hd, hN.tail⟩
 ·unfold q9 at h; cases h
theorem a68 {x : List UInt8} {ts r : List Tk} (h : m3 x ts = .ok r) (hN : NmT ts) : NmT r := hN.suf (a1K h).1
theorem a78 {k : Nat} {ts r : List Tk} {d : Nd} (h : a0g k ts = .ok (d, r)) (hN : NmT ts) : d.kind = k ∧ OkD d ∧ NmT r := by
 have hr := hN.suf (a5j h).1
 refine ⟨a6D h, ?_, hr⟩
 unfold a0g at h
 split at h
 ·split at h
  ·rename_i a ha
   cases h
   refine ⟨Nat.zero_le _, Nat.zero_le _, ?_⟩
   show (a ++ List.replicate 12 0).length = 16
   rw [List.length_append, a6k ha, List.length_replicate]
  ·unfold q9 at h; cases h
 ·split at h
  ·split at h
   ·rename_i a ha
    cases h
    exact ⟨Nat.zero_le _, Nat.zero_le _, a6l ha⟩
   ·unfold q9 at h; cases h
  ·unfold q9 at h; cases h
theorem a6i (k : Nat) : OkD (ndK k) := ⟨Nat.zero_le _, Nat.zero_le _, rfl⟩
theorem aT3 {of at' side nest : Nat} {ts r : List Tk} {ns : List (Nd × Nat)} (h : a02 of at' side ts = .ok (ns, r)) (hN : NmT ts) (hn : nest ≤ 200) : Rg 12 nest ns r := by
 unfold a02 at h
 split at h
 ·obtain ⟨⟨n, r1⟩, h1, h2⟩ := j0 h
  cases h2
  obtain ⟨g1, g2⟩ := a2W h1 hN.tail
  exact a17 rfl ⟨g1, g1, rfl⟩ g2 hn
 ·split at h
  ·obtain ⟨⟨n, r1⟩, h1, h2⟩ := j0 h
   obtain ⟨r2, h3, h4⟩ := j0 h2
   obtain ⟨⟨m, r3⟩, h5, h6⟩ := j0 h4
   cases h6
   obtain ⟨g1, g2⟩ := a2W h1 hN.tail
   obtain ⟨g3, g4⟩ := a2W h5 (a68 h3 g2)
   exact a17 rfl ⟨g1, g3, rfl⟩ g4 hn
  ·split at h
   ·obtain ⟨⟨n, r1⟩, h1, h2⟩ := j0 h
    cases h2
    obtain ⟨g1, g2, g3⟩ := a78 h1 hN.tail
    refine a17 ?_ g2 g3 hn
    show arG (n.kind : Int) = some 0
    rw [g1]
    rfl
   ·split at h
    ·obtain ⟨⟨n, r1⟩, h1, h2⟩ := j0 h
     obtain ⟨r2, h3, h4⟩ := j0 h2
     obtain ⟨⟨m, r3⟩, h5, h6⟩ := j0 h4
     cases h6
     obtain ⟨g1, g2, g3⟩ := a78 h1 hN.tail
     obtain ⟨g4, g5⟩ := a2W h5 (a68 h3 g3)
     refine a17 ?_ g2 g5 hn
     show arG (n.kind : Int) = some 0
     rw [g1]
     rfl
    ·unfold q9 at h; cases h
theorem a9Y {of at' nest : Nat} {ts r : List Tk} {ns : List (Nd × Nat)} (h : a1i of at' ts = .ok (ns, r)) (hN : NmT ts) (hn : nest ≤ 200) : Rg 12 nest ns r :=
 aT3 h (hN.suf (a3K ts)) hn
theorem b0s {nest : Nat} {ts r : List Tk} {ns : List (Nd × Nat)} (h : L7 ts = .ok (ns, r)) (hN : NmT ts) (hn : nest ≤ 200) : Rg 12 nest ns r := by
 unfold L7 at h
 split at h
 ·cases h; exact a17 rfl (a6i 2) hN.tail hn
 ·split at h
  ·cases h; exact a17 rfl ⟨Nat.zero_le _, Nat.zero_le _, rfl⟩ hN.tail hn
  ·split at h
   ·cases h; exact a17 rfl ⟨Nat.zero_le _, Nat.zero_le _, rfl⟩ hN.tail hn
   ·split at h
    ·obtain ⟨⟨n, r1⟩, h1, h2⟩ := j0 h
     cases h2
     obtain ⟨g1, g2⟩ := a2W h1 hN.tail
     exact a17 rfl ⟨g1, Nat.zero_le _, rfl⟩ g2 hn
    ·split at h
     ·exact a9Y h hN hn
     ·unfold q9 at h; cases h
def RgO (k : Int) (rec : Nat → List Tk → Out) : Prop := ∀ nest ts ns r, NmT ts → nest ≤ 200 → rec nest ts = .ok (ns, r) → Rg k nest ns r
theorem aD3 {rec : Nat → List Tk → Out} (hr : RgO 1 rec) {nest of at' : Nat} {ts r : List Tk} {ns : List (Nd × Nat)} (h : T2 rec nest of at' ts = .ok (ns, r)) (hN : NmT ts) (hn : nest ≤ 200) : Rg 12 nest ns r := by
 unfold T2 at h
 split at h
 ·obtain ⟨h200, h⟩ := a00 h
  obtain ⟨⟨n1, r1⟩, h1, h2⟩ := j0 h
  obtain ⟨⟨n2, r2⟩, h3, h4⟩ := j0 h2
  cases h4
  obtain ⟨g1, g2, T, w1, w2, w3⟩ := hr _ _ _ _ hN.tail (by omega) h1
  refine ⟨g1.suf (a4O h3).1, ?_, .one ({ ndK 3 with of := of, size := n2 } : Nd).g T, ⟨rfl, w1⟩, ?_, ?_⟩
  ·intro x hx
   rcases List.mem_append.1 hx with hx | hx
   ·exact g2 x hx
   ·rw [List.mem_singleton.1 hx]; exact ⟨Nat.zero_le _, Nat.zero_le _, rfl⟩
  ·simp [Tr.flat, w2]
  ·have hrow : d5 (Tr.one ({ ndK 3 with of := of, size := n2 } : Nd).g T).root = 12 := rfl
   rw [ao2 rfl, hrow, if_neg (by decide)]
   omega
 ·split at h
  ·unfold q9 at h; cases h
  ·split at h
   ·obtain ⟨⟨n, r1⟩, h1, h2⟩ := j0 h
    cases h2
    obtain ⟨g1, g2⟩ := a2W h1 hN.tail
    exact a17 rfl ⟨g1, Nat.zero_le _, rfl⟩ g2 hn
   ·split at h
    ·exact a9Y h hN hn
    ·cases h
     exact a17 rfl ⟨Nat.zero_le _, Nat.zero_le _, rfl⟩ hN hn
theorem aL4 {rec : Nat → List Tk → Out} (hr : RgO 1 rec) {nest : Nat} {ts r : List Tk} {ns : List (Nd × Nat)} (h : L3 rec nest ts = .ok (ns, r)) (hN : NmT ts) (hn : nest ≤ 200) : Rg 12 nest ns r := by
 unfold L3 at h
 split at h
 ·cases h
  exact a17 rfl ⟨hN.hd, Nat.zero_le _, rfl⟩ hN.tail hn
 ·split at h
  ·obtain ⟨h200, h⟩ := a00 h
   obtain ⟨⟨n1, r1⟩, h1, h2⟩ := j0 h
   obtain ⟨r2, h3, h4⟩ := j0 h2
   cases h4
   obtain ⟨g1, g2, T, w1, w2, w3⟩ := hr _ _ _ _ hN.tail (by omega) h1
   refine ⟨a68 h3 g1, g2, T, w1, w2, ?_⟩
   split <;> omega
  ·split at h
   ·unfold q9 at h; cases h
   ·split at h
    ·exact aD3 hr h hN.tail hn
    ·exact b0s h hN hn
theorem aH1 {k : Nat} {ts : List Tk} {nd : Nd} (h : opT k ts = some nd) : OkD nd := by
 unfold opT at h
 by_cases hk : (hdT ts).kind = 5 ∨ (hdT ts).kind = 2
 ·rw [if_pos hk] at h
  have key : ∀ d : Nd, d.n = 0 ∧ d.m = 0 ∧ d.addr = List.replicate 16 0 → OkD d := fun d hd => ⟨by rw [hd.1]; exact Nat.zero_le _, by rw [hd.2.1]; exact Nat.zero_le _, by rw [hd.2.2]; rfl⟩
  refine key nd ?_
  unfold x7 at h
  by_cases h1 : k = 1
  ·rw [if_pos h1] at h
   rcases M0 h with rfl | h
   ·exact ⟨rfl, rfl, rfl⟩
   ·cases h
  rw [if_neg h1] at h
  by_cases h2 : k = 2
  ·rw [if_pos h2] at h
   rcases M0 h with rfl | h
   ·exact ⟨rfl, rfl, rfl⟩
   ·cases h
  rw [if_neg h2] at h
  by_cases h4 : k = 4
  ·rw [if_pos h4] at h
   obtain ⟨o, -, ho⟩ := Option.map_eq_some_iff.1 h
   rw [← ho]
   exact ⟨rfl, rfl, rfl⟩
  rw [if_neg h4] at h
  by_cases h5 : k = 5
  ·rw [if_pos h5] at h
   rcases M0 h with rfl | h
   ·exact ⟨rfl, rfl, rfl⟩
   ·cases h
  rw [if_neg h5] at h
  by_cases h6 : k = 6
  ·rw [if_pos h6] at h
   rcases M0 h with rfl | h
   ·exact ⟨rfl, rfl, rfl⟩
   ·cases h
  rw [if_neg h6] at h
  by_cases h7 : k = 7
  ·rw [if_pos h7] at h
   rcases M0 h with rfl | h
   ·exact ⟨rfl, rfl, rfl⟩
   ·cases h
  rw [if_neg h7] at h
  by_cases h8 : k = 8
  ·rw [if_pos h8] at h
   rcases M0 h with rfl | h
   ·exact ⟨rfl, rfl, rfl⟩
   ·rcases M0 h with rfl | h
    ·exact ⟨rfl, rfl, rfl⟩
    ·cases h
  rw [if_neg h8] at h
  by_cases h9 : k = 9
  ·rw [if_pos h9] at h
   rcases M0 h with rfl | h
   ·exact ⟨rfl, rfl, rfl⟩
   ·rcases M0 h with rfl | h
    ·exact ⟨rfl, rfl, rfl⟩
    ·cases h
  rw [if_neg h9] at h
  by_cases h10 : k = 10
  ·rw [if_pos h10] at h
   rcases M0 h with rfl | h
   ·exact ⟨rfl, rfl, rfl⟩
   ·rcases M0 h with rfl | h
    ·exact ⟨rfl, rfl, rfl⟩
    ·rcases M0 h with rfl | h
     ·exact ⟨rfl, rfl, rfl⟩
     ·cases h
  rw [if_neg h10] at h
  cases h
 ·rw [if_neg hk] at h
  cases h
theorem a8V {rec : List Tk → Out} {k nest : Nat} (hr : ∀ ts ns r, NmT ts → rec ts = .ok (ns, r) → Rg ((k : Int) + 1) nest ns r) : ∀ (f : Nat) (ns : List (Nd × Nat)) (ts : List Tk) (ms : List (Nd × Nat)) (r : List Tk),
  Rg (if k = 4 then 5 else (k : Int)) nest ns ts → x8 rec k f ns ts = .ok (ms, r) → Rg k nest ms r
 | 0, ns, ts, ms, r, h0, h => by
  cases h
  exact h0.mono (by split <;> omega)
 | f + 1, ns, ts, ms, r, h0, h => by
  unfold x8 at h
  split at h
  ·cases h
   exact h0.mono (by split <;> omega)
  ·rename_i nd hop
   obtain ⟨⟨n1, r1⟩, h1, h2⟩ := j0 h
   obtain ⟨ha, hrow⟩ := a9e hop
   obtain ⟨g1, g2, T, w1, w2, w3⟩ := h0
   obtain ⟨g3, g4, U, u1, u2, u3⟩ := hr _ _ _ g1.tail h1
   have hO : ∀ x ∈ ns ++ n1 ++ [(nd, (hdT ts).pos)], OkD x.1 := fun x hx => by
    rcases List.mem_append.1 hx with hx | hx
    ·rcases List.mem_append.1 hx with hx | hx
     ·exact g2 x hx
     ·exact g4 x hx
    ·rw [List.mem_singleton.1 hx]; exact aH1 hop
   have hR : ∃ V : Tr, V.Wf ∧ V.flat = (ns ++ n1 ++ [(nd, (hdT ts).pos)]).map (·.1.g) ∧ d5 V.root = (k : Int) ∧ nest + (V.txt false).2 ≤ 200 := by
    refine ⟨.two nd.g T U, ⟨ha, w1, u1⟩, ?_, hrow, ?_⟩
    ·simp [Tr.flat, w2, u2]
    ·rw [ao3, hrow]
     by_cases h4 : k = 4
     ·subst h4
      simp only [if_true] at w3
      simp only [show ((4 : Nat) : Int) = 4 from rfl, if_true] at *
      omega
     ·rw [if_neg h4] at w3
      rw [if_neg (by omega : ¬ (k : Int) = 4)]
      omega
   obtain ⟨V, v1, v2, v3, v4⟩ := hR
   dsimp only at h2
   split at h2
   ·cases h2
    exact ⟨g3, hO, V, v1, v2, by rw [v3, if_neg (by omega)]; omega⟩
   ·rename_i h4
    refine a8V hr f _ _ _ _ ⟨g3, hO, V, v1, v2, ?_⟩ h2
    rw [if_neg h4, v3, if_neg (by omega)]
    omega
theorem a2z : ∀ (f k nest : Nat) (ts : List Tk) (ns : List (Nd × Nat)) (r : List Tk), k ≤ 12 → NmT ts → nest ≤ 200 → d7 f k nest ts = .ok (ns, r) → Rg k nest ns r
 | 0, k, nest, ts, ns, r, _, _, _, h => by cases h
 | f + 1, k, nest, ts, ns, r, hk, hN, hn, h => by
  rw [T4] at h
  unfold N0 at h
  split at h
  ·rename_i h3
   obtain ⟨rfl, -⟩ := h3
   obtain ⟨h200, h⟩ := a00 h
   obtain ⟨⟨n1, r1⟩, h1, h2⟩ := j0 h
   cases h2
   obtain ⟨g1, g2, T, w1, w2, w3⟩ := a2z f 3 _ _ _ _ hk hN.tail (by omega) h1
   refine ⟨g1, ?_, .one (ndK 9).g T, ⟨rfl, w1⟩, by simp [Tr.flat, w2], ?_⟩
   ·intro x hx
    rcases List.mem_append.1 hx with hx | hx
    ·exact g2 x hx
    ·rw [List.mem_singleton.1 hx]; exact a6i 9
   ·have hrow : d5 (Tr.one (ndK 9).g T).root = 3 := rfl
    have hb : ((Tr.one (ndK 9).g T).txt false).2 = (T.txt false).2 + (if d5 T.root < ((3 : Nat) : Int) then 1 else 0) + 1 := a7Q (by decide)
    rw [hb, hrow, if_neg (by decide : ¬ (3 : Int) < ((3 : Nat) : Int))]
    omega
  ·split at h
   ·rename_i h3
    obtain ⟨rfl, -⟩ := h3
    obtain ⟨h200, h⟩ := a00 h
    obtain ⟨⟨n1, r1⟩, h1, h2⟩ := j0 h
    cases h2
    obtain ⟨g1, g2, T, w1, w2, w3⟩ := a2z f 11 _ _ _ _ hk hN.tail (by omega) h1
    refine ⟨g1, ?_, .one (ndK 5).g T, ⟨rfl, w1⟩, by simp [Tr.flat, w2], ?_⟩
    ·intro x hx
     rcases List.mem_append.1 hx with hx | hx
     ·exact g2 x hx
     ·rw [List.mem_singleton.1 hx]; exact a6i 5
    ·have hrow : d5 (Tr.one (ndK 5).g T).root = 11 := rfl
     have hb : ((Tr.one (ndK 5).g T).txt false).2 = (T.txt false).2 + (if d5 T.root < ((11 : Nat) : Int) then 1 else 0) + 1 := a7Q (by decide)
     rw [hb, hrow, if_neg (by decide : ¬ (11 : Int) < ((11 : Nat) : Int))]
     omega
   ·split at h
    ·exact (a2z f (k + 1) _ _ _ _ (by omega) hN hn h).mono (by omega)
    ·split at h
     ·rename_i h12
      subst h12
      exact aL4 (fun nest ts ns r hN hn h => a2z f 1 nest ts ns r (by decide) hN hn h) h hN hn
     ·obtain ⟨⟨n1, r1⟩, h1, h2⟩ := j0 h
      have h0 := a2z f (k + 1) _ _ _ _ (by omega) hN hn h1
      refine a8V (fun ts ns r hN h => a2z f (k + 1) nest ts ns r (by omega) hN hn h) _ _ _ _ _ ?_ h2
      exact h0.mono (by split <;> omega)
theorem aJ5 {s : List UInt8} {ns : List (Nd × Nat)} (h : U2 s = .ok ns) : (∀ x ∈ ns, OkD x.1) ∧ ∃ T : Tr, T.Wf ∧ T.flat = ns.map (·.1.g) ∧ (T.txt false).2 ≤ 200 := by
 obtain ⟨ts, h1, h2⟩ := j0 h
 have hN : NmT ts := by
  unfold O0 at h1
  split at h1
  ·cases h1
  ·obtain ⟨us, hu, hg⟩ := a4q s.length 0 s ts (Nat.le_refl _) h1
   intro t ht
   rw [hu] at ht
   rcases List.mem_append.1 ht with ht | ht
   ·exact (a0l (hg t ht).2).2.2.2.2.2
   ·rw [List.mem_singleton.1 ht]; exact Nat.zero_le _
 unfold a14 at h2
 obtain ⟨⟨n1, r1⟩, h3, h4⟩ := j0 h2
 obtain ⟨-, g2, T, u1, u2, u3⟩ := a2z _ 1 _ _ _ _ (by decide) hN (by decide) h3
 have hn : n1 = ns := by
  dsimp only at h4
  split at h4
  ·cases h4; rfl
  ·unfold q9 at h4; cases h4
 subst hn
 exact ⟨g2, T, u1, u2, by omega⟩
theorem aa3 {bf : Nat} {full : Bool} (HB : ∀ (l : Int) (w : World), Calls Tryz.prog bf #[.int .i64 l] w fun e w' => e = .returned (.int .i64 (gfB full l)) ∧ w' = w) (HF : ∀ (xs : Array Value) (w : World), (callFunc bf xs).run Tryz.prog w = .ok (.enter bf xs) w) (nb no cap : Nat) (t : List Ng) (T : Tr) (hw : T.Wf) (hf : T.flat = t) (hok : (J4 t).2 = 0) (hn : ∀ x ∈ t, x.n ≤ 4294967295) (hmm : ∀ x ∈ t, x.m ≤ 4294967295) (w : World) (TA : j2 w) (C : CV w (some ⟨nb, no, none⟩) (p9 t)) :
  Calls Tryz.prog 24 #[.slice (some ⟨nb, no, none⟩) t.length cap, .func (.func bf) #[] #[]] w fun e w' => e = .returned (a0x full T) ∧ w.grownBy w' none := by
 obtain ⟨hty, hnok, hl, hne⟩ := aq5 hok hn hmm hw hf
 have hne := hne full
 have htl := a4S full T
 rw [hf] at htl
 have CK := a7L (some ⟨nb, no, none⟩) cap t w C (by omega) hn
 unfold a1d at CK
 rw [hok] at CK
 have HWR : Hid (∀ W, w.grownBy W none → Calls Tryz.prog 45 #[.slice (some ⟨nb, no, none⟩) t.length cap, .func (.func bf) #[] #[]] W fun e w' => ∃ v ts, e = .returned (.agg #[v, .int .i64 0, .int .i64 ((T.txt full).2 : Int)]) ∧ w'.ownsRow W.heap.size 9 1 v ts.length (ts.map str) ∧ ts.reverse.flatten = (T.txt full).1 ∧ ts.length ≤ 800000 ∧ (ts = [] → (T.txt full).1 = []) ∧ W.grownBy w' none) := fun W G => b0z HB HF nb no cap t T hw hty hf hnok (by omega) W (fun V hV => (TA.grown G).grown (a0t hV)) (C.keptNone G)
 have HTL : Hid ((T.txt full).1.length ≤ 1600 * t.length ∧ t.length ≤ 3000) := ⟨htl.1, hl⟩
 have hd := htl.2
 have HS : Hid (a0x full T = if 200 < (T.txt full).2 then .tuple #[str [], .int .i64 131] else .tuple #[str (T.txt full).1, .int .i64 0]) := rfl
 have HNE : Hid ((T.txt full).1 ≠ []) := hne
 obtain ⟨R, hR⟩ : ∃ R, a0x full T = R := ⟨_, rfl⟩
 rw [hR] at HS ⊢
 obtain ⟨tx, htx⟩ : ∃ tx, (T.txt full).1 = tx := ⟨_, rfl⟩
 obtain ⟨dx, hdx⟩ : ∃ dx, (T.txt full).2 = dx := ⟨_, rfl⟩
 rw [htx] at HTL HNE
 rw [htx, hdx] at HS HWR
 rw [hdx] at hd
 clear htl hne hR htx hdx TA C hn hmm hok hnok hty hw hf
 go_enter Tryz.func24, Tryz.ntmps24
 have HCK : Hid (Calls _ _ _ _ _) := CK
 clear CK hd
 go_wp2_with fail
 refine HCK.out.mono ?_
 rintro e w1 ⟨rfl, K1⟩
 have HK1 : Hid (w.grownBy w1 none) := K1
 have CW := HWR.out w1 K1
 have HCW : Hid (Calls _ _ _ _ _) := CW
 clear HCK K1 HWR CW
 go_wp2_with fail
 refine HCW.out.mono ?_
 rintro e w2 ⟨v, ts, rfl, O, hts, htl, hnil, K2⟩
 obtain ⟨ao, n2, c2, rfl⟩ : ∃ ao n c, v = .slice ao n c := by rcases O.2 with ⟨rfl, -⟩ | ⟨g, cap, cur, rfl, -⟩ <;> exact ⟨_, _, _, rfl⟩
 have HO : Hid (w2.ownsRow w1.heap.size 9 1 (.slice ao n2 c2) ts.length (ts.map str)) := O
 have HTS : Hid (ts.reverse.flatten = tx ∧ ts.length ≤ 800000 ∧ (ts = [] → tx = [])) := ⟨hts, htl, hnil⟩
 have HK2 : Hid (w1.grownBy w2 none) := K2
 clear HCW O hts htl hnil K2
 by_cases h200 : 200 < dx
 ·have hdec : (200 : Int) < (dx : Int) := by omega
  rw [if_pos h200] at HS
  clear h200
  go_wp2
  go_ret2
  refine ⟨?_, ?_⟩
  ·rw [HS.out]
   rfl
  ·exact d3 (d3 HK1.out HK2.out) (World.grownBy_alloc _ _ _)
 ·have hdec : ¬ ((200 : Int) < (dx : Int)) := by omega
  rw [if_neg h200] at HS
  clear h200
  go_wp2_with fail
  have hne : ts ≠ [] := fun e => HNE.out (HTS.out.2.2 e)
  have G3 := World.grownBy_alloc w2 (.cells #[.slice ao n2 c2, .int .i64 0, .int .i64 (dx : Int)] 87) none
  have V3 : VAt (w2.alloc (.cells #[.slice ao n2 c2, .int .i64 0, .int .i64 (dx : Int)] 87)) w2.heap.size 87 #[.slice ao n2 c2, .int .i64 0, .int .i64 (dx : Int)] := VAt.alloc _ _ _
  have HT := aX2 w1.heap.size w1.heap.size w2.heap.size ts (.slice ao n2 c2) 0 (dx : Int) (w2.alloc (.cells #[.slice ao n2 c2, .int .i64 0, .int .i64 (dx : Int)] 87)) (fun e => by have := (HO.out.lt _ e).2; omega) (Nat.le_refl _) ⟨V3, x9 HO.out G3⟩ hne (by have := HTS.out.2.1; omega) (by rw [HTS.out.1]; have := HTL.out; omega)
  have HG3 : Hid (w.grownBy (w2.alloc (.cells #[.slice ao n2 c2, .int .i64 0, .int .i64 (dx : Int)] 87)) none) := d3 (d3 HK1.out HK2.out) G3
  have HL : Hid (w.heap.size ≤ w1.heap.size) := HK1.out.size
  rw [HTS.out.1] at HT
  refine HT.mono ?_
  clear HT G3 V3 hne
  rintro e w4 ⟨rfl, B4⟩
  go_wp2
  go_ret2
  refine ⟨?_, ?_⟩
  ·rw [HS.out]
   rfl
  ·exact a0t ((a1c HG3.out).trans (B4.mono HL.out))
theorem aV2 {bf : Nat} (ao : Option Addr) (cap : Nat) (t : List Ng) (hno : (J4 t).2 ≠ 0) (hm : t.length * 72 ≤ 140737488355328) (hn : ∀ x ∈ t, x.n ≤ 4294967295) (w : World) (C : CV w ao (p9 t)) :
  Calls Tryz.prog 24 #[.slice ao t.length cap, .func (.func bf) #[] #[]] w fun e w' => e = .returned (.tuple #[str [], .int .i64 130]) ∧ w.grownBy w' none := by
 have CK := a7L ao cap t w C hm hn
 unfold a1d at CK
 have hne : ((J4 t).2 != 0) = true := by rw [bne_iff_ne]; exact hno
 have HCK : Hid (Calls _ _ _ _ _) := CK
 generalize (J4 t).2 = ce at *
 generalize (J4 t).1 = cn at *
 clear CK C hno hn hm
 go_enter Tryz.func24, Tryz.ntmps24
 go_wp2_with fail
 refine HCK.out.mono ?_
 rintro e w1 ⟨rfl, K1⟩
 clear HCK
 go_wp2
 go_ret2
 exact ⟨rfl, K1⟩
theorem a9T (t : List Ng) (ao : Option Addr) (cap : Nat) (w : World) (R : Value) (r1 r2 : Value) (hR : R = .tuple #[r1, r2]) (H : Calls Tryz.prog 24 #[.slice ao t.length cap, .func (.func 25) #[] #[]] w fun e w' => e = .returned R ∧ w.grownBy w' none) :
  Calls Tryz.prog 11 #[.slice ao t.length cap] w fun e w' => e = .returned R ∧ w.grownBy w' none := by
 subst hR
 have HH : Hid (Calls _ _ _ _ _) := H
 clear H
 go_enter Tryz.func11, Tryz.ntmps11
 go_wp2_with fail
 refine HH.out.mono ?_
 rintro e w1 ⟨rfl, K1⟩
 clear HH
 go_wp2
 go_ret2
 exact ⟨rfl, K1⟩
theorem aS4 (T : Tr) : ∃ r1 r2, a0x false T = .tuple #[r1, r2] := by
 unfold a0x
 split <;> exact ⟨_, _, rfl⟩
theorem a9S (ao : Option Addr) (cap : Nat) (t : List Ng) (T : Tr) (hw : T.Wf) (hf : T.flat = t) (hok : (J4 t).2 = 0) (hn : ∀ x ∈ t, x.n ≤ 4294967295) (hmm : ∀ x ∈ t, x.m ≤ 4294967295) (w : World) (TA : j2 w) (C : CV w ao (p9 t)) :
  Calls Tryz.prog 11 #[.slice ao t.length cap] w fun e w' => e = .returned (a0x false T) ∧ w.grownBy w' none := by
 have ht : 0 < t.length := by rw [← hf]; exact List.length_pos_iff.2 T.flat_ne
 obtain ⟨b, o, rfl, -⟩ := C.ngs (k := 0) ht
 obtain ⟨r1, r2, hr⟩ := aS4 T
 exact a9T t _ cap w _ r1 r2 hr (aa3 (full := false) ah6 al9 b o cap t T hw hf hok hn hmm w TA C)
theorem aS5 (ao : Option Addr) (cap : Nat) (t : List Ng) (hno : (J4 t).2 ≠ 0) (hm : t.length * 72 ≤ 140737488355328) (hn : ∀ x ∈ t, x.n ≤ 4294967295) (w : World) (C : CV w ao (p9 t)) :
  Calls Tryz.prog 11 #[.slice ao t.length cap] w fun e w' => e = .returned (.tuple #[str [], .int .i64 130]) ∧ w.grownBy w' none :=
 a9T t ao cap w _ _ _ rfl (aV2 ao cap t hno hm hn w C)
theorem aS7 (t : List Ng) (ao : Option Addr) (cap : Nat) (w : World) (R : Value) (r1 r2 : Value) (hR : R = .tuple #[r1, r2]) (H : Calls Tryz.prog 24 #[.slice ao t.length cap, .func (.func 27) #[] #[]] w fun e w' => e = .returned R ∧ w.grownBy w' none) :
  Calls Tryz.prog 13 #[.slice ao t.length cap] w fun e w' => e = .returned R ∧ w.grownBy w' none := by
 subst hR
 have HH : Hid (Calls _ _ _ _ _) := H
 clear H
 go_enter Tryz.func13, Tryz.ntmps13
 go_wp2_with fail
 refine HH.out.mono ?_
 rintro e w1 ⟨rfl, K1⟩
 clear HH
 go_wp2
 go_ret2
 exact ⟨rfl, K1⟩
theorem aS3 (T : Tr) : ∃ r1 r2, a0x true T = .tuple #[r1, r2] := by
 unfold a0x
 split <;> exact ⟨_, _, rfl⟩
theorem aS6 (ao : Option Addr) (cap : Nat) (t : List Ng) (T : Tr) (hw : T.Wf) (hf : T.flat = t) (hok : (J4 t).2 = 0) (hn : ∀ x ∈ t, x.n ≤ 4294967295) (hmm : ∀ x ∈ t, x.m ≤ 4294967295) (w : World) (TA : j2 w) (C : CV w ao (p9 t)) :
  Calls Tryz.prog 13 #[.slice ao t.length cap] w fun e w' => e = .returned (a0x true T) ∧ w.grownBy w' none := by
 have ht : 0 < t.length := by rw [← hf]; exact List.length_pos_iff.2 T.flat_ne
 obtain ⟨b, o, rfl, -⟩ := C.ngs (k := 0) ht
 obtain ⟨r1, r2, hr⟩ := aS3 T
 exact aS7 t _ cap w _ r1 r2 hr (aa3 (full := true) ah5 al8 b o cap t T hw hf hok hn hmm w TA C)
def aw1 : Ng := { ngZ with kind := 11, of := 2 }
def aw2 : Ng := { ngZ with kind := 11, of := 5 }
def aw3 : Ng := { ngZ with kind := 9 }
def aw4 : Ng := { ngZ with kind := 8 }
def awT : Tr := .one aw3 (.two aw4 (.leaf aw1) (.one aw3 (.leaf aw2)))
theorem a7w : awT.Wf := ⟨rfl, rfl, rfl, rfl, rfl⟩
theorem a7v : (J4 [aw1, aw2, aw3, aw4, aw3]).2 = 0 := by kernel_rfl
theorem ah0 : a0x false awT = .tuple #[.string ⟨#[110, 111, 116, 32, 40, 105, 112, 32, 111, 114, 32, 110, 111, 116, 32, 117, 100, 112, 41]⟩, .int .i64 0] := by kernel_rfl
theorem ag9 : a0x true awT = .tuple #[.string ⟨#[110, 111, 116, 32, 40, 105, 112, 32, 111, 114, 32, 40, 110, 111, 116, 32, 117, 100, 112, 41, 41]⟩, .int .i64 0] := by kernel_rfl
theorem ah1 (w : World) (TA : j2 w) : Calls Tryz.prog 14 #[] w fun e w' => e = .returned (.bool true) ∧ w.grownBy w' none := by
 have HCS : Hid (∀ W, w.grownBy W none → CV W (some ⟨w.heap.size, 0, none⟩) (p9 [aw1, aw2, aw3, aw4, aw3]) → Calls Tryz.prog 11 #[.slice (some ⟨w.heap.size, 0, none⟩) 5 5] W fun e w' => e = .returned (.tuple #[.string ⟨#[110, 111, 116, 32, 40, 105, 112, 32, 111, 114, 32, 110, 111, 116, 32, 117, 100, 112, 41]⟩, .int .i64 0]) ∧ W.grownBy w' none) := fun W G C => by
  have := a9S _ 5 [aw1, aw2, aw3, aw4, aw3] awT a7w rfl a7v (by simp [aw1, aw2, aw3, aw4, ngZ]) (by simp [aw1, aw2, aw3, aw4, ngZ]) W (TA.grown G) C
  rw [ah0] at this
  exact this
 have HCF : Hid (∀ W, w.grownBy W none → CV W (some ⟨w.heap.size, 0, none⟩) (p9 [aw1, aw2, aw3, aw4, aw3]) → Calls Tryz.prog 13 #[.slice (some ⟨w.heap.size, 0, none⟩) 5 5] W fun e w' => e = .returned (.tuple #[.string ⟨#[110, 111, 116, 32, 40, 105, 112, 32, 111, 114, 32, 40, 110, 111, 116, 32, 117, 100, 112, 41, 41]⟩, .int .i64 0]) ∧ W.grownBy w' none) := fun W G C => by
  have := aS6 _ 5 [aw1, aw2, aw3, aw4, aw3] awT a7w rfl a7v (by simp [aw1, aw2, aw3, aw4, ngZ]) (by simp [aw1, aw2, aw3, aw4, ngZ]) W (TA.grown G) C
  rw [ag9] at this
  exact this
 clear TA
 go_enter Tryz.func14, Tryz.ntmps14
 go_upto_region 2 with fail
 generalize hW : w.alloc (Obj.cells _ 43) = W
 have hW' : w.alloc (.cells (p9 [aw1, aw2, aw3, aw4, aw3]).toArray 43) = W := hW
 clear hW
 have G : w.grownBy W none := hW' ▸ World.grownBy_alloc _ _ _
 have C : CV W (some ⟨w.heap.size, 0, none⟩) (p9 [aw1, aw2, aw3, aw4, aw3]) := by
  rw [← hW']
  exact ⟨fun h => (by cases h), fun ad had j hj => by
   obtain rfl := Option.some.inj had
   have e : ((⟨w.heap.size, 0, none⟩ : Addr).add j) = ⟨w.heap.size, j, none⟩ := by unfold Addr.add; split <;> simp_all
   rw [e, VAt.cell (VAt.alloc w _ _) j]
   simp [hj]⟩
 have HG : Hid (w.grownBy W none) := G
 have HC : Hid (CV W (some ⟨w.heap.size, 0, none⟩) (p9 [aw1, aw2, aw3, aw4, aw3])) := C
 clear hW' G C
 go_wp2_with fail
 refine (HCS.out W HG.out HC.out).mono ?_
 rintro e w2 ⟨rfl, K2⟩
 have HK2 : Hid (W.grownBy w2 none) := K2
 clear K2 HCS
 go_wp2_with fail
 refine (HCF.out w2 (d3 HG.out HK2.out) (HC.out.keptNone HK2.out)).mono ?_
 rintro e w3 ⟨rfl, K3⟩
 clear HCF
 go_wp2
 go_ret
 exact ⟨rfl, d3 (d3 HG.out HK2.out) K3⟩

open Go.ChangeShapes Go.WideShapes Go.ChangeAt Go.RowKit
def a2c : List (String × DataW Unit) := [("math/bits.deBruijn32tab", Rows.laid_math_bits_deBruijn32tab), ("math/bits.deBruijn64tab", Rows.laid_math_bits_deBruijn64tab), ("internal/strconv.uint64pow10", Rows.laid_internal_strconv_uint64pow10), ("strconv.ErrRange", Rows.laid_strconv_ErrRange), ("strconv.ErrSyntax", Rows.laid_strconv_ErrSyntax), ("riddle/lex.signs", Rows.laid_riddle_lex_signs)]
theorem a9Q : Tryz.prog.globalNamed "riddle/lex.signs" = some 0 := by kernel_rfl
theorem aR7 : (Tryz.prog.globals[0]?).map (·.type) = some 82 := by kernel_rfl
theorem aR5 : Tryz.prog.cellsOf 9 = 1 := by kernel_rfl
theorem ap9 : Tryz.prog.globalNamed "strconv.ErrSyntax" = some 2 := by kernel_rfl
theorem aq0 : (Tryz.prog.globals[2]?).map (·.type) = some 152 := by kernel_rfl
theorem ap7 : Tryz.prog.globalNamed "strconv.ErrRange" = some 3 := by kernel_rfl
theorem ap8 : (Tryz.prog.globals[3]?).map (·.type) = some 152 := by kernel_rfl
theorem aR6 : (Rows.laid_riddle_lex_signs : DataW Unit) = .slice (a0y.map fun l => .lit (.string l)) [] := by kernel_rfl
theorem a8x {W : World} {n nm : String} {d : DataW Unit} {r : List (String × DataW Unit)} {g : Nat} (h : laidMet Tryz.prog ((n, .iface nm d) :: r) W) (hg : Tryz.prog.globalNamed n = some g) (ht : (Tryz.prog.globals[g]?).map (·.type) = some 152) :
  ∃ t v, W.cell? ⟨g, 0, none⟩ = some (.iface t v) := by
 obtain ⟨ps, ⟨g', t', cs, fuel, p, q, hg', ht', hv, hd, _, _⟩, _⟩ := h
 obtain rfl := Option.some.inj (hg.symm.trans hg')
 obtain rfl := Option.some.inj (ht.symm.trans ht')
 obtain ⟨l⟩ := cs
 obtain ⟨f1, u, v, hl, -, -⟩ := iface_of_trod Tryz.underlying152 hd
 simp only at hl
 subst hl
 exact ⟨u, v, by simpa using World.var?_cell hg hv 0⟩
theorem aU0 {W : World} {r : List (String × DataW Unit)} (h : laidMet Tryz.prog (("riddle/lex.signs", Rows.laid_riddle_lex_signs) :: r) W) :
  ∃ ao cap, W.cell? ⟨0, 0, none⟩ = some (.slice ao 25 cap) ∧ CV W ao (a0y.map str) := by
 obtain ⟨ps, ⟨g', t', cs, fuel, p, q, hg', ht', hv, hd, _, _⟩, _⟩ := h
 obtain rfl := Option.some.inj (a9Q.symm.trans hg')
 obtain rfl := Option.some.inj (aR7.symm.trans ht')
 obtain ⟨l⟩ := cs
 rw [aR6] at hd
 have hlen : a0y.length = 25 := rfl
 rcases open_strings Tryz.underlying82 Tryz.underlying9 aR5 hd with ⟨_, hx⟩ | ⟨a, len, cap, ss, hcs, _, hl, hm, hz, hx, hcell, hsz⟩
 ·simp at hx
 ·simp only at hcs
  subst hcs
  simp only [Prod.mk.injEq, DataW.slice.injEq] at hx
  have h1 := hx.1.1
  have hll : len = 25 := by
   have := congrArg List.length h1
   have hle : len ≤ ss.length := by rw [hz]; split <;> omega
   simp [strs, hlen] at this
   omega
  subst hll
  have hle : 25 ≤ ss.length := by rw [hz]; split <;> omega
  refine ⟨some a, cap, by simpa using World.var?_cell a9Q hv 0, fun h => (by cases h), fun ad had i hi => ?_⟩
  obtain rfl := Option.some.inj had
  rw [List.length_map, hlen] at hi
  have hc := hcell i (by omega)
  rw [hc]
  have h2 := congrArg (·[i]?) h1
  simp only [strs, List.getElem?_map, List.getElem?_take] at h2
  rw [if_pos hi, List.getElem?_eq_getElem (by omega : i < ss.length), List.getElem?_eq_getElem (by rw [hlen]; exact hi)] at h2
  simp only [Option.map_some, Option.some.injEq, DataW.lit.injEq, Lit.string.injEq] at h2
  rw [List.getElem_map, List.getD_eq_getElem?_getD, List.getElem?_eq_getElem (by omega : i < ss.length), Option.getD_some, h2, str]
theorem ay2 {W : World} (h : laidMetH Tryz.prog a2c W) (_ : W.ShapedOpen Tryz.prog) : Tab W := by
 have h1 : laidMet Tryz.prog a2c W := h
 have h2 := h1.tail.tail.tail
 have h3 := h2.tail
 have h4 := h3.tail
 exact ⟨aU0 h4, a8x h3 ap9 aq0, a8x h2 ap7 ap8⟩

noncomputable def a5W (os : Os) : World := World.laidAll Tryz.prog os a2c
theorem ay1 (os : Os) (args : Array Value) : laidMet Tryz.prog a2c ((a5W os).forCall (fun _ _ => 0) ⟨#[], args, []⟩).memory :=
 laidMet_laidAll args (by kernel_rfl) (by kernel_rfl)

open Go.ChangeShapes Go.WideShapes Go.ChangeAt Go.RowKit
theorem aX0 : (Tryz.prog.globals[4]?).map (·.type) = some 210 := by kernel_rfl
theorem aW8 : Tryz.prog.cellsOf 210 = 20 := by kernel_rfl
theorem aW7 : Tryz.prog.cellsOf 159 = 1 := by kernel_rfl
theorem aW9 : (Rows.laid_internal_strconv_uint64pow10 : DataW Unit) = Lib.tabData .u64 Lib.pow10Tab := by kernel_rfl
def a67 : DataW Unit → List Int
 | .agg ds => ds.map fun | .lit (.int _ z) => z | _ => 0
 | _ => []
theorem a8G : Tryz.prog.globalNamed "math/bits.deBruijn64tab" = some 6 := by kernel_rfl
theorem ay8 : (Tryz.prog.globals[6]?).map (·.type) = some 221 := by kernel_rfl
theorem ay6 : Tryz.prog.cellsOf 221 = 64 := by kernel_rfl
theorem ay5 : Tryz.prog.cellsOf 5 = 1 := by kernel_rfl
theorem ay7 : (Rows.laid_math_bits_deBruijn64tab : DataW Unit) = Lib.tabData .u8 (a67 Rows.laid_math_bits_deBruijn64tab) := by kernel_rfl
theorem a8F : (a67 Rows.laid_math_bits_deBruijn64tab).getD 15 0 = 4 ∧ 15 < (a67 Rows.laid_math_bits_deBruijn64tab).length := by decide +kernel
theorem ay3 {W : World} (h : laidMetH Tryz.prog a2c W) (hsh : W.ShapedOpen Tryz.prog) : j2 W := by
 have h1 : laidMet Tryz.prog a2c W := h
 refine ⟨?_, ?_, ?_⟩
 ·have h2 := h1.tail.tail
  rw [aW9] at h2
  exact Lib.tabIs_of_head ab3 aX0 Tryz.underlying210 Tryz.underlying159 aW7 aW8 h2
 ·have h2 := h1.tail
  rw [ay7] at h2
  have h3 := Lib.tabIs_of_head a8G ay8 Tryz.underlying221 Tryz.underlying5 ay5 ay6 h2
  have h4 := h3.cell a8G 15 a8F.2
  rw [a8F.1] at h4
  exact h4
 ·exact cell_of_shapedOpen_int (zero := #[.int .i64 0]) (t := 3) hsh (of_decide_eq_true (by kernel_rfl)) (by kernel_rfl) rfl (by kernel_rfl) (by kernel_rfl) Tryz.underlying3
theorem ay4 {W : World} (h : laidMetH Tryz.prog a2c W) (hsh : W.ShapedOpen Tryz.prog) : a04 W := ⟨ay2 h hsh, ay3 h hsh⟩

end Go.Proofs.YtklipelnjgpnjaaGreatDoor
